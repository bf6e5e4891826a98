import PyProof.Rows.All
import Wide.All
import OpenK.AllK
import Wide.FinOn
import PyProof.EqAt
import PyProof.EqKinds
import PyProof.TupleCall
import PyProof.NeKinds
import PyProof.Rows.BitMore
import PyProof.FitsBits
import PyProof.Rows.TupAssign
import PyProof.ListRange
import PyProof.Rows.ZipGen
import PyProof.StationsW
import PyProof.ExcInit
import PyProof.ExcClass2
import PyProof.RulesTry
import PyProof.ExcBaseAll.ValueError
import PyProof.InstStoreFacts
import PyProof.RulesAs
import PyProof.RulesDel
import PyProof.ExcArgs
import KE.KUnpack
import PyProof.Draws
import PyProof.EnumMake
import KE.KMinBuiltin
import PyProof.StrLawsIn
import Lean
import PySem.Challenge.RW_slowroad_k67_rooms_and_reading
set_option maxRecDepth 100000
set_option maxHeartbeats 4000000
set_option Elab.async false
set_option linter.all false
set_option compiler.extract_closed false
local macro_rules | `(tactic| walk_at "q") => `(tactic| first|exact .inl rfl|exact .inr rfl|exact .inr (.inl rfl)|exact .inr (.inr rfl)|assumption)
namespace L2
open PySem PySem.Spec PyProof.Rows
noncomputable abbrev Key:=Sum Int Str
noncomputable def Fd:Key->Value->Bool
 | .inl k,v=>Value.isInt k v
 | .inr x,v=>Value.isStrOf x v
noncomputable def akw (w:World):Key->Int
 | .inl k=>hashInt k
 | .inr x=>hashStr w x
theorem dg:∀{k:Key} {v:Value},Fd k v=true->(∃i t,k=Sum.inl i/\v=Value.int i t)\/(∃x t,k=Sum.inr x/\v=Value.str x t)
 | .inl i,v,h=>by
  obtain⟨t,e⟩:=Value.isInt_shape h;exact .inl ⟨i,t,rfl,e⟩
 | .inr x,v,h=>by
  obtain⟨t,e⟩:=Value.isStrOf_shape h;exact .inr ⟨x,t,rfl,e⟩
theorem Mu (i:Int) (t:Tok):Fd (.inl i) (.int i t)=true:=by simp[Fd,Value.isInt]
theorem Mt (x:Str) (t:Tok):Fd (.inr x) (.str x t)=true:=by simp[Fd,Value.isStrOf]
theorem V2 (a b:Int):decide ((Sum.inl a:Key)=Sum.inl b)=(a == b):=by
 lia
theorem VZ (a b:Str):decide ((Sum.inr a:Key)=Sum.inr b)=decide (a=b):=by
 simp_all
theorem V1 (a:Int) (b:Str):decide ((Sum.inl a:Key)=Sum.inr b)=false:=decide_eq_false (fun q=>nomatch q)
theorem V0 (a:Str) (b:Int):decide ((Sum.inr a:Key)=Sum.inl b)=false:=decide_eq_false (fun q=>nomatch q)
noncomputable def fJ (prog:Program) (w:World):PySem.KeyKind prog w Key where
 is:=Fd
 hash:=akw w
 inj:=fun v a b ha f=>by
  rcases dg ha with⟨i,t,rfl,rfl⟩|⟨x,t,rfl,rfl⟩
  ·rcases dg f with⟨j,u,rfl,e⟩|⟨y,u,rfl,e⟩
   ·injection e with e1 _;rw[e1]
   ·exact nomatch e
  ·rcases dg f with⟨j,u,rfl,e⟩|⟨y,u,rfl,e⟩
   ·exact nomatch e
   ·injection e with e1 _;rw[e1]
 byValue:=fun k v h=>by
  rcases dg h with⟨i,t,rfl,rfl⟩|⟨x,t,rfl,rfl⟩<;>rfl
 pyHash:=fun d h=>by
  rcases dg d with⟨i,t,rfl,rfl⟩|⟨x,t,rfl,rfl⟩
  ·exact wpAny_pyHash_int h
  ·exact wpAny_pyHash_str h
 eqBool:=fun m d h=>by
  rcases dg m with⟨i,t,rfl,rfl⟩|⟨x,t,rfl,rfl⟩
  ·rcases dg d with⟨j,u,rfl,rfl⟩|⟨y,u,rfl,rfl⟩
   ·rw[V2] at h;exact wpAny_eqBool_int h
   ·rw[V1] at h;exact SeqAt.EqAt.int_str i t y u _ _ _ _ h
  ·rcases dg d with⟨j,u,rfl,rfl⟩|⟨y,u,rfl,rfl⟩
   ·rw[V0] at h;exact SeqAt.EqAt.str_int x t j u _ _ _ _ h
   ·rw[VZ] at h;exact wpAny_eqBool_str h
 «strs» :=fun k x t v h=>by
  rcases dg h with⟨i,u,rfl,e⟩|⟨y,u,rfl,e⟩
  ·exact nomatch e
  ·injection e with e1 _;subst e1;cases v<;>rfl
theorem HP (prog:Program) (w:World) (i:Int) (t:Tok):(fJ prog w).is (.inl i) (.int i t)=true:=Mu i t
theorem HN (prog:Program) (w:World) (x:Str) (t:Tok):(fJ prog w).is (.inr x) (.str x t)=true:=Mt x t
inductive V where
 |non|bl (b:Bool)|int (i:Int)|str (x:Str)|byt (b:Array UInt8)|flt (b:UInt64)|ref (a:Addr)|ty (n:String)
 deriving DecidableEq
def RelV:V->Value->Prop
 | .non,u=>u=Value.none
 | .bl b,u=>u=Value.bool b
 | .int i,u=> ∃t,u=Value.int i t
 | .str x,u=> ∃t,u=Value.str x t
 | .byt b,u=> ∃t,u=Value.bytes b t
 | .flt b,u=> ∃t,u=Value.float b t
 | .ref a,u=>u=Value.ref a
 | .ty n,u=>u=Value.type n
abbrev Vals:List V->List Value->Prop:=Paired RelV
theorem Vals.length (r:Vals xs us):xs.length=us.length:=Paired.length r
theorem Vals.get:∀{xs:List V} {us:List Value} {i:Nat} {x:V},Vals xs us->xs[i]?=some x->∃u,us[i]?=some u/\RelV x u
 |_,_,_,_,.nil,e=>by trivial
 |_,_,0,_,.cons r _,e=>by simp_all
 |_,_,i+1,x,.cons _ t,e=>by
  obtain⟨u,h1,d⟩:=Vals.get t (‹_›);exact⟨u,‹_›,d⟩
theorem Vals.set (r:RelV x u):∀{xs:List V} {us:List Value} (i:Nat),Vals xs us->Vals (xs.set i x) (us.set i u)
 |_,_,_,.nil=> .nil
 |_,_,0,.cons _ t=> .cons r t
 |_,_,i+1,.cons q t=> .cons q (Vals.set r i t)
theorem Vals.append:∀{xs d:List V} {us ws:List Value},Vals xs us->Vals d ws->Vals (xs++d) (us++ws)
 |_,_,_,_,.nil,s=>s
 |_,_,_,_,.cons r t,s=> .cons r (Vals.append t s)
theorem Vals.take:∀{xs:List V} {us:List Value} (n:Nat),Vals xs us->Vals (xs.take n) (us.take n)
 |_,_,0,_=> .nil
 |_,_,_+1,.nil=> .nil
 |_,_,n+1,.cons r t=> .cons r (Vals.take n t)
theorem Vals.drop:∀{xs:List V} {us:List Value} (n:Nat),Vals xs us->Vals (xs.drop n) (us.drop n)
 |_,_,0,r=>r
 |_,_,_+1,.nil=> .nil
 |_,_,n+1,.cons _ t=>Vals.drop n t
def sM:Option V->Option Value->Prop
 |some v,some u=>RelV v u
 |none,none=>True
 |_,_=>False
def KV {d:Type}:List (d×V)->List (d×Value)->Prop:=Paired fun(p:d×V) (q:d×Value)=>p.1=q.1/\RelV p.2 q.2
noncomputable def kV:Key->V
 | .inl i=> .int i
 | .inr x=> .str x
inductive HO where

 |lst (xs:List V)

 |tup (xs:List V)

 |dK (kvs:List (Key×V))|dT (kvs:List (List Key×V))

 |set (S:Int->Bool) (n:Nat)

 |ins (C dx:Addr) (fs:List (Str×V))

 |own (x:Addr)

 |xd (fs:List (Str×V))

 |met (f x:Addr)

 |rng (lo hi:Int)

 |frz (o:Obj) (u:HO)

 |tbl (ps:Array Value)

 |ext (φ:Heap->Prop)
noncomputable abbrev Hp:=Addr->Option HO
noncomputable def upd (H:Hp) (a:Addr) (o:HO):Hp:=fun b=>if b=a then some o else H b
theorem ar:upd H a o a=some o:=by unfold upd;rw[if_pos rfl]
theorem ak (h:b≠a):upd H a o b=H b:=by unfold upd;rw[if_neg h]
theorem QC:upd (upd H a o) a u=upd H a u:=by
 funext b;unfold upd;split<;>rfl
theorem bS {H:Hp} (h:H a=some o) (f:H b=some u) (d:o≠u):a≠b:=by
 lia
theorem aG {H:Hp} (h:H a=some o) (d:H b=none):a≠b:=by
 lia
section
variable (P:Program) (w:World)
def dG (H:Hp) (h:Heap) (a:Addr):HO->Prop
 | .lst xs=>xs.length<=sizeLine/\∃(d:List Value) (n:Nat),Vals xs d/\h.get? a=some {cls:= .type "list",data:= .seq d.toArray n}
 | .tup xs=>xs.length<=sizeLine/\∃d:List Value,Vals xs d/\IsTup h a d.toArray
 | .dK i=>i.length<=sizeLine/\(a == sysModules)=false/\∃vs,KV i vs/\h.DictOf (fJ P w) a vs
 |
   .dT i=>i.length<=sizeLine/\(a == sysModules)=false/\∃xs:List (List Key×Addr×Value),
   Paired (fun(p:List Key×V) (q:List Key×Addr×Value)=>p.1=q.1/\H q.2.1=some (.tup (p.1.map kV))/\RelV p.2 q.2.2) i xs/\
   ∃o es E,h.get? a=some o/\o.ExactDict/\o.data = .dict es E/\es.toList=xs.map (entryOfKey (tupleKind (fJ P w)))/\(xs.map (·.1)).Nodup
 | .set S n=>h.SetOf (intKind P w) a S n
 |
   .ins C dx fs=>H dx=some (.own a)/\fs.length<=1000/\dx≠a/\h.get? a=some (W.instObj C dx)/\
   ∃j,h.Ns1 dx j/\(∀f,sM (fs.lookup f) (j f))/\PySem.Within j (fs.map (·.1))
 | .own _=> ∃o,h.get? a=some o
 | .xd fs=> ∃j,h.Ns1 a j/\∀f,sM (fs.lookup f) (j f)
 | .rng lo hi=> ∃t u v,h.get? a=some {cls:= .type "range",data:= .fields #[.int lo t,.int hi u,.int 1 v]}
 | .frz o u=>h.get? a=some o/\dG H h a u
 | .tbl z=>h.get? a=some {cls:= .none,data:= .fields z}
 | .met f x=>h.get? a=some (W.methodObj (.ref f) (.ref x))
 | .ext m=>m h/\(∃o,h.get? a=some o)/\∀h1 y:Heap,m h1->(∀o,h1.get? a=some o->y.get? a=some o)->m y
def xN (H:Hp) (h:Heap):Prop:= ∀a o,H a=some o->dG P w H h a o
end
section
theorem dG.lt (x:dG P w H h a o):a<h.objs.size:=by
 cases o with
 |lst xs=>obtain⟨_,_,_,_,e⟩:=x;exact Heap.lt_size e
 |tup xs=>obtain⟨_,_,_,p⟩:=x;exact p.lt
 |dK d=>obtain⟨_,_,_,_,o,_,_,e,_⟩:=x;exact Heap.lt_size e
 |dT d=>obtain⟨_,_,_,_,o,_,_,e,_⟩:=x;exact Heap.lt_size e
 |set S n=>obtain⟨o,_,_,_,e,_⟩:=x;exact Heap.lt_size e
 |ins C dx fs=>obtain⟨_,_,_,e,_⟩:=x;exact Heap.lt_size e
 |own y=>obtain⟨_,e⟩:=x;exact Heap.lt_size e
 |xd fs=>obtain⟨_,⟨_,_,_,e,_⟩,_⟩:=x;exact Heap.lt_size e
 |rng lo hi=>obtain⟨_,_,_,e⟩:=x;exact Heap.lt_size e
 |frz ob u=>obtain⟨e,_⟩:=x;exact Heap.lt_size e
 |tbl i=>exact Heap.lt_size ((x))
 |met f y=>exact Heap.lt_size ((x))
 |ext j=>obtain⟨_,⟨_,e⟩,_⟩:=x;exact Heap.lt_size e
theorem Paired.VO:∀{i:List α} {d:List β},Paired F i d->(∀a b,F a b->G a b)->Paired G i d
 |_,_,.nil,_=> .nil
 |_,_,.cons r t,f=> .cons (f _ _ r) (Paired.VO t f)
theorem dG.stay (x:dG P w H h a o) (k:∀b u,(b=a\/H b=some (.own a))->h.get? b=some u->h'.get? b=some u) (F:∀b,H b=some (.own a)->H' b=some (.own a)) (ht:∀b xs,H b=some (.tup xs)->H' b=some (.tup xs)):dG P w H' h' a o:=by
 induction o with
 |lst xs=>obtain⟨z,j,n,r,e⟩:=x;exact⟨z,j,n,r,k _ _ (.inl rfl) e⟩
 |tup xs=>obtain⟨z,j,r,ob,e,c⟩:=x;exact⟨z,j,r,ob,k _ _ (.inl rfl) e,c⟩
 |dK E=>obtain⟨z,y,vs,r,ob,es,i,e,c⟩:=x;exact⟨z,y,vs,r,ob,es,i,k _ _ (.inl rfl) e,c⟩
 |dT E=>
  obtain⟨z,y,xs,r,ob,es,i,e,c⟩:=x;exact⟨z,y,xs,Paired.VO r fun p q z=>⟨z.1,ht _ _ z.2.1,z.2.2⟩,ob,es,i,k _ _ (.inl rfl) e,c⟩
 |set S n=>obtain⟨ob,es,i,t,e,c⟩:=x;exact⟨ob,es,i,t,k _ _ (.inl rfl) e,c⟩
 |ins C dx fs=>
  obtain⟨d,z,ne,e,m,⟨od,es,i,I,c⟩,r⟩:=x;exact⟨F _ d,z,ne,k _ _ (.inl rfl) e,m,⟨od,es,i,k _ _ (.inr d) I,c⟩,r⟩
 |own y=>obtain⟨ob,e⟩:=x;exact⟨ob,k _ _ (.inl rfl) e⟩
 |xd fs=>obtain⟨m,⟨od,es,i,e,c⟩,r⟩:=x;exact⟨m,⟨od,es,i,k _ _ (.inl rfl) e,c⟩,r⟩
 |rng lo hi=>obtain⟨t,u,v,e⟩:=x;exact⟨t,u,v,k _ _ (.inl rfl) e⟩
 |frz ob u G=>obtain⟨e,q⟩:=x;exact⟨k _ _ (.inl rfl) e,G q⟩
 |tbl J=>
  have e:=x;exact k a _ (.inl rfl) e
 |met f y=>
  have e:=x;exact k a _ (.inl rfl) e
 |ext O=>obtain⟨p,⟨o,e⟩,st⟩:=x;exact⟨st _ _ p fun o q=>k _ _ (.inl rfl) q,⟨o,k _ _ (.inl rfl) e⟩,st⟩
theorem xN.lt (x:xN P w H h) (e:H a=some o):a<h.objs.size:=(x a o e).lt
theorem xN.fresh (x:xN P w H h) (e:h.objs.size<=a):H a=none:=by
 cases q:H a with
 |none=>rfl
 |some u=>exact absurd (Nat.lt_of_lt_of_le (x.lt q) e) (Nat.lt_irrefl _)
theorem xN.kept (x:xN P w H h) (k:∀b u,h.get? b=some u->h'.get? b=some u):xN P w H h':=fun a o e=>
 (x a o e).stay (fun b u _ q=>k b u q) (fun _ q=>q) fun _ _ q=>q
theorem xN.laid (x:xN P w H h) (k:∀b u,h.get? b=some u->h'.get? b=some u) (hp:h.objs.size<=a) (new:dG P w (upd H a o) h' a o):xN P w (upd H a o) h':=fun b u e=>by
 have hn:=x.fresh hp;by_cases d:b=a
 ·subst d;rw[ar] at e;cases e;exact new
 ·rw[ak d] at e;exact(x b u e).stay (fun c v _ q=>k c v q) (fun c q=>by rw[ak (aG q hn)];exact q) fun c xs q=>by rw[ak (aG q hn)];exact q
end
def Rd (H:Hp) (a:Addr) (u:HO):Prop:=H a=some u\/∃o,H a=some (.frz o u)
theorem Rd.ok (r:Rd H a u) (x:xN P w H h):dG P w H h a u:=by
 rcases r with r|⟨o,r⟩
 ·exact x a u r
 ·obtain⟨_,q⟩:=x a _ r;exact q
def Mut:Option HO->Prop
 |some (.lst _)=>True
 |some (.dK _)=>True
 |some (.dT _)=>True
 |some (.set _ _)=>True
 |some (.ins _ _ _)=>True
 |some (.ext _)=>True
 |_=>False
section
theorem xN.write (ok:xN P w H h) (i:Mut (H x)) (he:e=x\/H e=some (.own x)) (k:∀b u,b≠e->h.get? b=some u->h'.get? b=some u) (j:∃u,h'.get? e=some u) (new:dG P w (upd H x o') h' x o'):xN P w (upd H x o') h':=fun b u q=>by
 have d:∀c y,H c=some (.own y)->c≠x:=fun c y r z=>by subst z;rw[r] at i;exact i
 have f:∀c xs,H c=some (.tup xs)->c≠x:=fun c xs r z=>by subst z;rw[r] at i;exact i
 by_cases C:b=x
 ·subst C;rw[ar] at q;cases q;exact new
 ·rw[ak C] at q;by_cases E:b=e
  ·have m:H b=some (.own x):=by
    simp_all
   rw[q] at m;cases m;obtain⟨v,F⟩:=j;exact⟨v,by simp_all⟩
  ·refine(ok b u q).stay (fun c v hc r=>k c v ?_ r) (fun c r=>by rw[ak (d c b r)];exact r) fun c xs r=>by rw[ak (f c xs r)];exact r
   rcases hc with rfl|hc
   ·trivial
   ·grind
end
structure Un (fs ex:List Addr) (H H':Hp) (h h':Heap):Prop where
 keep:∀b o,h.get? b=some o->H b=none->b ∉ fs->b ∉ ex->h'.get? b=some o
 slot:∀b o,h.get? b=some o->H b=none->b∈fs->b ∉ ex->∃sl,h'.get? b=some {o with slots:=sl}
 free:∀b o,h.get? b=some o->H b=none->b ∉ ex->H' b=none
 there:∀b o,h.get? b=some o->b ∉ ex->∃o',h'.get? b=some o'
 tups:∀b xs,H b=some (.tup xs)->H' b=some (.tup xs)
 frzs:∀b o u,H b=some (.frz o u)->H' b=some (.frz o u)
 tbls:∀b ps,H b=some (.tbl ps)->∃more,H' b=some (.tbl (ps++more))
section
theorem Un.any (u:Un fs ex H H1 h h1) (q:h.get? b=some ob) (n:H b=none) (hx:b ∉ ex):∃f,h1.get? b=some {ob with slots:=f}:=by
 by_cases d:b∈fs
 ·exact u.slot b ob q n d hx
 ·exact⟨_,u.keep b ob q n d hx⟩
theorem Un.kept (k:∀b u,h.get? b=some u->h'.get? b=some u):Un fs ex H H h h':=
 ⟨fun b ob q _ _ _=>k b ob q,fun b ob q _ _ _=>⟨_,k b ob q⟩,fun _ _ _ n _=>n,fun b ob q _=>⟨ob,k b ob q⟩,fun _ _ q=>q,fun _ _ _ q=>q,fun _ d q=>⟨#[],‹_›⟩⟩
theorem Un.refl:Un fs ex H H h h:=Un.kept fun _ _ q=>q
theorem Un.laid (k:∀b u,h.get? b=some u->h'.get? b=some u) (hp:h.objs.size<=a) (hn:H a=none):Un fs ex H (upd H a o) h h' where
 keep:=fun b u q _ _ _=>k b u q
 slot:=fun b u q _ _ _=>⟨_,k b u q⟩
 free:=fun b u q n _=>by rw[ak (Nat.ne_of_lt (Nat.lt_of_lt_of_le (Heap.lt_size q) hp))];exact n
 there:=fun b u q _=>⟨u,k b u q⟩
 tups:=fun b xs q=>by rw[ak (aG q hn)];exact q
 frzs:=fun b u xs q=>by rw[ak (aG q hn)];exact q
 tbls:=fun b d q=>⟨#[],by rw[ak (aG q hn),q];simp⟩
theorem Un.write (i:Mut (H x)) (he:e=x\/H e=some (.own x)) (k:∀b u,b≠e->h.get? b=some u->h'.get? b=some u) (j:∃u,h'.get? e=some u):Un fs ex H (upd H x o) h h':=by
 have hx:∀b,H b=none->b≠x:=fun b n z=>by subst z;rw[n] at i;exact i
 have f:∀b,H b=none->b≠e:=fun b n z=>by
  simp_all
 have hm:∀b u,H b=some u->¬Mut (some u)->b≠x:=fun b u q nm z=>by simp_all
 refine⟨fun b u q n _ _=>k b u (f b n) q,fun b u q n _ _=>⟨_,k b u (f b n) q⟩,fun b u q n _=>by rw[ak (hx b n)];exact n,fun b u q _=>?_,
  fun b xs q=>by rw[ak (hm b _ q fun z=>z)];exact q,fun b u xs q=>by rw[ak (hm b _ q fun z=>z)];exact q,fun b m q=>⟨#[],by rw[ak (hm b _ q fun z=>z),q];simp⟩⟩
 by_cases d:b=e
 ·simp_all
 ·exact⟨u,k b u d q⟩
end
noncomputable def trk (h:Heap) (H:Hp):List Addr:=(List.range h.objs.size).filter fun a=>(H a).isSome
noncomputable def ME (h:Heap) (H:Hp):Heap:=W.hideAll h (trk h H)
theorem MD (h:Heap) (H:Hp):(ME h H).objs.size=h.objs.size:=W.hideAll_size _ _
theorem Pp (e:h.get? b=some o) (n:H b=none):(ME h H).get? b=some o:=
 W.hideAll_get _ e fun hm=>by
  have q:=(List.mem_filter.mp hm).2;rw[n] at q;simp at q
theorem RJ (e:(ME h H).get? b=some o):h.get? b=some o/\H b=none:=by
 have d:=W.of_hideAll _ e;refine⟨d,?_⟩;cases q:H b with
 |none=>rfl
 |some x=>
  have hm:b∈trk h H:=List.mem_filter.mpr ⟨List.mem_range.mpr (Heap.lt_size d),by simp[q]⟩;have z:(ME h H).get? b=none:=W.hideAll_none _ hm;rw[z] at e;cases e
structure Mod (K:W.Frag) (mg:Str->Option Value) (base:Heap):Prop where
 kin:K.In base
 glob:base.Ns mainGlobals mg
 blt:∃mb,base.Ns builtinsNs mb/\∀x:Str,x≠ "__name__" ->mb x=bootBuiltins x
 nolimit:base.NoLimit
structure Cx where
 prog:Program
 w:World
 K:W.Frag
 mg:Str->Option Value
 base:Heap
 A:Around
 N:List Str
 s₀:Shared
 H₀:Hp
 env:Env
 outer:List Env
 stack:List Env
 ex:List Addr
 fn:Str->Bool
 calm:Bool
 pn:List (Addr×Obj)
 xe:Value->Shared->Prop
noncomputable def frs (l:List Env):List Addr:=l.filterMap (·.frame)
noncomputable abbrev Cx.fs (X:Cx):List Addr:=frs X.outer
def Vis (sc:Scope) (x:Str):Prop:=sc.names.lookup x=some .local\/sc.names.lookup x=some .cell\/sc.names.lookup x=some .free
def Loc (sc:Scope) (x:Str):Prop:=sc.names.lookup x=some .local\/sc.names.lookup x=some .cell
def Look (env:Env) (h:Heap) (m:Str->Option Value) (x:Str) (u:Value):Prop:=
 (env.kindOf x=some .local/\m x=some u)\/((env.kindOf x=some .cell\/env.kindOf x=some .free)/\∃c,env.cells.lookup x=some c/\h.IsCell c (some u))
structure Cx.Ok (X:Cx):Prop where
 mod:Mod X.K X.mg X.base
 kind:X.env.scope.kind = .function
 glob:X.env.globals=mainGlobals
 blt:X.env.builtins=builtinsNs
 above:X.s₀.heap.objs.size<=X.env.locals
 inj:∀x y c,X.env.cells.lookup x=some c->X.env.cells.lookup y=some c->x=y
 has:∀x,(X.env.kindOf x=some .cell\/X.env.kindOf x=some .free)->∃c,X.env.cells.lookup x=some c
 cab:∀x c,X.fn x=true->X.env.cells.lookup x=some c->X.s₀.heap.objs.size<=c
 hd:X.calm=true->X.A.handled=none
 frames:X.A.frames=some X.stack
 stk:X.stack=X.outer\/(X.stack=X.env::X.outer/\X.env.frame=some X.env.locals)
 exf:∀b∈X.ex,b≠X.env.locals/\∀x c,X.env.cells.lookup x=some c->c≠b
 bs:∀b o,X.base.get? b=some o->X.s₀.heap.get? b=some o/\X.H₀ b=none
 bsz:X.base.objs.size<=X.s₀.heap.objs.size
 noex:∀b o,X.base.get? b=some o->b ∉ X.ex
 exfs:∀b∈X.ex,b ∉ X.fs
 funs:X.s₀.heap.FunFrames X.base X.outer
 frf:∀b∈X.fs,X.H₀ b=none
structure Inv (X:Cx) (pins:List (Addr×Obj)) (σ:List (Option V)) (H:Hp) (s:Shared):Prop where
 ok:X.Ok
 os:s.os=X.s₀.os
 bare:AllBare s.gens
 base:Un X.fs X.ex X.H₀ H X.s₀.heap s.heap
 loc:∃m,s.heap.Ns X.env.locals m/\∀(i:Nat) (x:Str) (v:V),X.N[i]?=some x->σ[i]?=some (some v)->Vis X.env.scope x->∃u,RelV v u/\Look X.env s.heap m x u
 cell:∀x c,X.env.cells.lookup x=some c->∃v,s.heap.IsCell c v
 free:H X.env.locals=none
 oh:∀x c,X.env.cells.lookup x=some c->H c=none
 pin:∀p∈X.pn++pins,s.heap.get? p.1=some p.2/\H p.1=none/\p.1≠X.env.locals/\p.1 ∉ X.fs/\∀v,p.2.data≠ .cell v
 hok:xN X.prog X.w H s.heap
 len:σ.length=X.N.length
section
theorem Cx.Ok.nofr {X:Cx} (ok:X.Ok) (e:X.base.get? b=some o):b ∉ X.fs:=fun d=>by
 have:=(ok.funs.mem d).1;rw[e] at this;cases this
theorem Inv.bs (I:Inv X pins σ H s):∀b o,X.base.get? b=some o->s.heap.get? b=some o/\H b=none:=fun b o e=>
 ⟨I.base.keep b o (I.ok.bs b o e).1 (I.ok.bs b o e).2 (I.ok.nofr e) (I.ok.noex b o e),I.base.free b o (I.ok.bs b o e).1 (I.ok.bs b o e).2 (I.ok.noex b o e)⟩
theorem Inv.bk (I:Inv X pins σ H s):∀b o,X.base.get? b=some o->s.heap.get? b=some o:=fun b o e=>(I.bs b o e).1
theorem Inv.mod (I:Inv X pins σ H s):Mod X.K X.mg X.base:=I.ok.mod
theorem Inv.nL (I:Inv X pins σ H s):X.K.In s.heap:=I.ok.mod.kin.keeps I.bk
theorem Inv.lt (I:Inv X pins σ H s):X.env.locals<s.heap.objs.size:=let ⟨_,hn,_⟩:=I.loc;hn.lt
theorem Inv.sz (I:Inv X pins σ H s):X.s₀.heap.objs.size<=s.heap.objs.size:=Nat.le_trans I.ok.above (Nat.le_of_lt I.lt)
theorem Inv.nofs (I:Inv X pins σ H s) (h:s.heap.objs.size<=a):a ∉ X.fs:=fun d=>by
 obtain⟨_,o,f,_⟩:=I.ok.funs.mem d;exact absurd (Nat.lt_of_lt_of_le (Heap.lt_size f) (Nat.le_trans I.sz h)) (Nat.lt_irrefl _)
theorem Inv.cne (I:Inv X pins σ H s):∀x c,X.env.cells.lookup x=some c->c≠X.env.locals:=fun x c e z=>by
 obtain⟨v,o,i,hd⟩:=I.cell x c e;obtain⟨m,⟨u,es,j,d,f,_⟩,_⟩:=I.loc;rw[z,d] at i;cases i;rw[f] at hd;cases hd
theorem Inv.funs (I:Inv X pins σ H s):s.heap.FunFrames X.base X.outer:=by
 have all:∀l,(∀b∈frs l,b∈X.fs)->X.s₀.heap.FunFrames X.base l->s.heap.FunFrames X.base l:=by
  intro l
  induction l with
  |nil=>intro _ _;trivial
  |cons env r m=>
   intro hs hl;obtain⟨hk,⟨L,o,hf,hn,j,hd⟩,i⟩:=hl;have d:=hs L (by unfold frs;rw[List.filterMap_cons,hf];exact List.mem_cons_self);obtain⟨u,e⟩:=I.base.slot L o j (I.ok.frf L d) d fun z=>I.ok.exfs L z d;exact⟨hk,⟨L,_,hf,hn,e,hd⟩,m (fun b f=>hs b (by unfold frs;rw[List.filterMap_cons,hf];exact List.mem_cons_of_mem _ f)) i⟩
 exact all _ (fun _ f=>f) I.ok.funs
theorem Inv.stack (I:Inv X pins σ H s):s.heap.FunFrames X.base X.stack:=by
 rcases I.ok.stk with e|⟨e,hf⟩
 ·rw[e];exact I.funs
 ·rw[e];obtain⟨m,hn,_⟩:=I.loc;refine .cons (by rw[I.ok.kind];decide) hf hn ?_ I.funs;exact Heap.get?_none_of_le (Nat.le_trans I.ok.bsz I.ok.above)
theorem Inv.CF (I:Inv X pins σ H s):∀b∈frs X.stack,b∈X.env.locals::X.fs:=fun b d=>by
 rcases I.ok.stk with e|⟨e,hf⟩
 ·simp_all
 ·rw[e] at d;unfold frs at d;rw[List.filterMap_cons,hf] at d;exact d
theorem Inv.Ck (I:Inv X pins σ H s):∀b∈frs X.stack,H b=none:=fun b d=>by
 rcases List.mem_cons.mp (I.CF b d) with e|d
 ·rw[e];exact I.free
 ·obtain⟨_,o,f,_⟩:=I.ok.funs.mem d;exact I.base.free b o f (I.ok.frf b d) fun z=>I.ok.exfs b z d
theorem Inv.step {ch:List Addr} (I:Inv X pins σ H s) (f:∀b∈ch,(b∈X.ex\/X.s₀.heap.objs.size<=b)/\b≠X.env.locals/\(∀x c,X.env.cells.lookup x=some c->c≠b)/\∀p∈X.pn++pins,p.1≠b) (keep:∀b o,b≠X.env.locals->b ∉ X.fs->b ∉ ch->s.heap.get? b=some o->H b=none->E.get? b=some o) (slot:∀b o,b≠X.env.locals->b∈X.fs->b ∉ ch->s.heap.get? b=some o->H b=none->∃Y,E.get? b=some {o with slots:=Y}) (free:∀b o,b ∉ ch->s.heap.get? b=some o->H b=none->H' b=none) (there:∀b o,b ∉ ch->s.heap.get? b=some o->∃J,E.get? b=some J) (tups:∀b xs,H b=some (.tup xs)->H' b=some (.tup xs)) (frzs:∀b o u,H b=some (.frz o u)->H' b=some (.frz o u)) (tbls:∀b O,H b=some (.tbl O)->∃more,H' b=some (.tbl (O++more))) (ns:∀m,s.heap.Ns X.env.locals m->E.Ns X.env.locals m) (hok:xN X.prog X.w H' E) (hg:AllBare g'):
  Inv X pins σ H' {s with heap:=E,gens:=g',drawn:=d',toks:=t'}:=by
 have G:∀b o,X.s₀.heap.get? b=some o->b≠X.env.locals:=fun b o e=>Nat.ne_of_lt (Nat.lt_of_lt_of_le (Heap.lt_size e) I.ok.above);have y:∀b o,X.s₀.heap.get? b=some o->b ∉ X.ex->b ∉ ch:=fun b o e hx C=>by
  rcases(f b C).1 with z|z
  ·trivial
  ·exact absurd (Nat.lt_of_lt_of_le (Heap.lt_size e) z) (Nat.lt_irrefl _)
 have cellK:∀x c,X.env.cells.lookup x=some c->∀v,s.heap.IsCell c v->E.IsCell c v:=fun x c e v ⟨o,F,hd⟩=>by
  have j:=fun z=>(f c z).2.2.1 x c e rfl;by_cases hc:c∈X.fs
  ·obtain⟨Y,q⟩:=slot c o (I.cne x c e) hc j F (I.oh x c e);exact⟨_,q,hd⟩
  ·exact⟨o,keep c o (I.cne x c e) hc j F (I.oh x c e),hd⟩
 refine⟨I.ok,I.os,hg,⟨fun b o e n C hx=>?_,fun b o e n C hx=>?_,fun b o e n hx=>?_,fun b o e hx=>?_,fun b xs e=>tups b xs (I.base.tups b xs e),fun b o xs e=>frzs b o xs (I.base.frzs b o xs e),fun b O e=>?_⟩,?_,fun x c e=>?_,?_,fun x c e=>?_,fun p hp=>?_,hok,I.len⟩
 ·exact keep b o (G b o e) C (y b o e hx) (I.base.keep b o e n C hx) (I.base.free b o e n hx)
 ·obtain⟨Y,e1⟩:=I.base.slot b o e n C hx;obtain⟨U,P⟩:=slot b _ (G b o e) C (y b o e hx) e1 (I.base.free b o e n hx);exact⟨U,P⟩
 ·obtain⟨J,e1⟩:=I.base.there b o e hx;exact free b J (y b o e hx) e1 (I.base.free b o e n hx)
 ·obtain⟨J,e1⟩:=I.base.there b o e hx;exact there b J (y b o e hx) e1
 ·obtain⟨m1,e1⟩:=I.base.tbls b O e;obtain⟨m2,P⟩:=tbls b _ e1;exact⟨m1++m2,by simp_all⟩
 ·obtain⟨m,hn,hl⟩:=I.loc;refine⟨m,ns m hn,fun i x v e1 P e3=>?_⟩;obtain⟨u,r,l⟩:=hl i x v e1 P e3;refine⟨u,r,?_⟩;rcases l with l|⟨k,c,e,z⟩
  ·exact .inl l
  ·exact .inr ⟨k,c,e,cellK x c e _ z⟩
 ·obtain⟨v,z⟩:=I.cell x c e;exact⟨v,cellK x c e v z⟩
 ·obtain⟨m,⟨o,_,_,F,_⟩,_⟩:=I.loc;exact free _ o (fun z=>(f _ z).2.1 rfl) F I.free
 ·obtain⟨v,o,F,hd⟩:=I.cell x c e;exact free c o (fun z=>(f c z).2.2.1 x c e rfl) F (I.oh x c e)
 ·obtain⟨e,n,ne,Z,d⟩:=I.pin p hp;have j:=fun z=>(f _ z).2.2.2 p hp rfl;exact⟨keep _ _ ne Z j e n,free _ _ j e n,ne,Z,d⟩
theorem Inv.un (I:Inv X pins σ H s) (u:Un X.fs [] H H' s.heap v) (hok:xN X.prog X.w H' v):Inv X pins σ H' {s with heap:=v,toks:=t'}:=by
 obtain⟨m,⟨o,es,F,x,r⟩,_⟩:=id I.loc;obtain⟨J,y⟩:=u.any x I.free (by simp);exact I.step (ch:=[]) (fun _ z=>nomatch z) (fun b o _ i _ e n=>u.keep b o e n i (by simp)) (fun b o _ i _ e n=>u.slot b o e n i (by simp)) (fun b o _ e n=>u.free b o e n (by simp)) (fun b o _ e=>u.there b o e (by simp)) u.tups u.frzs u.tbls (fun G hm=>by
  obtain⟨E,f,j,d,C⟩:=hm;rw[x] at d;cases d;exact⟨_,f,j,y,C⟩) hok I.bare
theorem Inv.call {ch:List Addr} (I:Inv X pins σ H s) (u:Un (frs X.stack) ch H H' s.heap y) (hok:xN X.prog X.w H' y) (hg:AllBare F) (f:∀b∈ch,(b∈X.ex\/X.s₀.heap.objs.size<=b)/\b≠X.env.locals/\(∀x c,X.env.cells.lookup x=some c->c≠b)/\∀p∈X.pn++pins,p.1≠b):
  Inv X pins σ H' {s with heap:=y,gens:=F,drawn:=J,toks:=t'}:=by
 obtain⟨m,⟨o,es,P,C,r⟩,_⟩:=id I.loc;obtain⟨Y,j⟩:=u.any C I.free fun z=>(f _ z).2.1 rfl;exact I.step f (fun b o j G hc e n=>u.keep b o e n (fun z=>(List.mem_cons.mp (I.CF b z)).elim j G) hc) (fun b o _ _ hc e n=>u.any e n hc) (fun b o hc e n=>u.free b o e n hc) (fun b o hc e=>u.there b o e hc) u.tups u.frzs u.tbls (fun U hm=>by
  obtain⟨O,i,v,d,E⟩:=hm;rw[C] at d;cases d;exact⟨_,i,v,j,E⟩) hok hg
theorem Inv.turned (I:Inv X pins σ H s) (k:∀b o,b≠it->s.heap.get? b=some o->f.get? b=some o) (hn:H it=none) (d:it≠X.env.locals) (h1:it∈X.ex\/X.s₀.heap.objs.size<=it) (i:∀x c,X.env.cells.lookup x=some c->c≠it) (E:∀p∈X.pn++pins,p.1≠it):Inv X pins σ H {s with heap:=f,toks:=t'}:=by
 have C:∀b u,H b=some u->b≠it:=fun b u e z=>by simp_all
 refine I.step (ch:=[it]) (fun b G=>?_) (fun b o _ _ hc e _=>k b o (fun z=>hc (by simp[z])) e) (fun b o _ _ hc e _=>⟨_,k b o (fun z=>hc (by simp[z])) e⟩) (fun _ _ _ _ n=>n)
  (fun b o hc e=>⟨o,k b o (fun z=>hc (by simp[z])) e⟩) (fun _ _ e=>e) (fun _ _ _ e=>e) (fun b F e=>⟨#[],‹_›⟩) (fun m hm=>?_) (fun b u e=>?_) I.bare
 ·have e:b=it:=by simp_all
  subst e;exact⟨h1,d,i,E⟩
 ·obtain⟨o,es,y,j,r⟩:=hm;exact⟨o,es,y,k _ o (Ne.symm d) j,r⟩
 ·refine(I.hok b u e).stay (fun c v hc q=>k c v ?_ q) (fun _ q=>q) fun _ _ q=>q;rcases hc with z|z
  ·simp_all
  ·simp_all
theorem Inv.tok (I:Inv X pins σ H s) (t:Nat):Inv X pins σ H {s with toks:=t}:=I.un Un.refl I.hok
theorem Inv.kept (I:Inv X pins σ H s) (k:∀b u,s.heap.get? b=some u->d.get? b=some u):Inv X pins σ H {s with heap:=d,toks:=t'}:=I.un (Un.kept k) (I.hok.kept k)
theorem Inv.laid (I:Inv X pins σ H s) (k:∀b u,s.heap.get? b=some u->d.get? b=some u) (hp:s.heap.objs.size<=a) (new:dG X.prog X.w (upd H a o) d a o):
  Inv X pins σ (upd H a o) {s with heap:=d,toks:=t'}:=I.un (Un.laid k hp (I.hok.fresh hp)) (I.hok.laid k hp new)
theorem Inv.write (I:Inv X pins σ H s) (i:Mut (H x)) (he:e=x\/H e=some (.own x)) (k:∀b u,b≠e->s.heap.get? b=some u->f.get? b=some u) (d:∃u,f.get? e=some u) (new:dG X.prog X.w (upd H x o) f x o):Inv X pins σ (upd H x o) {s with heap:=f,toks:=t'}:=I.un (Un.write i he k d) (I.hok.write i he k d new)
theorem Inv.Cr (I:Inv X pins σ H s) (h:∀p∈pins',s.heap.get? p.1=some p.2/\H p.1=none/\p.1≠X.env.locals/\p.1 ∉ X.fs/\∀v,p.2.data≠ .cell v):Inv X pins' σ H s:=
 ⟨I.ok,I.os,I.bare,I.base,I.loc,I.cell,I.free,I.oh,fun p hp=>(List.mem_append.mp hp).elim (fun z=>I.pin p (List.mem_append_left _ z)) (h p),I.hok,I.len⟩
theorem HL {N:List Str} {j:Nat} (f:N.Nodup) (a:N[i]?=some x) (b:N[j]?=some x):i=j:=by
 obtain⟨h1,e1⟩:=List.getElem?_eq_some_iff.mp a;obtain⟨m,d⟩:=List.getElem?_eq_some_iff.mp b;exact(List.getElem_inj f).mp (e1.trans d.symm)
theorem E5 (I:Inv X pins σ H s) (hN:X.N.Nodup) (hi:X.N[i]?=some x) (hx:Loc X.env.scope x) (r:RelV v u) (h:∀s',Inv X pins (σ.set i (some v)) H s'->(∃a,Heap.SameBut a s.heap s'.heap/\(a=X.env.locals\/X.env.cells.lookup x=some a))->Q () s') (hf:X.fn x=true\/X.env.scope.names.lookup x=some .local:=by walk_at "q"):wpAny M A (storeName X.env x u) Q E s:=by
 obtain⟨m,hn,hl⟩:=id I.loc;have P:(X.env.scope.kind == .class||(X.env.scope.kind == .module&&X.env.locals != X.env.globals))=false:=by rw[I.ok.kind];rfl
 have C:i<σ.length:=by rw[I.len];exact(List.getElem?_eq_some_iff.mp hi).1
 have cne:=I.cne;have tracked:∀{a:Addr} {O:Heap},(∃o,s.heap.get? a=some o/\H a=none)->Heap.SameBut a _ O->xN _ _ H O:=fun{a O} ha hs b ob e=>by
  refine(I.hok b ob e).stay (fun c Z hc q=>(hs.2 c ?_).trans q) (fun _ q=>q) fun _ _ q=>q;rintro rfl;rcases hc with rfl|hc
  ·simp_all
  ·simp_all
 rcases hx with hk|hk
 ·refine wpAny_storeName_local hk hn (fun O hn' hs=>?_) P;obtain⟨oL,_,_,hoL,_⟩:=id hn;refine h _ ⟨I.ok,I.os,I.bare,⟨fun b o e n G hx=>?_,fun b o e n G hx=>?_,I.base.free,fun b o e hx=>?_,I.base.tups,I.base.frzs,I.base.tbls⟩,⟨_,hn',fun j y v' e1 f e3=>?_⟩,fun y c e=>?_,I.free,I.oh,fun p hp=>?_,tracked ⟨oL,hoL,I.free⟩ hs,by simpa using I.len⟩ ⟨_,hs,.inl rfl⟩
  ·exact(hs.2 b (Nat.ne_of_lt (Nat.lt_of_lt_of_le (Heap.lt_size e) I.ok.above))).trans (I.base.keep b o e n G hx)
  ·obtain⟨sl,e1⟩:=I.base.slot b o e n G hx;exact⟨sl,(hs.2 b (Nat.ne_of_lt (Nat.lt_of_lt_of_le (Heap.lt_size e) I.ok.above))).trans e1⟩
  ·obtain⟨o',e1⟩:=I.base.there b o e hx;exact⟨o',(hs.2 b (Nat.ne_of_lt (Nat.lt_of_lt_of_le (Heap.lt_size e) I.ok.above))).trans e1⟩
  ·by_cases F:j=i
   ·subst F;rw[hi] at e1;cases e1;rw[List.getElem?_set_self C] at f;cases f;exact⟨u,r,.inl ⟨hk,by simp⟩⟩
   ·rw[List.getElem?_set_ne (Ne.symm F)] at f;obtain⟨u',r',q⟩:=hl j y v' e1 f e3;refine⟨u',r',?_⟩;rcases q with⟨k,e⟩|⟨k,c,e,z⟩
    ·refine .inl ⟨k,?_⟩;have:y≠x:=fun e=>F (HL hN e1 (e▸hi));simp[this,e]
    ·exact .inr ⟨k,c,e,z.sameBut hs (cne y c e)⟩
  ·obtain⟨Z,z⟩:=I.cell y c e;exact⟨Z,z.sameBut hs (cne y c e)⟩
  ·obtain⟨e,n,ne,nf,d⟩:=I.pin p hp;exact⟨(hs.2 _ ne).trans e,n,ne,nf,d⟩
 ·have J:X.fn x=true:=by
   simp_all
  obtain⟨c,hc⟩:=I.ok.has x (.inl hk);obtain⟨Z,z⟩:=I.cell x c hc;refine wpAny_storeName_cell I.ok.kind hk hc z (fun O U hs=>?_);obtain⟨oc,hoc,hocd⟩:=id z;refine h _ ⟨I.ok,I.os,I.bare,⟨fun b o e n G hx=>?_,fun b o e n G hx=>?_,I.base.free,fun b o e hx=>?_,I.base.tups,I.base.frzs,I.base.tbls⟩,⟨m,hn.sameBut hs (Ne.symm (cne x c hc)),fun j y v' e1 f e3=>?_⟩,fun y c' e=>?_,I.free,I.oh,fun p hp=>?_,tracked ⟨oc,hoc,I.oh x c hc⟩ hs,by simpa using I.len⟩ ⟨c,hs,.inr hc⟩
  ·exact(hs.2 b (Nat.ne_of_lt (Nat.lt_of_lt_of_le (Heap.lt_size e) (I.ok.cab x c J hc)))).trans (I.base.keep b o e n G hx)
  ·obtain⟨sl,e1⟩:=I.base.slot b o e n G hx;exact⟨sl,(hs.2 b (Nat.ne_of_lt (Nat.lt_of_lt_of_le (Heap.lt_size e) (I.ok.cab x c J hc)))).trans e1⟩
  ·obtain⟨o',e1⟩:=I.base.there b o e hx;exact⟨o',(hs.2 b (Nat.ne_of_lt (Nat.lt_of_lt_of_le (Heap.lt_size e) (I.ok.cab x c J hc)))).trans e1⟩
  ·by_cases F:j=i
   ·subst F;rw[hi] at e1;cases e1;rw[List.getElem?_set_self C] at f;cases f;exact⟨u,r,.inr ⟨.inl hk,c,hc,U⟩⟩
   ·rw[List.getElem?_set_ne (Ne.symm F)] at f;obtain⟨u',r',q⟩:=hl j y v' e1 f e3;refine⟨u',r',?_⟩;rcases q with q|⟨k,c',e,z'⟩
    ·exact .inl q
    ·refine .inr ⟨k,c',e,z'.sameBut hs ?_⟩;rintro rfl;exact F (HL hN e1 (I.ok.inj _ _ _ e hc▸hi))
  ·by_cases Y:c'=c
   ·subst Y;exact⟨_,U⟩
   ·obtain⟨w2,z2⟩:=I.cell y c' e;exact⟨w2,z2.sameBut hs Y⟩
  ·obtain⟨e,n,ne,nf,d⟩:=I.pin p hp;refine⟨(hs.2 _ ?_).trans e,n,ne,nf,d⟩;intro q;exact d Z (by simp_all)
theorem Hf (I:Inv X pins σ H s) (j:X.N.Nodup) (hi:X.N[i]?=some x) (hx:Loc X.env.scope x) (r:RelV v u) (h:∀d,Inv X pins (σ.set i (some v)) H d->Q () d) (hf:X.fn x=true\/X.env.scope.names.lookup x=some .local:=by walk_at "q"):wpAny M A (storeName X.env x u) Q E s:=
 E5 I j hi hx r (fun d f _=>h d f) hf
theorem Inv.call' {ch:List Addr} (I:Inv X pins σ H s) (f:s'.os=s.os) (u:Un (frs X.stack) ch H H' s.heap s'.heap) (hok:xN X.prog X.w H' s'.heap) (hg:AllBare s'.gens) (d:∀b∈ch,(b∈X.ex\/X.s₀.heap.objs.size<=b)/\b≠X.env.locals/\(∀x c,X.env.cells.lookup x=some c->c≠b)/\∀p∈X.pn++pins,p.1≠b):Inv X pins σ H' s':=by
 obtain⟨i,j,m,t',v⟩:=s';have e:=f;subst e;exact I.call u hok hg d
end
noncomputable abbrev XK:=Value->Option Addr->Hp->Prop
noncomputable abbrev St:=List (Option V)
noncomputable abbrev VK:=V->Hp->Prop
noncomputable abbrev TE:=St->Hp->VK->Prop
noncomputable abbrev TT:=St->Hp->(Bool->Hp->Prop)->Prop
noncomputable abbrev TA:=St->Hp->(List V->Hp->Prop)->Prop
structure Ends where
 nx:St->Hp->Prop
 rt:VK
 bk:St->Hp->Prop:=fun _ _=>False
 ct:St->Hp->Prop:=fun _ _=>False
noncomputable abbrev TS:=Ends->St->Hp->Prop
def EP (X:Cx) (d:List (Addr×Obj)) (σ:St) (Q:VK) (u:Value) (f:Shared):Prop:= ∃v H',Inv X d σ H' f/\RelV v u/\Q v H'
def TP (X:Cx) (d:List (Addr×Obj)) (σ:St) (Q:Bool->Hp->Prop) (b:Bool) (f:Shared):Prop:= ∃H',Inv X d σ H' f/\Q b H'
def AP (X:Cx) (d:List (Addr×Obj)) (σ:St) (Q:List V->Hp->Prop) (us:List Value) (f:Shared):Prop:= ∃vs H',Inv X d σ H' f/\Vals vs us/\Q vs H'
def SP (X:Cx) (i:List (Addr×Obj)) (D:Ends) (f:Flow) (j:Shared):Prop:=
 match f with
 | .next=> ∃d H',Inv X i d H' j/\D.nx d H'
 | .brk=> ∃d H',Inv X i d H' j/\D.bk d H'
 | .cont=> ∃d H',Inv X i d H' j/\D.ct d H'
 | .ret u=> ∃v d H',Inv X i d H' j/\RelV v u/\D.rt v H'
def PE (X:Cx) (e:Expr) (t:TE):Prop:=
 ∀(d:List (Addr×Obj)) (s:Shared) (σ:St) (H:Hp) (Q:VK),Inv X d σ H s->t σ H Q->wpAny (model X.prog X.w) X.A (eval e X.env) (EP X d σ Q) X.xe s
def PT (X:Cx) (e:Expr) (t:TT):Prop:=
 ∀(d:List (Addr×Obj)) (s:Shared) (σ:St) (H:Hp) (Q:Bool->Hp->Prop),Inv X d σ H s->t σ H Q->wpAny (model X.prog X.w) X.A (isTrue e X.env (eval e X.env)) (TP X d σ Q) X.xe s
def PW (X:Cx) (e:Expr) (t:TT):Prop:=
 ∀(whole:Sem Value) (d:List (Addr×Obj)) (s:Shared) (σ:St) (H:Hp) (Q:Bool->Hp->Prop),Inv X d σ H s->t σ H Q->wpAny (model X.prog X.w) X.A (isTrue e X.env whole) (TP X d σ Q) X.xe s
theorem PW.pt (h:PW X e t):PT X e t:=h _
def PA (X:Cx) (es:List Expr) (t:TA):Prop:=
 ∀(pos:Pos) (d:List (Addr×Obj)) (s:Shared) (σ:St) (H:Hp) (Q:List V->Hp->Prop),Inv X d σ H s->t σ H Q->wpAny (model X.prog X.w) X.A (spliced (backTo pos (starEach es X.env))) (AP X d σ Q) X.xe s
def PS (X:Cx) (st:Stmt) (t:TS):Prop:=
 ∀(d:List (Addr×Obj)) (s:Shared) (σ:St) (H:Hp) (D:Ends),Inv X d σ H s->t D σ H->wpAny (model X.prog X.w) X.A (exec st X.env) (SP X d D) X.xe s
def CB (X:Cx) (st:List Stmt) (t:TS):Prop:=
 ∀(d:List (Addr×Obj)) (s:Shared) (σ:St) (H:Hp) (D:Ends),Inv X d σ H s->t D σ H->wpAny (model X.prog X.w) X.A (execs st X.env) (SP X d D) X.xe s
theorem thn {d:α->Shared->Prop} (h:wpAny M A t Q E s) (f:∀a s,Q a s->d a s):wpAny M A t d E s:=wpAny_mono h f fun _ _ x=>x
theorem fS {α β d:Type} {t:Sem α} {F:α->Shared->β->d->Prop} {G:α->Shared->β->d->Prop} {J:α->Shared->β->d->Prop} {Q:α->Shared->Prop} {M:Model} {A:Around} {E:Value->Shared->Prop} {s:Shared} (h:wpAny M A t (fun a s=> ∃x y,F a s x y/\G a s x y/\J a s x y) E s) (k:∀a s x y,F a s x y->G a s x y->J a s x y->Q a s):wpAny M A t Q E s:=thn h fun a s ⟨x,y,f,g,j⟩=>k a s x y f g j
section
variable {X:Cx} {a b:Expr} {pos:Pos} {tA tB':TT} {rest:List Expr}
def Hc (i:Nat):TE:=fun σ H Q=>match σ[i]? with
 |some (some v)=>Q v H
 |_=>False
theorem QL (h:Hc i σ H Q):∃v,σ[i]?=some (some v)/\Q v H:=by
 unfold Hc at h;split at h
 ·exact⟨_,by assumption,h⟩
 ·exact h.elim
def tC (v:V):TE:=fun _ H Q=>Q v H
theorem Vt (z:X.N[i]?=some x) (y:Vis X.env.scope x) (hd:(x == ("__debug__":Str))=false:=by decide) (f:(x == ("__classdict__":Str))=false:=by decide):PE X (.Name x pos) (Hc i):=by
 intro j s σ H Q I h;obtain⟨v,e,h⟩:=QL h;obtain⟨m,hn,hl⟩:=I.loc;obtain⟨u,r,l⟩:=hl i x v z e y;have fin:EP X _ σ Q u s:=⟨v,H,I,r,h⟩;rcases l with⟨hk,hm⟩|⟨hk,c,hc,d⟩
 ·exact wpAny_Name (wpAny_loadName_local I.ok.kind hk hn hm fin) hd
 ·rcases hk with hk|hk
  ·exact wpAny_Name (wpAny_loadName_cell I.ok.kind hk hc d fin) hd
  ·exact wpAny_Name (wpAny_loadName_free I.ok.kind hk hc d fin f) hd
theorem au {i j pos}:PE X (.Constant (.int i) j pos) (tC (.int i)):=fun _ _ _ H _ I h=>wpAny_Constant_int ⟨.int i,H,I.tok _,⟨_,rfl⟩,h⟩
theorem cW {b j pos}:PE X (.Constant (.bool b) j pos) (tC (.bl b)):=fun _ _ _ H _ I h=>Constant_bool ⟨.bl b,H,I,rfl,h⟩
theorem cx {j pos}:PE X (.Constant .none j pos) (tC .non):=fun _ _ _ H _ I h=>Constant_none ⟨.non,H,I,rfl,h⟩
theorem bR {x j pos}:PE X (.Constant (.str x) j pos) (tC (.str x)):=fun _ _ _ H _ I h=>Calls.Constant_str ⟨.str x,H,I.tok _,⟨_,rfl⟩,h⟩
def Gl (X:Cx) (x:Str):Prop:=X.env.kindOf x=some .globalImplicit
theorem lO (I:Inv X pins σ H s) (hg:Gl X x) (hm:X.mg x=some u) (h:Q u s) (hd:(x == ("__debug__":Str))=false:=by decide):wpAny (model X.prog X.w) X.A (eval (.Name x pos) X.env) Q E s:=
 Calls.Name_function_global I.ok.kind hg (Calls.loadGlobal_global (by rw[I.ok.glob];exact I.mod.glob.keeps I.bk) hm h) hd
theorem wU (I:Inv X pins σ H s) (hg:Gl X x) (hm:X.mg x=none) (d:bootBuiltins x=some u) (h:Q u s) (hn:x≠ "__name__" :=by decide) (hd:(x == ("__debug__":Str))=false:=by decide):wpAny (model X.prog X.w) X.A (eval (.Name x pos) X.env) Q E s:=by
 obtain⟨i,h1,f⟩:=I.mod.blt;exact Calls.Name_function_global I.ok.kind hg (Calls.loadGlobal_builtin (by rw[I.ok.glob];exact I.mod.glob.keeps I.bk) hm (by rw[I.ok.blt];exact h1.keeps I.bk) ((f x hn).trans d) h) hd
theorem Rv (hg:Gl X x) (hm:X.mg x=some u) (r:RelV v u) (hd:(x == ("__debug__":Str))=false:=by decide):PE X (.Name x pos) (tC v):=
 fun _ _ _ H _ I h=>lO I hg hm ⟨v,H,I,r,h⟩ hd
theorem Ry (hg:Gl X x) (hm:X.mg x=none) (d:bootBuiltins x=some u) (r:RelV v u) (hn:x≠ "__name__" :=by decide) (hd:(x == ("__debug__":Str))=false:=by decide):PE X (.Name x pos) (tC v):=
 fun _ _ _ H _ I h=>wU I hg hm d ⟨v,H,I,r,h⟩ hn hd
def PC (X:Cx) (op:CmpOp) (a b:Expr) (t:TE):Prop:=
 ∀(d:List (Addr×Obj)) (s:Shared) (σ:St) (H:Hp) (Q:VK),Inv X d σ H s->t σ H Q->
  wpAny (model X.prog X.w) X.A (eval a X.env) (fun v i=>wpAny (model X.prog X.w) X.A (eval b X.env) (fun u f=>wpAny (model X.prog X.w) X.A (compareOp op v u) (EP X d σ Q) X.xe f) X.xe i) X.xe s
def tB (t:TE):TT:=fun σ H Q=>t σ H fun x d=> ∃c,x = .bl c/\Q c d
theorem zF {op:CmpOp} {t:TE} (h:PC X op a b t) (h1:behindInMarks op b=false:=by first|exact nobehind _ (by decide) (by decide)|rfl):PT X (.Compare a [op] [b] pos) (tB t):=by
 intro f s σ H Q I hw;refine wpAny_isTrue_Compare1 (thn (h _ s σ H _ I hw) fun v s1 h1=>thn h1 fun u s2 i=>thn i fun c s3 ⟨x,m,y,j,q1⟩=>?_) h1;obtain⟨d,rfl,q⟩:=q1;cases j;exact wpAny_truthy_bool ⟨m,y,q⟩
theorem Vj (h:PE X e t) (he:∀whole,isTrue e X.env whole=(do let v<-whole;standAt e.pos;holding [v] (truthy v)):=by intro _;rfl):PT X e (tB t):=by
 intro f s σ H Q I hw;refine isTrue_plain (fS (h _ s σ H _ I hw) fun v s1 x j m i q1=>?_) (he _);obtain⟨d,rfl,q⟩:=q1;cases i;exact wpAny_truthy_bool ⟨j,m,q⟩
def YV (t u:TT):TT:=fun σ H Q=>t σ H fun c d=>if c=true then u σ d Q else Q false d
def tOr (t u:TT):TT:=fun σ H Q=>t σ H fun c d=>if c=true then Q true d else u σ d Q
def U1 (t:TT):TT:=fun σ H Q=>t σ H fun c d=>Q (!c) d
theorem pw_and1 (ha:PT X a tA):PW X (.BoolOp .And [a] pos) tA:=by
 intro f d s σ H Q I h;refine isTrue_and (thn (ha _ s σ H Q I h) fun c s1 e=>?_);cases c with
 |true=>exact isTrue_and_nil e
 |false=>exact e
theorem pw_or1 (ha:PT X a tA):PW X (.BoolOp .Or [a] pos) tA:=by
 intro f d s σ H Q I h;refine isTrue_or (thn (ha _ s σ H Q I h) fun c s1 e=>?_);cases c with
 |false=>exact isTrue_or_nil e
 |true=>exact e
theorem pw_and (ha:PT X a tA) (f:PW X (.BoolOp .And (b::rest) pos) tB'):PW X (.BoolOp .And (a::b::rest) pos) (YV tA tB'):=by
 intro m d s σ H Q I h;refine isTrue_and (thn (ha _ s σ H _ I h) fun c s1 ⟨i,j,q1⟩=>?_);cases c with
 |true=>exact f m _ s1 σ i Q j q1
 |false=>trivial
theorem pw_or (ha:PT X a tA) (f:PW X (.BoolOp .Or (b::rest) pos) tB'):PW X (.BoolOp .Or (a::b::rest) pos) (tOr tA tB'):=by
 intro m d s σ H Q I h;refine isTrue_or (thn (ha _ s σ H _ I h) fun c s1 ⟨i,j,q1⟩=>?_);cases c with
 |true=>trivial
 |false=>exact f m _ s1 σ i Q j q1
theorem dO (ha:PT X a tA):PT X (.UnaryOp .Not a pos) (U1 tA):=by
 intro d s σ H Q I h;exact isTrue_not (ha _ s σ H _ I h)
def SS (i f:TE):TE:=fun σ H Q=>i σ H fun x d=> ∃c,x = .bl c/\if c=true then f σ d Q else Q (.bl false) d
def SR (f:TE):TE:=fun σ H Q=>f σ H fun x d=> ∃c,x = .bl c/\Q (.bl (!c)) d
theorem nY {op} {t:TE} (h:PE X a t):PE X (.BoolOp op [a] pos) t:=fun d s σ H Q I hw=>BoolOp_one (h _ s σ H Q I hw)
theorem di {i d:TE} (ha:PE X a i) (y:PE X (.BoolOp .And (b::rest) pos) d):PE X (.BoolOp .And (a::b::rest) pos) (SS i d):=by
 intro f s σ H Q I h;refine BoolOp_and (fS (ha _ s σ H _ I h) fun v s1 x j m u q1=>?_);obtain⟨c,rfl,q1⟩:=q1;cases u;refine wpAny_truthy_bool ?_;cases c with
 |true=>exact y _ s1 σ j Q m q1
 |false=>exact⟨.bl _,j,m,rfl,q1⟩
theorem Jg {d:TE} (ha:PE X a d):PE X (.UnaryOp .Not a pos) (SR d):=by
 intro f s σ H Q I h;refine UnaryOp_ (fS (ha _ s σ H _ I h) fun v s1 x i m j q1=>?_);obtain⟨c,rfl,q1⟩:=q1;cases j;exact not_of (wpAny_truthy_bool ⟨.bl _,i,m,rfl,q1⟩)
def tIf (t:TT) (i f:TE):TE:=fun σ H Q=>t σ H fun c d=>if c=true then i σ d Q else f σ d Q
theorem lS {u f:TE} {c:Expr} (hc:PT X c tA) (ha:PE X a u) (v:PE X b f):PE X (.IfExp c a b pos) (tIf tA u f):=by
 intro j s σ H Q I h;refine wpAny_IfExp (thn (hc _ s σ H _ I h) fun d s1 ⟨i,m,q1⟩=>?_);cases d with
 |true=>exact ha _ s1 σ i Q m q1
 |false=>exact v _ s1 σ i Q m q1
end
def cT (K:W.Frag) (H:Hp) (a:Addr) (xs:List V):Prop:=
 Rd H a (.lst xs)\/
  ∃(o:Obj) (d:Array Value) (n:Nat),K.lookup a=some o/\o.cls = .type "list" /\o.dict=none/\o.data = .seq d n/\d.size<=sizeLine/\Vals xs d.toList
def dX (K:W.Frag) (H:Hp) (a:Addr) (xs:List V):Prop:=
 Rd H a (.tup xs)\/
  ∃(o:Obj) (d:Array Value) (n:Nat),K.lookup a=some o/\o.cls = .type "tuple" /\o.data = .seq d n/\d.size<=sizeLine/\Vals xs d.toList
noncomputable def akH:Value->Option V
 | .none=>some .non
 | .bool b=>some (.bl b)
 | .int i _=>some (.int i)
 | .str x _=>some (.str x)
 | .bytes b _=>some (.byt b)
 | .float b _=>some (.flt b)
 | .ref a=>some (.ref a)
 | .type n=>some (.ty n)
 |_=>none
theorem RelV.abs (r:RelV x u):akH u=some x:=by
 cases x with
 |non=>cases r;rfl
 |bl _=>cases r;rfl
 |int _=>obtain⟨t,rfl⟩:=r;rfl
 |str _=>obtain⟨t,rfl⟩:=r;rfl
 |byt _=>obtain⟨t,rfl⟩:=r;rfl
 |flt _=>obtain⟨t,rfl⟩:=r;rfl
 |ref _=>cases r;rfl
 |ty _=>cases r;rfl
theorem RelV.inj (r:RelV x u) (q:RelV y u):x=y:=Option.some.inj (r.abs.symm.trans q.abs)
theorem Vals.inj:∀{xs d:List V} {us:List Value},Vals xs us->Vals d us->xs=d
 |_,_,_,.nil,.nil=>rfl
 |_,_,_,.cons r t,.cons r' t'=>by rw[r.inj r',Vals.inj t t']
section
theorem cT.of {K:W.Frag} (h:H a=some (.lst xs)):cT K H a xs:= .inl (.inl h)
theorem dX.of {K:W.Frag} (h:H a=some (.tup xs)):dX K H a xs:= .inl (.inl h)
theorem Inv.list (I:Inv X pins σ H s) (h:cT X.K H a xs):∃d:List Value,Vals xs d/\PlainL s.heap a d.toArray/\xs.length<=sizeLine:=by
 rcases h with h|⟨o,d,n,hk,hc,hd,hs,f,r⟩
 ·obtain⟨z,d,n,r,e⟩:=h.ok I.hok;exact⟨d,r,⟨_,n,e,rfl,rfl,rfl⟩,z⟩
 ·refine⟨_,r,⟨o,n,I.nL a o hk,hc,hd,‹_›⟩,?_⟩;have e:=r.length;simp at e;lia
theorem Inv.tuple (I:Inv X pins σ H s) (h:dX X.K H a xs):∃d:List Value,Vals xs d/\IsTup s.heap a d.toArray/\xs.length<=sizeLine:=by
 rcases h with h|⟨o,d,n,hk,hc,hs,f,r⟩
 ·obtain⟨z,d,r,p⟩:=h.ok I.hok;exact⟨d,r,p,z⟩
 ·refine⟨_,r,⟨o,I.nL a o hk,hc,n,‹_›⟩,?_⟩;have e:=r.length;simp at e;lia
theorem Inv.HW (I:Inv X pins σ H s) (h:cT X.K H a xs) (m:cT X.K H a ys):xs=ys:=by
 obtain⟨i,r,⟨o,n,e,_,_,d⟩,_⟩:=I.list h;obtain⟨f,u,⟨y,v,j,_,_,x⟩,_⟩:=I.list m;rw[e] at j;cases j;have:i=f:=by simp_all
 subst this;exact r.inj u
theorem Inv.E2 (I:Inv X pins σ H s) (h:dX X.K H a xs) (m:dX X.K H a ys):xs=ys:=by
 obtain⟨i,r,⟨o,e,_,n,d⟩,_⟩:=I.tuple h;obtain⟨f,u,⟨y,j,_,v,x⟩,_⟩:=I.tuple m;rw[e] at j;cases j;have:i=f:=by simp_all
 subst this;exact r.inj u
end
noncomputable abbrev Cx.wish (X:Cx) (E:Value->Shared->Prop):Cx:={X with xe:=E}
noncomputable abbrev Cx.nox (X:Cx):Cx:=X.wish fun _ _=>False
theorem Cx.Ok.wish {X:Cx} (ok:X.Ok) (E:Value->Shared->Prop):(X.wish E).Ok:=
 ⟨ok.mod,ok.kind,ok.glob,ok.blt,ok.above,ok.inj,ok.has,ok.cab,ok.hd,ok.frames,ok.stk,ok.exf,ok.bs,ok.bsz,ok.noex,ok.exfs,ok.funs,ok.frf⟩
theorem Cx.Ok.unwish {X:Cx} (ok:(X.wish E).Ok):X.Ok:=
 ⟨ok.mod,ok.kind,ok.glob,ok.blt,ok.above,ok.inj,ok.has,ok.cab,ok.hd,ok.frames,ok.stk,ok.exf,ok.bs,ok.bsz,ok.noex,ok.exfs,ok.funs,ok.frf⟩
section
theorem Inv.wish (I:Inv X pins σ H s) (E:Value->Shared->Prop):Inv (X.wish E) pins σ H s:=⟨I.ok.wish E,I.os,I.bare,I.base,I.loc,I.cell,I.free,I.oh,I.pin,I.hok,I.len⟩
theorem Inv.unwish (I:Inv (X.wish E) pins σ H s):Inv X pins σ H s:=⟨I.ok.unwish,I.os,I.bare,I.base,I.loc,I.cell,I.free,I.oh,I.pin,I.hok,I.len⟩
theorem SP.unwish (h:SP (X.wish E) pins D f s'):SP X pins D f s':=by
 cases f with
 |next=>obtain⟨d,H',I,q⟩:=h;exact⟨d,H',I.unwish,q⟩
 |brk=>obtain⟨d,H',I,q⟩:=h;exact⟨d,H',I.unwish,q⟩
 |cont=>obtain⟨d,H',I,q⟩:=h;exact⟨d,H',I.unwish,q⟩
 |ret u=>obtain⟨v,d,H',I,r,q⟩:=h;exact⟨v,d,H',I.unwish,r,q⟩
theorem PT.nox (h:PT X.nox e t):PT X e t:=fun d s σ H Q I hw=>
 wpAny_mono (h _ s σ H Q (I.wish _) hw) (fun _ _ ⟨H',f,q⟩=>⟨H',f.unwish,q⟩) fun _ _ z=>False.elim z
theorem CB.nox {st:List Stmt} (h:CB X.nox st t):CB X st t:=fun d s σ H D I hw=>
 wpAny_mono (h _ s σ H D (I.wish _) hw) (fun _ _ q=>q.unwish) fun _ _ z=>False.elim z
end
section
variable {X:Cx} {st:Stmt} {e:Expr} {te:TE} {pos:Pos}
def Nb:TS:=fun D σ H=>D.nx σ H
def UZ (t u:TS):TS:=fun D σ H=>t {D with nx:=u D} σ H
theorem aU:CB X [] Nb:=fun _ _ σ H _ I h=>wpAny_execs_nil ⟨σ,H,I,h⟩
theorem aj {rest:List Stmt} (h1:PS X st t) (i:CB X rest u):CB X (st::rest) (UZ t u):=by
 intro d s σ H D I h;refine wpAny_execs_cons (thn (h1 _ s σ H _ I h) fun f s1 q=>?_);cases f with
 |next=>
  obtain⟨m,H',j,q⟩:=q;exact i _ s1 _ H' D j q
 |ret v=>exact q
 |brk=>exact q
 |cont=>exact q
theorem aq (h1:PS X st t):CB X [st] t:=by
 intro d s σ H D I h;refine wpAny_execs_cons (thn (h1 _ s σ H D I h) fun f s1 q=>?_);cases f with
 |next=>exact wpAny_execs_nil q
 |ret v=>exact q
 |brk=>exact q
 |cont=>exact q
theorem Inv.quiet (I:Inv X pins σ H s):interactive X.env=false:=by simp[interactive,I.ok.kind]
def Ni (te:TE):TS:=fun D σ H=>te σ H fun _ d=>D.nx σ d
theorem Rg (he:PE X e te) (hs:swapsWith e none pos.line X.env=pure false:=by rfl):PS X (.Expr e pos) (Ni te):=by
 intro d s σ H D I h;exact wpAny_Expr_any (fS (he _ s σ H _ I h) fun v s1 x f i j q1=>⟨σ,f,i,q1⟩) I.quiet hs
def U0 (te:TE):TS:=fun D σ H=>te σ H D.rt
theorem aH (he:PE X e te):PS X (.Return (some e) pos) (U0 te):=by
 intro d s σ H D I h;exact wpAny_Return_some (fS (he _ s σ H _ I h) fun v s1 x f j i q1=>⟨x,σ,f,j,i,q1⟩)
def SO:TS:=fun D _ H=>D.rt .non H
theorem Kt:PS X (.Return none pos) SO:=fun _ _ σ H _ I h=>wpAny_Return_none ⟨.non,σ,H,I,rfl,h⟩
def QM (c:TT) (t u:TS):TS:=fun D σ H=>c σ H fun b d=>if b=true then t D σ d else u D σ d
theorem bD {t u:TS} {c:Expr} {a b:List Stmt} {j:TT} (hc:PT X c j) (ha:CB X a t) (v:CB X b u):PS X (.If c a b pos) (QM j t u):=by
 intro f s σ H D I h;refine wpAny_If (thn (hc _ s σ H _ I h) fun d s1 ⟨i,m,q1⟩=>?_);cases d with
 |true=>exact ha _ s1 σ i D m q1
 |false=>exact v _ s1 σ i D m q1
end
noncomputable abbrev TG:=V->St->Hp->(St->Hp->Prop)->Prop
noncomputable abbrev UP:=List V->St->Hp->(St->Hp->Prop)->Prop
def PG (X:Cx) (target:Expr) (t:TG):Prop:=
 ∀(d:List (Addr×Obj)) (s:Shared) (σ:St) (H:Hp) (v:V) (u:Value) (Q:St->Hp->Prop),Inv X d σ H s->RelV v u->t v σ H Q->
  wpAny (model X.prog X.w) X.A (assign target X.env u) (fun _ i=> ∃f H',Inv X d f H' i/\Q f H') X.xe s
def Qs (X:Cx) (ts:List Expr) (t:UP):Prop:=
 ∀(d:List (Addr×Obj)) (s:Shared) (σ:St) (H:Hp) (vs:List V) (us:List Value) (Q:St->Hp->Prop),Inv X d σ H s->Vals vs us->t vs σ H Q->
  wpAny (model X.prog X.w) X.A (assignInOrder ((assignEach ts X.env).map (·.2)) us) (fun _ i=> ∃f H',Inv X d f H' i/\Q f H') X.xe s
noncomputable abbrev agp:=V->V->V->Hp->(Hp->Prop)->Prop
def SH (X:Cx) (t:agp):Prop:=
 ∀(d:List (Addr×Obj)) (s:Shared) (σ:St) (H:Hp) (o i v:V) (f j u:Value) (Q:Hp->Prop),Inv X d σ H s->RelV o f->RelV i j->RelV v u->t o i v H Q->
  wpAny (model X.prog X.w) X.A (setItem f j u) (fun _ m=> ∃H',Inv X d σ H' m/\Q H') X.xe s
section
def qf (i:Nat):TG:=fun v σ H Q=>Q (σ.set i (some v)) H
theorem Rp (j:X.N.Nodup) (hi:X.N[i]?=some x) (hx:Loc X.env.scope x) (hf:X.fn x=true\/X.env.scope.names.lookup x=some .local:=by walk_at "q"):PG X (.Name x pos) (qf i):=by
 intro d s σ H v u Q I r h;exact wpAny_assign_Name (Hf I j hi hx r (fun m f=>⟨_,H,f,h⟩) hf)
def agc:UP:=fun vs σ H Q=>vs= []/\Q σ H
def Pw (t:TG) (u:UP):UP:=fun vs σ H Q=> ∃v r,vs=v::r/\t v σ H fun d H'=>u r d H' Q
theorem Rk:Qs X [] agc:=by
 intro d s σ H vs us Q I r h;obtain⟨e,h⟩:=h;exact assignInOrder_nil ⟨σ,H,I,h⟩
theorem Of (h1:PG X e t) (f:Qs X es u) (hs:(assignEach (e::es) X.env).map (·.2)=assign e X.env::(assignEach es X.env).map (·.2):=by rfl):Qs X (e::es) (Pw t u):=by
 intro d s σ H vs us Q I r h;obtain⟨v,y,e1,h⟩:=h;subst e1;cases r with
 |cons r m=>
  rw[hs];refine assignInOrder_cons (thn (h1 _ s σ H _ _ _ I r h) fun _ s1 ⟨j,i,x,q1⟩=>?_);exact f _ s1 _ i _ _ Q x m q1
def X_ (K:W.Frag) (n:Nat) (t:UP):TG:=fun v σ H Q=> ∃a xs,v = .ref a/\dX K H a xs/\xs.length=n/\t xs σ H Q
theorem Vq (hc:X.calm=true) (h:Qs X es t) (hn:(assignEach es X.env).length=n:=by rfl) (d:(assignEach es X.env).findIdx? (·.1)=none:=by rfl):PG X (.Tuple es k pos) (X_ X.K n t):=by
 intro f s σ H v u Q I r hw;obtain⟨a,xs,e1,j,hl,hw⟩:=hw;subst e1;cases r;obtain⟨i,m,ht,z⟩:=I.tuple j;refine assign_Tuple_tuple (I.ok.hd hc) ht (by simp[hn,<-hl,m.length]) d fun y hx=>?_;have x:=I.kept (t':=s.toks) fun b o e=>hx b o (Nat.ne_of_lt (Heap.lt_size e)) e;exact h _ _ σ H xs _ Q x (‹_›) hw
def Yb (to j:TE) (t:agp):TG:=fun v σ H Q=>to σ H fun o f=>j σ f fun i d=>t o i v d fun m=>Q σ m
theorem Vr (C:PE X o to) (hi:PE X i ti) (hs:SH X t) (ha:∀v,assign (.Subscript o i pos) X.env v=(do
   let d<-holding [v] (eval o X.env);let f<-holding [v,d] (eval i X.env)
   standAt pos
   holding [v,d,f] (setItem d f v)
   release [v,d,f] []):=by intro _;rfl):PG X (.Subscript o i pos) (Yb to ti t):=by
 intro j s σ H v u Q I r h;rw[ha];refine wpAny_bind (wpAny_holding (fS (C _ s σ H _ I h) fun d s1 x F J m q1=>?_));refine wpAny_bind (wpAny_holding (fS (hi _ s1 σ F _ J q1) fun f s2 y E z r2 q2=>?_));refine wpAny_bind (wpAny_standAt (wpAny_bind (wpAny_holding (thn (hs _ s2 σ E x y v d f u _ z m r2 r q2) fun _ s3 ⟨O,G,q3⟩=>?_))));exact wpAny_release ⟨σ,O,G,q3⟩
def He (te:TE) (g:TG):TS:=fun D σ H=>te σ H fun x d=>g x σ d D.nx
theorem Vl (he:PE X e te) (hg:PG X tg g) (hs:swapsWithSole [tg] e pos.line X.env=pure false:=by rfl) (hw:swappedStores [tg] e X.env=pure none:=by rfl) (h1:(assignEach [tg] X.env).map (·.2)= [assign tg X.env]:=by rfl):PS X (.Assign [tg] e pos) (He te g):=by
 intro d s σ H D I h;refine wpAny_Assign_stores (fS (he _ s σ H _ I h) fun v s1 x i j f q1=>?_) hs hw;rw[h1];exact thn (hg _ s1 σ i x v _ j f q1) fun _ s2 q=>q
theorem Vk (u:X.N.Nodup) (hi:X.N[i]?=some x) (hx:Loc X.env.scope x) (he:PE X e te) (hs:swapsWith e (some (.Name x pos')) pos.line X.env=pure false:=by rfl) (hf:X.fn x=true\/X.env.scope.names.lookup x=some .local:=by walk_at "q"):
  PS X (.Assign [.Name x pos'] e pos) (He te (qf i)):=by
 intro d s σ H D I h;refine wpAny_Assign_Name (fS (he _ s σ H _ I h) fun v s1 y m z f q1=>?_) hs;exact Hf z u hi hx f (fun s2 j=>⟨_,m,j,q1⟩) hf
end
section
def UX (c:TT) (j:TS):TS:=fun D σ H=> ∃W:Nat->St->Hp->Prop,(∃m,W m σ H)/\∀m σ H,W m σ H->
 c σ H fun b f=>if b=true then∃N:St->Hp->Prop,(∀d H',N d H'->∃i,i<m/\W i d H')/\j {D with nx:=N,ct:=N,bk:=D.nx} σ f else D.nx σ f
theorem HD (hp:PassesOwn (model X.prog X.w) X.A X.env X.xe) (hc:PT X c tc) (Y:CB X body tb):PS X (.While c body [] pos) (UX tc tb):=by
 intro C s σ H D I h;obtain⟨W,⟨m0,P⟩,turn⟩:=h;refine wpAny_While (codeAny_whileLoop (fun n O=> ∃i H',Inv X _ i H' O/\W n i H') ?_ m0 ⟨σ,H,I,P⟩);rintro n s1 ⟨u,G,Z,U⟩;refine wpAny_passesOwn hp (thn (hc _ s1 _ G _ Z (turn n _ G U)) fun b s2 ⟨F,E,q2⟩=>?_);cases b with
 |true=>
  obtain⟨N,J,q2⟩:=q2;refine wpAny_passesOwn hp (thn (Y _ s2 _ F _ E q2) fun f s3 q3=>?_);cases f with
  |next=>
   obtain⟨d,j,z,m⟩:=q3;obtain⟨y,hm,x⟩:=J _ j m;exact⟨y,hm,d,j,z,x⟩
  |cont=>
   obtain⟨d,j,z,m⟩:=q3;obtain⟨y,hm,x⟩:=J _ j m;exact⟨y,hm,d,j,z,x⟩
  |brk=>exact q3
  |ret v=>exact q3
 |false=>
  exact wpAny_execs_nil ⟨u,F,E,q2⟩
end
structure It where
 go:Nat->Hp->Prop
 yld:Nat->Hp->V->Hp->Prop
 stop:Nat->Hp->Prop
def D7 (X:Cx) (d:List (Addr×Obj)) (H:Hp) (b:Addr):Prop:=
 H b=none/\b≠X.env.locals/\b ∉ X.fs/\(b∈X.ex\/X.s₀.heap.objs.size<=b)/\(∀x c,X.env.cells.lookup x=some c->c≠b)/\∀p∈X.pn++d,p.1≠b
theorem Inv.JF (I:Inv X pins σ H s) (d:s.heap.objs.size<=b) (hn:H' b=none):D7 X pins H' b:=by
 refine⟨hn,Nat.ne_of_gt (Nat.lt_of_lt_of_le I.lt d),I.nofs d,.inr (Nat.le_trans I.sz d),fun x c e z=>?_,fun p hp z=>?_⟩
 ·obtain⟨v,q⟩:=I.cell x c e;exact absurd (Nat.lt_of_lt_of_le q.lt (by simp_all)) (Nat.lt_irrefl _)
 ·exact absurd (Nat.lt_of_lt_of_le (Heap.lt_size (I.pin p hp).1) (by simp_all)) (Nat.lt_irrefl _)
structure Turn (P:Program) (w:World) (K:W.Frag) (tg:Expr) (J:It) (fp:List Addr) (it:Addr) (tn:Nat->Heap->Prop):Prop where
 mem:it∈fp
 obj:∀i h,tn i h->∀b∈fp,∃o,h.get? b=some o/\∀v,o.data≠ .cell v
 keep:∀i h h',tn i h->(∀b∈fp,∀o,h.get? b=some o->h'.get? b=some o)->tn i h'
 item:∀(X:Cx),X.prog=P->X.w=w->X.K=K->X.calm=true->∀(i:Nat) (pins:List (Addr×Obj)) (s:Shared) (σ:St) (H:Hp) (E:Value->Shared->Prop),Inv X pins σ H s->(∀b∈fp,D7 X pins H b)->tn i s.heap->J.go i H->
  wpAny (model P w) X.A (pyNext (.ref it)) (fun r s1=> ∃u,r=some u/\
   wpAny (model P w) X.A (letOwnedTupleGo tg (.ref it) u) (fun _ s2=> ∃x H',Inv X pins σ H' s2/\RelV x u/\J.yld i H x H'/\tn (i+1) s2.heap/\∀b∈fp,H' b=none) E s1) E s
 done:∀(X:Cx),X.prog=P->X.w=w->X.K=K->X.calm=true->∀(i:Nat) (pins:List (Addr×Obj)) (s:Shared) (σ:St) (H:Hp) (E:Value->Shared->Prop),Inv X pins σ H s->(∀b∈fp,D7 X pins H b)->tn i s.heap->J.stop i H->
  wpAny (model P w) X.A (pyNext (.ref it)) (fun r s1=>r=none/\Inv X pins σ H s1) E s
 self:∀(A:Around) (i:Nat) (s:Shared) (Q:Value->Shared->Prop) (E:Value->Shared->Prop),tn i s.heap->Q (.ref it) s->wpAny (model P w) A (pyIter (.ref it)) Q E s
noncomputable abbrev TI:=St->Hp->(It->Hp->Prop)->Prop
def PIE (X:Cx) (d:List (Addr×Obj)) (σ:St) (tg:Expr) (R:It->Hp->Prop) (f:Value) (s2:Shared):Prop:=
 ∃(it:Addr) (i:List Addr) (tn:Nat->Heap->Prop) (J:It) (H':Hp),f = .ref it/\Inv X d σ H' s2/\Turn X.prog X.w X.K tg J i it tn/\tn 0 s2.heap/\(∀b∈i,D7 X d H' b)/\R J H'
def PI (X:Cx) (tg iter:Expr) (wi:TI):Prop:=
 ∀(d:List (Addr×Obj)) (s:Shared) (σ:St) (H:Hp) (R:It->Hp->Prop),Inv X d σ H s->wi σ H R->
  wpAny (model X.prog X.w) X.A (eval iter X.env) (fun v s1=>wpAny (model X.prog X.w) X.A (pyIter v) (PIE X d σ tg R) X.xe s1) X.xe s
theorem Ie (f:s.heap.get? it=some o) (hc:o.cls = .type n) (hd:o.data = .fields vs) (hn: ["enumerate","zip","dict_itemiterator","dict_reverseitemiterator","odict_iterator","itertools.zip_longest","itertools.pairwise"].contains n=false) (d:Q () s):wpAny M A (letOwnedTupleGo tg (.ref it) u) Q E s:=by
  cases tg<;>first
    |exact wpAny_pure d
    |(cases u<;>first
        |exact wpAny_pure d
        |(
           refine wpAny_bind (wpAny_load f ?_);rw[hc,hd];show wpAny M A (if(["enumerate","zip","dict_itemiterator","dict_reverseitemiterator","odict_iterator","itertools.zip_longest","itertools.pairwise"].contains n&&vs[0]? == some _)=true then _ else _) Q E s;rw[if_neg (by lia)];exact wpAny_pure d))
noncomputable def Itl (K:W.Frag) (a:Addr):It:=
 ⟨fun i H=> ∃xs x,cT K H a xs/\xs[i]?=some x,fun i H x H'=>H'=H/\∀xs,cT K H a xs->xs[i]?=some x,fun i H=> ∃xs,cT K H a xs/\xs.length<=i⟩
noncomputable def Itt (K:W.Frag) (a:Addr):It:=
 ⟨fun i H=> ∃xs x,dX K H a xs/\xs[i]?=some x,fun i H x H'=>H'=H/\∀xs,dX K H a xs->xs[i]?=some x,fun i H=> ∃xs,dX K H a xs/\xs.length<=i⟩
noncomputable def Qk (lo:Int) (n:Nat):It:=⟨fun i _=>i<n,fun i H x H'=>H'=H/\x = .int (lo+i),fun i _=>n<=i⟩
theorem Lj {P:Program} {w:World} {K:W.Frag} {tg:Expr} (a it:Addr):Turn P w K tg (Itl K a) [it] it (fun i h=>h.IsListIter it a i) where
 mem:=by simp
 obj:=fun i h st b f=>by
  have e:b=it:=by simp_all
  subst e;obtain⟨o,e,c,d⟩:=st;exact⟨o,e,fun v z=>by simp_all⟩
 keep:=fun i h Z st k=>st.at fun o e=>k it (by simp) o e
 item:=by
  intro X Y hw J hc i j s σ H E I hf st hg;subst Y hw J;obtain⟨xs,x,y,hx⟩:=hg;obtain⟨F,O,p,hz⟩:=I.list y;obtain⟨u,hu,ru⟩:=O.get hx;obtain⟨f0,f1,f2,G,U,C⟩:=hf it (by simp);refine wpAny_pyNext_list_item st p.isList (x:=u) (by simp_all) fun Z m sb=>?_;have I1:=I.turned (t':=s.toks) (fun b o f e=>(sb.2 b f).trans e) f0 f1 G U C;obtain⟨o,e,c,d⟩:=id m;exact⟨u,rfl,Ie e c d (by decide) ⟨x,H,I1,ru,⟨rfl,fun ys hy=>by rw[I.HW hy y];exact hx⟩,m,fun b f=>(hf b f).1⟩⟩
 done:=by
  intro X Y hw J hc i j s σ H E I hf st hg;subst Y hw J;obtain⟨xs,y,hx⟩:=hg;obtain⟨F,O,p,hz⟩:=I.list y;obtain⟨f0,f1,f2,G,U,C⟩:=hf it (by simp);have hl:=O.length;exact wpAny_pyNext_list_end (I.ok.hd hc) st p.isList (by simp_all) fun Z eb=>⟨rfl,I.turned (fun b o f e=>eb b o f e) f0 f1 G U C⟩
 self:=fun _ _ _ _ _ st h=>wpAny_pyIter_listiter st h
theorem IL {P:Program} {w:World} {K:W.Frag} {tg:Expr} (a it:Addr):Turn P w K tg (Itt K a) [it] it (fun i h=>h.IsTupleIter it a i) where
 mem:=by simp
 obj:=fun i h st b f=>by
  have e:b=it:=by simp_all
  subst e;obtain⟨o,e,c,d⟩:=st;exact⟨o,e,fun v z=>by simp_all⟩
 keep:=fun i h Z st k=>st.at fun o e=>k it (by simp) o e
 item:=by
  intro X Y hw J hc i j s σ H E I hf st hg;subst Y hw J;obtain⟨xs,x,y,hx⟩:=hg;obtain⟨F,O,p,hz⟩:=I.tuple y;obtain⟨u,hu,ru⟩:=O.get hx;obtain⟨f0,f1,f2,G,U,C⟩:=hf it (by simp);refine wpAny_pyNext_tuple_item st ((p)) (x:=u) (by simp_all) fun Z m sb=>?_;have I1:=I.turned (t':=s.toks) (fun b o f e=>(sb.2 b f).trans e) f0 f1 G U C;obtain⟨o,e,c,d⟩:=id m;exact⟨u,rfl,Ie e c d (by decide) ⟨x,H,I1,ru,⟨rfl,fun ys hy=>by rw[I.E2 hy y];exact hx⟩,m,fun b f=>(hf b f).1⟩⟩
 done:=by
  intro X Y hw J hc i j s σ H E I hf st hg;subst Y hw J;obtain⟨xs,y,hx⟩:=hg;obtain⟨F,O,p,hz⟩:=I.tuple y;obtain⟨f0,f1,f2,G,U,C⟩:=hf it (by simp);have hl:=O.length;exact wpAny_pyNext_tuple_end (I.ok.hd hc) st ((p)) (by simp_all) fun Z eb=>⟨rfl,I.turned (fun b o f e=>eb b o f e) f0 f1 G U C⟩
 self:=fun _ _ _ _ _ st h=>wpAny_pyIter_tupleiter st h
theorem IM {P:Program} {w:World} {K:W.Frag} {tg:Expr} (it:Addr) (lo:Int) (n:Nat):Turn P w K tg (Qk lo n) [it] it (fun i h=>IsRangeIter h it (lo+(i:Nat)*1) ((n:Int)-(i:Nat)) 1) where
 mem:=by simp
 obj:=fun i h st b f=>by
  simp_all
 keep:=fun i h m st k=>k it (by simp) _ st
 item:=by
  intro X C hw z hc i d s σ H E I hf st hg;subst C hw z;obtain⟨f0,f1,J,x,y,u⟩:=hf it (by simp);have W:=Walks.range (prog:=X.prog) (w:=X.w) (I.ok.hd hc) it lo 1 n;refine W.item i s _ _ hg st fun v m tk G j F=>?_;obtain⟨t,rfl⟩:=G;have O:Inv X _ σ H {s with heap:=m,toks:=tk}:=I.turned (fun b o f e=>F b o (by simp_all) e) f0 f1 x y u;refine⟨_,rfl,Ie j rfl rfl (by decide) ⟨.int _,H,O,⟨t,?_⟩,⟨rfl,rfl⟩,j,fun b f=>(hf b f).1⟩⟩;rw[Int.mul_one]
 done:=by
  intro X C hw z hc i d s σ H E I hf st hg;obtain⟨f0,f1,J,x,y,u⟩:=hf it (by simp);exact wpAny_pyNext_range_end (I.ok.hd hc) st (by have:n<=i:=hg;lia) fun m U=>⟨rfl,I.turned (fun b o f e=>U b o f e) f0 f1 x y u⟩
 self:=fun _ _ _ _ _ st h=>wpAny_pyIter_rangeiter st h
section
theorem Hv {X:Cx} {tg:Expr} {d:List (Addr×Obj)} {σ:St} {H:Hp} {s:Shared} {R:It->Hp->Prop} {E:Value->Shared->Prop} {lo hi:Int} {t u v:Tok} {tk:Nat} (I:Inv X d σ H s) (h1 : -(2 ^ 62)<=lo) (i:lo<2 ^ 62) (m : -(2 ^ 62)<=hi) (j:hi<2 ^ 62)
  (q:R (Qk lo (hi-lo).toNat) H):wpAny (model X.prog X.w) X.A (pyIter (.ref s.heap.objs.size)) (PIE X d σ tg R) E {s with heap:=s.heap.push {cls:= .type "range",data:= .fields #[.int lo t,.int hi u,.int 1 v]},toks:=tk}:=by
 refine wpAny_pyIter_range (IsRange.new ..) (small_one h1 i m j) ?_;have f:Inv X _ σ H {s with heap:=s.heap.push {cls:= .type "range",data:= .fields #[.int lo t,.int hi u,.int 1 v]},toks:=tk}:=I.kept fun b o e=>Heap.get?_push_of_some _ e;refine⟨_,_,_,_,H,rfl,
  f.kept fun b o e=>Heap.get?_push_of_some _ e,IM _ lo _,?_,fun b y=>?_,q⟩
 ·have e1:lo+((0:Nat))*1=lo:=by simp
  have x:(((hi-lo).toNat))-((0:Nat))=Builtin.Range.rangeSize lo hi 1:=by rw[rangeSize_one];split<;>lia
  rw[e1,x];exact Heap.get?_push_size _ rfl
 ·have e:b=(s.heap.push {cls:= .type "range",data:= .fields #[.int lo t,.int hi u,.int 1 v]}).objs.size:=by simp_all
  subst e;exact f.JF (Nat.le_refl _) (f.hok.fresh (Nat.le_refl _))
def Nh (wi:TI) (g:TG) (u:TS):TS:=fun D σ H=>wi σ H fun J y=> ∃W:Nat->Nat->St->Hp->Prop,(∃m,W 0 m σ y)/\∀i m σ H,W i m σ H->
 (J.stop i H/\D.nx σ H)\/(J.go i H/\∃N:St->Hp->Prop,(∀d H',N d H'->∃j,j<m/\W (i+1) j d H')/\∀x H',J.yld i H x H'->g x σ H' fun f v=>u {D with nx:=N,ct:=N,bk:=D.nx} f v)
noncomputable def FY (d:List Addr) (h:Heap):List (Addr×Obj):=d.filterMap fun b=>(h.get? b).map fun o=>(b,o)
theorem rq (d:b∈fp) (e:h.get? b=some o):(b,o)∈FY fp h:=List.mem_filterMap.mpr ⟨b,d,by simp_all⟩
theorem Mf (hp:p∈FY fp h):p.1∈fp/\h.get? p.1=some p.2:=by
 obtain⟨b,d,e⟩:=List.mem_filterMap.mp hp;cases q:h.get? b<;>grind
theorem Inv.pinned (I:Inv X pins σ H s) (hf:∀b∈fp,D7 X pins H b) (j:∀b∈fp,∃o,s.heap.get? b=some o/\∀v,o.data≠ .cell v):Inv X (pins++FY fp s.heap) σ H s:=
 I.Cr fun p hp=>(List.mem_append.mp hp).elim (fun z=>I.pin p (List.mem_append_right _ z)) fun z=>by
  obtain⟨f,e⟩:=Mf z;obtain⟨f0,f1,m,_⟩:=hf _ f;obtain⟨o,i,d⟩:=j _ f;rw[e] at i;cases i;exact⟨e,f0,f1,m,d⟩
theorem Inv.unpinned (I:Inv X (pins++pl) σ H s):Inv X pins σ H s:=I.Cr fun p hp=>I.pin p (List.mem_append_right _ (List.mem_append_left _ hp))
theorem gn (hp:PassesOwn (model X.prog X.w) X.A X.env X.xe) (hc:X.calm=true) (hi:PI X tg iter wi) (hg:PG X tg g) (F:CB X body tb) (hs:∀x,foldedSetIterable iter X.env x=pure x:=by intro _;rfl):PS X (.For tg iter body [] pos) (Nh wi g tb):=by
 intro O s σ H D I h;refine wpAny_For (thn (hi _ s σ H _ I h) fun v s1 h1=>thn h1 fun itv s2 h2=>?_) hs;obtain⟨it,Z,tn,J,H2,e,I2,T,st2,f2,W,⟨m0,w0⟩,turn⟩:=h2;subst e

 have E:∀{H':Hp},(∀b∈Z,H' b=none)->∀b∈Z,D7 X _ H' b:=fun hn b F=>⟨hn b F,(f2 b F).2⟩;refine codeAny_forLoop_any (fun n s'=> ∃i z H',Inv X _ z H' s'/\tn i s'.heap/\(∀b∈Z,H' b=none)/\W i n z H') ?_ m0 ⟨0,σ,H2,I2,st2,fun b F=>(f2 b F).1,w0⟩;rintro n s3 ⟨i,σ3,H3,I3,Y,U,w3⟩;rcases turn i n _ H3 w3 with⟨stop,qn⟩|⟨go,N,hN,step⟩
 ·refine wpAny_passesOwn hp (thn (T.done X rfl rfl rfl hc i _ s3 _ H3 _ I3 (E U) Y stop) fun r s4 ⟨hr,I4⟩=>?_);subst hr;exact wpAny_execs_nil ⟨σ3,H3,I4,qn⟩
 ·refine wpAny_passesOwn hp (thn (T.item X rfl rfl rfl hc i _ s3 _ H3 _ I3 (E U) Y go) fun r s4 ⟨u,hr,h4⟩=>?_);subst hr;refine wpAny_passesOwn hp (thn h4 fun _ s5 ⟨x,H5,I5,r5,y5,G,fr5⟩=>?_);have I5':=I5.pinned (E fr5) (T.obj _ _ G);refine wpAny_passesOwn hp (thn (hg _ s5 _ H5 x u _ I5' r5 (step x H5 y5)) fun _ s6 ⟨σ6,H6,I6,q6⟩=>?_);refine wpAny_passesOwn hp (thn (F _ s6 _ H6 _ I6 q6) fun f s7 q7=>?_);have again:∀{j:St} {y:Hp},Inv X _ _ y s7->N _ y->∃m,m<n/\∃i z H',Inv X O z H' s7/\tn i _/\(∀b∈Z,H' b=none)/\W i m z H':=fun{j y} C P=>by
   obtain⟨m',hm,w7⟩:=hN _ y P;refine⟨m',hm,_,j,y,C.unpinned,T.keep _ _ _ G fun b F o e=>(C.pin _ (List.mem_append_right _ (List.mem_append_right _ (rq F e)))).1,fun b F=>?_,w7⟩;obtain⟨o,e,d⟩:=T.obj _ _ G b F;exact(C.pin _ (List.mem_append_right _ (List.mem_append_right _ (rq F e)))).2.1
  cases f with
  |next=>obtain⟨j,y,C,P⟩:=q7;exact again C P
  |cont=>obtain⟨j,y,C,P⟩:=q7;exact again C P
  |brk=>obtain⟨j,y,C,q7⟩:=q7;exact⟨j,y,C.unpinned,q7⟩
  |ret v=>obtain⟨x7,j,y,C,r7,q7⟩:=q7;exact⟨x7,j,y,C.unpinned,r7,q7⟩
end
theorem PD {K:W.Frag} {g:TG} {v:TS} {D:Ends} (Pv:Nat->St->Hp->Prop) (h0:Pv 0 σ H) (hl:∀i σ H,i<=xs.length->Pv i σ H->cT K H a xs) (hs:∀i x σ H,xs[i]?=some x->Pv i σ H->g x σ H fun f u=>v {D with nx:=Pv (i+1),ct:=Pv (i+1),bk:=D.nx} f u) (hd:∀σ H,Pv xs.length σ H->D.nx σ H):
  ∃W:Nat->Nat->St->Hp->Prop,(∃m,W 0 m σ H)/\∀i m σ H,W i m σ H->
   ((Itl K a).stop i H/\D.nx σ H)\/((Itl K a).go i H/\∃N:St->Hp->Prop,(∀d H',N d H'->∃z,z<m/\W (i+1) z d H')/\∀x H',(Itl K a).yld i H x H'->g x σ H' fun f u=>v {D with nx:=N,ct:=N,bk:=D.nx} f u):=by
 refine⟨fun i m σ H=>m=xs.length-i/\i<=xs.length/\Pv i σ H,⟨_,rfl,Nat.zero_le _,h0⟩,?_⟩;rintro i m σ H ⟨rfl,hi,p⟩;have q:=hl i σ H hi p;by_cases j:i<xs.length
 ·refine .inr ⟨⟨xs,xs[i],q,by simp_all⟩,_,fun d H' C=>⟨_,by lia,rfl,j,C⟩,fun x H' y=>?_⟩;obtain⟨e,y⟩:=y;subst e;exact hs i x σ _ (y xs q) p
 ·have e:i=xs.length:=by lia
  subst e;exact .inl ⟨⟨xs,q,Nat.le_refl _⟩,hd σ H p⟩
theorem Sm {K:W.Frag} {g:TG} {v:TS} {D:Ends} (Pv:Nat->St->Hp->Prop) (h0:Pv 0 σ H) (hl:∀i σ H,i<=xs.length->Pv i σ H->dX K H a xs) (hs:∀i x σ H,xs[i]?=some x->Pv i σ H->g x σ H fun f u=>v {D with nx:=Pv (i+1),ct:=Pv (i+1),bk:=D.nx} f u) (hd:∀σ H,Pv xs.length σ H->D.nx σ H):
  ∃W:Nat->Nat->St->Hp->Prop,(∃m,W 0 m σ H)/\∀i m σ H,W i m σ H->
   ((Itt K a).stop i H/\D.nx σ H)\/((Itt K a).go i H/\∃N:St->Hp->Prop,(∀d H',N d H'->∃z,z<m/\W (i+1) z d H')/\∀x H',(Itt K a).yld i H x H'->g x σ H' fun f u=>v {D with nx:=N,ct:=N,bk:=D.nx} f u):=by
 refine⟨fun i m σ H=>m=xs.length-i/\i<=xs.length/\Pv i σ H,⟨_,rfl,Nat.zero_le _,h0⟩,?_⟩;rintro i m σ H ⟨rfl,hi,p⟩;have q:=hl i σ H hi p;by_cases j:i<xs.length
 ·refine .inr ⟨⟨xs,xs[i],q,by simp_all⟩,_,fun d H' C=>⟨_,by lia,rfl,j,C⟩,fun x H' y=>?_⟩;obtain⟨e,y⟩:=y;subst e;exact hs i x σ _ (y xs q) p
 ·have e:i=xs.length:=by lia
  subst e;exact .inl ⟨⟨xs,q,Nat.le_refl _⟩,hd σ H p⟩
theorem MK {lo:Int} {g:TG} {v:TS} {D:Ends} (Pv:Nat->St->Hp->Prop) (h0:Pv 0 σ H) (hs:∀i σ H,i<n->Pv i σ H->g (.int (lo+i)) σ H fun j u=>v {D with nx:=Pv (i+1),ct:=Pv (i+1),bk:=D.nx} j u) (hd:∀σ H,Pv n σ H->D.nx σ H):
  ∃W:Nat->Nat->St->Hp->Prop,(∃m,W 0 m σ H)/\∀i m σ H,W i m σ H->
   ((Qk lo n).stop i H/\D.nx σ H)\/((Qk lo n).go i H/\∃N:St->Hp->Prop,(∀f H',N f H'->∃z,z<m/\W (i+1) z f H')/\∀x H',(Qk lo n).yld i H x H'->g x σ H' fun j u=>v {D with nx:=N,ct:=N,bk:=D.nx} j u):=by
 refine⟨fun i m σ H=>m=n-i/\i<=n/\Pv i σ H,⟨n,rfl,Nat.zero_le _,h0⟩,?_⟩;rintro i m σ H ⟨rfl,hi,p⟩;by_cases d:i<n
 ·refine .inr ⟨d,_,fun f H' C=>⟨_,by lia,rfl,d,C⟩,fun x H' y=>?_⟩;obtain⟨e,y⟩:=y;subst e y;exact hs i σ _ d p
 ·have e:i=n:=by lia
  subst e;exact .inl ⟨Nat.le_refl _,hd σ H p⟩
noncomputable abbrev R2:=V->V->Hp->VK->Prop
def gC (X:Cx) (f:Value->Value->Sem Value) (r:R2):Prop:=
 ∀(d:List (Addr×Obj)) (s:Shared) (σ:St) (H:Hp) (x y:V) (v u:Value) (Q:VK),Inv X d σ H s->RelV x v->RelV y u->r x y H Q->
  wpAny (model X.prog X.w) X.A (f v u) (EP X d σ Q) X.xe s
def UnR (X:Cx) (f:Value->Sem Value) (r:V->Hp->VK->Prop):Prop:=
 ∀(d:List (Addr×Obj)) (s:Shared) (σ:St) (H:Hp) (x:V) (v:Value) (Q:VK),Inv X d σ H s->RelV x v->r x H Q->
  wpAny (model X.prog X.w) X.A (f v) (EP X d σ Q) X.xe s
def b_ (X:Cx) (f:Value) (r:List V->Hp->VK->Prop):Prop:=
 ∀(d:List (Addr×Obj)) (s:Shared) (σ:St) (H:Hp) (xs:List V) (us:List Value) (Q:VK),Inv X d σ H s->Vals xs us->r xs H Q->
  wpAny (model X.prog X.w) X.A (call f us) (EP X d σ Q) X.xe s
def IF (r:R2) (j d:TE):TE:=fun σ H Q=>j σ H fun x i=>d σ i fun y f=>r x y f Q
def tUn (r:V->Hp->VK->Prop) (f:TE):TE:=fun σ H Q=>f σ H fun x d=>r x d Q
def rI (C:Int->Int->Prop) (g:Int->Int->V):R2:=fun x y H Q=>match x,y with
 | .int i,.int j=>C i j/\Q (g i j) H
 |_,_=>False
theorem Za (h:rI C g x y H Q):∃i j,x = .int i/\y = .int j/\C i j/\Q (g i j) H:=by
 unfold rI at h;split at h
 ·exact⟨_,_,rfl,rfl,h⟩
 ·exact h.elim
def Je (g:Int->Int->V):R2:=fun x y H Q=>match x,y with
 | .int i,.int j=>Q (g i j) H
 |_,_=>False
theorem N1 (h:Je g x y H Q):∃i j,x = .int i/\y = .int j/\Q (g i j) H:=by
 unfold Je at h;split at h
 ·exact⟨_,_,rfl,rfl,h⟩
 ·exact h.elim
def rU (g:Int->V):V->Hp->VK->Prop:=fun x H Q=>match x with
 | .int i=>Q (g i) H
 |_=>False
theorem Y3 (h:rU g x H Q):∃i,x = .int i/\Q (g i) H:=by
 unfold rU at h;split at h
 ·exact⟨_,rfl,h⟩
 ·exact h.elim
section
theorem YD {X:Cx} {a b:Expr} {E C:TE} (ha:PE X a E) (J:PE X b C) {d:List (Addr×Obj)} {s:Shared} {σ:St} {H:Hp} {R:V->V->Hp->Prop} (I:Inv X d σ H s)
  (h:E σ H fun x z=>C σ z fun y i=>R x y i) {Q:Value->Shared->Prop} {f:Value->Value->Sem Value}
  (hf:∀v u s2 x y i,Inv X d σ i s2->RelV x v->RelV y u->R x y i->wpAny (model X.prog X.w) X.A (f v u) Q X.xe s2):
  wpAny (model X.prog X.w) X.A (eval a X.env) (fun v m=>wpAny (model X.prog X.w) X.A (eval b X.env) (fun u j=>wpAny (model X.prog X.w) X.A (f v u) Q X.xe j) X.xe m) X.xe s:=by
 refine fS (ha _ s σ H _ I h) fun v s1 x z O F q1=>?_;refine fS (J _ s1 σ z _ O q1) fun u s2 y i G r2 q2=>?_;exact hf v u s2 x y i G F r2 q2
theorem aL (j:gC X (binaryOp op) r) (ha:PE X a ta) (z:PE X b tb):PE X (.BinOp a op b pos) (IF r ta tb):=by
 intro d s σ H Q I h;exact wpAny_BinOp (YD ha z I h fun v u s2 x y m i f C q=>j _ s2 σ m x y v u Q i f C q)
theorem Og (j:UnR X (unaryOp op) r) (ha:PE X a ta):PE X (.UnaryOp op a pos) (tUn r ta):=by
 intro d s σ H Q I h;exact UnaryOp_ (fS (ha _ s σ H _ I h) fun v s1 x f m i q1=>j _ s1 σ f x v Q m i q1)
theorem VJ {g:Int->Int->Int} (rule:∀(i j:Int) (t u:Tok) (s:Shared) (Q:Value->Shared->Prop) (E:Value->Shared->Prop),C i j->Q (.int (g i j) s.toks) {s with toks:=s.toks+1}->wpAny (model X.prog X.w) X.A (f (.int i t) (.int j u)) Q E s):
  gC X f (rI C fun i j=> .int (g i j)):=by
 intro d s σ H x y v u Q I m z h;obtain⟨i,j,rfl,rfl,hc,q⟩:=Za h;obtain⟨t,rfl⟩:=m;obtain⟨t',rfl⟩:=z;exact rule i j t t' s _ _ hc ⟨.int _,H,I.tok _,⟨_,rfl⟩,q⟩
theorem Me {g:Int->Int->Int} (rule:∀(i j:Int) (t u:Tok) (s:Shared) (Q:Value->Shared->Prop) (E:Value->Shared->Prop),Q (.int (g i j) s.toks) {s with toks:=s.toks+1}->wpAny (model X.prog X.w) X.A (f (.int i t) (.int j u)) Q E s):
  gC X f (Je fun i j=> .int (g i j)):=by
 intro d s σ H x y v u Q I m z h;obtain⟨i,j,rfl,rfl,q⟩:=N1 h;obtain⟨t,rfl⟩:=m;obtain⟨t',rfl⟩:=z;exact rule i j t t' s _ _ ⟨.int _,H,I.tok _,⟨_,rfl⟩,q⟩
theorem RG {g:Int->Int->Bool} (rule:∀(i j:Int) (t u:Tok) (s:Shared) (Q:Value->Shared->Prop) (E:Value->Shared->Prop),Q (.bool (g i j)) s->wpAny (model X.prog X.w) X.A (f (.int i t) (.int j u)) Q E s):
  gC X f (Je fun i j=> .bl (g i j)):=by
 intro d s σ H x y v u Q I m z h;obtain⟨i,j,rfl,rfl,q⟩:=N1 h;obtain⟨t,rfl⟩:=m;obtain⟨t',rfl⟩:=z;exact rule i j t t' s _ _ ⟨.bl _,H,I,rfl,q⟩
def agz (i j:Int):Prop:=0<j/\j<1073741824
def Qp (i j:Int):Prop:=(-(2 ^ 64)<i/\i<2 ^ 64)\/(-(2 ^ 64)<j/\j<2 ^ 64)
theorem Qp.ok (h:Qp i j):IntMulOk i j:=by
 rcases h with⟨h1,d⟩|⟨h1,d⟩
 ·exact .of_left (intBits_le_64 h1 d)
 ·exact .of_right (intBits_le_64 h1 d)
theorem IK (k:Nat):(0:Int)<=2 ^ k:=by
 rw[two_pow_cast];exact Int.natCast_nonneg _
theorem VI:gC X (binaryOp .Add) (Je fun i j=> .int (i+j)):=Me fun _ _ _ _ _ _ _ q=>add_int q
theorem dA:gC X (binaryOp .Sub) (Je fun i j=> .int (i-j)):=Me fun _ _ _ _ _ _ _ q=>sub_int q
theorem kN:gC X (binaryOp .Mult) (rI Qp fun i j=> .int (i*j)):=VJ fun _ _ _ _ _ _ _ hc q=>mul_int q hc.ok
theorem cB:gC X (binaryOp .FloorDiv) (rI agz fun i j=> .int (i / j)):=VJ fun i j _ _ _ _ _ hc q=>by
 have h1:=hc.1;have d:=hc.2;exact floordiv_int (by lia) (by rw[Int.fdiv_eq_ediv_of_nonneg i (by lia)];exact q) (.inl (PyProof.noPylong_small (by lia)))
theorem b8:gC X (binaryOp .Mod) (rI (fun _ j=>0<j) fun i j=> .int (i % j)):=VJ fun i j _ _ _ _ _ hc q=>by
 exact mod_int' (by lia) (by rw[Int.fmod_eq_emod_of_nonneg i (by lia)];exact q)
theorem mz:gC X (binaryOp .RShift) (rI (fun _ j=>0<=j) fun i j=> .int (i / 2 ^ j.toNat)):=VJ fun i j _ _ _ _ _ hc q=>
 rshift_int hc (by rw[Int.fdiv_eq_ediv_of_nonneg i (IK _)];exact q)
theorem wH:gC X (binaryOp .BitAnd) (Je fun i j=> .int (Builtin.bitAnd i j)):=Me fun _ _ _ _ _ _ _ q=>and_int q
theorem vK:gC X (binaryOp .BitOr) (Je fun i j=> .int (Builtin.bitOr i j)):=Me fun _ _ _ _ _ _ _ q=>or_int q
theorem VC:gC X (binaryOp .BitXor) (Je fun i j=> .int (Builtin.bitXor i j)):=Me fun _ _ _ _ _ _ _ q=>xor_int q
theorem rB:gC X (inplaceOp .Add) (Je fun i j=> .int (i+j)):=Me fun _ _ _ _ _ _ _ q=>iadd_int q
theorem unI {g:Int->Int} (rule:∀(i:Int) (t:Tok) (s:Shared) (Q:Value->Shared->Prop) (E:Value->Shared->Prop),Q (.int (g i) s.toks) {s with toks:=s.toks+1}->wpAny (model X.prog X.w) X.A (f (.int i t)) Q E s):
  UnR X f (rU fun i=> .int (g i)):=by
 intro d s σ H x v Q I j h;obtain⟨i,rfl,q⟩:=Y3 h;obtain⟨t,rfl⟩:=j;exact rule i t s _ _ ⟨.int _,H,I.tok _,⟨_,rfl⟩,q⟩
theorem IJ:UnR X (unaryOp .USub) (rU fun i=> .int (-i)):=unI fun _ _ _ _ _ q=>neg_int q
end
noncomputable def scal:V->V->Bool
 | .non,.non=>true | .non,.int _=>true | .int _,.non=>true | .non,.bl _=>true | .bl _,.non=>true | .non,.str _=>true | .str _,.non=>true
 | .int _,.int _=>true | .bl _,.bl _=>true | .str _,.str _=>true | .byt _,.byt _=>true
 | .int _,.str _=>true | .str _,.int _=>true | .bl _,.str _=>true | .str _,.bl _=>true
 |_,_=>false
def Zb:R2:=fun x y H Q=>scal x y=true/\Q (.bl (decide (x=y))) H
def Y6:R2:=fun x y H Q=>scal x y=true/\Q (.bl (!decide (x=y))) H
theorem K6:decide (V.int i=V.int j)=(i == j):=by
 rw[Bool.eq_iff_iff];simp
theorem PZ:decide (V.bl i=V.bl j)=(i == j):=by
 rw[Bool.eq_iff_iff];simp
theorem K5:decide (V.str i=V.str j)=(i == j):=by
 rw[Bool.eq_iff_iff];simp
theorem K7:decide (V.byt i=V.byt j)=(i.toList == j.toList):=by
 rw[Bool.eq_iff_iff];cases i;cases j;simp
section
theorem bU (I:Inv X pins σ H s) (q:Q (.bl k) H) (e:k=k'):EP X pins σ Q (.bool k') s:=by
 subst e;exact⟨.bl k,H,I,rfl,q⟩
theorem Zi:gC X (compareOp .Eq) Zb:=by
 intro m s σ H x y v u Q I f d h;obtain⟨hs,q⟩:=h;cases x with
 |non=>
  cases f;cases y with
  |non=>cases d;exact PySem.EqNone.eq_none_none (bU I q (rfl))
  |bl j=>cases d;exact PySem.EqNone.eq_none_bool (bU I q (rfl))
  |int j=>obtain⟨t',rfl⟩:=d;exact PySem.EqNone.eq_none_int (bU I q (rfl))
  |str j=>obtain⟨t',rfl⟩:=d;exact PySem.EqNone.eq_none_str (bU I q (rfl))
  |_=>trivial
 |bl i=>
  cases f;cases y with
  |non=>cases d;exact PySem.EqNone.eq_bool_none (bU I q (rfl))
  |bl j=>cases d;exact eq_bool (bU I q PZ)
  |str j=>obtain⟨t',rfl⟩:=d;exact PySem.EqMixed.eq_bool_str (bU I q (rfl))
  |_=>trivial
 |int i=>
  obtain⟨t,rfl⟩:=f;cases y with
  |non=>cases d;exact PySem.EqNone.eq_int_none (bU I q (rfl))
  |int j=>obtain⟨t',rfl⟩:=d;exact eq_int (bU I q K6)
  |str j=>obtain⟨t',rfl⟩:=d;exact PySem.EqMixed.eq_int_str (bU I q (rfl))
  |_=>trivial
 |str i=>
  obtain⟨t,rfl⟩:=f;cases y with
  |non=>cases d;exact PySem.EqNone.eq_str_none (bU I q (rfl))
  |bl j=>cases d;exact PySem.EqMixed.eq_str_bool (bU I q (rfl))
  |int j=>obtain⟨t',rfl⟩:=d;exact PySem.EqMixed.eq_str_int (bU I q (rfl))
  |str j=>obtain⟨t',rfl⟩:=d;exact eq_str (bU I q K5)
  |_=>trivial
 |byt i=>
  obtain⟨t,rfl⟩:=f;cases y with
  |byt j=>obtain⟨t',rfl⟩:=d;exact W.eq_bytes (bU I q K7)
  |_=>trivial
 |_=>trivial
theorem Zh:gC X (compareOp .NotEq) Y6:=by
 intro m s σ H x y v u Q I f d h;obtain⟨hs,q⟩:=h;cases x with
 |non=>
  cases f;cases y with
  |non=>cases d;exact PySem.EqNone.ne_none_none (bU I q (rfl))
  |bl j=>cases d;exact PySem.EqNone.ne_none_bool (bU I q (rfl))
  |int j=>obtain⟨t',rfl⟩:=d;exact PySem.EqNone.ne_none_int (bU I q (rfl))
  |str j=>obtain⟨t',rfl⟩:=d;exact PySem.EqNone.ne_none_str (bU I q (rfl))
  |_=>trivial
 |bl i=>
  cases f;cases y with
  |non=>cases d;exact PySem.EqNone.ne_bool_none (bU I q (rfl))
  |bl j=>cases d;exact ne_bool (bU I q (congrArg _ PZ))
  |str j=>obtain⟨t',rfl⟩:=d;exact PySem.EqMixed.ne_bool_str (bU I q (rfl))
  |_=>trivial
 |int i=>
  obtain⟨t,rfl⟩:=f;cases y with
  |non=>cases d;exact PySem.EqNone.ne_int_none (bU I q (rfl))
  |int j=>obtain⟨t',rfl⟩:=d;exact ne_int (bU I q (congrArg _ K6))
  |str j=>obtain⟨t',rfl⟩:=d;exact PySem.EqMixed.ne_int_str (bU I q (rfl))
  |_=>trivial
 |str i=>
  obtain⟨t,rfl⟩:=f;cases y with
  |non=>cases d;exact PySem.EqNone.ne_str_none (bU I q (rfl))
  |bl j=>cases d;exact PySem.EqMixed.ne_str_bool (bU I q (rfl))
  |int j=>obtain⟨t',rfl⟩:=d;exact PySem.EqMixed.ne_str_int (bU I q (rfl))
  |str j=>obtain⟨t',rfl⟩:=d;exact ne_str (bU I q (congrArg _ K5))
  |_=>trivial
 |byt i=>
  obtain⟨t,rfl⟩:=f;cases y with
  |byt j=>obtain⟨t',rfl⟩:=d;exact W.ne_bytes (bU I q (congrArg _ K7))
  |_=>trivial
 |_=>trivial
theorem m_:gC X (compareOp .Lt) (Je fun i j=> .bl (decide (i<j))):=RG fun _ _ _ _ _ _ _ q=>lt_int q
theorem tE:gC X (compareOp .LtE) (Je fun i j=> .bl (decide (i<=j))):=RG fun _ _ _ _ _ _ _ q=>le_int q
theorem sC:gC X (compareOp .Gt) (Je fun i j=> .bl (decide (j<i))):=RG fun _ _ _ _ _ _ _ q=>gt_int q
theorem C8:gC X (compareOp .GtE) (Je fun i j=> .bl (decide (j<=i))):=RG fun _ _ _ _ _ _ _ q=>ge_int q
theorem Mc:gC X (compareOp .In) (fun x y H Q=> ∃i j,x = .str i/\y = .str j/\Q (.bl (!(Builtin.Str.occurrences j i 0 j.length 1).isEmpty)) H):=by
 intro d s σ H x y v u Q I f m h;obtain⟨i,j,rfl,rfl,q⟩:=h;obtain⟨t,rfl⟩:=f;obtain⟨t',rfl⟩:=m;exact in_str (bU I q rfl)
theorem VE:gC X (compareOp .Is) (fun x y H Q=>y = .non/\Q (.bl (decide (x = .non))) H):=by
 intro d s σ H x y v u Q I i f h;obtain⟨rfl,q⟩:=h;cases f;refine is_none_gen (bU I q ?_);cases x<;>first
  |rfl
  |(obtain⟨t,rfl⟩:=i;rfl)
theorem RB:gC X (compareOp .IsNot) (fun x y H Q=>y = .non/\Q (.bl (!decide (x = .non))) H):=by
 intro d s σ H x y v u Q I i f h;obtain⟨rfl,q⟩:=h;cases f;refine isnot_none_gen (bU I q ?_);cases x<;>first
  |rfl
  |(obtain⟨t,rfl⟩:=i;rfl)
theorem gC.or (h:gC X f r) (m:gC X f r'):gC X f (fun x y H Q=>r x y H Q\/r' x y H Q):=by
 intro j s σ H x y v u Q I i d q;rcases q with q|q
 ·exact h _ s σ H x y v u Q I i d q
 ·exact m _ s σ H x y v u Q I i d q
theorem nomark (b:Expr) {op:CmpOp} (h:op≠ .In:=by decide) (f:op≠ .NotIn:=by decide):behindInMarks op b=false:=by
 have e1:(op == CmpOp.In)=false:=by simp_all
 have d:(op == CmpOp.NotIn)=false:=by simp_all
 cases b<;>simp[behindInMarks,e1,d]
theorem Ct (j:gC X (compareOp op) r) (ha:PE X a ta) (z:PE X b tb) (hm:behindInMarks op b=false):PE X (.Compare a [op] [b] pos) (IF r ta tb):=by
 intro d s σ H Q I h;exact wpAny_Compare1 (YD ha z I h fun v u s2 x y m i f C q=>j _ s2 σ m x y v u Q i f C q) hm
def AZ (t:TE):TT:=fun σ H Q=>t σ H fun x H'=> ∃k,x = .bl k/\Q k H'
theorem Cq (m:gC X (compareOp op) r) (ha:PE X a ta) (F:PE X b tb) (hm:behindInMarks op b=false):PT X (.Compare a [op] [b] pos) (AZ (IF r ta tb)):=by
 intro d s σ H Q I h;refine wpAny_isTrue_Compare1 (fS (ha _ s σ H _ I h) fun v s1 x E J f q1=>fS (F _ s1 σ E _ J q1) fun u s2 y C j r2 q2=>
  thn (m _ s2 σ C x y v u _ j f r2 q2) fun c s3 ⟨z,O,G,i,k,e,q3⟩=>?_) hm
 subst e;cases i;exact wpAny_truthy_bool ⟨O,G,q3⟩
def IS (r v:R2) (C j E:TE):TE:=fun σ H Q=>C σ H fun x m=>j σ m fun y i=>r x y i fun z d=> ∃k,z = .bl k/\
 (if k=true then E σ d fun u f=>v y u f Q else Q (.bl false) d)
theorem C5 (P:gC X (compareOp op) r) (f:gC X (compareOp op') r') (ha:PE X a ta) (hb:PE X b tb) (hc:PE X c tc) (hm:lastMarks [op,op'] [b,c]=false:=by with_unfolding_all rfl):PE X (.Compare a [op,op'] [b,c] pos) (IS r r' ta tb tc):=by
 intro i s σ H Q I h;refine Compare_chain (fS (ha _ s σ H _ I h) fun v s1 x Z I1 C q1=>chain_link (fS (hb _ s1 σ Z _ I1 q1) fun u s2 y Y G r2 q2=>
  thn (P _ s2 σ Y x y v u _ G C r2 q2) fun d s3 ⟨z,m,j,E,k,e,q3⟩=>?_)) hm
 subst e;cases E;refine wpAny_truthy_bool ?_;cases k with
 |false=>exact ite_ff ⟨.bl _,m,j,rfl,q3⟩
 |true=>exact ite_tt (chain_last (fS (hc _ s3 σ m _ j q3) fun w' U z' F J O q4=>f _ U σ F y z' u w' Q J r2 O q4))
theorem HC (ho:gC X (compareOp op) r) (f:gC X (compareOp op') r') (ha:PE X a ta) (hb:PE X b tb) (hc:PE X c tc) (hm:lastMarks [op,op'] [b,c]=false:=by with_unfolding_all rfl):PT X (.Compare a [op,op'] [b,c] pos) (AZ (IS r r' ta tb tc)):=by
 intro i s σ H Q I h;refine isTrue_chain (fS (ha _ s σ H _ I h) fun v s1 x H1 I1 C q1=>test_link (fS (hb _ s1 σ H1 _ I1 q1) fun u s2 y H2 O r2 q2=>
  thn (ho _ s2 σ H2 x y v u _ O C r2 q2) fun d s3 ⟨z,m,j,E,k,e,q3⟩=>?_)) hm
 subst e;cases E;refine wpAny_truthy_bool ?_;cases k with
 |false=>
  obtain⟨k',G,F⟩:=q3;cases G;exact ite_ff ⟨m,j,F⟩
 |true=>
  refine ite_tt (test_last (fS (hc _ s3 σ m _ j q3) fun w' s4 z' J P U q4=>thn (f _ s4 σ J y z' u w' _ P r2 U q4) fun d' s5 ⟨z2,H5,Y,Z,k2,e2,q5⟩=>?_));subst e2;cases Z;exact wpAny_truthy_bool ⟨H5,Y,q5⟩
theorem zZ:(sizeLine:Nat)<2 ^ 63:=by rw[sizeLine_eq];decide
theorem Jj:gC X (binaryOp .Add) (fun x y H Q=> ∃i j,x = .str i/\y = .str j/\i.length+j.length<=sizeLine/\Q (.str (i++j)) H):=by
 intro d s σ H x y v u Q I f z h;obtain⟨i,j,rfl,rfl,m,q⟩:=h;obtain⟨t,rfl⟩:=f;obtain⟨t',rfl⟩:=z;exact add_str (fun t' tk=>⟨.str _,H,I.tok _,⟨_,rfl⟩,q⟩) m
theorem vals1 (r:Vals [x] us):∃u,us= [u]/\RelV x u:=by
 cases r with
 |cons d r2=>cases r2;exact⟨_,rfl,d⟩
theorem vals2 (r:Vals [x,y] us):∃u d,us= [u,d]/\RelV x u/\RelV y d:=by
 cases r with
 |cons f r2=>
  cases r2 with
  |cons j i=>cases i;exact⟨_,_,rfl,f,j⟩
theorem P_:b_ X (.builtin "abs") (fun xs H Q=> ∃i,xs= [.int i]/\Q (.int (if i<0 then -i else i)) H):=by
 intro d s σ H xs us Q I r h;obtain⟨i,rfl,q⟩:=h;obtain⟨u,rfl,t,rfl⟩:=vals1 r;exact call_abs_int fun u tk=>⟨.int _,H,I.tok _,⟨_,rfl⟩,q⟩
theorem MT (hc:X.calm=true):b_ X (.builtin "max") (fun xs H Q=> ∃i j,xs= [.int i,.int j]/\Q (.int (if j > i then j else i)) H):=by
 intro f s σ H xs us Q I r h;obtain⟨i,j,rfl,q⟩:=h;obtain⟨u,v,rfl,⟨t,rfl⟩,⟨t',rfl⟩⟩:=vals2 r;refine max_two_ints (I.ok.hd hc) fun m tk k=>⟨_,H,I.kept k,?_,q⟩;by_cases d:j > i
 ·rw[if_pos d,if_pos d];exact⟨_,rfl⟩
 ·rw[if_neg d,if_neg d];exact⟨_,rfl⟩
theorem MR (hc:X.calm=true):b_ X (.builtin "min") (fun xs H Q=> ∃i j,xs= [.int i,.int j]/\Q (.int (if j<i then j else i)) H):=by
 intro f s σ H xs us Q I r h;obtain⟨i,j,rfl,q⟩:=h;obtain⟨u,v,rfl,⟨t,rfl⟩,⟨t',rfl⟩⟩:=vals2 r;refine min_two_ints (I.ok.hd hc) fun m tk k=>⟨_,H,I.kept k,?_,q⟩;by_cases d:j<i
 ·rw[if_pos d,if_pos d];exact⟨_,rfl⟩
 ·rw[if_neg d,if_neg d];exact⟨_,rfl⟩
end
structure JV (h:Heap) (x dx C:Addr) (mA:Str->Option Value):Prop where
 obj:h.get? x=some (W.instObj C dx)
 ns:h.Ns1 dx mA
 ne:dx≠x
theorem Mp {h:Heap} (n:h.Ns1 dx mA):∃od,h.get? dx=some od/\∀name,W.lookIn name od=some (mA name):=by
 obtain⟨o,es,m,i,hd,hk,_,hm⟩:=n;refine⟨o,i,fun name=>?_⟩;have e:=hm name;unfold nsFind findBy at e;rw[<-Array.find?_toList] at e;unfold W.lookIn;rw[hd];dsimp only;split
 ·simp_all
 ·rename_i q;rw[q] at e;have a:es.toList.any (·.refKey)=false:=by
   rw[List.any_eq_false];intro y j;obtain⟨z,t,d⟩:=hk y (Array.mem_toList_iff.mp j);simp[DictEntry.refKey,d]
  have f: ¬es.toList.any (·.refKey)=true:=by lia
  rw[if_neg f];exact congrArg _ e
theorem JV.look (I:JV h x dx C mA):∃od,W.InstAt h x (W.instObj C dx) C (some od)/\∀name,W.lookIn name od=some (mA name):=
 let ⟨od,ho,hl⟩:=Mp I.ns
 ⟨od,⟨I.obj,rfl,rfl,ho⟩,hl⟩
section
variable {K:W.Frag}
theorem get_map (X:K.In s.heap) (I:JV s.heap x dx C mA) (hg:W.plainGet K C name=true) (hh:W.hasDictIn K C=true) (ha:W.findIn K (.ref C) name=some none) (f:mA name=some v) (d:W.handedIn v=true) (h:Q v {s with toks:=s.toks+1}):
  wpAny (model prog w) A (getAttr (.ref x) name expr) Q E s:=by
 obtain⟨od,J,hl⟩:=I.look;exact W.get_value X J (W.plainGet_of hg).1 (W.findObj_own hh ha rfl (by simp_all)) d h
theorem Pr (X:K.In s.heap) (I:JV s.heap x dx C mA) (hg:W.plainGet K C name=true) (hf:W.findIn K (.ref C) name=some (some (.ref f))) (ht:W.isFn K (.ref f)=true) (d:mA name=none) (h:Q (.ref f,[.ref x]) s):
  wpAny (model prog w) A (getMethod (.ref x) name pl) Q E s:=by
 obtain⟨od,J,hl⟩:=I.look;exact W.method_fn X J (W.plainGet_of hg).1 (W.plainGet_of hg).2 hf (beq_iff_eq.mp ht) (by show(W.lookIn _ od).map _=some _;rw[hl,d];rfl) h
theorem QU (X:K.In s.heap) (I:JV s.heap x dx C mA) (hs:W.findIn K (.ref C) "__setattr__" = some (some (.builtin "object.__setattr__"))) (hp:W.plainOver K C=true) (ht:W.takerIn K C name=some none) (hh:W.hasDictIn K C=true) (hw:PySem.Within mA ns) (hsz:ns.length<=sizeLine) (h:∀i,JV i x dx C (fun y=>if y=name then some v else mA y)->Heap.SameBut dx s.heap i->Q () {s with heap:=i,toks:=s.toks+2}):
  wpAny (model prog w) A (setAttr (.ref x) name v) Q E s:=by
 obtain⟨od,J,hl⟩:=I.look;refine W.set_plain X J hs (W.osa_open X J hp ht fun b=>?_);obtain⟨cd,hc,j⟩:=W.any_some hh;have hx:=I.obj;refine wpAny_bind (wpAny_pure (wpAny_bind (wpAny_bind (wpAny_loadPart hx (wpAny_bind (W.Looks.here (W.looks_clsIn X hc) ?_))))));rw[j];refine wpAny_pure (wpAny_bind (wpAny_pure (wpAny_bind ?_)));refine wpAny_nsSet1 I.ns fun i d f=>?_;obtain⟨H,G,F,m,z,u⟩:=d.count (PySem.Within.cons _ v hw);refine wpAny_bind (wpAny_lookBehind m (by rw[z];exact pastItsLine_dict (Nat.le_trans u (by simp_all))) ?_);exact wpAny_pure (h _ ⟨(f.2 _ (Ne.symm I.ne)).trans I.obj,d,I.ne⟩ f)
theorem Ow {R:Result->Shared->Prop} (X:K.In s.heap) (hm:W.makesIn K C=true) (hi:W.findIn K (.ref C) "__init__" = some (some (.ref f))) (hf:W.typeIn K (.ref f)=some (.type "function")) (h:codeAny (model prog w) (A.under (.builtin "type.__call__" ⟨.ref C::vs,kw⟩)) (.call (.ref f) ⟨.ref (s.heap.objs.size+1)::vs,kw⟩) (W.InitBack (s.heap.objs.size+1) R)
   {s with heap:=(s.heap.push W.emptyDict).push (W.instObj C s.heap.objs.size)}):
  codeAny (model prog w) A (.call (.ref C) ⟨vs,kw⟩) R s:=by
 exact W.make_core (W.makes_of X hm) (W.looks_findIn X hi) (fun self=>W.bind_fn X _ hf) (.inl rfl) h
theorem Mo {R:Result->Shared->Prop} (X:K.In s.heap) (hm:W.makesIn K C=true) (hi:W.findIn K (.ref C) "__init__" = some (some (.builtin "object.__init__"))) (d:∀self,W.Looks (model prog w) s.heap (bindSpecial (.builtin "object.__init__") self) (.builtin "object.__init__",[self])) (h:codeAny (model prog w) (A.under (.builtin "type.__call__" ⟨[.ref C],[]⟩)) (.call (.builtin "object.__init__") ⟨[.ref (s.heap.objs.size+1)],[]⟩) (W.InitBack (s.heap.objs.size+1) R)
   {s with heap:=(s.heap.push W.emptyDict).push (W.instObj C s.heap.objs.size)}):
  codeAny (model prog w) A (.call (.ref C) ⟨[],[]⟩) R s:=by
 exact W.make_core (W.makes_of X hm) (W.looks_findIn X hi) d (.inr ⟨rfl,rfl⟩) h
end
noncomputable def bQ (f:Str) (v:V):List (Str×V)->List (Str×V)
 | []=>[(f,v)]
 |(g,x)::r=>if g=f then(g,v)::r else(g,x)::bQ f v r
theorem A7 (f g:Str) (v:V):∀fs:List (Str×V),(bQ f v fs).lookup g=if g=f then some v else fs.lookup g
 | []=>by
  show List.lookup g [(f,v)]=_;by_cases h:g=f
  ·simp_all
  ·simp_all
 |(k,x)::r=>by
  have i:=A7 f g v r;rw[show bQ f v _=(if k=f then(k,v)::r else(k,x)::bQ f v r) from rfl];by_cases hk:k=f
  ·rw[if_pos hk];by_cases h:g=k
   ·simp_all
   ·have d:=beq_eq_false_iff_ne.mpr h;simp only[List.lookup,d,if_neg (fun e:g=f=>h (e.trans hk.symm))]
  ·rw[if_neg hk];by_cases h:g=k
   ·simp_all
   ·have d:=beq_eq_false_iff_ne.mpr h;simp only[List.lookup,d];exact i
theorem z8 (f:Str) (v:V):∀fs:List (Str×V),f∈(bQ f v fs).map (·.1)/\∀g,g∈fs.map (·.1)->g∈(bQ f v fs).map (·.1)
 | []=>⟨by simp[bQ],fun g h=>by simp_all⟩
 |(k,x)::r=>by
  obtain⟨d,i2⟩:=z8 f v r;rw[show bQ f v _=(if k=f then(k,v)::r else(k,x)::bQ f v r) from rfl];by_cases hk:k=f
  ·simp_all
  ·grind
theorem A8 (f:Str) (v:V):∀fs:List (Str×V),(bQ f v fs).length<=fs.length+1
 | []=>by simp[bQ]
 |(k,x)::r=>by
  have d:=A8 f v r;rw[show bQ f v _=(if k=f then(k,v)::r else(k,x)::bQ f v r) from rfl];by_cases hk:k=f
  ·simp_all
  ·simp_all
theorem sM.some_of (r:sM (some v) o):∃u,o=some u/\RelV v u:=by
 cases o with
 |none=>trivial
 |some u=>exact⟨u,rfl,r⟩
theorem sM.none_of (r:sM none o):o=none:=by
 cases o with
 |none=>rfl
 |some u=>trivial
theorem MG (r:RelV v u):W.handedIn u=true:=by
 cases v with
 |non=>cases((r));rfl
 |bl b=>cases((r));rfl
 |int i=>obtain⟨t,e⟩:=((r));cases e;rfl
 |str x=>obtain⟨t,e⟩:=((r));cases e;rfl
 |byt b=>obtain⟨t,e⟩:=((r));cases e;rfl
 |flt b=>obtain⟨t,e⟩:=((r));cases e;rfl
 |ref a=>cases((r));rfl
 |ty n=>cases((r));rfl
section
theorem Cw (hok:xN P w H h) (e:H a=some (.ins C dx fs)):∃i,JV h a dx C i/\(∀f,sM (fs.lookup f) (i f))/\PySem.Within i (fs.map (·.1))/\fs.length<=1000/\H dx=some (.own a):=by
 obtain⟨d,z,ne,ob,i,n,r,q⟩:=((hok a _ e));exact⟨i,⟨ob,n,ne⟩,r,q,z,d⟩
end
structure UR (K:W.Frag) (C:Addr):Prop where
 pg:W.plainGet K C Str.empty=true
 hd:W.hasDictIn K C=true
 po:W.plainOver K C=true
 sa:W.findIn K (.ref C) "__setattr__" = some (some (.builtin "object.__setattr__"))
theorem UR.get {K:W.Frag} (c:UR K C) (f:Str):W.plainGet K C f=true:=c.pg
def bB (K:W.Frag) (C:Addr) (f:Str):Prop:=W.findIn K (.ref C) f=some none
theorem bB.taker {K:W.Frag} (n:bB K C f):W.takerIn K C f=some none:=by
 unfold W.takerIn;rw[(n)];rfl
structure Meth (K:W.Frag) (C:Addr) (m:Str) (f:Addr):Prop where
 at_:W.findIn K (.ref C) m=some (some (.ref f))
 fn:W.isFn K (.ref f)=true
 kp:W.keepIn K (.ref f)=true
section
theorem Dm (I:Inv X pins σ H s) (e:H a=some (.ins C dx fs)) (c:UR X.K C) (n:bB X.K C f) (l:fs.lookup f=some v) (h:∀u d,Inv X pins σ H d->RelV v u->Q u d):wpAny (model X.prog X.w) A (getAttr (.ref a) f b) Q E s:=by
 obtain⟨m,O,r,_,_,_⟩:=Cw I.hok e;obtain⟨u,j,i⟩:=sM.some_of (by rw[<-l];exact r f);exact get_map I.nL O (c.get f) c.hd n j (MG i) (h u _ (I.tok _) i)
theorem n_ (I:Inv X pins σ H s) (e:H a=some (.ins C dx fs)) (c:UR X.K C) (k:Meth X.K C m g) (l:fs.lookup m=none) (h:Q (.ref g,[.ref a]) s):wpAny (model X.prog X.w) A (getMethod (.ref a) m pl) Q E s:=by
 obtain⟨d,O,r,_,_,_⟩:=Cw I.hok e;have hn:=sM.none_of (by rw[<-l];exact r m);exact Pr I.nL O (c.get m) k.at_ k.fn hn h
theorem CK (I:Inv X pins σ H s) (e:H a=some (.ins C dx fs)) (c:UR X.K C) (n:bB X.K C f) (hl:fs.length<1000) (J:RelV y u) (h:∀i,Inv X pins σ (upd H a (.ins C dx (bQ f y fs))) i->Q () i):wpAny (model X.prog X.w) A (setAttr (.ref a) f u) Q E s:=by
 obtain⟨x,O,r,wi,_,j⟩:=Cw I.hok e;have v:(fs.map (·.1)).length<=sizeLine:=by rw[List.length_map,sizeLine_eq];lia
 refine QU I.nL O c.sa c.po n.taker c.hd wi v fun m d F=>h _ ?_;have hd:∃o,m.get? dx=some o:=let ⟨o,_,_,e',_⟩:=d.ns;⟨o,e'⟩;refine I.write (by rw[e];exact True.intro) (.inr j) (fun b q G z=>(F.2 b G).trans z) hd ?_;refine⟨by rw[ak O.ne];exact j,?_,O.ne,d.obj,_,d.ns,fun g=>?_,fun g hg=>?_⟩
 ·have:=A8 f y fs;lia
 ·rw[A7];by_cases q:g=f
  ·rw[if_pos q,if_pos q];exact J
  ·simp_all
 ·by_cases q:g=f
  ·rw[q];exact(z8 f y fs).1
  ·refine(z8 f y fs).2 g (wi g fun z=>hg ?_);show(if g=f then some u else x g)=none;rw[if_neg q];exact z
theorem Inv.made (I:Inv X pins σ H s):Inv X pins σ (upd (upd H s.heap.objs.size (.own (s.heap.objs.size+1))) (s.heap.objs.size+1) (.ins C s.heap.objs.size []))
  {s with heap:=(s.heap.push W.emptyDict).push (W.instObj C s.heap.objs.size)}:=by
 have e1:(s.heap.push _).get? _=some W.emptyDict:=Heap.get?_push_size _ rfl;have i:=by
  have:=Heap.get?_push_size (s.heap.push W.emptyDict) (o:=W.instObj C s.heap.objs.size) rfl;rwa [Heap.size_push] at this
 have d:(s.heap.push _).Ns _ _:=⟨_,#[],_,e1,rfl,(fun e he=>absurd he (by simp)),fun _=>rfl⟩;have j:=I.laid (o:= .own (s.heap.objs.size+1)) (t':=s.toks) (fun b u q=>Heap.get?_push_of_some _ q) (Nat.le_refl _) ⟨_,e1⟩;refine j.laid (fun b u q=>Heap.get?_push_of_some _ q) (Nat.le_of_eq (Heap.size_push _ _)) ?_;have ne:s.heap.objs.size≠s.heap.objs.size+1:=Nat.ne_of_lt (Nat.lt_succ_self _);refine⟨by rw[ak ne,ar],Nat.zero_le _,ne,i,_,(Heap.Ns1.of_empty d).at fun o q=>Heap.get?_push_of_some _ q,fun _=>True.intro,fun y f=>absurd rfl f⟩
theorem SA (i:attributeBase e f env (eval e env)=eval e env) (h:wpAny (model prog w) A (eval e env) (fun o d=>wpAny (model prog w) A (getAttr o f true) Q E d) E s):wpAny (model prog w) A (eval (.Attribute e f pos) env) Q E s:=
 Attribute_any_ h (by rw[arm_eval_Attribute,i])
end
section
inductive yR (K:W.Frag) (H:Hp):V->Value->Prop where
 |non:yR K H .non (.type "NoneType")
 |bl (x:Bool):yR K H (.bl x) (.type "bool")
 |int (i:Int):yR K H (.int i) (.type "int")
 |str (x:Str):yR K H (.str x) (.type "str")
 |flt (x:UInt64):yR K H (.flt x) (.type "float")
 |lst {a:Addr} {xs:List V} (e:H a=some (.lst xs)):yR K H (.ref a) (.type "list")
 |frz {a:Addr} {o:Obj} {xs:List V} (e:H a=some (.frz o (.lst xs))):yR K H (.ref a) (.type "list")
 |tup {a:Addr} {xs:List V} (e:H a=some (.tup xs)):yR K H (.ref a) (.type "tuple")
 |dK {a:Addr} {kvs:List (Key×V)} (e:H a=some (.dK kvs)):yR K H (.ref a) (.type "dict")
 |dT {a:Addr} {kvs:List (List Key×V)} (e:H a=some (.dT kvs)):yR K H (.ref a) (.type "dict")
 |
   ins {a C dx:Addr} {fs:List (Str×V)} (e:H a=some (.ins C dx fs)) (cl:UR K C) (ha:W.findIn K (.ref C) "__class__" = some (some (.builtin "object.__class__")))
   (hn:W.specialIn K (.builtin "object.__class__") "__get__" = some (some (.builtin "getset_descriptor.__get__"))) (htk:W.takesIn K (.builtin "object.__class__")=some true)
   (hm:W.mroIn K C (.type "object")=some true):yR K H (.ref a) (.ref C)
theorem Mw (I:Inv X pins σ H s) (d:RelV x u) (ty:yR X.K H x t) (e:W.kitOne X.K t c=some b) (h:∀tk,Q (.bool b) {s with toks:=tk}):
  wpAny (model X.prog X.w) A (call (.builtin "isinstance") [u,c]) Q E s:=by
 cases ty with
 |non=>cases((d));exact W.kia_one W.kitx_none I.nL True.intro e (fun z=>nomatch z) h
 |bl y=>cases((d));exact W.kia_one W.kitx_bool I.nL True.intro e (fun z=>nomatch z) h
 |int i=>obtain⟨t,q⟩:=((d));cases q;exact W.kia_one W.kitx_int I.nL True.intro e (fun z=>nomatch z) h
 |str y=>obtain⟨t,q⟩:=((d));cases q;exact W.kia_one W.kitx_str I.nL True.intro e (fun z=>nomatch z) h
 |flt y=>obtain⟨t,q⟩:=((d));cases q;exact W.kia_one W.kitx_float I.nL True.intro e (fun z=>nomatch z) h
 | @lst a xs f=>
  cases((d));obtain⟨_,_,n,_,h1⟩:=((I.hok a _ f));exact W.kia_one W.kitx_list I.nL ⟨_,h1,rfl⟩ e (fun z=>nomatch z) h
 | @frz a ob xs f=>
  cases((d));obtain⟨_,_,_,n,_,h1⟩:=((I.hok a _ f));exact W.kia_one W.kitx_list I.nL ⟨_,h1,rfl⟩ e (fun z=>nomatch z) h
 | @tup a xs f=>
  cases((d));obtain⟨_,_,_,p⟩:=((I.hok a _ f));obtain⟨o,h1,j,_⟩:=p;exact W.kia_one W.kitx_tuple I.nL ⟨o,h1,j⟩ e (fun z=>nomatch z) h
 | @dK a m f=>
  cases((d));obtain⟨_,_,vs,_,p⟩:=((I.hok a _ f));obtain⟨o,es,v,h1,j,_⟩:=p;exact W.kia_one W.kitx_dict I.nL ⟨o,h1,j.1⟩ e (fun z=>nomatch z) h
 | @dT a m f=>
  cases((d));obtain⟨_,_,xs,_,o,es,v,h1,j,_⟩:=((I.hok a _ f));exact W.kia_one W.kitx_dict I.nL ⟨o,h1,j.1⟩ e (fun z=>nomatch z) h
 | @ins a C dx fs f cl ha hn htk hm=>
  cases((d));obtain⟨F,O,_⟩:=Cw I.hok f;obtain⟨od,J,_⟩:=O.look;exact W.kia_one (W.kitx_own (cl.get _) cl.hd ha hn htk hm) I.nL J e (fun z=>nomatch z) h
end
structure c6 (k:Nat) (A:Around):Prop where
 hd:A.handled=none
 dp:A.depth+3*k+5<recursionLimit
 un:A.units+16*k+200<cLine
theorem c6.mono (r:c6 k A) (h:j<=k):c6 j A:=⟨r.hd,by have:=r.dp;lia,by have:=r.un;lia⟩
theorem c6.deeper (r:c6 (k+1) A) (env:Env):c6 k (A.deeper env):=
 ⟨r.hd,by have:=r.dp;show A.depth+1+3*k+5<_;lia,by have:=r.un;show A.units+3+16*k+200<_;lia⟩
theorem Jx {A:Around}:(A.under (.builtin "type.__call__" ⟨.ref C::us,kw⟩)).depth=A.depth+1:=rfl
theorem Jv {A:Around}:(A.under (.builtin "type.__call__" ⟨.ref C::us,kw⟩)).units=A.units+1:=rfl
theorem c6.make (r:c6 (k+1) A) (C:Addr) (us:List Value) (kw:List (Str×Value)):c6 k (A.under (.builtin "type.__call__" ⟨.ref C::us,kw⟩)):=
 ⟨r.hd,by have:=r.dp;rw[Jx];lia,by have:=r.un;rw[Jv];lia⟩
theorem c6.depth (r:c6 k A):A.depth<recursionLimit:=by have:=r.dp;lia
theorem c6.units (r:c6 k A):A.units+64<cLine:=by have:=r.un;lia
def Ee:TA:=fun _ H Q=>Q [] H
def xT (i:TE) (j:TA):TA:=fun σ H Q=>i σ H fun x f=>j σ f fun xs d=>Q (x::xs) d
section
theorem jn:PA X [] Ee:=fun _ _ _ _ H Q I h=>Calls.spliced_nil ⟨[],H,I,.nil,h⟩
theorem KG (ha:PE X e te) (i:PA X es t) (hs:starEach (e::es) X.env=(false,eval e X.env)::starEach es X.env:=by rfl):PA X (e::es) (xT te t):=by
 intro pos d s σ H Q I h;rw[hs];refine Calls.spliced_cons (fS (ha _ s σ H _ I h) fun u s1 x v y f q1=>?_);exact fS (i _ _ s1 σ v _ y q1) fun us s2 xs m j r2 q2=>⟨_,m,j,.cons f r2,q2⟩
def UY (t:TA):TE:=fun σ H Q=>t σ H fun xs d=>xs.length<=sizeLine/\∀p,d p=none->Q (.ref p) (upd d p (.tup xs))
def U3 (t:TA):TE:=fun σ H Q=>t σ H fun xs d=>xs.length<=sizeLine/\∀p,d p=none->Q (.ref p) (upd d p (.lst xs))
theorem cJ {x1} (h:PA X es t):PE X (.Tuple es x1 pos) (UY t):=by
 intro d s σ H Q I i;refine wpAny_Tuple_spliced (thn (h _ _ s σ H _ I i) fun us s1 ⟨xs,j,f,r,z,q⟩=>⟨by rw[<-r.length];exact z,?_⟩);have hf:=f.hok.fresh (Nat.le_refl _);refine⟨.ref _,_,f.laid (fun b u e=>Heap.get?_push_of_some _ e) (Nat.le_refl _) ?_,rfl,q _ hf⟩;exact⟨z,us,r,⟨_,Heap.get?_push_size _ rfl,rfl,_,rfl⟩⟩
theorem jl (h:PA X es t):PE X (.List es pos) (U3 t):=by
 intro d s σ H Q I i;refine wpAny_List_spliced (thn (h _ _ s σ H _ I i) fun us s1 ⟨xs,j,f,r,z,q⟩=>⟨by rw[<-r.length];exact z,?_⟩);have hf:=f.hok.fresh (Nat.le_refl _);refine⟨.ref _,_,f.laid (fun b u e=>Heap.get?_push_of_some _ e) (Nat.le_refl _) ?_,rfl,q _ hf⟩;exact⟨z,us,0,r,Heap.get?_push_size _ rfl⟩
end
noncomputable abbrev Sp:=List V->Hp->VK->XK->Prop
noncomputable abbrev IE:=List Env->Hp->Shared->XK->Value->Shared->Prop
structure JX (P:Program) (w:World) (K:W.Frag) (mg:Str->Option Value) (base:Heap) (A:Around) (outer:List Env) (s:Shared) (H:Hp):Prop where
 frames:A.frames=some outer
 mod:Mod K mg base
 bs:∀b o,base.get? b=some o->s.heap.get? b=some o/\H b=none
 bsz:base.objs.size<=s.heap.objs.size
 funs:s.heap.FunFrames base outer
 frf:∀b∈frs outer,H b=none
 hok:xN P w H s.heap
 bare:AllBare s.gens
def CE (outer:List Env) (P:Program) (w:World) (H:Hp) (s:Shared) (Q:VK) (u:Value) (d:Shared):Prop:=
 ∃v H',d.os=s.os/\AllBare d.gens/\Un (frs outer) [] H H' s.heap d.heap/\xN P w H' d.heap/\RelV v u/\Q v H'
def CR (CX:IE) (outer:List Env) (P:Program) (w:World) (H:Hp) (s:Shared) (Q:VK) (E:XK) (r:Result) (d:Shared):Prop:=
 match r with
 | .ok (.ret u)=>CE outer P w H s Q u d
 | .ok _=>False
 | .error e=>CX outer H s E e d
structure yT (P:Program) (w:World) (K:W.Frag) (mg:Str->Option Value) (base:Heap) (CX:IE) (k:Nat) (f:Addr) (fd:FuncData) (ps:List Str) (sp:Sp):Prop where
 len:∀vs H Q E,sp vs H Q E->vs.length=ps.length
 run:∀(A:Around) (outer:List Env) (s:Shared) (H:Hp) (args:Args) (us:List Value) (vs:List V) (Q:VK) (E:XK),c6 k A->JX P w K mg base A outer s H->BindsTo s fd args (ps.zip us)->Vals vs us->sp vs H Q E->
  codeAny (model P w) A (.call (.ref f) args) (CR CX outer P w H s Q E) s
theorem JX.make {K:W.Frag} (e:JX P w K mg base A outer s H) (C:Addr) (us:List Value) (kw:List (Str×Value)):
  JX P w K mg base (A.under (.builtin "type.__call__" ⟨.ref C::us,kw⟩)) outer s H:=⟨by first|exact e.frames|rfl,e.mod,e.bs,e.bsz,e.funs,e.frf,e.hok,e.bare⟩
section
theorem Inv.Sr (I:Inv X pins σ H s):JX X.prog X.w X.K X.mg X.base X.A X.stack s H:=
 ⟨I.ok.frames,I.ok.mod,I.bs,Nat.le_trans I.ok.bsz I.sz,I.stack,I.Ck,I.hok,I.bare⟩
theorem Inv.after (I:Inv X pins σ H s) (h:CE X.stack X.prog X.w H s Q u s'):EP X pins σ Q u s':=by
 obtain⟨v,H',os,bare,un,hok,r,q⟩:=h;obtain⟨hh,g,d,t,f⟩:=s';obtain rfl:f=s.os:=os;exact⟨v,H',I.call un hok bare (fun b z=>absurd z (by simp)),r,q⟩
end
def E4 (sp:Sp) (d:List V) (E:XK) (t:TA):TE:=fun σ H Q=>t σ H fun vs f=>sp (vs++d) f Q E
def Nf (C:Addr) (sp:Sp) (f:List V) (E:XK) (t:TA):TE:=fun σ H Q=>t σ H fun vs d=> ∀x dx,d x=none->d dx=none->dx≠x->
 sp (.ref x::(vs++f)) (upd (upd d dx (.own x)) x (.ins C dx [])) (fun v i=>v = .non/\Q (.ref x) i) E
def Binds (K:W.Frag) (f:FuncData) (d:List Str) (ds:List Value):Prop:=
 ∀(s:Shared) (us:List Value),K.In s.heap->(us++ds).length=d.length->BindsTo s f ⟨us,[]⟩ (d.zip (us++ds))
theorem Binds.all {K:W.Frag} (h:∀us:List Value,us.length=ps.length->bindArgs fd ⟨us,[]⟩=pure (ps.zip us)):Binds K fd ps []:=fun s us _ hl=>by
 rw[List.append_nil] at hl⊢;exact .of_eq (h us hl)
def Passes (CX:IE) (X:Cx) (E:XK):Prop:= ∀(d:List (Addr×Obj)) (σ:St) (H:Hp) (s:Shared) (e:Value) (f:Shared),Inv X d σ H s->CX X.stack H s E e f->X.xe e f
section
theorem FQ (F:yT X.prog X.w X.K X.mg X.base CX k f fd ps sp) (m:c6 k X.A) (i:Binds X.K fd ps ds) (hd:Vals dvs ds) (hx:Passes CX X E) (I:Inv X pins σ H s) (r:Vals vs us) (h:sp (vs++dvs) H Q E):wpAny (model X.prog X.w) X.A (call (.ref f) us) (EP X pins σ Q) X.xe s:=by
 have r2:=r.append hd;have hl:(us++ds).length=ps.length:=by rw[<-r2.length];exact F.len _ _ _ _ h
 refine wpAny_call (codeAny_mono (F.run _ _ s H _ _ _ Q E m I.Sr (i s us I.nL hl) r2 h) fun r j d=>?_);cases r with
 |error e=>exact hx _ σ H s e j I d
 |ok v=>
  cases v with
  |ret u=>exact I.after d
  |next=>trivial
  |brk=>trivial
  |cont=>trivial
theorem KD (F:yT X.prog X.w X.K X.mg X.base CX k f fd ps sp) (u:c6 k X.A) (hg:Gl X x) (hm:X.mg x=some (.ref f)) (hk:W.keepIn X.K (.ref f)=true) (v:Binds X.K fd ps ds) (hd:Vals dvs ds) (hx:Passes CX X E) (ha:PA X (e::es) t) (i:(x == ("__debug__":Str))=false:=by decide) (he:starEach (e::es) X.env=(false,eval e X.env)::starEach es X.env:=by rfl) (d:(backTo pos (starEach es X.env)).any (·.1)=false:=by rfl):
  PE X (.Call (.Name x p) (e::es) [] pos) (E4 sp dvs E t):=by
 intro j s σ H Q I h;refine wpAny_Call_Name_kw (lO I hg hm ?_ i);refine W.callWith_K I.ok.mod.kin hk (fS (ha _ _ s σ H _ I h) fun us s1 vs y m r q=>⟨m.nL,?_⟩) he d;exact FQ F u v hd hx m r q
structure Mk (K:W.Frag) (C f:Addr):Prop where
 makes:W.makesIn K C=true
 init:W.findIn K (.ref C) "__init__" = some (some (.ref f))
 fn:W.isFn K (.ref f)=true
 kp:W.keepIn K (.ref C)=true
theorem NF (M:Mk X.K C f) (F:yT X.prog X.w X.K X.mg X.base CX k f fd ps sp) (y:c6 (k+1) X.A) (G:Binds X.K fd ps ds) (hd:Vals dvs ds) (hx:Passes CX X E) (I:Inv X pins σ H s) (r:Vals vs us) (h:∀x dx,H x=none->H dx=none->dx≠x->sp (.ref x::(vs++dvs)) (upd (upd H dx (.own x)) x (.ins C dx [])) (fun v z=>v = .non/\Q (.ref x) z) E):
  wpAny (model X.prog X.w) X.A (call (.ref C) us) (EP X pins σ Q) X.xe s:=by
 have j:=h _ _ (I.hok.fresh (Nat.le_succ _)) (I.hok.fresh (Nat.le_refl _)) (Nat.ne_of_lt (Nat.lt_succ_self _));have i:=Inv.made (C:=C) I;have r2:Vals (V.ref (s.heap.objs.size+1)::(vs++dvs)) _:= .cons rfl (r.append hd);have hl:=by
  have e:=r2.length;rw[F.len _ _ _ _ j] at e;exact e.symm
 refine wpAny_call (Ow I.nL M.makes M.init (beq_iff_eq.mp M.fn) (codeAny_mono (F.run _ _ _ _ _ _ _ _ E (y.make C us [])
  (i.Sr.make C us []) (G _ _ i.nL hl) r2 j) fun r m d=>?_))
 cases r with
 |error e=>exact hx _ σ _ _ e m i d
 |ok P=>
  cases P with
  |ret u=>
   obtain⟨v,H',O,J,ev,q3⟩:=i.after d;subst ev;exact⟨J,⟨V.ref _,H',O,rfl,q3⟩⟩
  |next=>trivial
  |brk=>trivial
  |cont=>trivial
theorem Ru (M:Mk X.K C f) (F:yT X.prog X.w X.K X.mg X.base CX k f fd ps sp) (u:c6 (k+1) X.A) (hg:Gl X x) (hm:X.mg x=some (.ref C)) (v:Binds X.K fd ps ds) (hd:Vals dvs ds) (hx:Passes CX X E) (ha:PA X (e::es) t) (i:(x == ("__debug__":Str))=false:=by decide) (he:starEach (e::es) X.env=(false,eval e X.env)::starEach es X.env:=by rfl) (d:(backTo pos (starEach es X.env)).any (·.1)=false:=by rfl):
  PE X (.Call (.Name x p) (e::es) [] pos) (Nf C sp dvs E t):=by
 intro j s σ H Q I h;refine wpAny_Call_Name_kw (lO I hg hm ?_ i);refine W.callWith_K I.ok.mod.kin M.kp (fS (ha _ _ s σ H _ I h) fun us s1 vs y m r q=>⟨m.nL,?_⟩) he d;exact NF M F u v hd hx m r q
end
structure lQ (N P:List Str) (sc:Scope):Prop where
 kind:sc.kind = .function
 co:sc.isCoroutine=false
 gen:sc.isGenerator=false
 nd:N.Nodup
 pre:N.take P.length=P
 par:∀x∈P,sc.names.lookup x=some .local\/sc.names.lookup x=some .cell
 nofree:∀y∈sc.names,y.2≠ .free
theorem Ft {kindOf:Str->Option NameKind}:∀{binds:List (Str×Value)} {m:Str->Option Value},(∀v,(x,v) ∉ binds)->bindL kindOf binds m x=m x
 | [],_,_=>rfl
 |(n,v)::r,m,h=>by
  unfold bindL;rw[Ft fun w hw=>h w (List.mem_cons_of_mem _ hw)];split
  ·grind
  ·rfl
theorem Fv {kindOf:Str->Option NameKind}:∀{binds:List (Str×Value)} {m:Str->Option Value},(∀v,(x,v) ∉ binds)->bindC kindOf binds m x=m x
 | [],_,_=>rfl
 |(n,v)::r,m,h=>by
  unfold bindC;rw[Fv fun w hw=>h w (List.mem_cons_of_mem _ hw)];split
  ·rfl
  ·grind
theorem Fu {kindOf:Str->Option NameKind}:∀{P:List Str} {vs:List Value} {i:Nat} {m:Str->Option Value},P.Nodup->P[i]?=some x->vs[i]?=some v->kindOf x=some .local->
  bindL kindOf (P.zip vs) m x=some v
 | [],_,_,_,_,h,_,_=>by trivial
 |_::_,[],_,_,_,_,h,_=>by trivial
 |p::P,w::vs,0,m,nd,h1,h2,hk=>by
  simp at h1 h2;subst h1;subst h2;show bindL _ ((p,w)::P.zip vs) m p=_;unfold bindL;rw[Ft fun v d=>(List.nodup_cons.mp nd).1 (List.of_mem_zip d).1,if_pos hk];simp
 |p::P,w::vs,i+1,m,nd,h1,h2,hk=>by
  unfold bindL;exact Fu (List.nodup_cons.mp nd).2 (‹_›) (‹_›) hk
theorem Fw {kindOf:Str->Option NameKind}:∀{P:List Str} {vs:List Value} {i:Nat} {m:Str->Option Value},P.Nodup->P[i]?=some x->vs[i]?=some v->kindOf x≠some .local->
  bindC kindOf (P.zip vs) m x=some v
 | [],_,_,_,_,h,_,_=>by trivial
 |_::_,[],_,_,_,_,h,_=>by trivial
 |p::P,w::vs,0,m,nd,h1,h2,hk=>by
  simp at h1 h2;subst h1;subst h2;show bindC _ ((p,w)::P.zip vs) m p=_;unfold bindC;rw[Fv fun v d=>(List.nodup_cons.mp nd).1 (List.of_mem_zip d).1,if_neg hk];simp
 |p::P,w::vs,i+1,m,nd,h1,h2,hk=>by
  unfold bindC;exact Fw (List.nodup_cons.mp nd).2 (‹_›) (‹_›) hk
noncomputable def start (N:List Str) (vs:List V):St:=vs.map some++List.replicate (N.length-vs.length) none
noncomputable def DT (CX:IE) (P:Program) (w:World) (K:W.Frag) (mg:Str->Option Value) (base:Heap) (N:List Str) (qual:Str) (scope:Scope) (f:Addr) (cd:Value) (A:Around) (outer:List Env) (s:Shared) (H:Hp) (E:XK):Cx where
 prog:=P
 w:=w
 K:=K
 mg:=mg
 base:=base
 A:=A.deeper (envOfC qual scope s.heap.objs.size f cd)
 N:=N
 s₀:=s
 H₀:=H
 env:=envOfC qual scope s.heap.objs.size f cd
 outer:=outer
 stack:=envOfC qual scope s.heap.objs.size f cd::outer
 ex:=[]
 calm:=true
 fn:=fun _=>true
 pn:=[]
 xe:=fun e i=>wpAny (model P w) (A.deeper (envOfC qual scope s.heap.objs.size f cd)) (leaving (envOfC qual scope s.heap.objs.size f cd) e) (fun _ d=>CX outer H s E e d) (fun j d=>CX outer H s E j d) i
theorem Iu {sc:Scope} {n:Nat} {x:Str} (h:sc.names.lookup x=some .cell):∃c,(cellsFrom n sc.names []).lookup x=some c:=by
 have q:=W.cellsFrom_some _ n [] (.inl h);exact Option.isSome_iff_exists.mp q
theorem Mz {CX:IE} {P:Program} {w:World} {K:W.Frag} {mg:Str->Option Value} {base:Heap} {N j:List Str} {qual:Str} {scope:Scope} {f:Addr} {cd:Value} {A:Around} {outer:List Env} {s s1:Shared} {H:Hp} {E:XK} {us:List Value} {vs:List V}
  (S:lQ N j scope) (hd:A.handled=none) (e0:JX P w K mg base A outer s H) (hl:vs.length=j.length) (r:Vals vs us)
  (x:InCallC s s.heap.objs.size (bindL (envOfC qual scope s.heap.objs.size f cd).kindOf (j.zip us) fun _=>none) (cellsFrom (s.heap.objs.size+1) scope.names []) (bindC (envOfC qual scope s.heap.objs.size f cd).kindOf (j.zip us) fun _=>none) s1):
  Inv (DT CX P w K mg base N qual scope f cd A outer s H E) [] (start N vs) H s1:=by
 have I:j.length<=N.length:=by have:=congrArg List.length S.pre;rw[List.length_take] at this;lia
 obtain⟨h1,tk,rfl,hk⟩:=x.done;have m:∀b,b ∉ (DT CX P w K mg base N qual scope f cd A outer s H E).ex:=fun b z=>absurd (show b∈([]) from z) (by simp);refine⟨⟨e0.mod,S.kind,rfl,rfl,Nat.le_refl _,fun y z c h1 d=>?_,fun y F=>?_,fun y c _ h=>?_,fun _=>hd,Around.frames_deeper e0.frames,.inr ⟨rfl,rfl⟩,fun b z=>absurd z (m b),e0.bs,e0.bsz,fun b _ _=>m b,fun b z=>absurd z (m b),e0.funs,e0.frf⟩,
  rfl,e0.bare,Un.kept hk,⟨_,x.toInCall.ns,fun i y v h1 d O=>?_⟩,fun y c h=>⟨_,x.cell y c h⟩,e0.hok.fresh (Nat.le_refl _),fun y c h=>?_,fun p hp=>absurd (show p∈([]) from hp) (by simp),e0.hok.kept hk,?_⟩
 ·exact name_of_addr x.apart (PySem.mem_of_lookup h1) (PySem.mem_of_lookup d)
 ·rcases F with F|F
  ·exact Iu F
  ·exact absurd rfl (S.nofree _ (PySem.mem_of_lookup F))
 ·exact Nat.le_of_lt (x.above y c (PySem.mem_of_lookup h))
 ·have hi:i<vs.length:=by
   unfold start at d;by_cases hi:i<vs.length
   ·exact hi
   ·rw[List.getElem?_append_right (by simpa using hi)] at d;rw[List.getElem?_replicate] at d;split at d<;>cases d
  have ha:vs[i]?=some v:=by
   unfold start at d;rw[List.getElem?_append_left (by simpa using hi)] at d;cases e:vs[i]?<;>simp_all
  obtain⟨u,G,J⟩:=r.get ha;have hp:j[i]?=some y:=by
   rw[<-S.pre,List.getElem?_take_of_lt (by lia)];exact h1
  have C:j.Nodup:=by rw[<-S.pre];exact S.nd.sublist (List.take_sublist _ _)
  refine⟨u,J,?_⟩;rcases S.par y (List.mem_of_getElem? hp) with k|k
  ·exact .inl ⟨k,Fu C hp G k⟩
  ·obtain⟨c,e⟩:=Iu k;refine .inr ⟨.inl k,c,e,?_⟩;have q:=x.cell y c e;rw[Fw C hp G (by show scope.names.lookup y≠_;rw[k];decide)] at q;exact q
 ·exact e0.hok.fresh (Nat.le_of_lt (x.above y c (PySem.mem_of_lookup h)))
 ·unfold start;show _=N.length;rw[List.length_append,List.length_map,List.length_replicate];lia
theorem KY {CX:IE} {P:Program} {w:World} {K:W.Frag} {mg:Str->Option Value} {base:Heap} {k:Nat} {f:Addr} {name qual:Str} {params:Arguments} {body:List Stmt} {scope:Scope} {X kV doc pm d ct oc:Value} {an od:Option Addr}
  {G:Array (Option Value)} {N z:List Str} {sp:Sp} (lk:K.lookup f=some ⟨oc,od,.func (W.fnOf name qual params body scope X kV doc pm an d ct),G⟩) (U:W.codeIn K d qual=true) (S:lQ N z scope)
  (len:∀vs H Q E,sp vs H Q E->vs.length=z.length)
  (
   hbody:∀(A:Around) (outer:List Env) (s:Shared) (H:Hp) (vs:List V) (Q:VK) (E:XK),c6 k (A.deeper (envOfC qual scope s.heap.objs.size f d))->sp vs H Q E->
   ∃t,CB (DT CX P w K mg base N qual scope f d A outer s H E) body t/\t {nx:=fun _ H'=>Q .non H',rt:=Q} (start N vs) H):
  yT P w K mg base CX (k+1) f (W.fnOf name qual params body scope X kV doc pm an d ct) z sp:=by
 refine⟨len,fun A outer s H args us vs Q E F e0 hb r m=>?_⟩;have hl:=len _ _ _ _ m;have Y:=e0.mod.kin.keeps fun b o e=>(e0.bs b o e).1;have lim:=e0.mod.nolimit.keeps fun b o e=>(e0.bs b o e).1;have j:∀y∈z.zip us,scope.names.lookup y.1=some _\/(scope.names.lookup y.1=some _/\((cellsFrom (s.heap.objs.size+1) _ []).lookup y.1).isSome=true):=fun⟨n,v⟩ hy=>by
  rcases S.par n (List.of_mem_zip hy).1 with q|q
  ·exact .inl q
  ·exact .inr ⟨q,W.cellsFrom_some _ _ _ (.inl q)⟩
 refine codeAny_call_function F.depth (Y _ _ lk) rfl S.co S.gen rfl (W.codeRec_of Y U) (hb _ _ _ _ ?_);refine wpAny_newFunctionEnv_cells S.kind j fun env he s1 x=>?_;subst he;refine⟨lim.keeps x.toInCall.keep,codeAny_func ?_⟩;obtain⟨t,ht,Z⟩:=hbody A _ s H vs Q E (F.deeper _) m;have I:Inv (DT CX P w K mg _ N _ _ f _ A _ s H E) [] _ H s1:=Mz S F.hd e0 hl r x;refine wpAny_mono (ht [] s1 _ H _ I Z) (fun fl C hs=>?_) fun e C hs=>hs;have fin:∀{i:St} {H':Hp} {v:V} {u:Value},Inv (DT CX P w K mg base N qual scope f d A _ s H E) [] i H' C->RelV v u->Q v H'->CE outer P w H s Q u C:=
  fun{i H' v u} J O q=>⟨v,H',J.os,J.bare,J.base,J.hok,O,q⟩
 cases fl with
 |ret u=>
  obtain⟨v,i,H',J,O,q⟩:=hs;exact fin J O q
 |next=>
  obtain⟨i,H',J,q⟩:=hs;exact fin (v:=V.non) J rfl q
 |brk=>
  obtain⟨_,_,_,q⟩:=hs;exact False.elim q
 |cont=>
  obtain⟨_,_,_,q⟩:=hs;exact False.elim q
section
def YT (r:List V->Hp->VK->Prop) (t:TA):TE:=fun σ H Q=>t σ H fun vs d=>r vs d Q
theorem Oi {X:Cx} {x:Str} {p pos:Pos} {e:Expr} {es:List Expr} {t:TA} {id:String} {r:List V->Hp->VK->Prop} (hc:b_ X (.builtin id) r) (hg:Gl X x) (hm:X.mg x=none) (m:bootBuiltins x=some (.builtin id)) (ha:PA X (e::es) t) (hn:x≠ "__name__" :=by decide) (f:(x == ("__debug__":Str))=false:=by decide)
  (he:starEach (e::es) X.env=(false,eval e X.env)::starEach es X.env:=by rfl) (d:(backTo pos (starEach es X.env)).any (·.1)=false:=by rfl):PE X (.Call (.Name x p) (e::es) [] pos) (YT r t):=by
 intro i s σ H Q I h;refine wpAny_Call_Name_kw (wU I hg hm m ?_ hn f);exact PyProof.Rows.callWith_builtin1 (fS (ha _ _ s σ H _ I h) fun us s1 vs u v j q1=>hc _ s1 σ u vs us Q v j q1) he d
theorem L9 (hc:b_ X (.type T) r) (hg:Gl X x) (hm:X.mg x=none) (m:bootBuiltins x=some (.type T)) (ha:PA X (e::es) t) (hn:x≠ "__name__" :=by decide) (f:(x == ("__debug__":Str))=false:=by decide) (he:starEach (e::es) X.env=(false,eval e X.env)::starEach es X.env:=by rfl) (d:(backTo pos (starEach es X.env)).any (·.1)=false:=by rfl):PE X (.Call (.Name x p) (e::es) [] pos) (YT r t):=by
 intro i s σ H Q I h;refine wpAny_Call_Name_kw (wU I hg hm m ?_ hn f);exact PyProof.Rows.callWith_type1 (fS (ha _ _ s σ H _ I h) fun us s1 vs u v j q1=>hc _ s1 σ u vs us Q v j q1) he d
end
end L2
namespace HT
open PySem PyProof.Rows
section
open PySem.SeqAt
open PySem.AutoSeq1 (wpAny_loadPart')
open PySem.MeetsSeq PySem.MeetsSeq2 PySem.MeetsSeq3
end
section
theorem Sy (ht:IsTup s.heap t vs.toArray) (y:IsTup s.heap b ws.toArray) (C:vs≠[]) (h1:ws= []->Q (.ref t) s) (v:ws≠[]->Q (.ref s.heap.objs.size) {s with heap:=s.heap.push {cls:= .type "tuple",data:= .seq (vs++ws).toArray}}) (hsz:vs.length+ws.length<=sizeLine):wpAny (model prog w) A (binaryOp .Add (.ref t) (.ref b)) Q E s:=by
 obtain⟨⟨cls,dd,data,m⟩,f,hc,n,hd⟩:=id ht;obtain⟨⟨u,z,data2,x⟩,d,i,j,hd2⟩:=id y;subst hc hd i hd2;have e:vs.toArray++ws.toArray=(vs++ws).toArray:=by simp
 by_cases hw:ws= []
 ·exact concat_meets ⟨_,f,rfl⟩ ⟨_,d,rfl⟩ noFill_tuple_add seq_tuple_add PySem.F.slot_tuple_add PySem.F.entry_tuple_add (PySem.F.args_tuple_add_2 _ _)
   (tuple_addW1 t b _ _ n j dd _ m _ (by simp_all) (by simp_all)) ⟨f,d,h1 hw⟩
 ·refine concat_meets ⟨_,f,rfl⟩ ⟨_,d,rfl⟩ noFill_tuple_add seq_tuple_add PySem.F.slot_tuple_add PySem.F.entry_tuple_add (PySem.F.args_tuple_add_2 _ _)
   (tuple_addW2 t b _ _ n j dd _ m _ (by simp_all) (by simp_all) (by trivial)) ⟨f,d,?_⟩
  rw[e];exact v hw
noncomputable def qW (n d:Nat):Option Int->Nat
 |none=>d
 |some v=>if v<0 then(v+(n:Int)).toNat else min v.toNat n
theorem Cn (n d k:Nat):qW n d (some (k:Int))=min k n:=rfl
theorem agQ (n d:Nat) (hd:d<=n) (o:Option Int):qW n d o<=n:=by
 cases o with
 |none=>exact hd
 |some v=>
  show(if v<0 then(v+(n)).toNat else min _ n)<=n;by_cases f:v<0
  ·lia
  ·rw[if_neg f];exact Nat.min_le_right _ _
theorem K_ (v:Int) (n d:Nat):(if v<0 then max (v+(n:Int)) 0 else min v (n:Int))=((qW n d (some v):Nat):Int):=by
 show(if v<0 then max _ 0 else min v _)=(((if v<0 then(v+(n)).toNat else min _ n)));by_cases f:v<0
 ·simp_all
 ·lia
theorem JS (lo hi:Option Int) (n:Nat):Builtin.Slice.sliceAdjust lo hi 1 (n:Int)=(((qW n 0 lo:Nat):Int),((qW n n hi:Nat):Int)):=by
 refine Prod.ext ?_ ?_
 ·cases lo with
  |none=>rfl
  |some v=>exact K_ v n 0
 ·cases hi with
  |none=>rfl
  |some v=>exact K_ v n n
theorem Jf (i j:Nat):Builtin.Slice.slicePlaces (i:Int) (j:Int) 1=j-i:=by
 unfold Builtin.Slice.slicePlaces;have h1:(1:Int) > 0:=by lia
 simp;split<;>lia
theorem CJ (p:IsPart v o) (h:Q o s):wpAny (model prog w) A (Builtin.Slice.slicePartIndex v) Q E s:=by
 cases p with
 |none=>exact slicePart_none h
 |int i t=>exact slicePart_int h
theorem y8 {lo:Option Int} {Q:Int×Int×Nat->Shared->Prop} (hs:s.heap.IsSliceOf sl vl vu .none) (pl:IsPart vl lo) (pu:IsPart vu hi) (h:Q (((qW n 0 lo:Nat):Int),1,qW n n hi-qW n 0 lo) s):wpAny (model prog w) A (Builtin.Slice.sliceApplied (.ref sl) (pure (n:Int))) Q E s:=by
 obtain⟨os,d,i,f⟩:=id hs;refine wpAny_bind (wpAny_bind (wpAny_field d f (x:=vl) rfl (wpAny_bind (wpAny_field d f (x:=vu) rfl (wpAny_bind (wpAny_field d f rfl (wpAny_pure ?_)))))));refine wpAny_bind (slicePart_none ?_);refine wpAny_bind (CJ pl (wpAny_bind (CJ pu (wpAny_bind (wpAny_pure ?_)))));show wpAny _ _ (match Builtin.Slice.sliceAdjust lo hi 1 _ with|(lo,hi)=>pure (lo,(1:Int),Builtin.Slice.slicePlaces lo hi 1)) _ _ s
 rw[JS lo hi n];show wpAny _ _ (pure _) _ _ s;rw[Jf];exact wpAny_pure h
theorem Oa (xs:Array Value) (i k:Nat):((List.range k).filterMap fun(m:Nat)=>xs[((i:Int)+(m:Int)*1).toNat]?).toArray=((xs.toList.drop i).take k).toArray:=by
 have e:(fun(m:Nat)=>xs[((i)+(m:Int)*1).toNat]?)=fun m=>xs[i+m]?:=by
  grind
 rw[e];have:=pick_run xs i k;rw[List.filterMap_map] at this;have d:((fun x=>xs[x]?)∘fun x=>i+x)=fun m=>xs[i+m]?:=rfl;rw[d] at this;rw[this]
theorem yw {lo:Option Int} (ht:IsTup s.heap t items) (hs:s.heap.IsSliceOf u vl vu .none) (pl:IsPart vl lo) (pu:IsPart vu hi) (hw: ¬(qW items.size 0 lo=0/\qW items.size items.size hi=items.size)) (h:Q (.ref s.heap.objs.size) {s with heap:=s.heap.push {cls:= .type "tuple",data:= .seq ((items.toList.drop (qW items.size 0 lo)).take (qW items.size items.size hi-qW items.size 0 lo)).toArray}}) (hsz:items.size<=sizeLine):wpAny (model prog w) A (getItem (.ref t) (.ref u)) Q E s:=by
 have d:=by
  show((items.toList.drop (qW items.size 0 lo)).take (qW items.size items.size hi-qW items.size 0 lo)).toArray.size<=sizeLine;rw[List.size_toArray,List.length_take,List.length_drop,Array.length_toList];lia
 obtain⟨os,m,i,v⟩:=id hs;have f:s.TypeIs (.ref u) _:=⟨os,m,i⟩;unfold getItem
 try with_reducible refine wpAny_holding ?_
 refine wpAny_bind (wpAny_sequenceKey ht.typeIs (rfl) ?_);refine wpAny_bind (wpAny_callSpecial?_slot ht.typeIs PyProof.Rows.slot_tuple_getitem
  (wpAny_call_entry PyProof.Rows.slot_tuple_getitem ht.typeIs entry_tuple_getitem ?_ (args_tuple_getitem _ _)))
 show wpAny _ _ (Builtin.Tuple.tupleItemsOf _ >>= _) _ _ s;refine wpAny_bind (tupleItemsOf_ ht ?_);refine wpAny_bind (wpAny_typeOf f ?_);refine wpAny_bind (y8 hs pl pu ?_);have j: ¬((((qW items.size 0 lo):Int) == 0&&(1:Int) == 1&&(qW items.size items.size hi-qW items.size 0 lo) == items.size)=true):=by
  simp_all
 show wpAny _ _ (if(((qW _ 0 lo):Int) == 0&&(1) == 1&&(qW _ _ hi-qW _ 0 lo) == items.size)=true then _ else _) _ _ s;rw[if_neg j,Oa]
 first
  |lia
  |exact wpAny_bind (wpAny_newObj_type (wpAny_bind (wpAny_pure (wpAny_pure ⟨_,rfl,wpAny_pure h⟩))) d)
  |rfl
  |rfl
end
end HT
namespace L2
open PySem PySem.Spec PyProof.Rows
noncomputable abbrev TO:=St->Hp->(Option Int->Hp->Prop)->Prop
def PO (X:Cx) (e:Option Expr) (t:TO):Prop:=
 ∀(d:List (Addr×Obj)) (s:Shared) (σ:St) (H:Hp) (Q:Option Int->Hp->Prop),Inv X d σ H s->t σ H Q->
  wpAny (model X.prog X.w) X.A (evalPart e X.env) (fun u f=> ∃o H',Inv X d σ H' f/\IsPart u o/\Q o H') X.xe s
def J6:TO:=fun _ H Q=>Q none H
def SQ (t:TE):TO:=fun σ H Q=>t σ H fun x d=> ∃i,x = .int i/\Q (some i) d
section
theorem Ri:PO X none J6:=by
 intro d s σ H Q I h;exact wpAny_pure ⟨_,H,I,.none,h⟩
theorem rh (h:PE X e te):PO X (some e) (SQ te):=by
 intro d s σ H Q I hw;refine fS (h _ s σ H _ I hw) fun u s1 x j m f q1=>?_;obtain⟨i,rfl,q⟩:=q1;obtain⟨t,rfl⟩:=f;exact⟨_,j,m,.int i t,q⟩
def Lg (X:Cx) (r:V->Option Int->Option Int->Hp->VK->Prop):Prop:=
 ∀(d:List (Addr×Obj)) (s:Shared) (σ:St) (H:Hp) (x:V) (v i f:Value) (lo hi:Option Int) (j:Addr) (Q:VK),Inv X d σ H s->RelV x v->s.heap.IsSliceOf j i f .none->IsPart i lo->IsPart f hi->r x lo hi H Q->
  ∃T id,typeLookup (.type T) "__getitem__" = pure (some (.builtin id))/\s.TypeIs v T/\wpAny (model X.prog X.w) X.A (getItem v (.ref j)) (EP X d σ Q) X.xe s
theorem Lg.or (h:Lg X r) (u:Lg X r'):Lg X (fun x lo hi H Q=>r x lo hi H Q\/r' x lo hi H Q):=by
 intro f s σ H x v i j lo hi m Q I d hs pl pu q;rcases q with q|q
 ·exact h _ s σ H x v i j lo hi m Q I d hs pl pu q
 ·exact u _ s σ H x v i j lo hi m Q I d hs pl pu q
def tSl (r:V->Option Int->Option Int->Hp->VK->Prop) (te:TE) (tl th:TO):TE:=fun σ H Q=>te σ H fun x f=>tl σ f fun l d=>th σ d fun u i=>r x l u i Q
theorem ye {X:Cx} {e:Expr} {te:TE} {lo hi:Option Expr} {tl th:TO} {pos m:Pos} {r:V->Option Int->Option Int->Hp->VK->Prop} (z:Lg X r) (he:PE X e te) (hl:PO X lo tl) (U:PO X hi th):PE X (.Subscript e (.Slice lo hi none m) pos) (tSl r te tl th):=by
 intro d s σ H Q I h;refine Subscript_ (fS (he _ s σ H _ I h) fun v s1 x G P y q1=>?_);refine wpAny_Slice (fS (hl _ s1 σ G _ P q1) fun f s2 l F C pl q2=>fS (U _ s2 σ F _ C q2) fun i s3 u j O pu q3=>?_);refine wpAny_pure ?_;have E:Inv X _ σ j {s3 with heap:=s3.heap.push {cls:= .type "slice",data:= .fields #[f,i,.none]}}:=O.kept fun b ob q=>Heap.get?_push_of_some _ q;obtain⟨T,id,J,ht,hg⟩:=z _ _ σ j x v f i l u _ Q E y (Heap.IsSliceOf.new ..) pl pu q3;exact tail_any ht J hg (rfl)
noncomputable def DU (xs:List V) (lo hi:Option Int):List V:=(xs.drop (HT.qW xs.length 0 lo)).take (HT.qW xs.length xs.length hi-HT.qW xs.length 0 lo)
theorem A_ (xs:List V) (lo hi:Option Int):(DU xs lo hi).length<=xs.length:=by
 unfold DU;rw[List.length_take,List.length_drop];lia
def Y4 (K:W.Frag):V->Option Int->Option Int->Hp->VK->Prop:=fun x lo hi H Q=> ∃a xs,x = .ref a/\dX K H a xs/\
 ¬(HT.qW xs.length 0 lo=0/\HT.qW xs.length xs.length hi=xs.length)/\∀p,H p=none->Q (.ref p) (upd H p (.tup (DU xs lo hi)))
theorem U5:Lg X (Y4 X.K):=by
 intro f s σ H x v m u lo hi y Q I i hs pl pu h;obtain⟨a,xs,rfl,hx,hw,q⟩:=h;cases i;obtain⟨d,r,ht,j⟩:=I.tuple hx;have hlen:d.toArray.size=xs.length:=by exact r.length.symm
 refine⟨_,_,rfl,ht.typeIs,?_⟩;refine HT.yw ht hs pl pu (by rw[hlen];exact hw) ?_ (by simp_all);rw[hlen];refine⟨.ref _,_,I.laid (fun b ob q=>Heap.get?_push_of_some _ q) (Nat.le_refl _) ?_,rfl,q _ (I.hok.fresh (Nat.le_refl _))⟩;exact⟨Nat.le_trans (A_ xs lo hi) j,_,(r.drop _).take _,IsTup.new _ _⟩
def SW (K:W.Frag):R2:=fun x y H Q=> ∃a b xs d,x = .ref a/\y = .ref b/\dX K H a xs/\dX K H b d/\xs≠[]/\xs.length+d.length<=sizeLine/\
 (d= []->Q (.ref a) H)/\(d≠[]->∀p,H p=none->Q (.ref p) (upd H p (.tup (xs++d))))
theorem Vals.Gm (r:Vals xs us):us= []↔xs= []:=by
 cases r<;>simp_all
theorem RD:gC X (binaryOp .Add) (SW X.K):=by
 intro f s σ H x y v u Q I m J h;obtain⟨a,b,xs,O,rfl,rfl,ha,F,hx,E,q1,q2⟩:=h;cases m;cases J;obtain⟨C,d,G,_⟩:=I.tuple ha;obtain⟨i,r2,j,_⟩:=I.tuple F;refine HT.Sy G j (fun z=>hx (d.Gm.mp z)) (fun z=>⟨.ref a,H,I,rfl,q1 (r2.Gm.mp z)⟩) (fun z=>?_) (by rw[<-d.length,<-r2.length];exact E);refine⟨.ref _,_,I.laid (fun b ob q=>Heap.get?_push_of_some _ q) (Nat.le_refl _) ?_,rfl,q2 (fun w=>z (r2.Gm.mpr w)) _ (I.hok.fresh (Nat.le_refl _))⟩;exact⟨by simp_all,_,d.append r2,IsTup.new _ _⟩
end
noncomputable def M5 (n:Nat) (i:Int):Option Nat:=if 0<=i then(if i<n then some i.toNat else none) else if -(n:Int)<=i then some (i+n).toNat else none
noncomputable def j4 {α:Type} (xs:List α) (i:Int):Option α:=(M5 xs.length i).bind fun j=>xs[j]?
theorem KO (h:M5 n i=some j):seqIndex? i n=some j/\j<n/\-(n:Int)<=i/\i<n:=by
 unfold M5 at h;by_cases h0:0<=i
 ·rw[if_pos h0] at h;by_cases h1:i<n
  ·rw[if_pos h1] at h;have e:=Option.some.inj h;exact⟨by rw[seqIndex_of h0 h1,e],by lia,by lia,h1⟩
  ·simp_all
 ·rw[if_neg h0] at h;by_cases h1 : -(n)<=i
  ·rw[if_pos h1] at h;have e:=Option.some.inj h;exact⟨by rw[seqIndex_neg (by lia) h1,e],by lia,h1,by lia⟩
  ·simp_all
theorem GP {v:α} (h:j4 xs i=some v):∃j,seqIndex? i xs.length=some j/\xs[j]?=some v/\j<xs.length/\-(xs.length:Int)<=i/\i<xs.length:=by
 unfold j4 at h;cases e:M5 xs.length i with
 |none=>simp_all
 |some j=>
  rw[e] at h;obtain⟨h1,d,f,m⟩:=KO e;exact⟨j,h1,h,d,f,m⟩
theorem SD {j:Nat} {v:α} (h:xs[j]?=some v):j4 xs (j:Int)=some v:=by
 have d:=(List.getElem?_eq_some_iff.mp h).1;have e:M5 xs.length (j)=some j:=by
  unfold M5;rw[if_pos (by lia),if_pos (by lia)];simp
 unfold j4;rw[e];exact h
def G0 (b:Expr):Prop:= ∀o i,subscripted b false o i=operate [o,i] (getItem o i)
def IC (X:Cx) (r:R2):Prop:=
 ∀(value slice:Expr) (d:List (Addr×Obj)) (s:Shared) (σ:St) (H:Hp) (x y:V) (v u:Value) (Q:VK),Inv X d σ H s->RelV x v->RelV y u->r x y H Q->
  subscripted slice false v u=operate [v,u] (getItem v u)->wpAny (model X.prog X.w) X.A (subscriptTail value slice v u) (EP X d σ Q) X.xe s
def Qj (X:Cx) (id:String) (r:V->List V->Hp->VK->Prop):Prop:=
 ∀(d:List (Addr×Obj)) (s:Shared) (σ:St) (H:Hp) (x:V) (xs:List V) (v:Value) (us:List Value) (Q:VK),Inv X d σ H s->RelV x v->Vals xs us->r x xs H Q->
  wpAny (model X.prog X.w) X.A (call (.builtin id) (v::us)) (EP X d σ Q) X.xe s
section
variable {X:Cx} {o:Expr} {to:TE} {name:Str} {apos cpos:Pos} {T id:String} {r:V->List V->Hp->VK->Prop}
theorem IC.or {r i:R2} (h:IC X r) (m:IC X i):IC X (fun x y H Q=>r x y H Q\/i x y H Q):=by
 intro value slice f s σ H x y v u Q I d j q hs;rcases q with q|q
 ·exact h _ _ _ s σ H x y v u Q I d j q hs
 ·exact m _ _ _ s σ H x y v u Q I d j q hs
theorem SX {a b:Expr} {i d:TE} {pos:Pos} {r:R2} (m:IC X r) (ha:PE X a i) (E:PE X b d) (hs:G0 b):PE X (.Subscript a b pos) (IF r i d):=by
 intro f s σ H Q I h;exact Subscript_ (YD ha E I h fun v u s2 x y C z j F q=>m a b _ s2 σ C x y v u Q z j F q (hs _ _))
def Y_ (K:W.Frag):R2:=fun x y H Q=> ∃p xs i v,x = .ref p/\y = .int i/\cT K H p xs/\j4 xs i=some v/\Q v H
def Y8 (K:W.Frag):R2:=fun x y H Q=> ∃p xs i v,x = .ref p/\y = .int i/\dX K H p xs/\j4 xs i=some v/\Q v H
def Y9:R2:=fun x y H Q=> ∃z i c,x = .str z/\y = .int i/\z.length<=sizeLine/\j4 z.cps.toList i=some c/\Q (.str ⟨#[c]⟩) H
theorem RW:IC X (Y_ X.K):=by
 intro value slice C s σ H x y v u Q I F O h hs;obtain⟨p,xs,i,z,rfl,rfl,J,he,q⟩:=h;cases F;obtain⟨t,rfl⟩:=O;obtain⟨d,r,pl,U⟩:=I.list J;obtain⟨j,h1,E,Y,G,P⟩:=GP he;obtain⟨w,ew,f⟩:=r.get E;have hl:=r.length;have hn:=zZ;have fin:EP X _ σ Q w s:=⟨z,H,I,f,q⟩;by_cases h0:0<=i
 ·have m:=by
   rw[seqIndex_of h0 P] at h1;exact Option.some.inj h1
  exact item_listR pl.isList h0 (by lia) (by rw[m];simpa using ew) fin hs
 ·have m:(i+(d.toArray.size)).toNat=j:=by
   rw[seqIndex_neg (by lia) G] at h1;rw[List.size_toArray,<-hl];exact Option.some.inj h1
  exact subscriptTail_builtinR pl.isList.typeIs slot_list_getitem.lookup
   (wpAny_getItem_list_neg pl.isList (by lia) (by simp_all) (by lia) (by rw[m];simpa using ew) ⟨rfl,fin⟩) hs
theorem XC:IC X (Y8 X.K):=by
 intro value slice f s σ H x y v u Q I C G h hs;obtain⟨p,xs,i,z,rfl,rfl,F,he,q⟩:=h;cases C;obtain⟨t,rfl⟩:=G;obtain⟨E,r,pl,O⟩:=I.tuple F;obtain⟨j,h1,m,P,J,U⟩:=GP he;obtain⟨w,ew,d⟩:=r.get m;have hl:=r.length;have hn:=zZ;have fin:EP X _ σ Q w s:=⟨z,H,I,d,q⟩;exact subscriptTail_builtinR pl.typeIs slot_tuple_getitem.lookup
  (getItem_tuple (j:=j) pl (by lia) (by lia) (by simp_all) (by simpa using ew) ⟨rfl,fin⟩) hs
theorem XD:IC X Y9:=by
 intro value slice d s σ H x y v u Q I m E h hs;obtain⟨z,i,c,rfl,rfl,G,he,q⟩:=h;obtain⟨t,rfl⟩:=m;obtain⟨t',rfl⟩:=E;obtain⟨j,h1,f,J,C,F⟩:=GP he;have hl:z.cps.toList.length=z.length:=rfl;rw[hl] at h1 C F;have hn:=zZ;exact tail_any (typeIs_str s z t) slot_str_getitem.lookup (getItem_str (by
  lia) (by rw[h1];simpa using f) ⟨.str _,H,I.tok _,⟨_,rfl⟩,q⟩) hs
def rIx (K:W.Frag):R2:=fun x y H Q=>Y_ K x y H Q\/Y8 K x y H Q\/Y9 x y H Q
theorem XE:IC X (rIx X.K):=RW.or (XC.or XD)
theorem Ju (d:List Value) (n j:Nat) (u:Value):Obj.mapSeq (·.setIfInBounds j u) {cls:= .type "list",data:= .seq d.toArray n}={cls:= .type "list",data:= .seq (d.set j u).toArray n}:=by
 simp[Obj.mapSeq]
theorem Inv.lst (I:Inv X pins σ H s) (h:H p=some (.lst xs)):
  ∃(d:List Value) (n:Nat),Vals xs d/\s.heap.get? p=some {cls:= .type "list",data:= .seq d.toArray n}/\xs.length<=sizeLine:=by
 obtain⟨z,d,n,r,e⟩:=I.hok p _ h;exact⟨d,n,r,e,z⟩
theorem Inv.VQ {d:List Value} (I:Inv X pins σ H s) (h:H p=some (.lst xs)) (i:s.heap.get? p=some {cls:= .type "list",data:= .seq d.toArray n}) (hf:f {cls:= .type "list",data:= .seq d.toArray n}={cls:= .type "list",data:= .seq its'.toArray n'}) (r:Vals ys its') (j:ys.length<=sizeLine) (t:Nat):
  Inv X pins σ (upd H p (.lst ys)) {s with heap:=s.heap.update p f,toks:=t}:=by
 have e:(s.heap.update p f).get? p=some {cls:= .type "list",data:= .seq its'.toArray n'}:=by
  rw[Heap.get?_update_self f i (by rw[hf]<;>rfl),hf]
 refine I.write (by rw[h];trivial) (.inl rfl) (fun b u m q=>(Heap.get?_update_other _ _ (Ne.symm m)).trans q) ⟨_,e⟩ ?_;exact⟨j,_,n',r,e⟩
def Y5:V->V->V->Hp->(Hp->Prop)->Prop:=fun o i v H Q=> ∃p xs k j,o = .ref p/\i = .int k/\H p=some (.lst xs)/\M5 xs.length k=some j/\Q (upd H p (.lst (xs.set j v)))
theorem set_list:SH X Y5:=by
 intro m s σ H o i v U P u Q I G z F h;obtain⟨p,xs,k,j,rfl,rfl,hp,E,q⟩:=h;cases G;obtain⟨t,rfl⟩:=z;obtain⟨d,n,r,f,O⟩:=I.lst hp;obtain⟨h1,J,C,y⟩:=KO E;have hl:=r.length;have hn:=zZ;have x:=
  I.VQ hp f (Ju _ n j u) (r.set F j) (by simp_all) s.toks
 by_cases h0:0<=k
 ·have hk:=by
   rw[seqIndex_of h0 y] at h1;exact Option.some.inj h1
  exact W.ki_setAt f h0 (by lia) (by simp_all) (by rw[hk];exact⟨_,x,q⟩)
 ·have hk:(k+(d.toArray.size)).toNat=j:=by
   rw[seqIndex_neg (by lia) C] at h1;rw[List.size_toArray,<-hl];exact Option.some.inj h1
  exact W.ki_setBack f (by lia) (by simp_all) (by lia) (by rw[hk];exact⟨_,x,q⟩)
theorem FE (lo hi:Option Int) (n:Nat):(sliceBounds lo hi none n).1=((HT.qW n 0 lo:Nat):Int)/\(sliceBounds lo hi none n).2.1=((HT.qW n n hi:Nat):Int)/\(sliceBounds lo hi none n).2.2=1:=by
 refine⟨?_,?_,rfl⟩
 ·cases lo with
  |none=>rfl
  |some i=>
   simp only[sliceBounds,HT.qW,Option.getD_none,show(1:Int) > 0 by decide,if_true];by_cases h:i<0
   ·simp only[h,if_true]<;>lia
   ·simp only[h,if_false]<;>lia
 ·cases hi with
  |none=>rfl
  |some i=>
   simp only[sliceBounds,HT.qW,Option.getD_none,show(1:Int) > 0 by decide,if_true];by_cases h:i<0
   ·simp only[h,if_true]<;>lia
   ·simp only[h,if_false]<;>lia
theorem Ef (d:List Value) (lo hi:Option Int):slicePick d.toArray lo hi none=((d.drop (HT.qW d.length 0 lo)).take (HT.qW d.length d.length hi-HT.qW d.length 0 lo)).toArray:=by
 obtain⟨h1,f,i⟩:=FE lo hi _;unfold slicePick;rw[h1,f,i];simp only[sliceRange_one,pick_run]<;>rfl
def agT (K:W.Frag):V->Option Int->Option Int->Hp->VK->Prop:=fun x lo hi H Q=> ∃a xs,x = .ref a/\cT K H a xs/\∀p,H p=none->Q (.ref p) (upd H p (.lst (DU xs lo hi)))
theorem QR:Lg X (agT X.K):=by
 intro d s σ H x v m u lo hi y Q I f hs pl pu h;obtain⟨a,xs,rfl,hx,q⟩:=h;cases f;obtain⟨i,r,ht,j⟩:=I.list hx;have hlen:=r.length;refine⟨_,_,rfl,ht.isList.typeIs,?_⟩;refine wpAny_getItem_list_slice ht.isList hs pl pu .none (by simp) ?_ (by simp_all);rw[Ef,<-hlen];refine⟨.ref _,_,I.laid (fun b ob q=>Heap.get?_push_of_some _ q) (Nat.le_refl _) ?_,rfl,q _ (I.hok.fresh (Nat.le_refl _))⟩;exact⟨Nat.le_trans (A_ xs lo hi) j,_,0,(r.drop _).take _,Heap.get?_push_size _ rfl⟩
noncomputable def sF:V->Bool
 | .non=>true
 | .bl _=>true
 | .int _=>true
 | .str _=>true
 |_=>false
noncomputable def Sq:V->V->Bool
 | .non,.non=>true
 | .bl a,.bl b=>a == b
 | .bl a,.int b=>(if a then 1 else 0) == b
 | .int a,.bl b=>a == (if b then 1 else 0)
 | .int a,.int b=>a == b
 | .str a,.str b=>a == b
 |_,_=>false
theorem Yo (f:RelV y u) (d:RelV x v) (i:sF y=true) (j:sF x=true):SeqAt.EqAt A s u v (Sq y x):=by
 cases y with
 |non=>
  cases f;cases x with
  |non=>cases d;exact SeqAt.EqAt.same _
  |bl b=>cases d;exact SeqAt.EqAt.none_bool b
  |int b=>obtain⟨t,rfl⟩:=d;exact SeqAt.EqAt.none_int b t
  |str b=>obtain⟨t,rfl⟩:=d;exact SeqAt.EqAt.none_str b t
  |_=>trivial
 |bl a=>
  cases f;cases x with
  |non=>cases d;exact SeqAt.EqAt.bool_none a
  |bl b=>cases d;exact SeqAt.EqAt.bool_bool a b
  |int b=>obtain⟨t,rfl⟩:=d;exact SeqAt.EqAt.bool_int a b t
  |str b=>obtain⟨t,rfl⟩:=d;exact SeqAt.EqAt.bool_str a b t
  |_=>trivial
 |int a=>
  obtain⟨t',rfl⟩:=f;cases x with
  |non=>cases d;exact SeqAt.EqAt.int_none a t'
  |bl b=>cases d;exact SeqAt.EqAt.int_bool a t' b
  |int b=>obtain⟨t,rfl⟩:=d;exact SeqAt.EqAt.int_int a t' b t
  |str b=>obtain⟨t,rfl⟩:=d;exact SeqAt.EqAt.int_str a t' b t
  |_=>trivial
 |str a=>
  obtain⟨t',rfl⟩:=f;cases x with
  |non=>cases d;exact SeqAt.EqAt.str_none a t'
  |bl b=>cases d;exact SeqAt.EqAt.str_bool a t' b
  |int b=>obtain⟨t,rfl⟩:=d;exact SeqAt.EqAt.str_int a t' b t
  |str b=>obtain⟨t,rfl⟩:=d;exact SeqAt.EqAt.str_str a t' b t
  |_=>trivial
 |_=>trivial
noncomputable def eqU (x:V) (u:Value):Bool:=match u with
 | .none=>Sq .non x
 | .bool b=>Sq (.bl b) x
 | .int i _=>Sq (.int i) x
 | .str z _=>Sq (.str z) x
 |_=>false
theorem PK (r:RelV y u) (f:sF y=true):eqU x u=Sq y x:=by
 cases y with
 |non=>cases r;rfl
 |bl b=>cases r;rfl
 |int i=>obtain⟨t,rfl⟩:=r;rfl
 |str z=>obtain⟨t,rfl⟩:=r;rfl
 |_=>trivial
theorem GQ:∀{xs:List V} {us:List Value},Vals xs us->xs.all sF=true->us.any (eqU x)=xs.any fun y=>Sq y x
 |_,_,.nil,_=>rfl
 |y::xs,u::us,.cons r t,f=>by
  rw[List.all_cons,Bool.and_eq_true] at f;rw[List.any_cons,List.any_cons,PK r f.1,GQ t f.2]
theorem De (i:RelV x v) (j:sF x=true):∀{xs:List V} {us:List Value},Vals xs us->xs.all sF=true->∀u∈us,SeqAt.EqAt A s u v (eqU x u)
 |_,_,.nil,_=>fun u d=>by cases d
 |y::xs,u::us,.cons r t,f=>fun m d=>by
  rw[List.all_cons,Bool.and_eq_true] at f;rcases List.mem_cons.mp d with rfl|d
  ·rw[PK r f.1];exact Yo r i f.1 j
  ·exact De i j t f.2 m d
noncomputable def D_ (x:V) (xs:List V):Bool:=xs.any fun y=>Sq y x
def rIn (K:W.Frag) (neg:Bool):R2:=fun x y H Q=> ∃p xs,y = .ref p/\(cT K H p xs\/dX K H p xs)/\sF x=true/\xs.all sF=true/\Q (.bl (if neg then !D_ x xs else D_ x xs)) H
theorem Md:gC X (compareOp .In) (rIn X.K false):=by
 intro m s σ H x y v u Q I i C h;obtain⟨p,xs,rfl,f,j,fs,q⟩:=h;cases C;rcases f with f|f
 ·obtain⟨d,r,pl,z⟩:=I.list f;refine SeqAt.in_listAt _ pl.isList (fun w hw=>De i j r fs w (by simp_all)) ⟨.bl _,H,I,rfl,?_⟩;rw[show d.toArray.any _=d.any (eqU x) by simp,GQ r fs];exact q
 ·obtain⟨d,r,pl,z⟩:=I.tuple f;refine SeqAt.in_tupleAt _ pl (fun w hw=>De i j r fs w (by simp_all)) ⟨.bl _,H,I,rfl,?_⟩;rw[show d.toArray.any _=d.any (eqU x) by simp,GQ r fs];exact q
theorem GN:b_ X (.builtin "len") (fun xs H Q=> ∃p f,xs= [.ref p]/\(cT X.K H p f\/dX X.K H p f)/\Q (.int f.length) H):=by
 intro m s σ H xs us Q I r h;obtain⟨p,f,rfl,d,q⟩:=h;obtain⟨u,rfl,v⟩:=vals1 r;cases v;have hn:=zZ;rcases d with d|d
 ·obtain⟨i,j,pl,x⟩:=I.list d;have hlen:=j.length;exact Calls.call_len_list pl.isList (by simp only[List.size_toArray]<;>lia) ⟨.int _,H,I.tok _,⟨s.toks+1,by simp_all⟩,q⟩
 ·obtain⟨i,j,pl,x⟩:=I.tuple d;have hlen:=j.length;exact len_tuple pl (by simp only[List.size_toArray]<;>lia) ⟨.int _,H,I.tok _,⟨s.toks+1,by simp_all⟩,q⟩
theorem GL:b_ X (.builtin "len") (fun xs H Q=> ∃z,xs= [.str z]/\z.length<=sizeLine/\Q (.int z.length) H):=by
 intro d s σ H xs us Q I r h;obtain⟨z,rfl,f,q⟩:=h;obtain⟨u,rfl,t,rfl⟩:=vals1 r;have hn:=zZ;exact len_str (by lia) ⟨.int _,H,I.tok _,⟨_,rfl⟩,q⟩
theorem b_.or {f:Value} {r d:List V->Hp->VK->Prop} (h:b_ X f r) (j:b_ X f d):b_ X f (fun xs H Q=>r xs H Q\/d xs H Q):=by
 intro i s σ H xs us Q I rs q;rcases q with q|q
 ·exact h _ s σ H xs us Q I rs q
 ·exact j _ s σ H xs us Q I rs q
theorem GK:b_ X (.type "list") (fun xs H Q=> ∃p i,xs= [.ref p]/\(cT X.K H p i\/dX X.K H p i)/\∀l,H l=none->Q (.ref l) (upd H l (.lst i))):=by
 intro z s σ H xs us Q I r h;obtain⟨p,i,rfl,v,q⟩:=h;obtain⟨u,rfl,E⟩:=vals1 r;cases E;have fin:∀d,Vals i d->i.length<=sizeLine->∀f m,(∀b C,s.heap.get? b=some C->f.get? b=some C)->
   f.get? s.heap.objs.size=some _->EP X _ σ Q _ {s with heap:=f}:=fun d j x f m kp e=>
  ⟨.ref _,_,I.laid kp (Nat.le_refl _) (show dG _ _ _ f _ (.lst i) from⟨x,d,m,j,e⟩),rfl,q _ (I.hok.fresh (Nat.le_refl _))⟩
 rcases v with v|v
 ·obtain⟨d,j,pl,x⟩:=I.list v;have hlen:=j.length;obtain⟨o,y,hc,n,hd⟩:=pl.isList;exact call_list_seq p (.inl rfl) y hc hd (fun f m kp e=>fin _ j x f m kp e) (by simp_all)
 ·obtain⟨d,j,pl,x⟩:=I.tuple v;have hlen:=j.length;obtain⟨o,y,hc,n,hd⟩:=pl;exact call_list_seq p (.inr rfl) y hc hd (fun f m kp e=>fin _ j x f m kp e) (by simp_all)
theorem EW:b_ X (.type "tuple") (fun xs H Q=> ∃p f,xs= [.ref p]/\((cT X.K H p f/\∀l,H l=none->Q (.ref l) (upd H l (.tup f)))\/(dX X.K H p f/\Q (.ref p) H))):=by
 intro m s σ H xs us Q I r h;obtain⟨p,f,rfl,h⟩:=h;obtain⟨u,rfl,y⟩:=vals1 r;cases y;rcases h with⟨i,q⟩|⟨i,q⟩
 ·obtain⟨d,j,pl,v⟩:=I.list i;have hlen:=j.length;refine call_tuple_list pl.isList (fun C kp=>?_) (by simp_all);have x:=I.kept (t':=s.toks) kp;have z:=
   x.laid (t':=s.toks) (fun b o e=>Heap.get?_push_of_some _ e) (Nat.le_refl _) (show dG _ _ _ _ _ (.tup f) from⟨v,d,j,IsTup.new _ _⟩)
  exact⟨.ref _,_,z,rfl,q _ (x.hok.fresh (Nat.le_refl _))⟩
 ·obtain⟨d,j,pl,v⟩:=I.tuple i;exact call_tuple_same pl ⟨.ref p,H,I,rfl,q⟩
def US (K:W.Frag) (T:String) (x:V) (H:Hp):Prop:=match x with
 | .str _=>T = "str"
 | .int _=>T = "int"
 |
   .ref p=>(T = "list" /\∃xs,cT K H p xs)\/(T = "tuple" /\∃o,K.lookup p=some o/\o.cls = .type "tuple" /\o.dict=none)\/
   (T = "dict" /\((∃d,H p=some (.dK d))\/∃d,H p=some (.dT d)))\/(T = "set" /\∃S n,H p=some (.set S n))
 |_=>False
theorem Na (I:Inv X pins σ H s) (r:RelV x v) (ty:US X.K T x H):
  s.TypeIs v T/\∀a,v = .ref a->∃ob,s.heap.get? a=some ob/\ob.dict=none:=by
 cases x with
 |str z=>
  obtain⟨t,rfl⟩:=r;cases((ty));exact⟨rfl,fun _ e=>nomatch e⟩
 |int i=>
  obtain⟨t,rfl⟩:=r;cases((ty));exact⟨rfl,fun _ e=>nomatch e⟩
 |ref p=>
  cases r;rcases ty with⟨rfl,xs,m⟩|⟨rfl,o,hk,hc,hd⟩|⟨rfl,hk⟩|⟨rfl,S,n,hk⟩
  ·obtain⟨j,_,pl,_⟩:=I.list m;refine⟨pl.isList.typeIs,fun a e=>?_⟩;cases e;obtain⟨o,n,e,c,hd,_⟩:=pl;exact⟨o,e,hd⟩
  ·refine⟨⟨o,I.nL p o hk,hc⟩,fun a e=>?_⟩;cases e;exact⟨o,I.nL _ o hk,hd⟩
  ·have z:∃o,s.heap.get? p=some o/\o.ExactDict:=by
    rcases hk with⟨f,hk⟩|⟨f,hk⟩
    ·obtain⟨_,_,_,_,o,_,_,e,ex,_⟩:=I.hok p _ hk;exact⟨o,e,ex⟩
    ·obtain⟨_,_,_,_,o,_,_,e,ex,_⟩:=I.hok p _ hk;exact⟨o,e,ex⟩
   obtain⟨o,e,ex⟩:=z;refine⟨⟨o,e,ex.1⟩,fun a d=>?_⟩;cases d;exact⟨o,e,ex.2.1⟩
  ·obtain⟨o,_,_,_,e,ex,_⟩:=I.hok p _ hk;refine⟨⟨o,e,ex.1⟩,fun a d=>?_⟩;cases d;exact⟨o,e,ex.2.1⟩
 |_=>trivial
def QN (K:W.Frag) (T:String) (r:V->List V->Hp->VK->Prop) (to:TE):TE:=fun σ H Q=>to σ H fun x d=>US K T x d/\r x [] d Q
def YU (K:W.Frag) (T:String) (r:V->List V->Hp->VK->Prop) (to:TE) (t:TA):TE:=fun σ H Q=>to σ H fun x d=>US K T x d/\t σ d fun xs f=>r x xs f Q
theorem Vz (pa:PlainAttrs T) (slot:Slot T name id) (i:typeOf (.builtin id)=pure (.type "method_descriptor")) (hm:Qj X id r) (z:PE X o to)
  (f:attributeBase o name X.env (eval o X.env)=eval o X.env:=by rfl) (d:(apos.endLine == cpos.line)=true:=by rfl):PE X (.Call (.Attribute o name apos) [] [] cpos) (QN X.K T r to):=by
 intro m s σ H Q I h;refine wpAny_Call_method0_late f d (thn (z _ s σ H _ I h) fun v s1 ⟨x,C,u,j,ty,q1⟩=>?_);obtain⟨h1,y⟩:=Na u j ty;exact⟨T,id,pa,slot,i,h1,y,Calls.callWith_builtin rfl (PySem.evalArgs_none (hm _ s1 σ C x [] v [] Q u j .nil q1))⟩
theorem S8 {e:Expr} {es:List Expr} {t:TA} (pa:PlainAttrs T) (slot:Slot T name id) (j:typeOf (.builtin id)=pure (.type "method_descriptor")) (hm:Qj X id r) (F:PE X o to) (ha:PA X (e::es) t)
  (f:attributeBase o name X.env (eval o X.env)=eval o X.env:=by rfl)
  (
   hfew:((backTo cpos (starEach (e::es) X.env)).all (fun x=>!x.1)&&(backToKw cpos (keywordEach [] X.env)).all (fun x=>x.1.isSome)
   &&decide ((e::es).length+([]:List Keyword).length+(if([]:List Keyword).isEmpty then 0 else 1)<30))=true:=by rfl)
  (d:(apos.endLine == cpos.line)=true:=by rfl) (hs:starEach (e::es) X.env=(false,eval e X.env)::starEach es X.env:=by rfl) (i:(backTo cpos (starEach es X.env)).any (·.1)=false:=by rfl):
  PE X (.Call (.Attribute o name apos) (e::es) [] cpos) (YU X.K T r to t):=by
 intro u s σ H Q I h;refine wpAny_Call_method_late f hfew d rfl (thn (F _ s σ H _ I h) fun v s1 ⟨x,J,z,m,ty,q1⟩=>?_);obtain⟨h1,C⟩:=Na z m ty;refine⟨T,id,pa,slot,j,h1,C,?_⟩;have y:=ha cpos _ s1 σ J _ z q1;rw[hs] at y⊢;refine Calls.callWith_builtin (‹_›) (Calls.evalArgs_plain ?_);exact thn y fun us s2 ⟨vs,G,E,r2,q2⟩=>hm _ s2 σ G x vs v us Q E m r2 q2
end
def MtM (X:Cx) (id:String) (r:V->List V->Hp->VK->Prop):Prop:=
 ∀(d:List (Addr×Obj)) (s:Shared) (σ:St) (H:Hp) (x:V) (xs:List V) (v:Value) (us:List Value) (Q:VK),Inv X d σ H s->RelV x v->Vals xs us->r x xs H Q->
  wpAny (model X.prog X.w) X.A (call (.builtin id) (v::us)) (EP X d σ Q) X.xe s
theorem Vals.one:∀{x:V} {us:List Value},Vals [x] us->∃u,us= [u]/\RelV x u
 |_,_,.cons r .nil=>⟨_,rfl,r⟩
theorem Vals.zero:∀{us:List Value},Vals [] us->us= []
 |_,.nil=>rfl
section
theorem Inv.lset {d:List Value} (I:Inv X pins σ H s) (i:H l=some (.lst xs)) (e:s.heap.get? l=some {cls:= .type "list",data:= .seq d.toArray n}) (hf:f d.toArray=its'.toArray) (j:Vals ys its') (m:ys.length<=sizeLine):
  Inv X pins σ (upd H l (.lst ys)) {s with heap:=s.heap.update l (Obj.mapSeq f),toks:=t'}:=by
 have q:=PySem.IsL.update e f;rw[hf] at q;refine I.write (by rw[i];exact trivial) (.inl rfl) (fun y u v x=>(Heap.get?_update_other _ _ (Ne.symm v)).trans x) ⟨_,q⟩ ?_;exact⟨m,_,_,j,q⟩
theorem Inv.lnew (I:Inv X pins σ H s) (f:Vals ys d) (i:ys.length<=sizeLine):
  Inv X pins σ (upd H s.heap.objs.size (.lst ys)) {s with heap:=s.heap.push {cls:= .type "list",data:= .seq d.toArray},toks:=t'}:=
 I.laid (fun _ _ q=>Heap.get?_push_of_some _ q) (Nat.le_refl _) ⟨i,d,0,f,Heap.get?_push_size _ rfl⟩
theorem Inv.fresh (I:Inv X pins σ H s):H s.heap.objs.size=none:=I.hok.fresh (Nat.le_refl _)
theorem Inv.VR (I:Inv X pins σ H s) (f:H l=some (.lst xs)):xs.length<=sizeLine/\∃(d:List Value) (n:Nat),Vals xs d/\xs.length=d.length/\s.heap.get? l=some {cls:= .type "list",data:= .seq d.toArray n}:=by
 obtain⟨z,d,n,r,e⟩:=I.hok l _ f;exact⟨z,d,n,r,r.length,e⟩
end
section
def Ra:V->List V->Hp->VK->Prop:=fun x vs H Q=> ∃l xs y,x = .ref l/\vs= [y]/\H l=some (.lst xs)/\xs.length<sizeLine/\Q .non (upd H l (.lst (xs++ [y])))
theorem Ml:MtM X "list.append" Ra:=by
 intro f s σ H x vs v us Q I i C h;obtain⟨l,xs,y,rfl,rfl,d,E,q⟩:=h;cases i;obtain⟨u,rfl,m⟩:=C.one;obtain⟨z,j,n,r,hl,e⟩:=I.VR d;refine call_meets F.slot_list_append ⟨_,e,rfl⟩ F.entry_list_append (F.args_list_append_2 _ _) (PySem.list_append l _ n u (by simp_all)) ⟨e,?_⟩;refine⟨.non,_,I.lset d e (by simp) (r.append (.cons m .nil)) ?_,rfl,q⟩;rw[List.length_append,List.length_singleton];lia
def Zc:R2:=fun x y H Q=> ∃l b xs zs,x = .ref l/\y = .ref b/\H l=some (.lst xs)/\H b=some (.lst zs)/\xs.length+zs.length<=sizeLine/\∀p,H p=none->Q (.ref p) (upd H p (.lst (xs++zs)))
theorem VH:gC X (binaryOp .Add) Zc:=by
 intro i s σ H x y v u Q I m J h;obtain⟨l,b,xs,zs,rfl,rfl,j,C,O,q⟩:=h;cases m;cases J;obtain⟨z,f,n,r,hl,e⟩:=I.VR j;obtain⟨U,d,Y,r2,F,G⟩:=I.VR C;refine PySem.P.add_list e G ?_ (by simp_all);have E:f.toArray++d.toArray=(f++d).toArray:=by simp
 rw[E];exact⟨.ref _,_,I.lnew (r.append r2) (by simp_all),rfl,q _ I.fresh⟩
end
end L2
namespace Att
open PySem PySem.W PySem.Calls PyProof.Rows
theorem BL:∀(ns:List Int) (vs:List Value),WellAll P h vs (ns.map WData.int)->IntsAre vs ns:=by
 intro ns
 induction ns with
 |nil=>
  intro vs w;cases w;exact .nil
 |cons n ns d=>
  intro vs w;cases w with
  |cons a b=>
   cases a;exact .cons _ _ (d _ b)
theorem Lw {l:OpenLaw} {vals:List Value} (hn:l.most=some n) (hpre:l.row.toRowW.claim.pre args=true) (j:WellAll P h vals args):
  ∃a vs ns,vals= [Value.ref a]/\args= [WData.list (ns.map WData.int)]/\h.get? a=some {cls:= .type "list",data:= .seq vs.toArray}/\IntsAre vs ns/\ns.length<=n:=by
 have m:=(pre_splitW hpre).1;have hc:=(pre_splitW hpre).2;obtain⟨d,r,rfl,h1,u⟩:=hasAllW_cons m;obtain rfl:=hasAllW_nil u;obtain⟨xs,rfl,x⟩:=hasW_list h1;obtain⟨ns,rfl⟩:=items_int x;have hlen:ns.length<=n:=by
  have i:=by
   have i:=(holds_andW hc).1;rw[hn] at i;exact i
  have z:=condW_of i (w_not (w_lt w_lit (w_len_list (w_arg rfl))))
  first
   |simp_all
   |simp_all
 cases j with
 |cons y w2=>
  cases w2;cases y with
  |list v f=>exact⟨_,_,ns,rfl,rfl,v,BL ns _ f,hlen⟩
theorem L7 (l:OpenLaw) (args:List WData):l.row.toRowW.claim.post args (.bool true) args=true:=
 postW_of
  ((rfl))
  ((w_eq_bool (w_res rfl) w_lit)) rfl
theorem Iy {l:OpenLaw} {q:Program} (hn:l.most=some n) (x:d.params.defaults= []) (call:∀(w:World) (s₀ i:Shared) (mg u:Str->Option Value) (fa:Addr) (o:Obj) (pm cd doc:Value) (a:Addr) (vs:List Value) (ns:List Int),
   Ground q loose [] XP w s₀ mg u i.heap->YP w i.heap->
   i.heap.get? fa=some o->o.data = .func (docDef d.name d.params d.body d.scope pm cd doc)->i.heap.CodeRec cd d.name->mg d.name=some (.ref fa)->
   i.heap.get? a=some {cls:= .type "list",data:= .seq vs.toArray}->IntsAre vs ns->ns.length<=n->i.gens = #[]->
   codeAny (model l.prog w) callerA (.call (.ref fa) ⟨[.ref a],[]⟩) (fun r m=>r = .ok (.ret (.bool true))/\OldK i.heap m.heap/\m.os=i.os/\AllBare m.gens) i):
  WalkO q loose XP YP l.row.toRowW d [] (fun f vs=>PySem.call f vs):=by
 intro w s₀ i mg u G Y fa o pm cd doc O kV I hd z hD y hg args vals as hpre C hrd v J;obtain rfl:O = .none:=Dflts.none hD x;obtain rfl:kV = .none:=Dflts.noKw hD;obtain⟨a,vs,ns,rfl,rfl,j,hints,hlen⟩:=Lw hn hpre v;refine enter_call (codeAny_mono (call w _ _ mg u fa o pm cd _ a vs ns G Y I (fd_plain hd) z y j hints hlen hg) fun r m H=>?_);obtain⟨rfl,E,P,F⟩:=H;exact⟨.inl ⟨_,_,[],rfl,fun _=>rfl,.bool _,L7 l _,fun _=>⟨List.Pairwise.nil,fun _ hm=>(nomatch hm)⟩⟩,E,P,F⟩
end Att
namespace L2
open PySem PySem.Spec PyProof.Rows
theorem EZ:∀{vs:List Value} {ns:List Int},IntsAre vs ns->Vals (ns.map V.int) vs
 |_,_,.nil=> .nil
 |_,_,.cons n t h=> .cons ⟨t,rfl⟩ (EZ h)
def Qi (H:Hp):Prop:= ∀b,H b=none\/∃o xs,H b=some (.frz o (.lst xs))
theorem OB {K:W.Frag} (KX:K.In s₁.heap) (E:s₁.heap.Ns mainGlobals mg) (C:s₁.heap.Ns builtinsNs mb) (Y:∀x:Str,x≠ "__name__" ->mb x=bootBuiltins x) (J:s₁.heap.NoLimit) (hg:s₁.gens = #[]) (ha:s₁.heap.get? a=some {cls:= .type "list",data:= .seq vs.toArray}) (hi:IntsAre vs ns) (hl:ns.length<=sizeLine) (hr:c6 k callerA) (F:∀base:Heap,K.In base->base.Ns mainGlobals mg->yT P w K mg base CX k fa fd [x] sp) (y:∀(s:Shared) (u:Value),BindsTo s fd ⟨[u],[]⟩ [(x,u)]) (Z:∀H:Hp,Qi H->cT K H a (ns.map V.int)->sp [.ref a] H (fun v _=>v = .bl true) fun _ _ _=>False) (X:∀H e i,CX [] H s₁ (fun _ _ _=>False) e i->False):
  codeAny (model P w) callerA (.call (.ref fa) ⟨[.ref a],[]⟩) (fun r i=>r = .ok (.ret (.bool true))/\OldK s₁.heap i.heap/\i.os=s₁.os/\AllBare i.gens) s₁:=by
 have rv:=EZ hi;have lenV:=hi.length

 have core:∀H,Qi H->cT K H a (ns.map V.int)->xN P w H s₁.heap->(∀b,H b≠none->b=a)->(H a≠none->K.lookup a=none)->
   codeAny (model P w) callerA (.call (.ref fa) ⟨[.ref a],[]⟩) (fun r i=>r = .ok (.ret (.bool true))/\OldK s₁.heap i.heap/\i.os=s₁.os/\AllBare i.gens) s₁:=by
  intro H hO hS hok hA hK;have f:∀{b:Addr} {o:Obj},s₁.heap.get? b=some o->H b=none->(ME _ H).get? b=some o:=fun e n=>Pp e n;have U:∀{b:Addr} {o:Obj} {es:Array _} {O:Nat},s₁.heap.get? b=some o->o.data = .dict es O->H b=none:=fun{b o es O} e d=>by
   grind
  have j:∀{b:Addr} {m:Str->Option _},s₁.heap.Ns b m->(ME _ H).Ns b m:=fun{b m} ⟨o,es,O,e,d,r⟩=>⟨o,es,O,f e (U e d),d,r⟩;have G:=fun b o e=>f (KX b o e) (by
   grind)
  have hM:Mod K mg _:=⟨G,j E,⟨mb,j C,Y⟩,let ⟨mc,h1,h2⟩:=J;⟨mc,j h1,h2⟩⟩;have e0:JX P w K mg _ callerA [] _ H:=⟨rfl,hM,fun b o e=>RJ e,Nat.le_of_eq (MD _ _),trivial,fun b C=>absurd (show b∈([]) from C) (by simp),hok,.of_eq hg⟩;refine codeAny_mono ((F _ G (j E)).run _ [] _ H _ [.ref a] [.ref a] _ _ hr e0 (y _ _) (.cons rfl .nil) (Z H hO hS)) fun r i h=>?_;cases r with
  |error e=>exact(X H e i h).elim
  |ok fl=>
   cases fl with
   |next=>trivial
   |brk=>trivial
   |cont=>trivial
   |ret u=>
    obtain⟨v,H',os,bare,un,I,r',q⟩:=h;have q':=q;subst q';obtain rfl:u=Value.bool _:=r';refine⟨rfl,OldK.of_keep fun b o e=>?_,os,bare⟩;cases q:H b with
    |none=>exact un.keep b o e q (by intro z;exact absurd (show b∈([]) from z) (by simp)) (by simp)
    |some u=>
     rcases hO b with z|⟨ob,xs,z⟩
     ·simp_all
     ·have z2:=un.frzs b ob _ z;obtain⟨e1,_⟩:=hok b _ z;obtain⟨e2,_⟩:=I b _ z2;rw[e] at e1;cases e1;exact e2
 cases hk:K.lookup a with
 |some o=>

  have e:=KX a o hk;rw[ha] at e;cases e;refine core _ (fun _=> .inl rfl) (.inr ⟨_,_,_,hk,rfl,rfl,rfl,by simp_all,by trivial⟩) (fun b u z=>by trivial) (fun b z=>absurd rfl z) fun z=>absurd rfl z
 |none=>
  refine core (fun b=>if b=a then some _ else none) (fun b=>?_) (.inl (.inr ⟨{cls:= .type "list",data:= .seq vs.toArray},if_pos rfl⟩)) (fun b u z=>?_) (fun b z=>?_) fun _=>hk
  ·grind
  ·by_cases C:b=a
   ·have z':=(if_pos C).symm.trans z;cases z';subst C;exact⟨ha,by simp_all,vs,_,rv,ha⟩
   ·simp_all
  ·simp_all
theorem QB {l:W.OpenLaw} {q:Program} {K:Params->W.Frag} {CX:World->IE} {sp:World->Sp} (hn:l.most=some n) (z:n<=sizeLine) (y:d.params.defaults= []) (P:c6 k callerA) (hY:∀(w:World) (h:Heap),YP w h->(K w.params).In h) (F:∀(w:World) (mg:Str->Option Value) (fa:Addr) (h:Heap),(K w.params).In h->h.Ns mainGlobals mg->mg d.name=some (.ref fa)->
   ∃m:FuncData,(∀(s:Shared) (u:Value),BindsTo s m ⟨[u],[]⟩ [(x,u)])/\
    ∀base:Heap,(K w.params).In base->base.Ns mainGlobals mg->yT l.prog w (K w.params) mg base (CX w) k fa m [x] (sp w)) (I:∀(w:World) (H:Hp) (a:Addr) (ns:List Int),ns.length<=n->Qi H->cT (K w.params) H a (ns.map V.int)->sp w [.ref a] H (fun v _=>v = .bl true) fun _ _ _=>False) (E:∀(w:World) (H:Hp) (s:Shared) (e:Value) (j:Shared),CX w [] H s (fun _ _ _=>False) e j->False):
  W.WalkO q loose XP YP l.row.toRowW d [] (fun f vs=>PySem.call f vs):=by
 refine Att.Iy hn y fun w s₀ O mg mb fa o pm cd doc a vs ns G Y ho hd hcd C i hints hlen hg=>?_;have J:=hY w _ Y;obtain⟨m,hb,U⟩:=F w mg fa _ J G.T.g C;exact OB J G.T.g G.T.b G.T.builtins G.T.nolimit hg i hints (Nat.le_trans hlen z) P U hb (fun H X Z=>I w H a ns hlen X Z) fun H e j=>E w H _ e j
theorem M6 {l:W.OpenLaw} {q:Program} {K:Params->W.Frag} {sp:W.Frag->Sp} (hn:l.most=some n) (m:n<=sizeLine) (j:d.params.defaults= []) (G:c6 k callerA) (J:∀(w:World) (h:Heap),YP w h->(K w.params).In h) (F:∀(w:World) (mg:Str->Option Value) (fa:Addr) (h:Heap),(K w.params).In h->h.Ns mainGlobals mg->mg d.name=some (.ref fa)->
   ∃C:FuncData,(∀(s:Shared) (u:Value),BindsTo s C ⟨[u],[]⟩ [(x,u)])/\
    ∀base:Heap,(K w.params).In base->base.Ns mainGlobals mg->yT l.prog w (K w.params) mg base CX k fa C [x] (sp (K w.params))) (z:∀(K:W.Frag) (H:Hp) (a:Addr) (ns:List Int),ns.length<=n->Qi H->cT K H a (ns.map V.int)->sp K [.ref a] H (fun v _=>v = .bl true) fun _ _ _=>False) (y:∀(H:Hp) (s:Shared) (e:Value) (i:Shared),CX [] H s (fun _ _ _=>False) e i->False):
  W.WalkO q loose XP YP l.row.toRowW d [] (fun f vs=>PySem.call f vs):=
 QB hn m j G J F (fun w H a ns h1 E I=>z _ H a ns h1 E I) fun _ H s e i=>y H s e i
end L2
namespace L2
open PySem PySem.Spec PyProof.Rows
noncomputable def inClass (s:Stmt) (j:Nat):Stmt:=match s with
 | .ClassDef _ _ _ body _ _ _ _ _ _ _=>body.getD j (.Pass ⟨0,0,0,0⟩)
 |_=> .Pass ⟨0,0,0,0⟩
noncomputable def fM (s:Stmt):Arguments:=match s with
 | .FunctionDef _ a _ _ _ _ _ _ _ _=>a
 |_=>{posonlyargs:=[],args:=[],vararg:=none,kwonlyargs:=[],kw_defaults:=[],kwarg:=none,defaults:=[]}
noncomputable def dh (s:Stmt):List Stmt:=match s with
 | .FunctionDef _ _ b _ _ _ _ _ _ _=>b
 |_=>[]
noncomputable def bF (s:Stmt):Scope:=match s with
 | .FunctionDef _ _ _ _ _ _ sc _ _ _=>sc
 |_=>{kind:= .function,names:=[],isGenerator:=false,isCoroutine:=false}
abbrev YO:IE:=fun _ _ _ _ _ _=>False
abbrev E0:XK:=fun _ _ _=>False
theorem Ze:Passes YO X E0:=fun _ _ _ _ _ _ _ h=>h.elim
structure Fun (K:W.Frag) (x qual:Str) (st:Stmt) (f:Addr) (fd:FuncData):Prop where
 ex:∃(oc:Value) (od:Option Addr) (kV doc pm:Value) (an:Option Addr) (cdv ct:Value) (osl:Array (Option Value)),
  fd=W.fnOf x qual (fM st) (dh st) (bF st) .none kV doc pm an cdv ct/\K.lookup f=some ⟨oc,od,.func fd,osl⟩/\W.codeIn K cdv qual=true
 kp:W.keepIn K (.ref f)=true
section
variable {K:W.Frag}
theorem Fun.binds {st:Stmt} (F:Fun K x qual st f fd) (h:∀(kV doc pm:Value) (an:Option Addr) (d ct:Value) (us:List Value),us.length=ps.length->bindArgs (W.fnOf x qual (fM st) (dh st) (bF st) .none kV doc pm an d ct) ⟨us,[]⟩=pure (ps.zip us)):Binds K fd ps []:=by
 obtain⟨m,od,kV,doc,pm,an,d,ct,j,rfl,lk,i⟩:=F.ex;exact .all (h kV _ pm an _ ct)
theorem Px {st:Stmt} {kV:Value} (l:K.lookup f=some ⟨oc,od,.func (W.fnOf x qual (fM st) (dh st) (bF st) .none kV doc pm an cdv ct),osl⟩) (c:W.codeIn K cdv qual=true) (k:W.keepIn K (.ref f)=true):Fun K x qual st f (W.fnOf x qual (fM st) (dh st) (bF st) .none kV doc pm an cdv ct):=⟨⟨oc,od,kV,doc,pm,an,cdv,ct,osl,rfl,l,c⟩,k⟩
end
section
theorem pv (i:Nat) (j:X.N[i]?=some x:=by rfl) (f:Vis X.env.scope x:=by first|exact Or.inl rfl|exact Or.inr (.inl rfl)|exact Or.inr (.inr rfl)) (hd:(x == ("__debug__":Str))=false:=by decide) (d:(x == ("__classdict__":Str))=false:=by decide):PE X (.Name x pos) (Hc i):=Vt j f hd d
end
def a8 (H H':Hp):Prop:= ∀b o,H b=some o->H' b=some o
theorem a8.refl (H:Hp):a8 H H:=fun _ _ h=>h
theorem a8.trans (a:a8 H H1) (b:a8 H1 H2):a8 H H2:=fun c o h=>b c o (a c o h)
theorem a8.seq {K:W.Frag} (e:a8 H H') (h:cT K H a xs):cT K H' a xs:=by
 rcases h with(h|⟨o,h⟩)|h
 ·exact .inl (.inl (e _ _ h))
 ·exact .inl (.inr ⟨o,e _ _ h⟩)
 ·exact .inr h
section
variable {κ:Type} [DecidableEq κ]
noncomputable def bH (d:List (κ×V)) (k:κ):Option V:=(d.find? fun f=>decide (f.1=k)).map (·.2)
noncomputable def putK (d:List (κ×V)) (k:κ) (v:V):List (κ×V):=
 if(d.any fun f=>decide (f.1=k))=true then d.map (fun f=>if f.1=k then(f.1,v) else f) else d++ [(k,v)]
noncomputable def t7 (d:List (κ×V)) (k:κ):List (κ×V):=d.filter fun f=>decide (f.1≠k)
theorem eW {k:κ} (e:p.1=k):bH (p::r) k=some p.2:=by simp[bH,e]
theorem eX {k:κ} (e: ¬p.1=k):bH (p::r) k=bH r k:=by simp[bH,e]
theorem pU (k:κ):∀d:List (κ×V),(d.any fun f=>decide (f.1=k))=(bH d k).isSome
 | []=>rfl
 |p::r=>by
  rw[List.any_cons];by_cases e:p.1=k
  ·simp only[eW e,decide_eq_true e,Bool.true_or,Option.isSome_some]
  ·rw[eX e,decide_eq_false e];exact pU k r
theorem G6 (k j:κ) (y:V):∀d:List (κ×V),bH (d.map fun f=>if f.1=k then(f.1,y) else f) j=(bH d j).map fun x=>if j=k then y else x
 | []=>rfl
 |p::r=>by
  have i:=G6 k j y r;rw[List.map_cons];by_cases h:p.1=k
  ·rw[if_pos h];by_cases e:p.1=j
   ·rw[eW (p:=(p.1,y)) e,eW e,Option.map_some,if_pos (e.symm.trans h)]
   ·rw[eX (p:=(p.1,y)) e,eX e,i]
  ·rw[if_neg h];by_cases e:p.1=j
   ·rw[eW e,eW e,Option.map_some,if_neg (fun z=>h (e.trans z))]
   ·rw[eX e,eX e,i]
theorem E1 (k j:κ) (y:V):∀d:List (κ×V),bH d k=none->bH (d++ [(k,y)]) j=if j=k then some y else bH d j
 | [],_=>by
  by_cases e:k=j
  ·rw[if_pos e.symm];exact eW e
  ·rw[if_neg (fun z=>e z.symm)];exact eX e
 |p::r,hn=>by
  rw[List.cons_append];have hk: ¬p.1=k:=fun z=>by rw[eW z] at hn;cases hn
  rw[eX hk] at hn;have f:=E1 k j y r hn;by_cases e:p.1=j
  ·rw[eW e,eW e,if_neg (fun z=>hk (e.trans z))]
  ·rw[eX e,eX e,f]
theorem xR (d:List (κ×V)) (k j:κ) (y:V):bH (putK d k y) j=if j=k then some y else bH d j:=by
 unfold putK;by_cases a:(d.any fun f=>decide (f.1=k))=true
 ·rw[if_pos a,G6];rw[pU] at a;by_cases e:j=k
  ·obtain⟨x,hx⟩:=Option.isSome_iff_exists.mp a;rw[if_pos e,e,hx,Option.map_some,if_pos rfl]
  ·simp_all
 ·rw[if_neg a];refine E1 k j y _ ?_;rw[pU] at a;cases q:bH _ k<;>simp_all
theorem o5 (d:List (κ×V)) (k:κ) (v:V):(putK d k v).length<=d.length+1:=by
 unfold putK;split
 ·simp_all
 ·simp_all
theorem HB {k:κ} (v:V) (h:bH kvs k=none):putK kvs k v=kvs++ [(k,v)]:=by
 unfold putK;rw[pU,h];exact if_neg (by decide)
theorem sM.qe (r:sM o u):o.isSome=u.isSome:=by
 cases o with
 |none=>cases u with
  |none=>rfl
  |some _=>trivial
 |some _=>cases u with
  |none=>trivial
  |some _=>rfl
theorem KV.val (r:KV kvs vs) (k:κ):sM (bH kvs k) (valueAt vs k):=by
 induction r with
 |nil=>trivial
 | @cons p q m d h t j=>
  obtain⟨h1,i⟩:=h;by_cases e:p.1=k
  ·have f:=h1.symm.trans e;have b:valueAt (q::d) k=some q.2:=by simp[valueAt,f]
   rw[eW e,b];exact i
  ·have f: ¬q.1=k:=fun z=>e (h1.trans z);have b:valueAt (q::d) k=valueAt d k:=by simp[valueAt,f]
   rw[eX e,b];exact j
theorem KV.any (r:KV kvs vs) (k:κ):(kvs.any fun d=>decide (d.1=k))=vs.any fun d=>decide (d.1=k):=by
 induction r<;>simp_all
theorem KV.repl (r:KV kvs vs) (k:κ) (i:RelV y u):
  KV (kvs.map fun d=>if d.1=k then(d.1,y) else d) (vs.map fun d=>if d.1=k then(d.1,u) else d):=by
 induction r with
 |nil=>exact .nil
 | @cons p q m j h t f=>
  refine .cons ?_ f;by_cases e:p.1=k
  ·simp_all
  ·simp_all
theorem KV.put (r:KV kvs vs) (k:κ) (d:RelV y u):KV (putK kvs k y) (stored vs k u):=by
 unfold putK stored;rw[r.any k];by_cases e:(vs.any fun f=>decide (f.1=k))=true
 ·rw[if_pos e,if_pos e];exact r.repl k d
 ·rw[if_neg e,if_neg e];exact Paired.snoc r ⟨rfl,d⟩
theorem KV.drop (r:KV kvs vs) (k:κ):KV (t7 kvs k) (without vs k):=by
 unfold t7 without
 induction r with
 |nil=>exact .nil
 | @cons p q j i h t f=>
  obtain⟨h1,d⟩:=h;rw[List.filter_cons,List.filter_cons];by_cases e:p.1=k
  ·simp_all
  ·have a:decide (p.1≠k)=true:=by simp[e]
   have b:decide (q.1≠k)=true:=by simp_all
   rw[if_pos a,if_pos b];exact .cons ⟨h1,d⟩ f
theorem KV.length {d:List (κ×V)} {vs:List (κ×Value)} (r:KV d vs):d.length=vs.length:=Paired.length r
theorem PL (d:List (κ×V)) (k:κ):(t7 d k).length<=d.length:=List.length_filter_le _ _
end
theorem Fe (r:RelV (kV k) u):(fJ P w).is k u=true:=by
 cases k with
 |inl i=>obtain⟨t,e⟩:=((r));subst e;exact HP P w i t
 |inr x=>obtain⟨t,e⟩:=((r));subst e;exact HN P w x t
theorem Ff:∀{ks:List Key} {us:List Value},Vals (ks.map kV) us->ItemsAre (fJ P w) ks us
 | [],_,r=>by cases r;exact .nil
 |k::ks,_,r=>by
  cases r with
  |cons h t=>exact .cons (Fe h) (Ff t)
abbrev KT (H:Hp):List (List Key×V)->List (List Key×Addr×Value)->Prop:=Paired fun p q=>p.1=q.1/\H q.2.1=some (.tup (p.1.map kV))/\RelV p.2 q.2.2
theorem KT.val (r:KT H kvs xs) (k:List Key):sM (bH kvs k) ((atKey xs k).map (·.2)):=by
 induction r with
 |nil=>trivial
 | @cons p q m d h t j=>
  obtain⟨h1,_,i⟩:=h;by_cases e:p.1=k
  ·have f:=h1.symm.trans e;have b:atKey (q::d) k=some q.2:=by simp[atKey,f]
   rw[eW e,b];exact i
  ·have f: ¬q.1=k:=fun z=>e (h1.trans z);have b:atKey (q::d) k=atKey d k:=by simp[atKey,f]
   rw[eX e,b];exact j
theorem KT.repl (r:KT H kvs xs) (k:List Key) (i:RelV y u):
  KT H (kvs.map fun d=>if d.1=k then(d.1,y) else d) (xs.map (putAt k u)):=by
 induction r with
 |nil=>exact .nil
 | @cons p q m j h t f=>
  refine .cons ?_ f;unfold putAt;by_cases e:p.1=k
  ·simp_all
  ·simp_all
theorem KT.put (r:KT H kvs xs) (k:List Key) (f:H b=some (.tup (k.map kV))) (d:RelV y u):
  KT H (putK kvs k y) (storedH xs k b u):=by
 have e:(kvs.any fun i=>decide (i.1=k))=(atKey xs k).isSome:=by
  rw[pU,(r.val k).qe,Option.isSome_map]
 unfold putK storedH;rw[e];by_cases q:(atKey xs k).isSome=true
 ·rw[if_pos q,if_pos q];exact r.repl k d
 ·rw[if_neg q,if_neg q];exact Paired.snoc r ⟨rfl,f,d⟩
theorem KT.keeps (r:KT H kvs xs) (ht:∀b d,H b=some (.tup d)->H' b=some (.tup d)):KT H' kvs xs:=
 Paired.VO r fun _ _ z=>⟨z.1,ht _ _ z.2.1,z.2.2⟩
section
theorem SV (ok:xN P w H h) (e:Rd H a u):dG P w H h a u:=e.ok ok
theorem Fo (ok:xN P w H h) (e:Rd H a (.dK kvs)):kvs.length<=sizeLine/\(a == sysModules)=false/\∃vs,KV kvs vs/\h.DictOf (fJ P w) a vs:=
 (SV ok e)
theorem UJ (ok:xN P w H h) (e:H a=some (.dK kvs)):kvs.length<=sizeLine/\(a == sysModules)=false/\∃vs,KV kvs vs/\h.DictOf (fJ P w) a vs:=Fo ok (.inl e)
theorem Df (ok:xN P w H h) (e:H a=some (.tup (ks.map kV))):(tupleKind (fJ P w)).is h ks a:=by
 obtain⟨_,d,r,o,h1,f,n,i⟩:=((ok a _ e));exact⟨o,_,n,h1,f,i,by simpa using Ff r⟩
theorem Fn (ok:xN P w H h) (e:Rd H a (.dT kvs)):kvs.length<=sizeLine/\(a == sysModules)=false/\
  ∃xs,KT H kvs xs/\h.DictOfH (tupleKind (fJ P w)) a xs:=by
 obtain⟨z,y,xs,r,o,es,i,h1,d,j,f,v⟩:=((SV ok e));refine⟨z,y,xs,r,o,es,i,h1,d,j,f,fun x hx=>?_,v⟩;have all:∀{l:List _} {m:List _},KT H l m->∀x∈m,(tupleKind (fJ P w)).is h x.1 x.2.1:=by
  intro l m q
  induction q with
  |nil=>intro x hx;exact nomatch hx
  | @cons p q C F E t u=>
   intro x hx;rcases List.mem_cons.mp hx with e|hx
   ·exact Df ok (by simp_all)
   ·exact u x hx
 exact all r x hx
theorem agf (ok:xN P w H h) (e:H a=some (.dT kvs)):kvs.length<=sizeLine/\(a == sysModules)=false/\
  ∃xs,KT H kvs xs/\h.DictOfH (tupleKind (fJ P w)) a xs:=Fn ok (.inl e)
end
def G3 (H:Hp) (a:Addr) (y:V) (r:Option V):Prop:=
 (∃d k,Rd H a (.dK d)/\y=kV k/\r=bH d k)\/∃d k b,Rd H a (.dT d)/\y = .ref b/\H b=some (.tup (k.map kV))/\r=bH d k
def SJ (H:Hp) (a:Addr) (y v:V) (H':Hp):Prop:=
 (∃d k,H a=some (.dK d)/\y=kV k/\d.length<sizeLine/\H'=upd H a (.dK (putK d k v)))\/
 ∃d k b,H a=some (.dT d)/\y = .ref b/\H b=some (.tup (k.map kV))/\d.length<sizeLine/\H'=upd H a (.dT (putK d k v))
theorem G3.k {k:Key} (e:H a=some (.dK kvs)):G3 H a (kV k) (bH kvs k):= .inl ⟨kvs,k,.inl e,rfl,rfl⟩
theorem SJ.k {k:Key} (e:H a=some (.dK kvs)) (hl:kvs.length<sizeLine):SJ H a (kV k) v (upd H a (.dK (putK kvs k v))):= .inl ⟨kvs,k,e,rfl,hl,rfl⟩
section
theorem Inv.big (I:Inv X pins σ H s):sysModules<s.heap.objs.size:=by
 have h:=(I.mod.glob.keeps I.bk).lt;exact Nat.lt_trans (by decide) h
theorem MN (G:A.units+1<cLine) (I:Inv X pins σ H s) (g:G3 H a y (some v)) (C:RelV y u) (h:∀f x,Inv X pins σ H x->RelV v f->Q f x):
  wpAny (model X.prog X.w) A (getItem (.ref a) u) Q E s:=by
 rcases g with⟨m,k,e,i,l⟩|⟨m,k,b,e,i,F,l⟩
 ·subst i;obtain⟨z,hd,vs,rel,dd⟩:=Fo I.hok e;obtain⟨f,hw,d⟩:=sM.some_of (by rw[l];exact rel.val k);exact wpAny_getItem_of (Fe C) dd.mapOf hw (h f _ (I.tok _) d)
 ·subst i;cases((C));obtain⟨z,hd,xs,rel,dd⟩:=Fn I.hok e;obtain⟨f,hw,d⟩:=sM.some_of (by rw[l];exact rel.val k);obtain⟨p,hp,j⟩:=Option.map_eq_some_iff.mp hw;refine wpAny_getItem_heap (tupleKind_room_in1 G) (Df I.hok F) dd hp ?_;rw[j];exact h f _ (I.tok _) d
theorem akE (v:A.units+1<cLine) (I:Inv X pins σ H s) (g:G3 H a y o) (j:RelV y u) (h:∀i,Inv X pins σ H i->Q (.bool o.isSome) i):
  wpAny (model X.prog X.w) A (compareOp .In u (.ref a)) Q E s:=by
 rcases g with⟨f,k,e,d,l⟩|⟨f,k,b,e,d,m,l⟩
 ·subst d;obtain⟨z,hd,vs,rel,dd⟩:=Fo I.hok e;refine wpAny_in_of (Fe j) hd dd.mapOf ?_;rw[<-(rel.val k).qe,<-l];exact h _ (I.tok _)
 ·subst d;cases((j));obtain⟨z,hd,xs,rel,dd⟩:=Fn I.hok e;refine wpAny_in_heap (tupleKind_room_in1 v) (Df I.hok m) hd dd ?_;have q:=(rel.val k).qe;rw[Option.isSome_map] at q;rw[<-q,<-l];exact h _ (I.tok _)
theorem Sv (v:A.units+1<cLine) (I:Inv X pins σ H s) (g:G3 H a y o) (j:RelV y u) (h:∀i,Inv X pins σ H i->Q (.bool (!o.isSome)) i):
  wpAny (model X.prog X.w) A (compareOp .NotIn u (.ref a)) Q E s:=by
 rcases g with⟨f,k,e,d,l⟩|⟨f,k,b,e,d,m,l⟩
 ·subst d;obtain⟨z,hd,vs,rel,dd⟩:=Fo I.hok e;refine wpAny_notIn_of (Fe j) hd dd.mapOf ?_;rw[<-(rel.val k).qe,<-l];exact h _ (I.tok _)
 ·subst d;cases((j));obtain⟨z,hd,xs,rel,dd⟩:=Fn I.hok e;refine wpAny_notIn_heap (tupleKind_room_in1 v) (Df I.hok m) hd dd ?_;have q:=(rel.val k).qe;rw[Option.isSome_map] at q;rw[<-q,<-l];exact h _ (I.tok _)
theorem GG (I:Inv X pins σ H s) (i:Mut (H a)) (hs:Heap.SameBut a s.heap d) (he:∃q,d.get? a=some q) (new:dG X.prog X.w (upd H a ob) d a ob):
  Inv X pins σ (upd H a ob) {s with heap:=d,toks:=t'}:=
 I.write i (.inl rfl) (fun b q f z=>(hs.2 b f).trans z) he new
theorem PQ (z:kvs.length<=sizeLine) (hd:(a == sysModules)=false) (rel:KV kvs vs) (dd:h'.DictOf (fJ P w) a vs):
  dG P w H' h' a (.dK kvs):=⟨z,hd,vs,rel,dd⟩
theorem MM (hu:A.units+1<cLine) (I:Inv X pins σ H s) (g:SJ H a y v H') (G:RelV y u) (F:RelV v r) (h:∀C,Inv X pins σ H' C->Q () C):
  wpAny (model X.prog X.w) A (setItem (.ref a) u r) Q E s:=by
 rcases g with⟨d,k,e,m,l,j⟩|⟨d,k,b,e,m,J,l,j⟩
 ·subst m j;obtain⟨z,hd,vs,rel,dd⟩:=UJ I.hok e;have Y:vs.length<=sizeLine:=by rw[<-rel.length];exact z
  have hl:(putK d k v).length<=sizeLine:=by have:=o5 d k v;lia
  refine wpAny_setItem_pairs (Fe G) dd fun x f hs=>h _ ?_;have he:∃q,x.get? a=some q:=let ⟨q,_,_,i,_⟩:=f;⟨q,i⟩;exact GG I (by rw[e];exact True.intro) hs he (PQ hl hd (rel.put k F) f)
 ·subst m j;cases((G));obtain⟨z,hd,xs,rel,dd⟩:=agf I.hok e;have Y:xs.length<=sizeLine:=by rw[<-Paired.length rel];exact z
  have hl:(putK d k v).length<=sizeLine:=by have:=o5 d k v;lia
  refine wpAny_setItem_heap (tupleKind_room_in1 hu) (Df I.hok J) dd fun x f hs=>h _ ?_;obtain⟨q,es,Z,i,P,h3,U,_,h5⟩:=f;refine GG I (by rw[e];exact True.intro) hs ⟨q,i⟩ ⟨hl,hd,_,(rel.put k J F).keeps fun c ys O=>?_,q,es,Z,i,P,h3,U,h5⟩;rw[ak (bS O e (fun z=>nomatch z))];exact O
end
section
theorem agi (I:Inv X pins σ H s) (e:H a=some (.dK kvs)) (m:RelV (kV k) u) (l:bH kvs k=some v) (hm:more= []\/∃x,more= [x]) (h:∀f y,Inv X pins σ (upd H a (.dK (t7 kvs k))) y->RelV v f->Q f y):wpAny (model X.prog X.w) A (call (.builtin "dict.pop") (.ref a::u::more)) Q E s:=by
 obtain⟨z,hd,vs,rel,dd⟩:=UJ I.hok e;obtain⟨f,hw,j⟩:=sM.some_of (by rw[<-l];exact rel.val k);have hp:(keyPart u).isSome=true:=by
  cases k with
  |inl i=>obtain⟨t,q⟩:=((m));subst q;rfl
  |inr x=>obtain⟨t,q⟩:=((m));subst q;rfl
 have ha:argsOk "dict.pop" ⟨.ref a::u::more,[]⟩:=by
  rcases hm with q|⟨x,q⟩
  ·subst q;exact PySem.F.args_dict_pop_2 _ _
  ·subst q;exact PySem.F.args_dict_pop_3 _ _ _
 refine call_meetsIn PySem.F.slot_dict_pop dd.typeIs PySem.F.entry_dict_pop ha (meets_dict_pop_there _ a (Fe m) _ hm hp)
  ⟨vs,f,dd,by rw[<-rel.length];exact z,hw,fun C d hs=>h f _ ?_ j⟩
 have he:∃q,C.get? a=some q:=let ⟨q,_,_,hq,_⟩:=d;⟨q,hq⟩;exact GG I (by rw[e];exact True.intro) hs he (PQ (Nat.le_trans (PL _ k) z) hd (rel.drop k) d)
end
def ags (i:Expr):Prop:= ∀f d,subscripted i false f d=operate [f,d] (getItem f d)
theorem QO {prog:Program} {w:World} {A:Around} {E:Value->Shared->Prop} {s:Shared} {env:Env} {value slice:Expr} {pos:Pos} {T id:String} {Q:Value->Shared->Prop}
  (hl:typeLookup (.type T) "__getitem__" = pure (some (.builtin id))) (hs:ags slice)
  (h:wpAny (model prog w) A (eval value env) (fun o m=>wpAny (model prog w) A (eval slice env) (fun i d=>d.TypeIs o T/\wpAny (model prog w) A (getItem o i) Q E d) E m) E s):
  wpAny (model prog w) A (eval (.Subscript value slice pos) env) Q E s:=by
 refine Subscript_ (wpAny_mono h (fun o m u=>wpAny_mono u (fun i d f=>?_) fun _ _ x=>x) fun _ _ x=>x);obtain⟨y,f⟩:=f;refine wpAny_bind ?_;refine wpAny_bind (wpAny_specialOf y hl ?_);have fin:wpAny (model prog w) A (subscripted slice false o i) (fun r j=>wpAny (model prog w) A (letTemporaryGo value o r >>= fun _=>pure r) Q E j) E d:=by
  rw[hs o i];exact wpAny_operating (wpAny_mono f (fun r j v=>wpAny_bind (wpAny_letTemporaryGo (wpAny_pure v))) fun _ _ x=>x)
 first
  |exact wpAny_pure (wpAny_bind fin)
  |rfl
  |rfl
theorem Iq (I:Inv X pins σ H s) (g:G3 H a y o):s.TypeIs (.ref a) "dict" :=by
 rcases g with⟨d,k,e,_,_⟩|⟨d,k,b,e,_,_,_⟩
 ·obtain⟨_,_,vs,_,dd⟩:=Fo I.hok e;exact dd.typeIs
 ·obtain⟨_,_,xs,_,dd⟩:=Fn I.hok e;exact dd.typeIs
theorem PR (h:Heap) (d:sysModules<h.objs.size):dG P w H (h.push {cls:= .type "dict",data:= .dict #[]}) h.objs.size (.dK []):=
 ⟨Nat.zero_le _,beq_eq_false_iff_ne.mpr (Ne.symm (Nat.ne_of_lt d)),[],.nil,Heap.DictOf.new h⟩
def Nk:TE:=fun _ H Q=> ∀p,H p=none->Q (.ref p) (upd H p (.dK []))
section
theorem yf:PE X (.Dict [] [] pos) Nk:=fun d s σ H Q I h=>
 wpAny_Dict_empty ⟨.ref _,_,I.laid (fun _ _ q=>Heap.get?_push_of_some _ q) (Nat.le_refl _) (PR _ I.big),rfl,h _ (I.hok.fresh (Nat.le_refl _))⟩
end
def IsD (H:Hp) (a:Addr):Prop:=(∃d,Rd H a (.dK d))\/∃d,Rd H a (.dT d)
theorem XG (I:Inv X pins σ H s) (d:IsD H a):
  s.TypeIs (.ref a) "dict" /\(∀b,Value.ref a = .ref b->∃ob,s.heap.get? b=some ob/\ob.dict=none)/\(a == sysModules)=false:=by
 rcases d with⟨i,e⟩|⟨i,e⟩
 ·obtain⟨_,hd,vs,_,dd⟩:=Fo I.hok e;refine⟨dd.typeIs,fun b q=>?_,hd⟩;cases q;obtain⟨ob,_,_,h1,f,_⟩:=dd;exact⟨ob,h1,f.2.1⟩
 ·obtain⟨_,hd,xs,_,dd⟩:=Fn I.hok e;refine⟨dd.typeIs,fun b q=>?_,hd⟩;cases q;obtain⟨ob,_,_,h1,f,_⟩:=dd;exact⟨ob,h1,f.2.1⟩
section
variable {κ:Type} [DecidableEq κ]
theorem M7 {k:κ} (h:bH kvs k=none): ¬k∈kvs.map (·.1):=by
 intro m;obtain⟨p,hp,e⟩:=List.mem_map.mp m;have q:(kvs.any fun d=>decide (d.1=k))=true:=List.any_eq_true.mpr ⟨p,hp,decide_eq_true e⟩;rw[pU,h] at q;exact absurd q (by simp)
theorem RM:∀{l:List κ} {k:κ},l.Nodup->¬k∈l->(l++ [k]).Nodup
 | [],k,_,_=>by simp
 |a::r,k,h,hk=>by
  grind
theorem RN {k:κ} (v:V) (hn:(kvs.map (·.1)).Nodup) (h:bH kvs k=none):((putK kvs k v).map (·.1)).Nodup:=by
 rw[HB v h,List.map_append];exact RM hn (M7 h)
end
def FnAt (P:Program) (w:World) (K:W.Frag) (mg:Str->Option Value) (base:Heap) (CX:IE) (x:Str) (k:Nat) (j:List Str) (sp:Sp):Prop:=
 ∃f i,yT P w K mg base CX k f i j sp/\mg x=some (.ref f)/\W.keepIn K (.ref f)=true/\Binds K i j []/\∃m od d,K.lookup f=some ⟨m,od,.func i,d⟩
def cn (K:W.Frag) (mg:Str->Option Value) (x:Str) (st:Stmt):Prop:= ∃f d,Fun K x x st f d/\mg x=some (.ref f)
class Quiet (CX:IE):Prop where
 pass:∀(X:Cx),Passes CX X E0
noncomputable instance:Quiet YO:=⟨fun _=>Ze⟩
theorem PX {K:W.Frag} {st:Stmt} {kV:Value} (X:K.In h) (G:h.Ns mainGlobals mg) (a:W.nsIn K mainGlobals x=some (some (.ref f))) (l:K.lookup f=some ⟨oc,od,.func (W.fnOf x x (fM st) (dh st) (bF st) .none kV doc pm an cdv ct),osl⟩) (c:W.codeIn K cdv x=true) (k:W.keepIn K (.ref f)=true):cn K mg x st:=
 ⟨f,_,Px l c k,W.mg_of X G a⟩
section
theorem cn.fn {K:W.Frag} {st:Stmt} (F:cn K mg x st) (S:lQ N ps (bF st)) (y:∀(kV doc pm:Value) (an:Option Addr) (d ct:Value) (us:List Value),us.length=ps.length->bindArgs (W.fnOf x x (fM st) (dh st) (bF st) .none kV doc pm an d ct) ⟨us,[]⟩=pure (ps.zip us)) (len:∀vs H Q E,sp vs H Q E->vs.length=ps.length) (i:∀(f:Addr) (d:Value) (A:Around) (outer:List Env) (s:Shared) (H:Hp) (vs:List V) (Q:VK) (E:XK),c6 k (A.deeper (envOfC x (bF st) s.heap.objs.size f d))->sp vs H Q E->
   ∃t,CB (DT CX P w K mg base N x (bF st) f d A outer s H E).nox (dh st) t/\t {nx:=fun _ H'=>Q .non H',rt:=Q} (start N vs) H):FnAt P w K mg base CX x (k+1) ps sp:=by
 obtain⟨f,C,F,hm⟩:=F;have bd:=F.binds y;have kp:=F.kp;obtain⟨z,od,kV,doc,pm,an,d,ct,j,rfl,lk,m⟩:=F.ex;refine⟨f,_,KY lk m S len fun A outer s H vs Q E v u=>?_,hm,kp,bd,z,od,j,lk⟩;obtain⟨t,h,q⟩:=i f _ A _ s H vs Q E v u;exact⟨t,h.nox,q⟩
end
section
theorem Zd [Quiet CX] (G:FnAt X.prog X.w X.K X.mg X.base CX x k ps sp) (j:c6 n X.A) (hk:k<=n) (hg:Gl X x) (ha:PA X (e::es) t) (d:(x == ("__debug__":Str))=false:=by decide) (he:starEach (e::es) X.env=(false,eval e X.env)::starEach es X.env:=by rfl) (i:(backTo pos (starEach es X.env)).any (·.1)=false:=by rfl):
  PE X (.Call (.Name x p) (e::es) [] pos) (E4 sp [] E0 t):=by
 obtain⟨f,m,F,hm,kp,b,_⟩:=G;exact KD F (j.mono hk) hg hm kp b .nil (Quiet.pass X) ha d he i
def gF (mg:Str->Option Value) (x:Str) (v:V):Prop:= ∃u,mg x=some u/\RelV v u
theorem cg (hg:Gl X x) (h:gF X.mg x v) (hd:(x == ("__debug__":Str))=false:=by decide):PE X (.Name x pos) (tC v):=by
 obtain⟨u,hm,r⟩:=h;exact Rv hg hm r hd
end
noncomputable def ID (lo c:Int) (n:Nat):It:=⟨fun i _=>i<n,fun i H x H'=>H'=H/\x = .int (lo+i*c),fun i _=>n<=i⟩
theorem G8 {P:Program} {w:World} {K:W.Frag} {tg:Expr} (it:Addr) (lo c:Int) (n:Nat):Turn P w K tg (ID lo c n) [it] it (fun i h=>IsRangeIter h it (lo+(i:Nat)*c) ((n:Int)-(i:Nat)) c) where
 mem:=by simp
 obj:=fun i h st b f=>by
  simp_all
 keep:=fun i h m st k=>k it (by simp) _ st
 item:=by
  intro X C hw z hc i d s σ H E I hf st hg;subst C hw z;obtain⟨f0,f1,J,x,y,u⟩:=hf it (by simp);have W:=Walks.range (prog:=X.prog) (w:=X.w) (I.ok.hd hc) it lo c n;refine W.item i s _ _ hg st fun v m tk G j F=>?_;obtain⟨t,rfl⟩:=G;have O:Inv X _ σ H {s with heap:=m,toks:=tk}:=I.turned (fun b o f e=>F b o (by simp_all) e) f0 f1 x y u;exact⟨_,rfl,Ie j rfl rfl (by decide) ⟨.int _,H,O,⟨t,rfl⟩,⟨rfl,rfl⟩,j,fun b f=>(hf b f).1⟩⟩
 done:=by
  intro X C hw z hc i d s σ H E I hf st hg;obtain⟨f0,f1,J,x,y,u⟩:=hf it (by simp);exact wpAny_pyNext_range_end (I.ok.hd hc) st (by have:n<=i:=hg;lia) fun m U=>⟨rfl,I.turned (fun b o f e=>U b o f e) f0 f1 x y u⟩
 self:=fun _ _ _ _ _ st h=>wpAny_pyIter_rangeiter st h
noncomputable def rcount (lo hi c:Int):Nat:=(Builtin.Range.rangeSize lo hi c).toNat
theorem Hs (lo hi c:Int) (hc:0<c):0<=Builtin.Range.rangeSize lo hi c:=by
 unfold Builtin.Range.rangeSize;rw[if_pos hc];split
 ·have:=Int.ediv_nonneg (a:=hi-lo-1) (b:=c) (by lia) (by lia);lia
 ·trivial
theorem QQ (ha : -(2 ^ 61)<=a) (f:a<2 ^ 61) (j : -(2 ^ 61)<=b) (i:b<2 ^ 61) (hc:0<c) (d:c<2 ^ 61):Builtin.Range.small a b c=true:=by
 have h0:=Hs a b c hc;have h1:Builtin.Range.rangeSize a b c<=2 ^ 62:=by
  unfold Builtin.Range.rangeSize;rw[if_pos hc];split
  ·have:=Int.ediv_le_self (a:=b-a-1) c (by lia);lia
  ·decide
 unfold Builtin.Range.small;simp only[Builtin.Range.rangeFitsLong,Bool.and_eq_true,Bool.or_eq_true];rw[if_pos hc];simp only[Bool.and_eq_true,decide_eq_true_eq];lia
section
theorem LB {X:Cx} {tg:Expr} {d:List (Addr×Obj)} {σ:St} {H:Hp} {s:Shared} {R:It->Hp->Prop} {E:Value->Shared->Prop} {lo hi c:Int} {t u v:Tok} {tk:Nat} (I:Inv X d σ H s) (hs:Builtin.Range.small lo hi c=true) (hc:0<c)
  (q:R (ID lo c (rcount lo hi c)) H):wpAny (model X.prog X.w) X.A (pyIter (.ref s.heap.objs.size)) (PIE X d σ tg R) E {s with heap:=s.heap.push {cls:= .type "range",data:= .fields #[.int lo t,.int hi u,.int c v]},toks:=tk}:=by
 refine wpAny_pyIter_range (IsRange.new ..) hs ?_;have f:Inv X _ σ H {s with heap:=s.heap.push {cls:= .type "range",data:= .fields #[.int lo t,.int hi u,.int c v]},toks:=tk}:=I.kept fun b o e=>Heap.get?_push_of_some _ e;refine⟨_,_,_,_,H,rfl,
  f.kept fun b o e=>Heap.get?_push_of_some _ e,G8 _ lo c _,?_,fun b j=>?_,q⟩
 ·have e1:lo+((0:Nat))*c=lo:=by simp
  have i:((rcount lo hi c))-((0:Nat))=Builtin.Range.rangeSize lo hi c:=by
   have:=Hs lo hi c hc;unfold rcount;lia
  rw[e1,i];exact Heap.get?_push_size _ rfl
 ·have e:b=(s.heap.push {cls:= .type "range",data:= .fields #[.int lo t,.int hi u,.int c v]}).objs.size:=by simp_all
  subst e;exact f.JF (Nat.le_refl _) (f.hok.fresh (Nat.le_refl _))
end
theorem JG {lo:Int} {g:TG} {u:TS} {D:Ends} (Pv:Nat->St->Hp->Prop) (h0:Pv 0 σ H) (hs:∀(i:Nat) σ H,i<n->Pv i σ H->g (.int (lo+i*c)) σ H fun d j=>u {D with nx:=Pv (i+1),ct:=Pv (i+1),bk:=D.nx} d j) (hd:∀σ H,Pv n σ H->D.nx σ H):
  ∃W:Nat->Nat->St->Hp->Prop,(∃m,W 0 m σ H)/\∀i m σ H,W i m σ H->
   ((ID lo c n).stop i H/\D.nx σ H)\/((ID lo c n).go i H/\∃N:St->Hp->Prop,(∀f H',N f H'->∃v,v<m/\W (i+1) v f H')/\∀x H',(ID lo c n).yld i H x H'->g x σ H' fun d j=>u {D with nx:=N,ct:=N,bk:=D.nx} d j):=by
 refine⟨fun i m σ H=>i<=n/\m=n-i/\Pv i σ H,⟨n,Nat.zero_le _,rfl,h0⟩,fun i m σ H ⟨hi,hm,hp⟩=>?_⟩;by_cases e:i=n
 ·subst e;exact .inl ⟨Nat.le_refl _,hd σ H hp⟩
 ·refine .inr ⟨(by show i<n;lia),_,fun f H' h=>⟨_,by lia,by lia,rfl,h⟩,fun x H' ⟨e1,y⟩=>?_⟩;subst e1 y;exact hs i σ _ (by lia) hp
section
theorem Q6:Je g (.int i) (.int j) H Q=Q (g i j) H:=rfl
theorem Vf:rI C g (.int i) (.int j) H Q=(C i j/\Q (g i j) H):=rfl
theorem Va:rU f (.int i) H Q=Q (f i) H:=rfl
theorem agd {P:Bool->Prop}:(∃k,V.bl b = .bl k/\P k)=P b:=by
 simp_all
theorem Q_:Zb (.int i) (.int j) H Q=Q (.bl (decide (i=j))) H:=by
 have e:decide (V.int i=V.int j)=decide (i=j):=by
  simp_all
 unfold Zb;rw[e];apply propext;exact⟨fun h=>h.2,fun h=>⟨rfl,h⟩⟩
theorem Q0:Y6 (.int i) (.int j) H Q=Q (.bl (!decide (i=j))) H:=by
 have e:decide (V.int i=V.int j)=decide (i=j):=by
  simp_all
 unfold Y6;rw[e];apply propext;exact⟨fun h=>h.2,fun h=>⟨rfl,h⟩⟩
theorem Q9:Zb (.str a) (.str b) H Q=Q (.bl (decide (a=b))) H:=by
 have e:decide (V.str a=V.str b)=decide (a=b):=by
  simp_all
 unfold Zb;rw[e];apply propext;exact⟨fun h=>h.2,fun h=>⟨rfl,h⟩⟩
theorem QZ:Y6 (.str a) (.str b) H Q=Q (.bl (!decide (a=b))) H:=by
 have e:decide (V.str a=V.str b)=decide (a=b):=by
  simp_all
 unfold Y6;rw[e];apply propext;exact⟨fun h=>h.2,fun h=>⟨rfl,h⟩⟩
end
theorem gC.imp (h:gC X f r) (i:∀x y H Q,r' x y H Q->r x y H Q):gC X f r':=
 fun d s σ H x y v u Q I m j q=>h _ s σ H x y v u Q I m j (i _ _ _ _ q)
theorem b_.imp (h:b_ X f r) (i:∀xs H Q,r' xs H Q->r xs H Q):b_ X f r':=
 fun d s σ H xs us Q I rs q=>h _ s σ H xs us Q I rs (i _ _ _ q)
def CY (K:W.Frag):R2:=fun x y H Q=>match x,y with
 | .int i,.int j=>Q (.int (i+j)) H
 | .str a,.str b=>a.length+b.length<=sizeLine/\Q (.str (a++b)) H
 | .ref l,.ref b=>Zc (.ref l) (.ref b) H Q\/SW K (.ref l) (.ref b) H Q
 |_,_=>False
section
theorem RF:gC X (binaryOp .Add) (CY X.K):=by
 refine gC.imp (VI.or (Jj.or (VH.or RD))) fun x y H Q h=>?_;unfold CY at h;split at h
 ·exact .inl h
 ·simp_all
 ·exact .inr (.inr h)
 ·trivial
def Qn (i j:Int):Prop:=(0<=j/\j<=1000000)/\-(2 ^ 512)<i/\i<2 ^ 512
theorem Qn.bits (h:Qn i j):(Builtin.Int.intBits i:Int)+j<=2 ^ 27:=by
 have m:Builtin.Int.intBits i<=512:=by
  unfold Builtin.Int.intBits;split
  ·lia
  ·rename_i f;have d:i≠0:=fun q=>f (by rw[q];rfl);have:i.natAbs.log2<512:=(Nat.log2_lt (by lia)).mpr (by have:=h.2;lia);lia
 have:=h.1.2;lia
theorem jo:gC X (binaryOp .LShift) (rI Qn fun i j=> .int (i*2 ^ j.toNat)):=VJ fun _ _ _ _ _ _ _ hc q=>lshift_int hc.1.1 hc.bits q
end
def A4 (K:W.Frag):List V->Hp->VK->Prop:=fun xs H Q=>match xs with
 | [.str z]=>z.length<=sizeLine/\Q (.int z.length) H
 | [.ref p]=> ∃d,(cT K H p d\/dX K H p d)/\Q (.int d.length) H
 |_=>False
section
theorem MU:b_ X (.builtin "len") (A4 X.K):=by
 refine b_.imp (GN.or GL) fun xs H Q h=>?_;unfold A4 at h;split at h
 ·exact .inr ⟨_,rfl,h.1,h.2⟩
 ·simp_all
 ·simp_all
def NQ:List V->Hp->VK->Prop:=fun xs H Q=>match xs with
 | [.int i,.int j]=>Q (.int (if j<i then j else i)) H
 |_=>False
def NS:List V->Hp->VK->Prop:=fun xs H Q=>match xs with
 | [.int i,.int j]=>Q (.int (if i<j then j else i)) H
 |_=>False
theorem qm (hc:X.calm=true):b_ X (.builtin "min") NQ:=by
 refine b_.imp (MR hc) fun xs H Q h=>?_;unfold NQ at h;split at h
 ·exact⟨_,_,rfl,h⟩
 ·trivial
theorem qo (hc:X.calm=true):b_ X (.builtin "max") NS:=by
 refine b_.imp (MT hc) fun xs H Q h=>?_;unfold NS at h;split at h
 ·exact⟨_,_,rfl,h⟩
 ·trivial
noncomputable def aft:V->String->Option Bool
 | .int _,"int" =>some true
 | .int _,"bool" =>some false
 | .int _,"str" =>some false
 | .bl _,"int" =>some true
 | .bl _,"bool" =>some true
 | .str _,"str" =>some true
 | .str _,"int" =>some false
 |_,_=>none
def zA (K:W.Frag):List V->Hp->VK->Prop:=fun xs H Q=>match xs with
 | [x,.ty T]=>(match aft x T with
  |some b=>Q (.bl b) H
  |none=> ∃t b,yR K H x t/\W.kitOne K t (.type T)=some b/\Q (.bl b) H)
 |_=>False
theorem VV (K:W.Frag):W.kitOne K (.type "int") (.type "int")=some true:=rfl
theorem VW (K:W.Frag):W.kitOne K (.type "int") (.type "bool")=some false:=rfl
theorem kit_is (K:W.Frag):W.kitOne K (.type "int") (.type "str")=some false:=rfl
theorem VX (K:W.Frag):W.kitOne K (.type "bool") (.type "int")=some true:=rfl
theorem VY (K:W.Frag):W.kitOne K (.type "bool") (.type "bool")=some true:=rfl
theorem VT (K:W.Frag):W.kitOne K (.type "str") (.type "str")=some true:=rfl
theorem VU (K:W.Frag):W.kitOne K (.type "str") (.type "int")=some false:=rfl
theorem akv (K:W.Frag):W.kitOne K (.type "list") (.type "list")=some true:=rfl
theorem aku (K:W.Frag):W.kitOne K (.type "tuple") (.type "tuple")=some true:=rfl
theorem P8:b_ X (.builtin "isinstance") (zA X.K):=by
 intro d s σ H xs us Q I rs q;unfold zA at q;split at q
 ·rename_i x T;obtain⟨u,c,rfl,f,rc⟩:=vals2 rs;obtain rfl:c=Value.type T:=rc;have key:∀{t b},yR _ H x t->W.kitOne _ t _=some b->Q _ H->wpAny _ X.A (call _ [u,.type T]) (EP X _ σ Q) X.xe s:=fun{t b} ty e h=>
   Mw I f ty e fun tk=>⟨.bl b,H,I.tok tk,rfl,h⟩
  split at q
  ·rename_i b e;have h:=q;unfold aft at e;split at e<;>cases e
   ·exact key (.int _) (VV _) h
   ·exact key (.int _) (VW _) h
   ·exact key (.int _) (kit_is _) h
   ·exact key (.bl _) (VX _) h
   ·exact key (.bl _) (VY _) h
   ·exact key (.str _) (VT _) h
   ·exact key (.str _) (VU _) h
  ·obtain⟨t,b,ty,e,h⟩:=q;exact key ty e h
 ·trivial
theorem A5 (hg:Gl X x) (hm:X.mg x=none) (d:bootBuiltins x=some (.type T)) (hn:x≠ "__name__" :=by decide) (hd:(x == ("__debug__":Str))=false:=by decide):PE X (.Name x pos) (tC (.ty T)):=
 Ry hg hm d rfl hn hd
end
theorem iM:bootBuiltins "len" = some (.builtin "len"):=by decide+kernel
theorem DZ:bootBuiltins "min" = some (.builtin "min"):=by decide+kernel
theorem AV:bootBuiltins "max" = some (.builtin "max"):=by decide+kernel
theorem YC:bootBuiltins "abs" = some (.builtin "abs"):=by decide+kernel
theorem YA:bootBuiltins "sum" = some (.builtin "sum"):=by decide+kernel
theorem JQ:bootBuiltins "all" = some (.builtin "all"):=by decide+kernel
theorem cS:bootBuiltins "isinstance" = some (.builtin "isinstance"):=by decide+kernel
theorem YB:bootBuiltins "int" = some (.type "int"):=by decide+kernel
theorem Sz:bootBuiltins "bool" = some (.type "bool"):=by decide+kernel
theorem Qb:bootBuiltins "str" = some (.type "str"):=by decide+kernel
theorem La:bootBuiltins "list" = some (.type "list"):=by decide+kernel
theorem uL:bootBuiltins "tuple" = some (.type "tuple"):=by decide+kernel
section
variable {K:W.Frag}
theorem LW:CY K (.int i) (.int j) H Q=Q (.int (i+j)) H:=rfl
theorem LV:CY K (.str i) (.str j) H Q=(i.length+j.length<=sizeLine/\Q (.str (i++j)) H):=rfl
theorem LL:A4 K [.str z] H Q=(z.length<=sizeLine/\Q (.int z.length) H):=rfl
theorem LM:A4 K [.ref p] H Q=(∃d,(cT K H p d\/dX K H p d)/\Q (.int d.length) H):=rfl
theorem Q3:zA K [.int i,.ty "int"] H Q=Q (.bl true) H:=rfl
theorem Q4:zA K [.int i,.ty "bool"] H Q=Q (.bl false) H:=rfl
theorem Q2:zA K [.str i,.ty "str"] H Q=Q (.bl true) H:=rfl
theorem LG:NQ [.int i,.int j] H Q=Q (.int (if j<i then j else i)) H:=rfl
theorem LI:NS [.int i,.int j] H Q=Q (.int (if i<j then j else i)) H:=rfl
end
theorem Yv {CX:IE} {P:Program} {w:World} {K:W.Frag} {mg:Str->Option Value} {base:Heap} {N:List Str} {qual:Str} {scope:Scope} {f:Addr} {cd:Value} {A:Around} {outer:List Env} {s:Shared} {H:Hp} {E:XK}:
  (DT CX P w K mg base N qual scope f cd A outer s H E).K=K:=rfl
theorem law_fin {K:W.Frag} {st:Stmt} (i:mg nm=some (.ref fa)) (D:cn K mg nm st) (H:∀(kV doc pm:Value) (an:Option Addr) (d ct:Value) (us:List Value),us.length=([x]:List Str).length->bindArgs (W.fnOf nm nm (fM st) (dh st) (bF st) .none kV doc pm an d ct) ⟨us,[]⟩=pure (([x]:List Str).zip us)) (ok:∀base:Heap,FnAt P w K mg base CX nm k [x] sp):
  ∃v:FuncData,(∀(s:Shared) (u:Value),BindsTo s v ⟨[u],[]⟩ [(x,u)])/\∀base:Heap,K.In base->base.Ns mainGlobals mg->yT P w K mg base CX k fa v [x] sp:=by
 obtain⟨f,v,F,hm⟩:=D;rw[i] at hm;cases hm;obtain⟨O,od,kV,doc,pm,an,d,ct,E,e,lk,I⟩:=F.ex;refine⟨v,fun s u=>?_,fun base _ _=>?_⟩
 ·rw[e];exact .of_eq (H kV doc pm an d ct [u] rfl)
 ·obtain⟨J,C,h,j,_,_,z,G,y,m⟩:=ok base;rw[i] at j;cases j;rw[lk] at m;cases m;exact h
def E6 (K:W.Frag):Sp:=fun vs H Q _=>match vs with
 | [.ref a]=> ∃ns:List Int,cT K H a (ns.map V.int)/\ns.length<=63/\Qi H/\∀H',Q (.bl true) H'
 |_=>False
theorem OA {l:W.OpenLaw} {q:Program} {K:Params->W.Frag} (hn:l.most=some 63) (i:d.params.defaults= []) (m:c6 k callerA) (C:∀(w:World) (h:Heap),YP w h->(K w.params).In h) (F:∀(w:World) (mg:Str->Option Value) (fa:Addr) (h:Heap),(K w.params).In h->h.Ns mainGlobals mg->mg d.name=some (.ref fa)->
   ∃j:FuncData,(∀(s:Shared) (u:Value),BindsTo s j ⟨[u],[]⟩ [(x,u)])/\∀base:Heap,(K w.params).In base->base.Ns mainGlobals mg->yT l.prog w (K w.params) mg base YO k fa j [x] (E6 (K w.params))):
  W.WalkO q loose XP YP l.row.toRowW d [] (fun f vs=>PySem.call f vs):=
 L2.M6 (n:=63) (CX:=YO) (sp:=E6) hn (by decide) i m C F (fun K H a ns hl v y=>⟨ns,y,hl,v,fun _=>rfl⟩) fun _ _ _ _ z=>z
noncomputable def Cx.comp (X:Cx) (scope:Scope) (cl:List (Str×Addr)) (C:Addr) (N:List Str) (s:Shared) (H:Hp) (ex:List Addr):Cx:=
 {prog:=X.prog,w:=X.w,K:=X.K,mg:=X.mg,base:=X.base,A:=X.A,N:=N,s₀:=s,H₀:=H,env:=compEnvC scope cl C X.env,outer:=X.stack,stack:=X.stack,ex:=ex,fn:=fun _=>false,calm:=X.calm,pn:=[],xe:=fun _ _=>False}
theorem JN (h:∀y∈scope.names,y.2 = .free->∃c,env.cells.lookup y.1=some c):
  ∃cl,closureFor scope env=pure cl/\(∀y c,cl.lookup y=some c->env.cells.lookup y=some c)/\∀y∈scope.names,y.2 = .free->∃c,cl.lookup y.1=some c:=by
 have key:∀(l:List _) (acc:List (Str×Addr)),(∀y∈l,y.2 = .free->∃c,env.cells.lookup y.1=some c)->(∀y c,acc.lookup y=some c->env.cells.lookup y=some c)->
   ∃cl,(forIn l acc fun(x:Str×NameKind) (cs:List (Str×Addr))=>if(x.2 == NameKind.free)=true then do let a<-cellOf env x.1;pure (ForInStep.yield ((x.1,a)::cs)) else pure (ForInStep.yield cs))=(pure cl:Sem (List (Str×Addr)))/\
    (∀y c,cl.lookup y=some c->env.cells.lookup y=some c)/\(∀y c,acc.lookup y=some c->∃c,cl.lookup y=some c)/\∀y∈l,y.2 = .free->∃c,cl.lookup y.1=some c:=by
  intro l
  induction l with
  |nil=>intro acc _ ha;exact⟨acc,rfl,ha,fun y c e=>⟨c,e⟩,fun y f=>nomatch f⟩
  |cons x r u=>
   intro acc hl ha;obtain⟨n,k⟩:=x;by_cases hk:k = .free
   ·subst hk;obtain⟨c,hc⟩:=hl (n,.free) List.mem_cons_self rfl;have m:∀y d,((n,c)::acc).lookup y=some d->env.cells.lookup y=some d:=fun y d e=>by
     simp only[List.lookup_cons] at e;cases q:y == n<;>simp_all
    obtain⟨cl,e,h1,j,i⟩:=u ((n,c)::acc) (fun y f=>hl y (List.mem_cons_of_mem _ f)) m;have top:∃d,cl.lookup n=some d:=j n c (by simp_all);refine⟨cl,?_,h1,fun y d q=>?_,fun y f hf=>?_⟩
    ·rw[List.forIn_cons];have C:cellOf env n=pure c:=by unfold cellOf;rw[hc]
     show((if(NameKind.free == NameKind.free)=true then(do let a<-cellOf env n;pure (ForInStep.yield ((n,a)::acc))) else _) >>= _)=_;rw[C];exact e
    ·cases z:y == n with
     |true=>simp_all
     |false=>exact j y d (by simp only[List.lookup_cons,z];exact q)
    ·rcases List.mem_cons.mp f with rfl|f
     ·trivial
     ·exact i y f hf
   ·have v:(k == NameKind.free)=false:=by simpa using hk
    obtain⟨cl,e,h1,j,i⟩:=u acc (fun y f=>hl y (List.mem_cons_of_mem _ f)) ha;refine⟨cl,?_,h1,j,fun y f hf=>?_⟩
    ·rw[List.forIn_cons];show((if(k == NameKind.free)=true then _ else pure (ForInStep.yield acc)) >>= _)=_;rw[v,if_neg Bool.false_ne_true];exact e
    ·rcases List.mem_cons.mp f with rfl|f
     ·exact absurd hf hk
     ·exact i y f hf
 obtain⟨cl,e,h1,_,i⟩:=key scope.names [] h (fun y c q=>by simp at q);refine⟨cl,?_,h1,i⟩;unfold closureFor;exact(bind_congr (fun _=>rfl)).trans (by rw[e];rfl)
theorem qX (h:(relabel scope env).names.lookup x=some k):scope.names.lookup x=some k\/(scope.names.lookup x=some .free/\k = .cell):=by
 have key:∀l:List _,(l.map fun(n,k)=>if(k == NameKind.free&&env.scope.kind == .function&&env.kindOf n == some .cell) then(n,NameKind.cell) else(n,k)).lookup x=some k->l.lookup x=some k\/(l.lookup x=some .free/\k = .cell):=by
  intro l
  induction l with
  |nil=>simp
  |cons y r f=>
   obtain⟨n,j⟩:=y;intro h;rw[List.map_cons] at h;simp only[List.lookup_cons];cases q:x == n with
   |true=>
    by_cases hc:(j == NameKind.free&&env.scope.kind == .function&&env.kindOf n == some .cell)=true
    ·simp_all
    ·simp_all
   |false=>
    by_cases hc:(j == NameKind.free&&env.scope.kind == .function&&env.kindOf n == some .cell)=true
    ·simp only[hc,if_true,List.lookup_cons,q] at h;exact f h
    ·have d:(j == NameKind.free&&env.scope.kind == .function&&env.kindOf n == some .cell)=false:=by simpa using hc
     simp only[d,Bool.false_eq_true,if_false,List.lookup_cons,q] at h;exact f h
 exact key _ h
theorem HQ {h:Heap} (e:h.get? b=some o) (hn:h.objs.size<=n):b≠n:=Nat.ne_of_lt (Nat.lt_of_lt_of_le (Heap.lt_size e) hn)
structure D8 (X:Cx) (scope:Scope) (N:List Str) (nv:Nat) (ix:List Nat):Prop where
 kind:scope.kind = .function
 nocell:∀y∈scope.names,y.2≠ .cell
 names:∀y∈scope.names,y.2 = .local->scope.names.lookup y.1=some .local
 fre:∀y∈scope.names,y.2 = .free->X.env.kindOf y.1=some .cell\/X.env.kindOf y.1=some .free
 len:N.length=nv+ix.length
 at_:∀j y,N[nv+j]?=some y->∃i,ix[j]?=some i/\X.N[i]?=some y/\(X.env.kindOf y=some .cell\/X.env.kindOf y=some .free)/\scope.names.lookup y=some .free
noncomputable def jY (nv:Nat) (ix:List Nat) (σ:St):St:=List.replicate nv none++ix.map fun i=>(σ[i]?).join
section
theorem JL (S:D8 X scope N nv ix) (I:Inv X pins σ H s) (f:∀y c,cl.lookup y=some c->X.env.cells.lookup y=some c) (F:∀y∈scope.names,y.2 = .free->∃c,cl.lookup y.1=some c) (E:∀b∈fp,D7 X pins H b) (hob:∀b∈fp,b<s.heap.objs.size) (hC:s.heap.objs.size<=C) (hD:s.heap.objs.size<=D) (Y:D≠C) (old:∀b o,s.heap.get? b=some o->h1.get? b=some o) (hm:h1.Ns C m) (Z:h1.get? D=some oD) (O:∀v,oD.data≠ .cell v):
  Inv (X.comp scope cl C N s H fp) [(D,oD)] (jY nv ix σ) H {s with heap:=h1,toks:=tk}:=by
 refine⟨⟨I.ok.mod,S.kind,I.ok.glob,I.ok.blt,hC,fun x y c e1 U=>I.ok.inj x y c (f x c e1) (f y c U),fun x hx=>?_,fun _ _ z=>absurd z Bool.false_ne_true,I.ok.hd,I.ok.frames,.inl rfl,fun b J=>⟨fun z=>?_,fun x c e=>(E b J).2.2.2.2.1 x c (f x c e)⟩,I.bs,
  Nat.le_trans I.ok.bsz I.sz,fun b o e J=>?_,fun b J z=>?_,I.stack,I.Ck⟩,rfl,I.bare,Un.kept old,⟨m,hm,fun i x v e1 U e3=>?_⟩,fun x c e=>?_,I.hok.fresh hC,fun x c e=>I.oh x c (f x c e),fun p hp=>?_,I.hok.kept old,?_⟩
 ·have hx':=hx;have fr:scope.names.lookup x=some .free:=by
   rcases hx' with z|z
   ·rcases qX z with q|q
    ·exact absurd rfl (S.nocell _ (PySem.mem_of_lookup q))
    ·exact q.1
   ·rcases qX z with q|q
    ·exact q
    ·simp_all
  exact F (x,.free) (PySem.mem_of_lookup fr) rfl
 ·exact Nat.ne_of_lt (Nat.lt_of_lt_of_le (hob b J) hC) z
 ·rcases(E b J).2.2.2.1 with z|z
  ·exact I.ok.noex b o e z
  ·exact HQ e (Nat.le_trans I.ok.bsz z) rfl
 ·rcases List.mem_cons.mp (I.CF b z) with q|q
  ·exact(E b J).2.1 q
  ·exact(E b J).2.2.1 q
 ·have e1':N[i]?=some x:=e1;by_cases hi:i<nv
  ·have d:(jY nv ix σ)[i]?=some (some v):=U;unfold jY at d;rw[List.getElem?_append_left (by simp_all),List.getElem?_replicate,if_pos hi] at d;cases d
  ·obtain⟨j,rfl⟩:∃j,i=nv+j:=⟨i-nv,by lia⟩;obtain⟨k,hk,hN,hkd,hsc⟩:=S.at_ j x e1';have d:(jY nv ix σ)[nv+j]?=some (some v):=U;unfold jY at d;rw[List.getElem?_append_right (by simp),List.length_replicate,Nat.add_sub_cancel_left,List.getElem?_map,hk] at d;have e4:σ[k]?=some (some v):=by
    have e5:(σ[k]?).join=some v:=by simp_all
    cases q:σ[k]?<;>(simp_all)
   obtain⟨m0,_,hl⟩:=I.loc;have vis:Vis X.env.scope x:=by
    rcases hkd with z|z
    ·exact .inr (.inl z)
    ·exact .inr (.inr z)
   obtain⟨u,r,l⟩:=hl k x v hN e4 vis;refine⟨u,r,?_⟩;rcases l with⟨z,_⟩|⟨_,c,hc,G⟩
   ·simp_all
   ·obtain⟨c',P⟩:=F (x,.free) (PySem.mem_of_lookup hsc) rfl;have:=f x c' P;rw[hc] at this;cases this;refine .inr ⟨?_,c,P,G.keeps old⟩;rcases e3 with z|z|z
    ·rcases qX z with q|q
     ·simp_all
     ·cases q.2
    ·exact .inl z
    ·exact .inr z
 ·obtain⟨v,q⟩:=I.cell x c (f x c e);exact⟨v,q.keeps old⟩
 ·have hp':p∈[(D,oD)]:=hp;have e:p=(D,oD):=by simp_all
  subst e;refine⟨Z,I.hok.fresh hD,Y,fun z=>?_,O⟩;rcases List.mem_cons.mp (I.CF D z) with q|q
  ·exact Nat.ne_of_gt (Nat.lt_of_lt_of_le I.lt hD) q
  ·exact I.nofs hD q
 ·show(jY nv ix σ).length=N.length;unfold jY;rw[List.length_append,List.length_replicate,List.length_map,S.len]
theorem P4 (I:Inv X pins σ H s) (i:∀b∈fp,D7 X pins H b) (hD:s.heap.objs.size<=D) (J:Inv (X.comp scope cl C N s H fp) [(D,{cls:= .type "list",data:= .seq its.toArray n})] σ' H' s') (r:Vals ys its) (hl:ys.length<=sizeLine):Inv X pins σ (upd H' D (.lst ys)) s':=by
 obtain⟨m,d,_⟩:=J.pin (D,{cls:= .type "list",data:= .seq its.toArray n}) (by simp[Cx.comp]);have U:=J.base;have j:∀b o,s.heap.get? b=some o->b≠D:=fun b o e=>HQ e hD;refine I.call' J.os ⟨U.keep,U.slot,fun b o e n hx=>?_,U.there,fun b xs e=>?_,fun b o xs e=>?_,fun b x e=>?_⟩ (fun b u e=>?_) J.bare fun b f=>(i b f).2.2.2 |> fun z=>⟨z.1,(i b f).2.1,z.2.1,z.2.2⟩
 ·rw[ak (j b o e)];exact U.free b o e n hx
 ·have q:=U.tups b xs e;rw[ak (aG q d)];exact q
 ·have q:=U.frzs b o xs e;rw[ak (aG q d)];exact q
 ·obtain⟨more,q⟩:=U.tbls b x e;exact⟨_,by rw[ak (aG q d)];exact q⟩
 ·by_cases f:b=D
  ·subst f;rw[ar] at e;cases e;exact⟨hl,its,n,r,m⟩
  ·rw[ak f] at e;exact(J.hok b u e).stay (fun c v _ q=>q) (fun c q=>by rw[ak (aG q d)];exact q) fun c xs q=>by rw[ak (aG q d)];exact q
end
section
theorem GI {prog:Program} {w:World} {A:Around} {R:Result->Shared->Prop} {s:Shared} {elt target iter:Expr} {ifs:List Expr} {scope:Scope} {pos:Pos} {it acc:Value} {env:Env} (I:Nat->Shared->Prop)
  (
   turn:∀n s,I n s->wpAny (model prog w) A (pyNext it) (fun r i=>match r with
   |none=>R (.ok .next) i
   |
     some v=>wpAny (model prog w) A (letOwnedTupleGo target it v) (fun _ s₀=>wpAny (model prog w) A (assign target env v) (fun _ u=>
     wpAny (model prog w) A (forIn ifs true fun c r=>if r=true then do let ok<-isTrue c env (eval c env);pure (ForInStep.yield ok) else pure (ForInStep.yield r)) (fun ok f=>
      if ok=true then wpAny (model prog w) A (eval elt env) (fun x C=>
       wpAny (model prog w) A (call (.builtin "list.append") [acc,x]) (fun _ y=> ∃m,m<n/\I m y) (fun _ _=>False) C) (fun _ _=>False) f
      else∃m,m<n/\I m f) (fun _ _=>False) u) (fun _ _=>False) s₀) (fun _ _=>False) i) (fun _ _=>False) s)
  (n:Nat) (h:I n s):
  codeAny (model prog w) A (.compLoop (.ListComp elt [⟨target,iter,ifs,0⟩] scope pos) 0 it acc env) R s:=by
 refine codeAny_loop rfl I (fun n s H=>?_) n h;refine wpAny_noted ?_;rw[compTurn_list];refine wpAny_bind (wpAny_standAt (wpAny_bind (wpAny_mono (turn n s H) (fun r i j=>?_) fun _ _ d=>d.elim)));cases r with
 |none=>exact wpAny_pure j
 |some v=>
  refine wpAny_bind (wpAny_mono j (fun _ s₀ h₀=>?_) fun _ _ d=>d.elim);refine wpAny_bind (wpAny_mono h₀ (fun _ u F=>wpAny_bind (wpAny_mono F (fun ok f z=>?_) fun _ _ d=>d.elim)) fun _ _ d=>d.elim);cases ok with
  |false=>exact wpAny_pure ⟨rfl,z⟩
  |true=>
   exact wpAny_bind (wpAny_bind (wpAny_mono z (fun x C E=>wpAny_bind (wpAny_mono E (fun _ y G=>wpAny_pure (wpAny_pure ⟨rfl,G⟩)) fun _ _ d=>d.elim)) fun _ _ d=>d.elim))
end
def agL:TT:=fun _ H Q=>Q true H
def vO (J:It) (g:TG) (tt:TT) (te:TE) (u:St) (I:Hp) (Q:List V->Hp->Prop):Prop:=
 ∃W:Nat->Nat->List V->St->Hp->Prop,(∃m,W 0 m [] u I)/\∀i m z C H',W i m z C H'->
  (
   J.stop i H'/\Q z H')\/(J.go i H'/\z.length<sizeLine/\∃N:List V->St->Hp->Prop,(∀v j d,N v j d->∃E,E<m/\W (i+1) E v j d)/\
   ∀x d,J.yld i H' x d->g x C d fun f H=>tt f H fun b F=>if b=true then te f F fun y G=>N (z++ [y]) f G else N z f F)
def Hd (nv:Nat) (ix:List Nat) (wi:TI) (g:TG) (tt:TT) (te:TE):TE:=fun σ H Q=>wi σ H fun J f=>vO J g tt te (jY nv ix σ) f fun d H'=>d.length<=sizeLine/\∀D,H' D=none->Q (.ref D) (upd H' D (.lst d))
section
def PTs (X:Cx) (ifs:List Expr) (tt:TT):Prop:=
 ∀(d:List (Addr×Obj)) (s:Shared) (σ:St) (H:Hp) (Q:Bool->Hp->Prop),Inv X d σ H s->tt σ H Q->
  wpAny (model X.prog X.w) X.A (forIn ifs true fun c r=>if r=true then do let ok<-isTrue c X.env (eval c X.env);pure (ForInStep.yield ok) else pure (ForInStep.yield r)) (TP X d σ Q) X.xe s
theorem qZ:PTs X [] agL:=fun _ _ _ H _ I h=>wpAny_tests_nil ⟨H,I,h⟩
theorem uQ (h:PT X c tt):PTs X [c] tt:=fun d s σ H Q I hw=>wpAny_tests_one (h _ s σ H Q I hw)
theorem Fq {X:Cx} {tg elt iter:Expr} {ifs:List Expr} {scope:Scope} {N:List Str} {nv:Nat} {ix:List Nat} {pos:Pos} {wi:TI} {g:TG} {tt:TT} {te:TE} {use:Option (Value->Sem Unit)} {Qv:Value->Shared->Prop} {U:List (Addr×Obj)} {s:Shared} {σ:St} {H:Hp} {Q:List V->Hp->Prop} (hc:X.calm=true) (S:D8 X scope N nv ix) (hi:PI X tg iter wi)
  (hg:∀cl C s H ex,PG (X.comp scope cl C N s H ex) tg g) (ht:∀cl C s H ex,PTs (X.comp scope cl C N s H ex) ifs tt) (he:∀cl C s H ex,PE (X.comp scope cl C N s H ex) elt te) (I:Inv X U σ H s)
  (h:wi σ H fun J H1=>vO J g tt te (jY nv ix σ) H1 fun ys H'=>ys.length<=sizeLine/\Q ys H')
  (fin:∀ys D C H' s' (s2:Shared) (σ2:St),Q ys H'->H' D=none->D≠C->Inv X U σ (upd H' D (.lst ys)) s'->(∃m,s'.heap.Ns C m)->(∀H'',H'' C=none->D7 X U H'' C)->H' C=none->compPost (model X.prog X.w) X.A X.xe use Qv (.ref D) C (.ok .next) s')
  (hs:∀x,foldedSetIterable iter X.env x=pure x):
  wpAny (model X.prog X.w) X.A (comprehension (.ListComp elt [⟨tg,iter,ifs,0⟩] scope pos) scope X.env (firstIterPos [⟨tg,iter,ifs,0⟩] pos) (newList []) false (eval iter X.env) use) Qv X.xe s:=by
 obtain⟨cl,hclos,hcl,hcl2⟩:=JN (scope:=scope) fun y hy hf=>I.ok.has y.1 (S.fre y hy hf);refine wpAny_comprehension_free (use:=use) rfl hs hclos S.kind S.names (thn (hi U s σ H _ I h) fun v s1 h1=>thn h1 fun itv s2 h2=>?_);obtain⟨it,P,tn,J,H2,e,I2,T,st2,f2,W,⟨m0,w0⟩,turn⟩:=h2;subst e;refine wpAny_newObj_type (wpAny_newFunctionEnv S.nocell (by simp_all) (fun G E j=>?_) S.kind);dsimp only at E j⊢;generalize hH2:s2.heap.push {cls:= .type "list",dict:=none,data:= .seq ([]:List Value).toArray}=Z at E j⊢;have hC:Z.objs.size=s2.heap.objs.size+1:=by rw[<-hH2,Heap.size_push]
 have hDC:s2.heap.objs.size≠Z.objs.size:=by simp_all
 have old:∀b o,s2.heap.get? b=some o->G.get? b=some o:=fun b o e=>j.extBut b o (HQ e (by simp_all)) (Heap.get?_push_of_some _ (hH2▸Heap.get?_push_of_some _ e));have hacc:G.get? s2.heap.objs.size=some {cls:= .type "list",data:= .seq ([]:List Value).toArray 0}:=j.extBut _ _ hDC (Heap.get?_push_of_some _ (hH2▸Heap.get?_push_size _ rfl));have hob:∀b∈P,b<s2.heap.objs.size:=fun b O=>by
  obtain⟨o,e,_⟩:=T.obj _ _ st2 b O;exact Heap.lt_size e
 have hCle:s2.heap.objs.size<=Z.objs.size:=by simp_all
 have I4:∀tk,Inv (X.comp scope cl Z.objs.size N s2 H2 P) [(s2.heap.objs.size,{cls:= .type "list",data:= .seq ([]:List Value).toArray 0})] (jY nv ix σ) H2 {s2 with heap:=G,toks:=tk}:=fun tk=>
  JL S I2 hcl hcl2 f2 hob hCle (Nat.le_refl _) hDC old E hacc (fun v z=>by cases z)
 have Y:tn 0 G:=T.keep _ _ _ st2 fun b _ o e=>old b o e;have stat:∀{H':Hp} {pns:List (Addr×Obj)},(∀p∈pns,p.1=s2.heap.objs.size)->(∀b∈P,H' b=none)->∀b∈P,D7 (X.comp scope cl Z.objs.size N s2 H2 P) pns H' b:=fun{H' pns} hp hn b O=>by
  obtain⟨f0,f1,f3,f4,f5,f6⟩:=f2 b O;have hlt:=hob b O;refine⟨hn b O,fun z=>?_,fun z=>?_,.inl O,fun x c e=>f5 x c (hcl x c e),fun p hp' z=>?_⟩
  ·exact Nat.ne_of_lt (Nat.lt_of_lt_of_le hlt hCle) z
  ·rcases List.mem_cons.mp (I2.CF b z) with q|q
   ·trivial
   ·trivial
  ·have hp'':p∈pns:=‹_›;exact Nat.ne_of_gt (by rw[hp p hp''];exact hlt) z
 have loop:∀s₃:Shared,s₃={s2 with heap:=G,toks:=s2.toks+([]:List (Str×Value)).length}->
   codeAny (model X.prog X.w) X.A (.compLoop (.ListComp elt [⟨tg,iter,ifs,0⟩] scope pos) 0 (.ref it) (.ref s2.heap.objs.size) (compEnvC scope cl Z.objs.size X.env))
    (compPost (model X.prog X.w) X.A X.xe use Qv (.ref s2.heap.objs.size) Z.objs.size) s₃:=by
  rintro s₃ rfl;refine GI (fun n s'=> ∃i ys f F H',Inv (X.comp scope cl Z.objs.size N s2 H2 P) [(s2.heap.objs.size,{cls:= .type "list",data:= .seq f.toArray f.length})] F H' s'/\tn i s'.heap/\(∀b∈P,H' b=none)/\Vals ys f/\W i n ys F H') ?_ m0
   ⟨0,[],[],_,H2,I4 _,Y,fun b O=>(f2 b O).1,.nil,w0⟩
  rintro n s' ⟨i,ys,f,F,H',I',st',fr',rv,w'⟩;have pin1:∀{o:Obj},∀p∈[(s2.heap.objs.size,o)],p.1=s2.heap.objs.size:=fun{o} p hp=>by
   simp_all
  rcases turn i n ys F H' w' with⟨stop,hl,qn⟩|⟨go,hlen,Nx,hN,step⟩
  ·refine thn (T.done (X.comp scope cl Z.objs.size N s2 H2 P) rfl rfl rfl hc i _ s' F H' (fun _ _=>False) I' (stat pin1 fr') st' stop) fun r s4 ⟨hr,I5⟩=>?_;subst hr;obtain⟨m5,hm5,_⟩:=I5.loc;have fD:=(I5.pin (s2.heap.objs.size,{cls:= .type "list",data:= .seq f.toArray f.length}) (List.mem_append_right _ (by simp))).2.1;exact fin ys _ _ H' s4 s2 F qn fD hDC (P4 I2 f2 (Nat.le_refl _) I5 rv hl) ⟨m5,hm5⟩ (fun H'' hn=>I2.JF hCle hn) I5.free
  ·refine thn (T.item (X.comp scope cl Z.objs.size N s2 H2 P) rfl rfl rfl hc i _ s' F H' (fun _ _=>False) I' (stat pin1 fr') st' go) fun r s4 ⟨u,hr,h4⟩=>?_;subst hr;refine thn h4 fun _ s5 ⟨x,H5,I5,r5,y5,st5,fr5⟩=>?_;have I5':=I5.pinned (stat pin1 fr5) (T.obj _ _ st5);refine thn (hg _ _ _ _ _ _ s5 F H5 x u _ I5' r5 (step x H5 y5)) fun _ s6 ⟨σ6,H6,I6,q6⟩=>?_;refine thn (ht _ _ _ _ _ _ s6 σ6 H6 _ I6 q6) fun b s7 ⟨H7,I7,q7⟩=>?_;have back:∀{σ8:St} {H8:Hp} {s8:Shared},Inv (X.comp scope cl Z.objs.size N s2 H2 P) ([(s2.heap.objs.size,{cls:= .type "list",data:= .seq f.toArray f.length})]++FY P s5.heap) σ8 H8 s8->tn (i+1) s8.heap/\∀b∈P,H8 b=none:=fun{σ8 H8 s8} J=>
    ⟨
     T.keep _ _ _ st5 fun b O o e=>(J.pin (b,o) (List.mem_append_right _ (List.mem_append_right _ (rq O e)))).1,fun b O=>by
     obtain⟨o,e,d⟩:=T.obj _ _ st5 b O;exact(J.pin (b,o) (List.mem_append_right _ (List.mem_append_right _ (rq O e)))).2.1⟩
   cases b with
   |false=>
    rw[if_neg Bool.false_ne_true] at q7;obtain⟨m',hm,w7⟩:=hN _ _ _ q7;exact⟨m',hm,i+1,ys,f,σ6,H7,I7.unpinned,(back I7).1,(back I7).2,rv,w7⟩
   |true=>
    rw[if_pos rfl] at q7;refine fS (he _ _ _ _ _ _ s7 σ6 H7 _ I7 q7) fun y s8 yv H8 I8 r8 q8=>?_;obtain⟨eD,fD,nD,nfD,dD⟩:=I8.pin (s2.heap.objs.size,{cls:= .type "list",data:= .seq f.toArray f.length}) (List.mem_append_right _ (by simp));refine append_at (hsz:=by rw[List.size_toArray,<-rv.length];exact Nat.le_of_lt hlen) eD fun h₅ hs₅ hD₅=>?_;obtain⟨m',hm,w8⟩:=hN _ _ _ q8;have fpD:s2.heap.objs.size ∉ P:=fun z=>Nat.lt_irrefl _ (hob _ z);have I9:Inv (X.comp scope cl Z.objs.size N s2 H2 P) [] σ6 H8 s8:=I8.Cr fun p hp=>absurd hp (by simp);have fk:=I2.JF (H':=H8) (Nat.le_refl _) fD;have I10:Inv (X.comp scope cl Z.objs.size N s2 H2 P) [] σ6 H8 {s8 with heap:=h₅,toks:=s8.toks}:=
     I9.turned (it:=s2.heap.objs.size) (fun b o O e=>hs₅.extBut b o O e) fD nD (.inr (Nat.le_refl _)) (fun x c e=>fk.2.2.2.2.1 x c (hcl x c e)) (fun p hp=>absurd hp (by simp[Cx.comp]))
    refine⟨m',hm,i+1,ys++ [yv],f++ [y],σ6,H8,I10.Cr fun p hp=>?_,?_,(back I8).2,rv.append (.cons r8 .nil),w8⟩
    ·have e:p=(s2.heap.objs.size,{cls:= .type "list",data:= .seq (f++ [y]).toArray (f++ [y]).length}):=by simpa using hp
     subst e;refine⟨?_,fD,nD,nfD,fun v z=>by cases z⟩;show h₅.get? s2.heap.objs.size=_;rw[hD₅,List.push_toArray,List.length_append,List.length_singleton]
    ·exact T.keep _ _ _ (back I8).1 fun b O o e=>hs₅.extBut b o (fun z=>fpD (by have z':b=s2.heap.objs.size:=z;rw[<-z'];exact O)) e
 exact codeAny_compStart_list (loop _ rfl) (T.self _ 0 _ _ _ Y (loop _ rfl))
theorem jm (hc:X.calm=true) (S:D8 X scope N nv ix) (hi:PI X tg iter wi) (hg:∀cl C s H ex,PG (X.comp scope cl C N s H ex) tg g) (ht:∀cl C s H ex,PTs (X.comp scope cl C N s H ex) ifs tt) (he:∀cl C s H ex,PE (X.comp scope cl C N s H ex) elt te) (hs:∀x,foldedSetIterable iter X.env x=pure x:=by intro _;rfl):PE X (.ListComp elt [⟨tg,iter,ifs,0⟩] scope pos) (Hd nv ix wi g tt te):=by
 intro j s σ H Q I h;refine Fq (Q:=fun f H'=> ∀D,H' D=none->Q (.ref D) (upd H' D (.lst f))) hc S hi hg ht he I ?_ (fun f D C H' Y s2 z q F d J hm u v=>?_) hs
 ·exact h
 ·obtain⟨m,hm⟩:=hm;refine⟨m,hm,fun U E=>⟨.ref D,_,?_,rfl,q D F⟩⟩;have i:upd H' D (.lst f) C=none:=by rw[ak (Ne.symm d)];exact v
  obtain⟨f0,f1,Z,y,O,P⟩:=u _ i;exact J.turned (fun b o G e=>E.extBut b o G e) f0 f1 y O P
theorem Kr (hc:X.calm=true) (hN:X.N.Nodup) (d:X.N[i]?=some x) (hx:X.env.scope.names.lookup x=some .local) (S:D8 X scope N nv ix) (hi:PI X tg iter wi) (hg:∀cl C s H ex,PG (X.comp scope cl C N s H ex) tg g) (ht:∀cl C s H ex,PTs (X.comp scope cl C N s H ex) ifs tt) (he:∀cl C s H ex,PE (X.comp scope cl C N s H ex) elt te) (y:swapsWith (.ListComp elt [⟨tg,iter,ifs,0⟩] scope pos) (some (.Name x px)) spos.line X.env=pure true:=by rfl) (hs:∀x,foldedSetIterable iter X.env x=pure x:=by intro _;rfl):PS X (.Assign [.Name x px] (.ListComp elt [⟨tg,iter,ifs,0⟩] scope pos) spos) (He (Hd nv ix wi g tt te) (qf i)):=by
 intro F s σ H D I h;rw[exec_Assign_Name_used _ _ _ _ y];refine wpAny_bind (wpAny_standAt (wpAny_bind ?_));refine wpAny_bind (thn (Fq hc S hi hg ht he I h (fun ys l C H' O s2 σ2 q fD f J hm P U=>?_) hs)
  fun _ O hq=>wpAny_pure (wpAny_pure hq))
 obtain⟨m,hm⟩:=hm;have E:upd H' l (.lst ys) C=none:=by rw[ak (Ne.symm f)];exact U
 obtain⟨f0,f1,f2,Z,G,f5⟩:=P _ E;refine wpAny_assign_Name (E5 J hN d (.inl hx) (v:= .ref l) rfl (fun s'' Y ⟨a,sb,ha⟩=>?_) (.inr hx));have u:C≠a:=by
  rcases ha with z|z
  ·simp_all
  ·exact Ne.symm (G x a z)
 refine⟨m,hm.sameBut sb u,fun h' j=>⟨_,_,?_,q l fD⟩⟩;exact Y.turned (fun b o hb e=>j.extBut b o hb e) f0 f1 Z G f5
end
noncomputable def Its (x:Str):It:=⟨fun i _=>i<x.cps.size,fun i H v H'=>H'=H/\∃c,x.cps[i]?=some c/\v = .str ⟨#[c]⟩,fun i _=>x.cps.size<=i⟩
theorem G7 {P:Program} {w:World} {K:W.Frag} {tg:Expr} (it:Addr) (x:Str) (t:Tok) (T:String) (J:T = "str_ascii_iterator" \/T = "str_iterator"):Turn P w K tg (Its x) [it] it (fun i h=>h.IsStrIter it T x t i) where
 mem:=by simp
 obj:=fun i h st b f=>by
  have e:b=it:=by simp_all
  subst e;obtain⟨o,e,c,d⟩:=st;exact⟨o,e,fun v z=>by simp_all⟩
 keep:=fun i h C st k=>by
  obtain⟨o,e,r⟩:=st;exact⟨o,k it (by simp) o e,r⟩
 item:=by
  intro X hP hw Z hc i j s σ H E I hf st hg;subst hP hw Z;obtain⟨f0,f1,f2,G,O,F⟩:=hf it (by simp);have m:=hg;have W:Walks X.prog X.w X.A it [it] [it] x.cps.size (SignAt x) (fun i h=>h.IsStrIter it T x t i):=by
   rcases J with rfl|rfl
   ·exact Walks.strAscii (I.ok.hd hc) it x t
   ·exact Walks.strWide (I.ok.hd hc) it x t
  refine W.item i s _ _ m st fun v C tk hv y kk=>?_;obtain⟨c,u,Y,rfl⟩:=hv;have I1:Inv X _ σ H {s with heap:=C,toks:=tk}:=I.turned (fun b o f e=>kk b o (by simp_all) e) f0 f1 G O F;obtain⟨o,e,c',d⟩:=id y;refine⟨_,rfl,Ie e c' d (by rcases J with rfl|rfl<;>decide) ⟨.str _,H,I1,⟨u,rfl⟩,⟨rfl,c,Y,rfl⟩,y,fun b f=>(hf b f).1⟩⟩
 done:=by
  intro X hP hw Z hc i j s σ H E I hf st hg;obtain⟨f0,f1,f2,G,O,F⟩:=hf it (by simp);have m:x.cps.size<=i:=hg;have he:x.cps[i]?=none:=by simp_all
  rcases J with rfl|rfl
  ·exact wpAny_pyNext_ascii_end (I.ok.hd hc) st he fun C U=>⟨rfl,I.turned (fun b o f e=>U b o f e) f0 f1 G O F⟩
  ·exact wpAny_pyNext_wide_end (I.ok.hd hc) st he fun C U=>⟨rfl,I.turned (fun b o f e=>U b o f e) f0 f1 G O F⟩
 self:=fun _ _ _ _ _ st h=>by
  rcases J with rfl|rfl
  ·exact wpAny_pyIter_striter_ascii st h
  ·exact wpAny_pyIter_striter_wide st h
def FF (K:W.Frag) (x:V) (d:Hp) (R:It->Hp->Prop):Prop:=match x with
 | .ref a=>(∃xs,cT K d a xs/\R (Itl K a) d)\/(∃xs,dX K d a xs/\R (Itt K a) d)
 | .str z=>R (Its z) d
 |_=>False
def R7 (K:W.Frag) (tl:TE):TI:=fun σ H R=>tl σ H fun x d=>FF K x d R
theorem Vo (hl:PE X l tl):PI X tg l (R7 X.K tl):=by
 intro u s σ H R I h;refine fS (hl _ s σ H _ I h) fun v s1 x f d m q1=>?_;cases x with
 |ref a=>
  cases m;rcases q1 with⟨xs,j,q⟩|⟨xs,j,q⟩
  ·obtain⟨i,F,p,E⟩:=d.list j;refine wpAny_pyIter_list p.isList ?_;refine⟨_,_,_,_,f,rfl,d.kept fun b o e=>Heap.get?_push_of_some _ e,Lj a _,⟨_,Heap.get?_push_size _ rfl,rfl,rfl⟩,fun b C=>?_,q⟩;have e:b=s1.heap.objs.size:=by simp_all
   subst e;exact d.JF (Nat.le_refl _) (d.hok.fresh (Nat.le_refl _))
  ·obtain⟨i,F,p,E⟩:=d.tuple j;refine wpAny_pyIter_tuple ((p)) ?_;refine⟨_,_,_,_,f,rfl,d.kept fun b o e=>Heap.get?_push_of_some _ e,IL a _,⟨_,Heap.get?_push_size _ rfl,rfl,rfl⟩,fun b C=>?_,q⟩;have e:b=s1.heap.objs.size:=by simp_all
   subst e;exact d.JF (Nat.le_refl _) (d.hok.fresh (Nat.le_refl _))
 |str z=>
  obtain⟨t,rfl⟩:=m;have y:∀b∈[s1.heap.objs.size],D7 X _ f b:=fun b C=>by
   have e:b=s1.heap.objs.size:=by simp_all
   subst e;exact d.JF (Nat.le_refl _) (d.hok.fresh (Nat.le_refl _))
  cases ha:z.cps.all _
  ·exact wpAny_pyIter_wide ha ⟨_,_,_,_,f,rfl,d.kept fun b o e=>Heap.get?_push_of_some _ e,G7 _ z t _ (.inr rfl),⟨_,Heap.get?_push_size _ rfl,rfl,rfl⟩,y,q1⟩
  ·exact wpAny_pyIter_ascii ha ⟨_,_,_,_,f,rfl,d.kept fun b o e=>Heap.get?_push_of_some _ e,G7 _ z t _ (.inl rfl),⟨_,Heap.get?_push_size _ rfl,rfl,rfl⟩,y,q1⟩
 |_=>exact q1.elim
def forR (J:It) (g:TG) (u:TS) (D:Ends) (σ:St) (H:Hp):Prop:= ∃W:Nat->Nat->St->Hp->Prop,(∃m,W 0 m σ H)/\∀i m σ H,W i m σ H->
 (J.stop i H/\D.nx σ H)\/(J.go i H/\∃N:St->Hp->Prop,(∀d H',N d H'->∃j,j<m/\W (i+1) j d H')/\∀x H',J.yld i H x H'->g x σ H' fun f v=>u {D with nx:=N,ct:=N,bk:=D.nx} f v)
section
variable {K:W.Frag}
theorem Ng:Nh (R7 K tl) g tb D σ H=tl σ H fun x f=>FF K x f fun J d=>forR J g tb D σ d:=rfl
theorem Ln:Hd nv ix (R7 K tl) g tt te σ H Q=tl σ H fun x i=>FF K x i fun J f=>vO J g tt te (jY nv ix σ) f fun d H'=>d.length<=sizeLine/\∀l,H' l=none->Q (.ref l) (upd H' l (.lst d)):=rfl
def E9 (vs:List V) (d:Hp) (R:It->Hp->Prop):Prop:=match vs with
 | [.int j]=>(-(2 ^ 62)<=j/\j<2 ^ 62)/\R (Qk 0 j.toNat) d
 |_=>False
def E8 (vs:List V) (d:Hp) (R:It->Hp->Prop):Prop:=match vs with
 | [.int i,.int j]=>(-(2 ^ 62)<=i/\i<2 ^ 62/\-(2 ^ 62)<=j/\j<2 ^ 62)/\R (Qk i (j-i).toNat) d
 |_=>False
def OE (f:TA):TI:=fun σ H R=>f σ H fun vs d=>E9 vs d R
def OD (f:TA):TI:=fun σ H R=>f σ H fun vs d=>E8 vs d R
def Ht (vs:List V) (d:Hp) (R:It->Hp->Prop):Prop:=match vs with
 | [.int i,.int j,.int c]=>(-(2 ^ 61)<=i/\i<2 ^ 61/\-(2 ^ 61)<=j/\j<2 ^ 61/\0<c/\c<1000000)/\R (ID i c (rcount i j c)) d
 |_=>False
def Uw (f:TA):TI:=fun σ H R=>f σ H fun vs d=>Ht vs d R
theorem Lm:Nh (OE ta) g tb D σ H=ta σ H fun vs f=>E9 vs f fun J d=>forR J g tb D σ d:=rfl
theorem Ll:Nh (OD ta) g tb D σ H=ta σ H fun vs f=>E8 vs f fun J d=>forR J g tb D σ d:=rfl
theorem Lk:Nh (Uw ta) g tb D σ H=ta σ H fun vs f=>Ht vs f fun J d=>forR J g tb D σ d:=rfl
theorem IQ:Hd nv ix (OE ta) g tt te σ H Q=ta σ H fun vs i=>E9 vs i fun J f=>vO J g tt te (jY nv ix σ) f fun d H'=>d.length<=sizeLine/\∀l,H' l=none->Q (.ref l) (upd H' l (.lst d)):=rfl
theorem IP:Hd nv ix (OD ta) g tt te σ H Q=ta σ H fun vs i=>E8 vs i fun J f=>vO J g tt te (jY nv ix σ) f fun d H'=>d.length<=sizeLine/\∀l,H' l=none->Q (.ref l) (upd H' l (.lst d)):=rfl
theorem LA {R:It->Hp->Prop}:E9 [.int j] H R=((-(2 ^ 62)<=j/\j<2 ^ 62)/\R (Qk 0 j.toNat) H):=rfl
theorem Lz {R:It->Hp->Prop}:E8 [.int i,.int j] H R=((-(2 ^ 62)<=i/\i<2 ^ 62/\-(2 ^ 62)<=j/\j<2 ^ 62)/\R (Qk i (j-i).toNat) H):=rfl
theorem Ly {R:It->Hp->Prop}:Ht [.int i,.int j,.int c] H R=((-(2 ^ 61)<=i/\i<2 ^ 61/\-(2 ^ 61)<=j/\j<2 ^ 61/\0<c/\c<1000000)/\R (ID i c (rcount i j c)) H):=rfl
end
section
theorem iO (hg:Gl X "range") (hm:X.mg "range" = none) (ha:PA X [a] ta) (hs:starEach [a] X.env= [(false,eval a X.env)]:=by rfl):PI X tg (.Call (.Name "range" p) [a] [] pos) (OE ta):=by
 intro d s σ H R I h;refine Call_ (wU I hg hm boot_range (PyProof.Rows.callWith_type1 (fS (ha _ _ s σ H _ I h) fun us s1 vs i m f q1=>?_) hs rfl));replace q1:E9 vs i R:=q1;unfold E9 at q1;split at q1
 ·obtain⟨⟨q1,q2⟩,q⟩:=q1;cases f with
  |cons r j=>
   cases j;obtain⟨t,rfl⟩:=r;exact call_range_1 (Hv m (by lia) (by lia) q1 q2 (by simp_all))
 ·simp_all
theorem uR (hg:Gl X "range") (hm:X.mg "range" = none) (ha:PA X [a,b] ta) (hs:starEach [a,b] X.env= [(false,eval a X.env),(false,eval b X.env)]:=by rfl) (d:starEach [b] X.env= [(false,eval b X.env)]:=by rfl):
  PI X tg (.Call (.Name "range" p) [a,b] [] pos) (OD ta):=by
 intro i s σ H R I h;refine Call_ (wU I hg hm boot_range (PyProof.Rows.callWith_type1 (fS (ha _ _ s σ H _ I h) fun us s1 vs m v j q1=>?_) (by simp_all) (by rw[d];rfl)));replace q1:E8 vs m R:=q1;unfold E8 at q1;split at q1
 ·obtain⟨⟨q1,q2,q3,q4⟩,q⟩:=q1;cases j with
  |cons r f=>
   cases f with
   |cons u f=>
    cases f;obtain⟨t,rfl⟩:=r;obtain⟨t',rfl⟩:=u;exact call_range_2 (Hv v q1 q2 q3 q4 q)
 ·trivial
theorem L8 (hg:Gl X "range") (hm:X.mg "range" = none) (ha:PA X [a,b,c] ta) (hs:starEach [a,b,c] X.env= [(false,eval a X.env),(false,eval b X.env),(false,eval c X.env)]:=by rfl) (f:starEach [b,c] X.env= [(false,eval b X.env),(false,eval c X.env)]:=by rfl):
  PI X tg (.Call (.Name "range" p) [a,b,c] [] pos) (Uw ta):=by
 intro j s σ H R I h;refine Call_ (wU I hg hm boot_range (PyProof.Rows.callWith_type1 (fS (ha _ _ s σ H _ I h) fun us s1 vs v y m q1=>?_) (by simp_all) (by rw[f];rfl)));replace q1:Ht vs v R:=q1;unfold Ht at q1;split at q1
 ·obtain⟨⟨q1,q2,q3,q4,q5,q6⟩,q⟩:=q1;cases m with
  |cons r d=>
   cases d with
   |cons x d=>
    cases d with
    |cons i d=>
     cases d;obtain⟨t,rfl⟩:=r;obtain⟨t',rfl⟩:=x;obtain⟨u,rfl⟩:=i;exact call_range_3 (by lia) (LB y (QQ q1 q2 q3 q4 q5 (by lia)) q5 q) (Or.inl (PyProof.noPylong_small (by lia)))
 ·trivial
end
section
variable {K:W.Frag}
theorem rC (j:cT K H a xs) (Pv:Nat->St->Hp->Prop) (h0:Pv 0 σ H) (hl:∀i σ H,i<=xs.length->Pv i σ H->cT K H a xs) (hs:∀i x σ H,xs[i]?=some x->Pv i σ H->g x σ H fun d f=>tb {D with nx:=Pv (i+1),ct:=Pv (i+1),bk:=D.nx} d f) (hd:∀σ H,Pv xs.length σ H->D.nx σ H):
  FF K (.ref a) H fun J f=>forR J g tb D σ f:= .inl ⟨xs,j,PD Pv h0 hl hs hd⟩
theorem Yd (j:dX K H a xs) (Pv:Nat->St->Hp->Prop) (h0:Pv 0 σ H) (hl:∀i σ H,i<=xs.length->Pv i σ H->dX K H a xs) (hs:∀i x σ H,xs[i]?=some x->Pv i σ H->g x σ H fun d f=>tb {D with nx:=Pv (i+1),ct:=Pv (i+1),bk:=D.nx} d f) (hd:∀σ H,Pv xs.length σ H->D.nx σ H):
  FF K (.ref a) H fun J f=>forR J g tb D σ f:= .inr ⟨xs,j,Sm Pv h0 hl hs hd⟩
theorem Ye (Pv:Nat->St->Hp->Prop) (h0:Pv 0 σ H) (hs:∀(i:Nat) (c:Nat) σ H,z.cps[i]?=some c->Pv i σ H->g (.str ⟨#[c]⟩) σ H fun f j=>tb {D with nx:=Pv (i+1),ct:=Pv (i+1),bk:=D.nx} f j) (hd:∀σ H,Pv z.cps.size σ H->D.nx σ H):
  FF K (.str z) H fun J j=>forR J g tb D σ j:=by
 refine⟨fun i m σ H=>m=z.cps.size-i/\i<=z.cps.size/\Pv i σ H,⟨_,rfl,Nat.zero_le _,h0⟩,?_⟩;rintro i m σ H ⟨rfl,hi,p⟩;by_cases d:i<z.cps.size
 ·refine .inr ⟨d,_,fun u H' v=>⟨_,by lia,rfl,d,v⟩,fun x H' y=>?_⟩;obtain⟨e,c,hc,rfl⟩:=y;subst e;exact hs i c σ _ hc p
 ·have e:i=z.cps.size:=by lia
  subst e;exact .inl ⟨Nat.le_refl _,hd σ H p⟩
theorem tP {g:TG} {f:TS} {D:Ends} {σ:St} {H:Hp} {lo:Int} {n:Nat} (Pv:Nat->St->Hp->Prop) (h0:Pv 0 σ H)
  (hs:∀(i:Nat) σ H,i<n->Pv i σ H->g (.int (lo+i)) σ H fun d j=>f {D with nx:=Pv (i+1),ct:=Pv (i+1),bk:=D.nx} d j) (hd:∀σ H,Pv n σ H->D.nx σ H):
  forR (Qk lo n) g f D σ H:=MK Pv h0 hs hd
theorem Sn {g:TG} {f:TS} {D:Ends} {σ:St} {H:Hp} {lo c:Int} {n:Nat} (Pv:Nat->St->Hp->Prop) (h0:Pv 0 σ H)
  (hs:∀(i:Nat) σ H,i<n->Pv i σ H->g (.int (lo+i*c)) σ H fun d j=>f {D with nx:=Pv (i+1),ct:=Pv (i+1),bk:=D.nx} d j) (hd:∀σ H,Pv n σ H->D.nx σ H):
  forR (ID lo c n) g f D σ H:=JG Pv h0 hs hd
end
section
variable {K:W.Frag}
theorem uV {tt:TT} {te:TE} {H:Hp} {tail:St} {Q:List V->Hp->Prop} {p:V->Bool} {f:V->V} {J:It} {n:Nat} {xs:List V} (hn:xs.length=n) (G:n<=sizeLine) (go:∀i,i<n->J.go i H) (stop:J.stop n H) (F:∀i x H',i<n->J.yld i H x H'->H'=H/\xs[i]?=some x)
  (ht:∀x∈xs,∀Q:Bool->Hp->Prop,Q (p x) H->tt (some x::tail) H Q) (he:∀x∈xs,p x=true->∀Q:VK,Q (f x) H->te (some x::tail) H Q) (q:Q ((xs.filter p).map f) H):
  vO J (qf 0) tt te (none::tail) H Q:=by
 refine⟨fun i m E C H'=>i<=n/\m=n-i/\E=((xs.take i).filter p).map f/\(∃v,C=v::tail)/\H'=H,⟨n,Nat.zero_le _,rfl,rfl,⟨_,rfl⟩,rfl⟩,?_⟩;rintro i m E C H' ⟨hi,rfl,rfl,⟨v,rfl⟩,rfl⟩;by_cases e:i=n
 ·subst e;refine .inl ⟨stop,?_⟩;rw[List.take_of_length_le (by lia)];exact q
 ·have u:i<n:=by lia
  refine .inr ⟨go i u,?_,fun z d j=>z=((xs.take _).filter p).map f/\(∃v,d=v::tail)/\j=H',fun z d j ⟨a,b,c⟩=>⟨_,by lia,‹_›,rfl,a,b,c⟩,fun x j y=>?_⟩
  ·grind
  ·obtain⟨rfl,hx⟩:=F i x _ u y;have hm:=List.mem_of_getElem? hx;have tk:xs.take (i+1)=xs.take i++ [x]:=by
    rw[List.take_succ,hx];rfl
   refine ht x hm _ ?_;cases hp:p x<;>simp_all
theorem Sx (d:cT K H a xs) (m:xs.length<=sizeLine) (ht:∀x∈xs,∀Q:Bool->Hp->Prop,Q (p x) H->tt (some x::tail) H Q) (he:∀x∈xs,p x=true->∀Q:VK,Q (f x) H->te (some x::tail) H Q) (q:Q ((xs.filter p).map f) H):
  FF K (.ref a) H fun J j=>vO J (qf 0) tt te (none::tail) j Q:=
 .inl ⟨xs,d,uV rfl m (fun i hi=>⟨xs,xs[i],d,by simp_all⟩) ⟨xs,d,Nat.le_refl _⟩ (fun i x H' hi y=>⟨y.1,y.2 xs d⟩) ht he q⟩
theorem AN (d:dX K H a xs) (m:xs.length<=sizeLine) (ht:∀x∈xs,∀Q:Bool->Hp->Prop,Q (p x) H->tt (some x::tail) H Q) (he:∀x∈xs,p x=true->∀Q:VK,Q (f x) H->te (some x::tail) H Q) (q:Q ((xs.filter p).map f) H):
  FF K (.ref a) H fun J j=>vO J (qf 0) tt te (none::tail) j Q:=
 .inr ⟨xs,d,uV rfl m (fun i hi=>⟨xs,xs[i],d,by simp_all⟩) ⟨xs,d,Nat.le_refl _⟩ (fun i x H' hi y=>⟨y.1,y.2 xs d⟩) ht he q⟩
noncomputable def d9 (z:Str):List V:=z.cps.toList.map fun c=> .str ⟨#[c]⟩
theorem P5 (j:z.length<=sizeLine) (ht:∀x∈d9 z,∀Q:Bool->Hp->Prop,Q (p x) H->tt (some x::tail) H Q) (he:∀x∈d9 z,p x=true->∀Q:VK,Q (f x) H->te (some x::tail) H Q) (q:Q (((d9 z).filter p).map f) H):
  FF K (.str z) H fun J d=>vO J (qf 0) tt te (none::tail) d Q:=by
 refine uV (n:=z.cps.size) (by simp[d9]) j (fun i hi=>hi) (Nat.le_refl _) (fun i x H' hi y=>?_) ht he q;obtain⟨e,c,hc,rfl⟩:=y;refine⟨e,?_⟩;unfold d9;rw[List.getElem?_map,Array.getElem?_toList,hc];rfl
noncomputable def oN (lo:Int) (n:Nat):List V:=(List.range n).map fun i:Nat=> .int (lo+(i:Int))
theorem GJ {tt:TT} {te:TE} {H:Hp} {tail:St} {Q:List V->Hp->Prop} {p:V->Bool} {f:V->V} {lo:Int} {n:Nat} (d:n<=sizeLine) (ht:∀i:Nat,i<n->∀Q:Bool->Hp->Prop,Q (p (.int (lo+i))) H->tt (some (.int (lo+i))::tail) H Q) (he:∀i:Nat,i<n->p (.int (lo+i))=true->∀Q:VK,Q (f (.int (lo+i))) H->te (some (.int (lo+i))::tail) H Q)
  (q:Q (((oN lo n).filter p).map f) H):vO (Qk lo n) (qf 0) tt te (none::tail) H Q:=by
 refine uV (by simp[oN]) d (fun i hi=>hi) (Nat.le_refl _) (fun i x H' hi y=>?_) (fun x hx=>?_) (fun x hx=>?_) q
 ·obtain⟨e,rfl⟩:=y;refine⟨e,?_⟩;unfold oN;rw[List.getElem?_map,List.getElem?_range hi];rfl
 ·obtain⟨i,hi,rfl⟩:=List.mem_map.mp hx;exact ht i (List.mem_range.mp hi)
 ·obtain⟨i,hi,rfl⟩:=List.mem_map.mp hx;exact he i (List.mem_range.mp hi)
theorem JM:jY 1 ix σ=none::ix.map fun i=>(σ[i]?).join:=rfl
end
section
theorem RelV.Qc (r:RelV x v):(v == Value.bool b)=decide (x = .bl b):=by
 cases x with
 |bl c=>
  cases r;cases b<;>cases c<;>decide
 |non=>cases r;rfl
 |int _=>obtain⟨t,rfl⟩:=r;rfl
 |str _=>obtain⟨t,rfl⟩:=r;rfl
 |byt _=>obtain⟨t,rfl⟩:=r;rfl
 |flt _=>obtain⟨t,rfl⟩:=r;rfl
 |ref _=>cases r;rfl
 |ty _=>cases r;rfl
theorem RelV.plainIs {x:V} {v:Value} {b:Bool} (r:RelV x v):plainIs v (.bool b)=true:=by
 cases x with
 |bl c=>cases r;rfl
 |non=>cases r;rfl
 |int _=>obtain⟨t,rfl⟩:=r;rfl
 |str _=>obtain⟨t,rfl⟩:=r;rfl
 |byt _=>obtain⟨t,rfl⟩:=r;rfl
 |flt _=>obtain⟨t,rfl⟩:=r;rfl
 |ref _=>cases r;rfl
 |ty _=>cases r;rfl
def Ve (neg:Bool):R2:=fun x y H Q=>match y with
 | .bl b=>Q (.bl (if neg then !decide (x = .bl b) else decide (x = .bl b))) H
 |_=>False
theorem Mb:gC X (compareOp .IsNot) (Ve true):=by
 intro f s σ H x y v u Q I d i h;unfold Ve at h;split at h
 ·cases i;exact wpAny_isNot_plain d.plainIs (bU I h (congrArg not d.Qc.symm))
 ·exact h.elim
theorem PY:decide (V.bl a=V.bl b)=decide (a=b):=by
 cases a<;>cases b<;>decide
theorem Jd:Ve true (.bl a) (.bl b) H Q=Q (.bl (!decide (a=b))) H:=by
 show Q _ H=_;rw[if_pos rfl,PY]
def LP (neg:Bool):R2:=fun x y H Q=>match y with
 | .non=>Q (.bl (if neg then !decide (x = .non) else decide (x = .non))) H
 |_=>False
theorem oZ:gC X (compareOp .Is) (LP false):=gC.imp VE fun x y H Q h=>by
 unfold LP at h;split at h
 ·trivial
 ·trivial
theorem C7:gC X (compareOp .IsNot) (LP true):=gC.imp RB fun x y H Q h=>by
 unfold LP at h;split at h
 ·trivial
 ·trivial
theorem Vc:LP false x .non H Q=Q (.bl (decide (x = .non))) H:=rfl
theorem Vb:LP true x .non H Q=Q (.bl (!decide (x = .non))) H:=rfl
def yd:V->List V->Hp->VK->Prop:=fun x vs H Q=>match x,vs with
 | .int i,[]=>Q (.int ((Builtin.Int.intBits i:Nat):Int)) H
 |_,_=>False
theorem Mj:Qj X "int.bit_length" yd:=by
 intro f s σ H x vs v us Q I j i h;unfold yd at h;split at h
 ·obtain⟨t,rfl⟩:=j;have d:=Vals.zero i;subst d;exact call_gives F.slot_int_bit_length (typeIs_int s _ t) F.entry_int_bit_length (F.args_int_bit_length_1 _) (AutoIntG2.int_bit_length_int_0 _ t) ((⟨.int _,H,I.tok _,⟨_,rfl⟩,h⟩))
 ·trivial
theorem L_ (i:PE X o to) (f:attributeBase o "bit_length" X.env (eval o X.env)=eval o X.env:=by rfl) (d:(apos.endLine == cpos.line)=true:=by rfl):
  PE X (.Call (.Attribute o "bit_length" apos) [] [] cpos) (QN X.K "int" yd to):=
 Vz F.plainAttrs_int F.slot_int_bit_length F.type_int_bit_length Mj i f d
theorem QF {K:W.Frag}:US K "int" (.int i) H=True:=by
 show("int" = "int")=True;simp
theorem QD {K:W.Frag}:US K "str" (.str z) H=True:=by
 show("str" = "str")=True;simp
theorem HA:yd (.int i) [] H Q=Q (.int ((Builtin.Int.intBits i:Nat):Int)) H:=rfl
def agS:V->Option Int->Option Int->Hp->VK->Prop:=fun x lo hi H Q=> ∃z,x = .str z/\z.length<=sizeLine/\Q (.str (Txt.slice z lo hi)) H
theorem HE (h:IsPart v o):∃l:Option (Int×Tok),v=partValue l/\l.map (·.1)=o:=by
 cases h with
 |none=>exact⟨none,rfl,rfl⟩
 |int i t=>exact⟨some (i,t),rfl,rfl⟩
theorem U6:Lg X agS:=by
 intro d s σ H x v C E lo hi G Q I f hs pl pu h;obtain⟨z,rfl,m,q⟩:=h;obtain⟨t,rfl⟩:=f;obtain⟨l,rfl,y⟩:=HE pl;obtain⟨u,rfl,i⟩:=HE pu;refine⟨_,_,F.slot_str_getitem.lookup,typeIs_str _ _ _,wpAny_getItem_str_slice (st:=none) hs rfl ?_⟩;unfold sliceMade;have e:slicePicked z l u none=Builtin.Str.strSliceIndices lo hi 1 z.length:=by
  unfold slicePicked;rw[y,i];rfl
 rw[e];have j:Txt.slice z lo hi=if((1:Int) == 1&&(Builtin.Str.strSliceIndices lo hi 1 z.length).length == z.length)=true then z else⟨((Builtin.Str.strSliceIndices lo hi 1 z.length).filterMap (z.cps[·]?)).toArray⟩:=rfl;have hle:=Txt.slice_le z lo hi;rw[j] at q hle;show(if((1:Int) == 1&&(Builtin.Str.strSliceIndices lo hi 1 z.length).length == z.length)=true then Made.val (.str z t) else _).post _ s;by_cases c:((1:Int) == 1&&(Builtin.Str.strSliceIndices lo hi 1 z.length).length == z.length)=true
 ·rw[if_pos c] at q⊢;exact⟨.str z,H,I,⟨t,rfl⟩,q⟩
 ·rw[if_neg c] at q hle⊢;exact⟨Nat.le_trans hle m,.str _,H,I.tok _,⟨_,rfl⟩,q⟩
def NL (K:W.Frag):V->Option Int->Option Int->Hp->VK->Prop:=fun x lo hi H Q=>match x with
 | .ref a=>(∃xs,cT K H a xs/\∀p,H p=none->Q (.ref p) (upd H p (.lst (DU xs lo hi))))\/Y4 K (.ref a) lo hi H Q
 | .str z=>z.length<=sizeLine/\Q (.str (Txt.slice z lo hi)) H
 |_=>False
theorem Lg.imp (h:Lg X r) (i:∀x lo hi H Q,r' x lo hi H Q->r x lo hi H Q):Lg X r':=
 fun d s σ H x v j m lo hi u Q I f hs pl pu q=>h _ s σ H x v j m lo hi u Q I f hs pl pu (i _ _ _ _ _ q)
theorem agP:Lg X (NL X.K):=by
 refine Lg.imp (QR.or (U5.or U6)) fun x lo hi H Q h=>?_;unfold NL at h;split at h
 ·rcases h with⟨xs,h1,d⟩|h
  ·exact .inl ⟨_,xs,rfl,h1,d⟩
  ·simp_all
 ·exact .inr (.inr ⟨_,rfl,h.1,h.2⟩)
 ·trivial
theorem NK {K:W.Frag} {lo:Option Int}:NL K (.str z) lo hi H Q=(z.length<=sizeLine/\Q (.str (Txt.slice z lo hi)) H):=rfl
theorem Fb {K:W.Frag} {lo:Option Int} (d:cT K H a xs) (h:∀p,H p=none->Q (.ref p) (upd H p (.lst (DU xs lo hi)))):NL K (.ref a) lo hi H Q:= .inl ⟨xs,d,h⟩
def N0 (K:W.Frag) (neg:Bool):R2:=fun x y H Q=>match y with
 | .ref p=> ∃xs,(cT K H p xs\/dX K H p xs)/\sF x=true/\xs.all sF=true/\Q (.bl (if neg then !D_ x xs else D_ x xs)) H
 | .str j=>(match x with
  | .str i=>Q (.bl (if neg then !(!(Builtin.Str.occurrences j i 0 j.length 1).isEmpty) else !(Builtin.Str.occurrences j i 0 j.length 1).isEmpty)) H
  |_=>False)
 |_=>False
theorem VF:gC X (compareOp .In) (N0 X.K false):=by
 refine gC.imp (gC.or Md Mc) fun x y H Q h=>?_;unfold N0 at h;split at h
 ·obtain⟨xs,h1,d,f,i⟩:=h;exact .inl ⟨_,xs,rfl,h1,d,f,i⟩
 ·split at h
  ·simp_all
  ·simp_all
 ·simp_all
theorem NZ {K:W.Frag}:N0 K neg x (.ref p) H Q=(∃xs,(cT K H p xs\/dX K H p xs)/\sF x=true/\xs.all sF=true/\Q (.bl (if neg then !D_ x xs else D_ x xs)) H):=rfl
theorem NY {K:W.Frag}:N0 K neg (.str i) (.str j) H Q=Q (.bl (if neg then !(!(Builtin.Str.occurrences j i 0 j.length 1).isEmpty) else !(Builtin.Str.occurrences j i 0 j.length 1).isEmpty)) H:=rfl
end
inductive Dt where
 |non|int (i:Int)|str (z:Str)|l (ds:List Dt)|t (ds:List Dt)
theorem Paired.get:∀{xs:List α} {d:List β} {i:Nat} {x:α},Paired F xs d->xs[i]?=some x->∃y,d[i]?=some y/\F x y
 |_,_,_,_,.nil,e=>by trivial
 |_,_,0,_,.cons r _,e=>by simp_all
 |_,_,i+1,x,.cons _ t,e=>by
  obtain⟨u,h1,f⟩:=Paired.get t (‹_›);exact⟨u,‹_›,f⟩
open Classical in
theorem GU {α:Type} {xs d:List α} (hl:xs.length=d.length) (h:∀j a b,xs[j]?=some a->d[j]?=some b->e j=decide (a=b)):(List.range xs.length).all e=decide (xs=d):=by
 rw[Bool.eq_iff_iff,List.all_eq_true,decide_eq_true_eq];constructor
 ·intro q;refine List.ext_getElem hl fun j h1 f=>?_;have:=q j (List.mem_range.mpr h1);rw[h j xs[j] d[j] (by simp) (by simp_all),decide_eq_true_eq] at this;exact this
 ·simp_all
section
variable {X:Cx} {pins:List (Addr×Obj)} {σ:St} {H:Hp} {s:Shared}
open Classical in
theorem wG:∀{xs:List V} {ds es:List Dt},Paired F xs ds->Paired G xs es->(∀x d e,F x d->G x e->d=e)->ds=es
 |_,_,_,.nil,.nil,_=>rfl
 |_,_,_,.cons r t,.cons r' t',f=>by rw[f _ _ _ r r',wG t t' f]
theorem tL (I:Inv X pins σ H s) (h:cT X.K H a xs) (j:dX X.K H a ys):False:=by
 obtain⟨m,_,p,_⟩:=I.list h;obtain⟨f,_,u,_⟩:=I.tuple j;obtain⟨o,n,e,c,_⟩:=p;obtain⟨v,i,d,_⟩:=u;rw[e] at i;cases i;rw[c] at d;injection d with z;exact absurd z (by decide)
theorem Ka {f d:List Value} (h: ¬f.length=d.length):(f.toArray.size != d.toArray.size)=true:=by
 simp_all
open Classical in
open Classical in
theorem uX {es:List Dt} (hn:n=ds.length) (hl:ds.length=es.length):(List.range n).all (fun j=>decide (ds[j]?=es[j]?))=decide (ds=es):=by
 subst hn;exact GU hl fun j a b ha d=>by
  simp_all
open Classical in
end
section
open Classical in
open Classical in
end
noncomputable def agk (d scope:Scope) (f N:List Str) (nv:Nat) (ix:List Nat):Bool:=
 scope.kind == .function&&scope.names.all (fun y=>y.2 != .cell&&(y.2 != .local||scope.names.lookup y.1 == some .local)&&(y.2 != .free||(d.names.lookup y.1 == some .cell||d.names.lookup y.1 == some .free)))&&
  N.length == nv+ix.length&&(List.range ix.length).all fun j=>match N[nv+j]?,ix[j]? with
   |some y,some i=>f[i]? == some y&&(d.names.lookup y == some .cell||d.names.lookup y == some .free)&&scope.names.lookup y == some .free
   |_,_=>false
theorem qk (h:agk X.env.scope scope X.N N nv ix=true):D8 X scope N nv ix:=by
 unfold agk at h;simp only[Bool.and_eq_true,beq_iff_eq,List.all_eq_true,List.mem_range,Bool.or_eq_true,bne_iff_ne] at h;obtain⟨⟨⟨h1,f⟩,m⟩,u⟩:=h;refine⟨h1,fun y d=>(f y d).1.1,fun y d hl=>?_,fun y d hf=>?_,m,fun j y e=>?_⟩
 ·rcases(f y d).1.2 with z|z
  ·trivial
  ·exact z
 ·rcases(f y d).2 with z|z
  ·trivial
  ·exact z
 ·have i:j<ix.length:=by
   have:=(List.getElem?_eq_some_iff.mp e).1;lia
  have q:=u j i;rw[e,List.getElem?_eq_getElem i] at q;simp only[Bool.and_eq_true,beq_iff_eq,Bool.or_eq_true] at q;exact⟨_,List.getElem?_eq_getElem i,q.1.1,q.1.2,q.2⟩
def TupAt (K:W.Frag) (mg:Str->Option Value) (x:Str) (vs:List V):Prop:=
 ∃(a:Addr) (o:Obj) (d:Array Value) (n:Nat),mg x=some (.ref a)/\K.lookup a=some o/\o.cls = .type "tuple" /\o.dict=none/\o.data = .seq d n/\d.size<=sizeLine/\Vals vs d.toList
def tTC (K:W.Frag) (vs:List V):TE:=fun _ H Q=> ∀a,(∀H,dX K H a vs)->(∀H,US K "tuple" (.ref a) H)->Q (.ref a) H
theorem Rq (hg:Gl X x) (h:TupAt X.K X.mg x vs) (hd:(x == ("__debug__":Str))=false:=by decide):PE X (.Name x pos) (tTC X.K vs):=by
 obtain⟨a,o,f,n,hm,hk,hc,i,d,m,r⟩:=h;intro j s σ H Q I q;exact lO I hg hm ⟨.ref a,H,I,rfl,q a (fun H=> .inr ⟨o,f,n,hk,hc,d,m,r⟩) (fun H=> .inr (.inl ⟨rfl,o,hk,hc,i⟩))⟩ hd
theorem Ci (bs:List Bool):(List.range bs.length).all (fun i=>bs.getD i false)=bs.all id:=by
 rw[Bool.eq_iff_iff,List.all_eq_true,List.all_eq_true];constructor
 ·intro h b f;obtain⟨i,hi,rfl⟩:=List.getElem_of_mem f;have:=h i (List.mem_range.mpr hi);simpa [hi] using this
 ·intro h i hi;have d:=List.mem_range.mp hi;have:=h _ (List.getElem_mem d);simpa [d] using this
theorem preSum_eq (ns:List Int):∀n,n<=ns.length->preSum (fun i=>ns.getD i 0) n=(ns.take n).sum
 |0,_=>rfl
 |n+1,h=>by
  rw[preSum,preSum_eq ns n (by lia),List.take_succ,List.sum_append];simp[show n<ns.length by lia]
section
def Rb (K:W.Frag) (any:Bool):List V->Hp->VK->Prop:=fun xs H Q=>match xs with
 | [.ref p]=> ∃bs:List Bool,cT K H p (bs.map V.bl)/\Q (.bl (if any then bs.any id else bs.all id)) H
 |_=>False
theorem G_ {bs:List Bool} (r:Vals (bs.map V.bl) its):TruthOf prog w A (fun i v=>its.toArray[i]?=some v) (fun i=>bs.getD i false):=by
 intro i v s Q E y f;have d:its[i]?=some v:=by simp_all
 have hi:i<bs.length:=by
  have:=(List.getElem?_eq_some_iff.mp d).1;have l:=r.length;rw[List.length_map] at l;lia
 obtain⟨u,j,m⟩:=r.get (i:=i) (x:= .bl bs[i]) (by simp_all);rw[d] at j;cases j;cases m;have e:bs.getD i false=bs[i]:=by simp_all
 replace f:Q (bs.getD i _) s:=f;rw[e] at f;exact wpAny_truthy_bool f
theorem P9 (hc:X.calm=true):b_ X (.builtin "all") (Rb X.K false):=by
 intro f s σ H xs us Q I rs q;unfold Rb at q;split at q
 ·rename_i p;obtain⟨u,rfl,m⟩:=vals1 rs;cases m;obtain⟨bs,j,q⟩:=q;obtain⟨i,r,pl,x⟩:=I.list j;have d:p<s.heap.objs.size:=by obtain⟨o,e,_⟩:=pl.isList;exact Heap.lt_size e
  have hlen:=r.length;rw[List.length_map] at hlen;refine call_all_walk (wpAny_pyIter_list pl.isList ⟨_,_,_,_,_,_,_,rfl,Walks.list (A:=X.A.in1) (I.ok.hd hc) _ p (Nat.ne_of_lt d) _,⟨⟨_,Heap.get?_push_size _ rfl,rfl,rfl⟩,pl.isList.push _⟩,G_ r,fun v tk hk=>?_⟩);refine⟨_,H,I.kept fun b o e=>hk b o (fun z=>HQ e (Nat.le_refl _) (List.mem_singleton.mp z)) (Heap.get?_push_of_some _ e),?_,q⟩;rw[List.size_toArray,<-hlen,Ci];rfl
 ·trivial
def QY (K:W.Frag):List V->Hp->VK->Prop:=fun xs H Q=>match xs with
 | [.ref p]=> ∃ns:List Int,cT K H p (ns.map V.int)/\Q (.int ns.sum) H
 |_=>False
theorem P7 (hc:X.calm=true):b_ X (.builtin "sum") (QY X.K):=by
 intro y s σ H xs us Q I rs q;unfold QY at q;split at q
 ·rename_i p;obtain⟨u,rfl,j⟩:=vals1 rs;cases j;obtain⟨ns,E,q⟩:=q;obtain⟨f,r,pl,J⟩:=I.list E;have d:p<s.heap.objs.size:=by obtain⟨o,e,_⟩:=pl.isList;exact Heap.lt_size e
  have hlen:=r.length;rw[List.length_map] at hlen;refine call_sum_walkG (wpAny_pyIter_list pl.isList ⟨_,_,_,_,_,_,fun i=>ns.getD i 0,rfl,Walks.list (A:=X.A.in1) (I.ok.hd hc) _ p (Nat.ne_of_lt d) _,⟨⟨_,Heap.get?_push_size _ rfl,rfl,rfl⟩,pl.isList.push _⟩,fun b O=>?_,fun i v G=>?_,fun F tk t' hk=>?_⟩)
  ·have:b=s.heap.objs.size\/b=p:=by simp_all
   rw[Heap.size_push];rcases this with rfl|rfl
   ·simp_all
   ·exact Nat.lt_succ_of_lt d
  ·have m:f[i]?=some v:=by simp_all
   have hi:i<ns.length:=by
    grind
   obtain⟨u,C,j⟩:=r.get (i:=i) (x:= .int ns[i]) (by simp);rw[m] at C;cases C;obtain⟨t,rfl⟩:=j;exact⟨t,by simp[hi]⟩
  ·refine⟨.int _,H,I.kept fun b o e=>hk b o (fun z=>HQ e (Nat.le_refl _) (List.mem_singleton.mp z)) (Heap.get?_push_of_some _ e),⟨t',?_⟩,q⟩;rw[List.size_toArray,<-hlen,preSum_eq ns _ (Nat.le_refl _),List.take_length]
 ·trivial
theorem N7 {K:W.Frag}:Rb K false [.ref p] H Q=(∃bs:List Bool,cT K H p (bs.map V.bl)/\Q (.bl (bs.all id)) H):=rfl
theorem NJ {K:W.Frag}:QY K [.ref p] H Q=(∃ns:List Int,cT K H p (ns.map V.int)/\Q (.int ns.sum) H):=rfl
def CV (K:W.Frag):List V->Hp->VK->Prop:=fun xs H Q=>match xs with
 | [.ref p]=> ∃d,(cT K H p d\/dX K H p d)/\∀l,H l=none->Q (.ref l) (upd H l (.lst d))
 |_=>False
theorem JP:b_ X (.type "list") (CV X.K):=b_.imp GK fun xs H Q h=>by
 unfold CV at h;split at h
 ·simp_all
 ·simp_all
def Co (K:W.Frag):List V->Hp->VK->Prop:=fun xs H Q=>match xs with
 | [.ref p]=> ∃d,(cT K H p d/\∀l,H l=none->Q (.ref l) (upd H l (.tup d)))\/(dX K H p d/\Q (.ref p) H)
 |_=>False
theorem Iv:b_ X (.type "tuple") (Co X.K):=b_.imp EW fun xs H Q h=>by
 unfold Co at h;split at h
 ·simp_all
 ·simp_all
theorem Hw {K:W.Frag}:Co K [.ref p] H Q=(∃d,(cT K H p d/\∀l,H l=none->Q (.ref l) (upd H l (.tup d)))\/(dX K H p d/\Q (.ref p) H)):=rfl
def s_:V->List V->Hp->VK->Prop:=fun x vs H Q=>match x,vs with
 | .ref l,[y]=> ∃xs,H l=some (.lst xs)/\xs.length<sizeLine/\Q .non (upd H l (.lst (xs++ [y])))
 |_,_=>False
theorem Jt:Qj X "list.append" s_:=by
 intro d s σ H x xs v us Q I i rs q;unfold s_ at q;split at q
 ·obtain⟨m,h1,f,j⟩:=q;exact Ml _ s σ H _ _ v us Q I i rs ⟨_,m,_,rfl,rfl,h1,f,j⟩
 ·trivial
theorem Ma (m:PE X o to) (he:PE X e te) (i:attributeBase o "append" X.env (eval o X.env)=eval o X.env:=by rfl) (j:((backTo cpos (starEach [e] X.env)).all (fun x=>!x.1)&&(backToKw cpos (keywordEach [] X.env)).all (fun x=>x.1.isSome)
   &&decide ([e].length+([]:List Keyword).length+(if([]:List Keyword).isEmpty then 0 else 1)<30))=true:=by rfl) (f:(apos.endLine == cpos.line)=true:=by rfl) (hs:starEach [e] X.env=(false,eval e X.env)::starEach [] X.env:=by rfl) (d:(backTo cpos (starEach [] X.env)).any (·.1)=false:=by rfl):
  PE X (.Call (.Attribute o "append" apos) [e] [] cpos) (YU X.K "list" s_ to (xT te Ee)):=
 S8 F.plainAttrs_list F.slot_list_append F.type_list_append Jt m (KG he jn hs) i j f hs d
theorem pV {K:W.Frag} (h:cT K H a xs):US K "list" (.ref a) H:= .inl ⟨rfl,xs,h⟩
theorem FV:s_ (.ref l) [y] H Q=(∃xs,H l=some (.lst xs)/\xs.length<sizeLine/\Q .non (upd H l (.lst (xs++ [y])))):=rfl
def NN:V->V->V->Hp->(Hp->Prop)->Prop:=fun o i v H Q=>match o,i with
 | .ref p,.int k=> ∃xs j,H p=some (.lst xs)/\M5 xs.length k=some j/\Q (upd H p (.lst (xs.set j v)))
 |_,_=>False
theorem Y1:SH X NN:=by
 intro d s σ H o i v E y u Q I C m z q;unfold NN at q;split at q
 ·obtain⟨xs,j,h1,f,x⟩:=q;exact set_list _ s σ H _ _ v E y u Q I C m z ⟨_,xs,_,j,rfl,rfl,h1,f,x⟩
 ·trivial
theorem LD:NN (.ref p) (.int k) v H Q=(∃xs j,H p=some (.lst xs)/\M5 xs.length k=some j/\Q (upd H p (.lst (xs.set j v)))):=rfl
def Bt (K:W.Frag):R2:=fun x y H Q=>match x,y with
 | .ref p,.int i=> ∃xs v,(cT K H p xs\/dX K H p xs)/\j4 xs i=some v/\Q v H
 | .str z,.int i=> ∃c,z.length<=sizeLine/\j4 z.cps.toList i=some c/\Q (.str ⟨#[c]⟩) H
 |_,_=>False
theorem IC.imp (h:IC X r) (i:∀x y H Q,r' x y H Q->r x y H Q):IC X r':=fun value slice d s σ H x y v u Q I j f q hs=>h _ _ _ s σ H x y v u Q I j f (i _ _ _ _ q) hs
theorem akB:IC X (Bt X.K):=IC.imp XE fun x y H Q h=>by
 unfold Bt at h;split at h
 ·obtain⟨xs,v,h1,d,f⟩:=h;rcases h1 with h1|h1
  ·exact .inl ⟨_,xs,_,v,rfl,rfl,h1,d,f⟩
  ·exact .inr (.inl ⟨_,xs,_,v,rfl,rfl,h1,d,f⟩)
 ·obtain⟨c,h1,d,f⟩:=h;exact .inr (.inr ⟨_,_,c,rfl,rfl,h1,d,f⟩)
 ·trivial
theorem NW {K:W.Frag}:Bt K (.str z) (.int i) H Q=(∃c,z.length<=sizeLine/\j4 z.cps.toList i=some c/\Q (.str ⟨#[c]⟩) H):=rfl
theorem HY {K:W.Frag} (h:cT K H p xs) (e:j4 xs i=some v) (q:Q v H):Bt K (.ref p) (.int i) H Q:=⟨xs,v,.inl h,e,q⟩
theorem dS {K:W.Frag} (h:dX K H p xs) (e:j4 xs i=some v) (q:Q v H):Bt K (.ref p) (.int i) H Q:=⟨xs,v,.inr h,e,q⟩
theorem OU {K:W.Frag} {ns:List Int} (d:cT K H a (ns.map V.int)) (h0:0<=k) (h1:k<(ns.length:Int)) (q:Q (.int (ns.getD k.toNat 0)) H):Bt K (.ref a) (.int k) H Q:=by
 refine HY d ?_ q;obtain⟨j,rfl⟩:∃j:Nat,k=(j):=⟨k.toNat,by lia⟩;refine SD ?_;have f:j<ns.length:=by lia
 simp[f]
end
section
theorem JE:Pw t u (v::r) σ H Q=t v σ H fun d H'=>u r d H' Q:=by
 apply propext;constructor
 ·rintro⟨f,i,e,h⟩;cases e;exact h
 ·intro h;exact⟨v,r,rfl,h⟩
theorem Pu:agc [] σ H Q=Q σ H:=by
 apply propext;exact⟨fun h=>h.2,fun h=>⟨rfl,h⟩⟩
theorem Yk {P:Int->Prop}:(∃k,V.int i = .int k/\P k)=P i:=by
 simp_all
theorem IU (h:n<=1000):(n<=sizeLine)=True:=by
 have:=sizeLine_eq;simp only[eq_iff_iff,iff_true];lia
theorem Nt (h:n<=1000):(n<sizeLine)=True:=by
 have:=sizeLine_eq;simp only[eq_iff_iff,iff_true];lia
end
section
variable {X:Cx} (K:W.Frag) (h:X.K=K)
theorem RE (h:X.K=K):gC X (binaryOp .Add) (CY K):=h▸RF
theorem lE (h:X.K=K):b_ X (.builtin "len") (A4 K):=h▸MU
theorem nM (h:X.K=K):b_ X (.builtin "isinstance") (zA K):=h▸P8
theorem F2 (h:X.K=K):gC X (compareOp .In) (N0 K false):=h▸VF
theorem QT (h:X.K=K):Lg X (NL K):=h▸agP
theorem afs (h:X.K=K):IC X (Bt K):=h▸akB
theorem dq (h:X.K=K) (hl:PE X l tl):PI X tg l (R7 K tl):=h▸Vo hl
theorem AQ (h:X.K=K) (hc:X.calm=true):b_ X (.builtin "all") (Rb K false):=h▸P9 hc
theorem MQ (h:X.K=K) (hc:X.calm=true):b_ X (.builtin "sum") (QY K):=h▸P7 hc
theorem DY (h:X.K=K):b_ X (.type "list") (CV K):=h▸JP
theorem Ba (h:X.K=K):b_ X (.type "tuple") (Co K):=h▸Iv
theorem lR (h:X.K=K) (hg:Gl X x) (ht:TupAt K X.mg x vs) (hd:(x == ("__debug__":Str))=false:=by decide):PE X (.Name x pos) (tTC K vs):=by
 subst h;exact Rq hg ht hd
theorem Rn {es:List Expr} {k:Nat} {pos:Pos} {t:UP} {n:Nat} (h:X.K=K) (hc:X.calm=true) (hh:Qs X es t)
  (hn:(assignEach es X.env).length=n:=by rfl) (d:(assignEach es X.env).findIdx? (·.1)=none:=by rfl):PG X (.Tuple es k pos) (X_ K n t):=h▸Vq hc hh hn d
theorem Jh (h:X.K=K) (i:PE X o to) (f:attributeBase o "bit_length" X.env (eval o X.env)=eval o X.env:=by rfl) (d:(apos.endLine == cpos.line)=true:=by rfl):
  PE X (.Call (.Attribute o "bit_length" apos) [] [] cpos) (QN K "int" yd to):=h▸L_ i f d
theorem FZ {o e:Expr} {es:List Expr} {to:TE} {t:TA} {name:Str} {apos d:Pos} {T id:String} {r:V->List V->Hp->VK->Prop} (h:X.K=K) (pa:PlainAttrs T) (slot:Slot T name id) (m:typeOf (.builtin id)=pure (.type "method_descriptor")) (hm:Qj X id r) (u:PE X o to) (ha:PA X (e::es) t)
  (j:attributeBase o name X.env (eval o X.env)=eval o X.env:=by rfl)
  (
   hfew:((backTo d (starEach (e::es) X.env)).all (fun x=>!x.1)&&(backToKw d (keywordEach [] X.env)).all (fun x=>x.1.isSome)
   &&decide ((e::es).length+([]:List Keyword).length+(if([]:List Keyword).isEmpty then 0 else 1)<30))=true:=by rfl)
  (i:(apos.endLine == d.line)=true:=by rfl) (hs:starEach (e::es) X.env=(false,eval e X.env)::starEach es X.env:=by rfl) (f:(backTo d (starEach es X.env)).any (·.1)=false:=by rfl):
  PE X (.Call (.Attribute o name apos) (e::es) [] d) (YU K T r to t):=h▸S8 pa slot m hm u ha j hfew i hs f
theorem nZ (h:X.K=K) (m:PE X o to) (he:PE X e te) (i:attributeBase o "append" X.env (eval o X.env)=eval o X.env:=by rfl) (j:((backTo cpos (starEach [e] X.env)).all (fun x=>!x.1)&&(backToKw cpos (keywordEach [] X.env)).all (fun x=>x.1.isSome)
   &&decide ([e].length+([]:List Keyword).length+(if([]:List Keyword).isEmpty then 0 else 1)<30))=true:=by rfl) (f:(apos.endLine == cpos.line)=true:=by rfl) (hs:starEach [e] X.env=(false,eval e X.env)::starEach [] X.env:=by rfl) (d:(backTo cpos (starEach [] X.env)).any (·.1)=false:=by rfl):
  PE X (.Call (.Attribute o "append" apos) [e] [] cpos) (YU K "list" s_ to (xT te Ee)):=h▸Ma m he i j f hs d
end
def agN (t u:TS):TS:=fun D σ H=> ∃M:St->Hp->Prop,t {D with nx:=M} σ H/\∀d H',M d H'->u D d H'
theorem q_ {st:Stmt} {rest:List Stmt} (h1:PS X st t) (i:CB X rest u):CB X (st::rest) (agN t u):=by
 intro d s σ H D I ⟨M,h,k⟩;refine wpAny_execs_cons (thn (h1 _ s σ H _ I h) fun f s1 q=>?_);cases f with
 |next=>
  obtain⟨m,H',j,q⟩:=q;exact i _ s1 _ H' D j (k _ H' q)
 |ret v=>exact q
 |brk=>exact q
 |cont=>exact q
noncomputable def isStar:Expr->Bool
 | .Starred .. =>true
 |_=>false
theorem cM (h:isStar e=false):starEach (e::es) env=(false,eval e env)::starEach es env:=by
 cases e<;>first|rfl|exact absurd h (by simp[isStar])
theorem nF {pos:Pos} {env:Env}:∀{es:List Expr},es.any isStar=false->(backTo pos (starEach es env)).any (·.1)=false
 | [],_=>rfl
 |e::es,h=>by
  rw[List.any_cons,Bool.or_eq_false_iff] at h;rw[cM h.1];show(false||(backTo _ _).any _)=false;rw[nF h.2];rfl
theorem vR (h:isStar e=false):(assignEach (e::es) env).map (·.2)=assign e env::(assignEach es env).map (·.2):=by
 cases e<;>first|rfl|trivial
theorem oM {env:Env}:∀{es:List Expr},(assignEach es env).length=es.length
 | []=>rfl
 |e::es=>by
  have d:=@oM env es;cases e<;>(show(assignEach es _).length+1=es.length+1;rw[d])
theorem j3 {env:Env}:∀{es:List Expr},es.any isStar=false->(assignEach es env).findIdx? (·.1)=none
 | [],_=>rfl
 |e::es,h=>by
  rw[List.any_cons,Bool.or_eq_false_iff] at h;have d:=j3 (env:=env) h.2;have e1:assignEach (e::es) env=(false,assign e env)::assignEach es env:=by
   have:=h.1;cases e<;>first|rfl|trivial
  rw[e1,List.findIdx?_cons,d];rfl
noncomputable def zH:Expr->Bool
 | .UnaryOp .Not _ _=>false
 | .BoolOp .. =>false
 | .IfExp .. =>false
 | .Compare .. =>false
 |_=>true
theorem My (h:zH e=true) (whole:Sem Value):isTrue e env whole=(do let v<-whole;standAt e.pos;holding [v] (truthy v)):=by
 cases e with
 |UnaryOp op a p=>cases op<;>first|rfl|trivial
 |BoolOp=>trivial
 |IfExp=>trivial
 |Compare=>exact absurd h (by simp[zH])
 |_=>rfl
section
theorem dz (ha:PE X e te) (d:PA X es t) (h:isStar e=false:=by rfl):PA X (e::es) (xT te t):=KG ha d (cM h)
theorem Vx [Quiet CX] (G:FnAt X.prog X.w X.K X.mg X.base CX x k ps sp) (f:c6 n X.A) (hk:k<=n) (hg:Gl X x) (ha:PA X (e::es) t) (d:(x == ("__debug__":Str))=false:=by decide) (h:(e::es).any isStar=false:=by rfl):PE X (.Call (.Name x p) (e::es) [] pos) (E4 sp [] E0 t):=by
 rw[List.any_cons,Bool.or_eq_false_iff] at h;exact Zd G f hk hg ha d (cM h.1) (nF h.2)
theorem aY {X:Cx} {x:Str} {p pos:Pos} {e:Expr} {es:List Expr} {t:TA} {id:String} {r:List V->Hp->VK->Prop} (hc:b_ X (.builtin id) r) (hg:Gl X x) (hm:X.mg x=none) (f:bootBuiltins x=some (.builtin id)) (ha:PA X (e::es) t) (hn:x≠ "__name__" :=by decide) (d:(x == ("__debug__":Str))=false:=by decide)
  (h:(e::es).any isStar=false:=by rfl):PE X (.Call (.Name x p) (e::es) [] pos) (YT r t):=by
 rw[List.any_cons,Bool.or_eq_false_iff] at h;exact Oi hc hg hm f ha hn d (cM h.1) (nF h.2)
theorem wF (hc:b_ X (.type T) r) (hg:Gl X x) (hm:X.mg x=none) (f:bootBuiltins x=some (.type T)) (ha:PA X (e::es) t) (hn:x≠ "__name__" :=by decide) (d:(x == ("__debug__":Str))=false:=by decide) (h:(e::es).any isStar=false:=by rfl):PE X (.Call (.Name x p) (e::es) [] pos) (YT r t):=by
 rw[List.any_cons,Bool.or_eq_false_iff] at h;exact L9 hc hg hm f ha hn d (cM h.1) (nF h.2)
theorem Oe (h1:PG X e g) (d:Qs X es u) (h:isStar e=false:=by rfl):Qs X (e::es) (Pw g u):=Of h1 d (vR h)
theorem Ky (K:W.Frag) (d:X.K=K) (hc:X.calm=true) (hh:Qs X es u) (hn:es.length=n:=by rfl) (h:es.any isStar=false:=by rfl):PG X (.Tuple es j pos) (X_ K n u):=
 Rn K d hc hh (by rw[oM];exact hn) (j3 h)
theorem nC (he:PE X e te) (h:zH e=true:=by rfl):PT X e (tB te):=Vj he (My h)
end
noncomputable def afu:Expr->Bool
 | .Slice .. =>true
 |_=>false
noncomputable def mH:Expr->Bool
 | .ListComp .. =>true
 | .SetComp .. =>true
 | .DictComp .. =>true
 |_=>false
noncomputable def isTup:Expr->Bool
 | .Tuple .. =>true
 |_=>false
noncomputable def OY:Expr->Bool
 | .Set .. =>true
 |_=>false
theorem nO (h:mH e=false):swapsWith e tg l env=pure false:=by
 cases e<;>first|rfl|exact absurd h (by simp[mH])
theorem Lq (h:isTup e=false):swappedStores [tg] e env=pure none:=by
 cases e with
 |Tuple=>simp[isTup] at h
 |_=>cases tg<;>rfl
theorem lK (h:OY b=false):behindInMarks op b=false:=by
 cases b<;>first|rfl|exact absurd h (by simp[OY])
section
theorem Ro (d:PE X o to) (hi:PE X i ti) (hs:SH X t) (h:afu i=false:=by rfl):PG X (.Subscript o i pos) (Yb to ti t):=
 Vr d hi hs fun v=>by
  rw[arm_assign_Subscript];cases i<;>first|rfl|exact absurd h (by simp[afu])
theorem Rh (he:PE X e te) (hg:PG X tg g) (h1:mH e=false:=by rfl) (d:isTup e=false:=by rfl) (f:isStar tg=false:=by rfl):PS X (.Assign [tg] e pos) (He te g):=
 Vl he hg (nO h1) (Lq d) (vR f)
theorem Ks (d:X.N.Nodup) (hi:X.N[i]?=some x) (hx:Loc X.env.scope x) (he:PE X e te) (h:mH e=false:=by rfl) (hf:X.fn x=true\/X.env.scope.names.lookup x=some .local:=by walk_at "q"):
  PS X (.Assign [.Name x pos'] e pos) (He te (qf i)):=Vk d hi hx he (nO h) hf
theorem bI (he:PE X e te) (h:mH e=false:=by rfl):PS X (.Expr e pos) (Ni te):=Rg he (nO h)
end
theorem G9 {K:W.Frag} (X:K.In h) (G:h.Ns mainGlobals mg) (a:W.nsIn K mainGlobals x=some (some (.ref b))) (l:K.lookup b=some o) (c:o.cls = .type "tuple") (d:o.dict=none) (e:o.data = .seq its n) (z:its.size<=sizeLine) (r:Vals vs its.toList):TupAt K mg x vs:=
 ⟨b,o,its,n,W.mg_of X G a,l,c,d,e,z,r⟩
end L2
namespace BitM
theorem JZ (a b:Nat):(a ^^^ b)+2*(a &&& b)=a+b:=by
 induction a using Nat.strongRecOn generalizing b with
 |_ a f=>
  by_cases h:a=0
  ·simp_all
  ·have i:=f (a / 2) (by lia) (b / 2);have m:(a ^^^ b) / 2=(a / 2) ^^^ (b / 2):=Nat.xor_div_two;have j:(a &&& b) / 2=(a / 2) &&& (b / 2):=Nat.and_div_two;have m1:(a ^^^ b) % 2=(a % 2+b % 2) % 2:=by
    have e:=Nat.xor_mod_two_pow (a:=a) (b:=b) (n:=1);simp only[Nat.pow_one] at e;rw[e];rcases(by lia:a % 2=0\/a % 2=1) with p|p<;>rcases(by lia:b % 2=0\/b % 2=1) with q|q<;>rw[p,q]<;>decide
   have d:(a &&& b) % 2=(a % 2)*(b % 2):=by
    have e:=Nat.and_mod_two_pow (a:=a) (b:=b) (n:=1);simp only[Nat.pow_one] at e;rw[e];rcases(by lia:a % 2=0\/a % 2=1) with p|p<;>rcases(by lia:b % 2=0\/b % 2=1) with q|q<;>rw[p,q]<;>decide
   rcases(by lia:a % 2=0\/a % 2=1) with p|p<;>rcases(by lia:b % 2=0\/b % 2=1) with q|q<;>rw[p,q] at m1 d<;>lia
theorem Ol (a b:Nat):(a |||b)+(a &&& b)=a+b:=by
 induction a using Nat.strongRecOn generalizing b with
 |_ a f=>
  by_cases h:a=0
  ·simp_all
  ·have i:=f (a / 2) (by lia) (b / 2);have m:(a |||b) / 2=(a / 2) |||(b / 2):=Nat.or_div_two;have j:(a &&& b) / 2=(a / 2) &&& (b / 2):=Nat.and_div_two;have m1:(a |||b) % 2=(a % 2)+(b % 2)-(a % 2)*(b % 2):=by
    have e:=Nat.or_mod_two_pow (a:=a) (b:=b) (n:=1);rw[e];rcases(by lia:a % 2=0\/a % 2=1) with p|p<;>rcases(by lia:b % 2=0\/b % 2=1) with q|q<;>rw[p,q]<;>decide
   have d:(a &&& b) % 2=(a % 2)*(b % 2):=by
    have e:=Nat.and_mod_two_pow (a:=a) (b:=b) (n:=1);rw[e];rcases(by lia:a % 2=0\/a % 2=1) with p|p<;>rcases(by lia:b % 2=0\/b % 2=1) with q|q<;>rw[p,q]<;>decide
   rcases(by lia:a % 2=0\/a % 2=1) with p|p<;>rcases(by lia:b % 2=0\/b % 2=1) with q|q<;>rw[p,q] at m1 d<;>lia
end BitM
namespace Rem
noncomputable def st (r b:Nat):Nat:=if 2*r+b≥256 then(2*r+b) ^^^ 263 else 2*r+b
noncomputable def R (n:Nat):Nat:=if h:n=0 then 0 else st (R (n / 2)) (n % 2)
termination_by n
decreasing_by lia
theorem GX:R 0=0:=by rw[R];rfl
theorem IA (n b:Nat) (i:b<2):R (2*n+b)=st (R n) b:=by
 by_cases h:2*n+b=0
 ·have h1:n=0:=by lia
  have f:b=0:=by lia
  subst h1;subst f;rw[GX];rfl
 ·rw[R,dif_neg h];have e1:(2*n+b) / 2=n:=by lia
  have d:(2*n+b) % 2=b:=by lia
  rw[e1,d]
theorem Ls:∀r:_root_.Fin 256,∀b:_root_.Fin 2,st r.val b.val<256:=by decide+kernel
theorem YY (d:r<256) (f:b<2):st r b<256:=Ls ⟨r,d⟩ ⟨b,f⟩
theorem JT (n:Nat):R n<256:=by
 induction n using Nat.strongRecOn with
 |_ n d=>
  by_cases h:n=0
  ·subst h;rw[GX];decide
  ·rw[R,dif_neg h];exact YY (d _ (by lia)) (by lia)
theorem GY (h:n<256):R n=n:=by
 induction n using Nat.strongRecOn with
 |_ n d=>
  by_cases h0:n=0
  ·subst h0;exact GX
  ·rw[R,dif_neg h0,d _ (by lia) (by lia)];unfold st;rw[if_neg (by lia)];lia
theorem JY (a b x y:Nat) (hx:x<2) (u:y<2):(2*a+x) ^^^ (2*b+y)=2*(a ^^^ b)+(x ^^^ y):=by
 have f:x=0\/x=1:=by lia
 have m:y=0\/y=1:=by lia
 apply Nat.eq_of_testBit_eq;intro i;cases i with
 |zero=>
  simp_all
 |succ i=>
  rw[Nat.testBit_xor,Nat.testBit_succ,Nat.testBit_succ,Nat.testBit_succ];have e1:(2*a+x) / 2=a:=by lia
  have d:(2*b+y) / 2=b:=by lia
  have j:(2*(a ^^^ b)+(x ^^^ y)) / 2=a ^^^ b:=by
   lia
  rw[e1,d,j,Nat.testBit_xor]
theorem IT:∀r:_root_.Fin 256,∀b:_root_.Fin 2,st r.val b.val=(2*r.val+b.val) ^^^ (263*(r.val / 128)):=by decide+kernel
theorem Np (d:r<256) (f:b<2):st r b=(2*r+b) ^^^ (263*(r / 128)):=IT ⟨r,d⟩ ⟨b,f⟩
theorem II (ha:a<2 ^ k) (d:b<2 ^ k):a ^^^ b<2 ^ k:=Nat.xor_lt_two_pow ha d
theorem K4 (a b:Nat) (k:Nat):(a ^^^ b) / 2 ^ k=(a / 2 ^ k) ^^^ (b / 2 ^ k):=by
 apply Nat.eq_of_testBit_eq;intro i;rw[Nat.testBit_xor,Nat.testBit_div_two_pow,Nat.testBit_div_two_pow,Nat.testBit_div_two_pow,Nat.testBit_xor]
theorem U4 (j:r<256) (hs:s<256) (hx:x<2) (i:y<2):st (r ^^^ s) (x ^^^ y)=st r x ^^^ st s y:=by
 have h1:=II (k:=8) j hs;have u:=II (k:=1) hx i;rw[Np h1 u,Np j hx,Np hs i];have d:=K4 r s 7;have q1:r / 128=0\/r / 128=1:=by lia
 have q2:s / 128=0\/s / 128=1:=by lia
 rw[d,<-JY r s x y hx i];have m:263*((r / 128) ^^^ (s / 128))=(263*(r / 128)) ^^^ (263*(s / 128)):=by
  rcases q1 with e|e<;>rcases q2 with f|f<;>rw[e,f]<;>decide
 rw[m]
 ac_rfl
theorem UQ (a b:Nat):R (a ^^^ b)=R a ^^^ R b:=by
 induction a using Nat.strongRecOn generalizing b with
 |_ a j=>
  by_cases h:a=0
  ·subst h;rw[Nat.zero_xor,GX,Nat.zero_xor]
  ·have d:a=2*(a / 2)+a % 2:=by lia
   have f:b=2*(b / 2)+b % 2:=by lia
   have e:a ^^^ b=2*((a / 2) ^^^ (b / 2))+((a % 2) ^^^ (b % 2)):=by
    conv=>lhs;rw[d,f]
    exact JY _ _ _ _ (by lia) (by lia)
   have i:(a % 2) ^^^ (b % 2)<2:=II (k:=1) (by lia) (by lia);rw[e,IA _ _ i,j (a / 2) (by lia),U4 (JT _) (JT _) (by lia) (by lia),<-IA _ _ (by lia),<-IA _ _ (by lia),<-d,<-f]
theorem GZ (h:R n=0) (k:Nat):R (n*2 ^ k)=0:=by
 induction k with
 |zero=>simp_all
 |succ k d=>
  have e:n*2 ^ (k+1)=2*(n*2 ^ k)+0:=by grind
  rw[e,IA _ _ (by decide),d];rfl
theorem agq:R 263=0:=by
 have e:(263)=2*131+1:=rfl;rw[e,IA _ _ (by decide),GY (by decide)];decide
theorem YH (n k:Nat):R (n ^^^ (263*2 ^ k))=R n:=by
 rw[UQ,GZ agq,Nat.xor_zero]
theorem QG (h:2 ^ (k+8)<=n) (f:n<2 ^ (k+9)):n ^^^ (263*2 ^ k)<2 ^ (k+8):=by
 have e0:2 ^ (k+8)=256*2 ^ k:=by lia
 have i:2 ^ (k+9)=512*2 ^ k:=by lia
 have p:=Nat.two_pow_pos k;have hd:n / 2 ^ (k+8)=1:=by
  have a1:1<=n / 2 ^ (k+8):=(Nat.le_div_iff_mul_le (by lia)).mpr (by lia);have d:n / 2 ^ (k+8)<2:=(Nat.div_lt_iff_lt_mul (by lia)).mpr (by lia);lia
 have hd2:(263*2 ^ k) / 2 ^ (k+8)=1:=by
  have a1:1<=(263*2 ^ k) / 2 ^ (k+8):=(Nat.le_div_iff_mul_le (by lia)).mpr (by lia);have d:(263*2 ^ k) / 2 ^ (k+8)<2:=(Nat.div_lt_iff_lt_mul (by lia)).mpr (by lia);lia
 have hx:(n ^^^ (263*2 ^ k)) / 2 ^ (k+8)=0:=by
  rw[K4,hd,hd2];decide
 rcases Nat.div_eq_zero_iff.mp hx with q|q
 ·lia
 ·exact q
end Rem
namespace BitI
open PySem L2
theorem not_eq (x:Int):Builtin.bitNot x = -x-1:=by unfold Builtin.bitNot;lia
theorem Lf (a b:Nat):Builtin.bitAnd (a:Int) (b:Int)=((a &&& b:Nat):Int):=rfl
theorem F0 (a b:Nat):Builtin.bitOr (a:Int) (b:Int)=((a |||b:Nat):Int):=by
 unfold Builtin.bitOr;rw[PyProof.Rows.bitAnd_nn (by rw[not_eq];lia) (by rw[not_eq];lia)];have e:∀n,(Builtin.bitNot (Builtin.bitNot (n)))=(n):=fun n=>by rw[not_eq,not_eq];lia
 rw[e a,e b,e];simp
theorem Qw (a b:Nat):Builtin.bitXor (a:Int) (b:Int)=((a ^^^ b:Nat):Int):=by
 unfold Builtin.bitXor;rw[F0,Lf];have h1:=BitM.JZ a b;have d:=BitM.Ol a b;lia
theorem Qd {n:Nat} (h:0<n):Builtin.Int.intBits (n:Int)=n.log2+1:=by
 unfold Builtin.Int.intBits;rw[if_neg]
 ·simp
 ·lia
theorem NG {n:Nat} (h:255<n):∃k:Nat,(Builtin.Int.intBits (n:Int):Int)-9=(k:Int)/\n ^^^ (263*2 ^ k)<n/\Rem.R (n ^^^ (263*2 ^ k))=Rem.R n/\k+9=n.log2+1:=by
 have d:=Qd (show 0<n by lia);have f:8<=n.log2:=(Nat.le_log2 (by lia)).mpr (‹_›);refine⟨n.log2-8,by grind,?_,Rem.YH _ _,by lia⟩;have l1:2 ^ (n.log2-8+8)<=n:=by
  rw[show n.log2-8+8=n.log2 by lia];exact Nat.log2_self_le (by lia)
 have l2:n<2 ^ (n.log2-8+9):=by
  rw[show n.log2-8+9=n.log2+1 by lia];exact Nat.lt_log2_self
 exact Nat.lt_of_lt_of_le (Rem.QG l1 l2) l1
end BitI
namespace RemM
open Rem
theorem yh (h:b<2 ^ p):(a*2 ^ p) |||b=a*2 ^ p+b:=by
 rw[<-Nat.shiftLeft_eq,Nat.shiftLeft_add_eq_or_of_lt h]
theorem Ec (h:b<2 ^ p):(a*2 ^ p) ^^^ b=a*2 ^ p+b:=by
 have h1:=BitM.JZ (a*2 ^ p) b;have f:=BitM.Ol (a*2 ^ p) b;have d:=yh (a:=a) h;lia
theorem YI (n:Nat):R (n ^^^ R n)=0:=by
 rw[UQ,GY (JT n),Nat.xor_self]
theorem SG (z:Nat):R ((z*256) |||R (z*256))=0:=by
 have h:R (z*256)<2 ^ 8:=JT _;have e:(z*256) |||R (z*256)=(z*256) ^^^ R (z*256):=by
  rw[yh h,Ec h]
 rw[e,YI]
end RemM
namespace Held
theorem CI:∀{xs d:List Int},xs.Pairwise (· < ·)->d.Pairwise (· < ·)->(∀z,z∈xs↔z∈d)->xs=d
 | [],[],_,_,_=>rfl
 | [],y::d,_,_,h=>by have:=(h y).mpr (by simp);simp at this
 |x::xs,[],_,_,h=>by have:=(h x).mp (by simp);simp at this
 |x::xs,y::d,h1,h2,h=>by
  rw[List.pairwise_cons] at h1 h2;have f:x=y:=by
   have a:=(h x).mp (by simp);have b:=(h y).mpr (by simp);rcases List.mem_cons.mp a with e|e
   ·exact e
   ·grind
  subst f;have:=CI h1.2 h2.2 fun z=>by
   grind
  rw[this]
noncomputable def dZ:Int->List Int->Bool
 |_,[]=>true
 |l,x::xs=>decide (l+1<=x)&&decide (x<=15)&&dZ x xs
theorem uS:∀{l:Int} {xs:List Int},dZ l xs=true↔(xs.Pairwise (· < ·)/\∀x∈xs,l<x/\x<=15)
 |l,[]=>by simp[dZ]
 |l,x::xs=>by
  have i:=@uS x xs;simp only[dZ,Bool.and_eq_true,decide_eq_true_eq,i,List.pairwise_cons,List.mem_cons];constructor
  ·rintro⟨⟨a,b⟩,c,d⟩;refine⟨⟨fun y f=>(d y f).1,c⟩,?_⟩;rintro y (rfl|f)
   ·lia
   ·have:=d y f;lia
  ·rintro⟨⟨a,c⟩,d⟩;have:=d x (.inl rfl);exact⟨⟨by lia,this.2⟩,c,fun y f=>⟨a y f,(d y (.inr f)).2⟩⟩
noncomputable def ones:List Int:=(List.range 15).map fun i:Nat=>(1:Int)+i
theorem HF:ones.Pairwise (· < ·):=by decide
theorem Ou:z∈ones↔(0<z/\z<=15):=by
 unfold ones;rw[List.mem_map];constructor
 ·rintro⟨i,hi,rfl⟩;have:=List.mem_range.mp hi;lia
 ·intro h;exact⟨(z-1).toNat,List.mem_range.mpr (by lia),by lia⟩
theorem JB (hx:hs[i]?=some x) (e:dZ 0 hs=dZ l (hs.drop i)):dZ 0 hs=(decide (l+1<=x)&&decide (x<=15)&&dZ x (hs.drop (i+1))):=by
 have hi:=(List.getElem?_eq_some_iff.mp hx).1;rw[e,List.drop_eq_getElem_cons hi];have:=(List.getElem?_eq_some_iff.mp hx).2;rw[this];rfl
end Held
namespace Com
open PySem L2
theorem aJ (h:H p=none):a8 H (upd H p o):=fun b u e=>by rw[ak (aG e h)];exact e
theorem sZ (e:a8 H H') (h:cT K H a xs):cT K H' a xs:=e.seq h
theorem P2 {ns:List Int}:DU (ns.map V.int) lo hi=((ns.drop (HT.qW ns.length 0 lo)).take (HT.qW ns.length ns.length hi-HT.qW ns.length 0 lo)).map V.int:=by
 unfold DU;rw[List.length_map,List.map_take,List.map_drop]
theorem cb {q:Addr} (h:H p=some x) (hn:H q=none):upd H q o p=some x:=by rw[ak (aG h hn)];exact h
theorem D5 {zs:List V} (h1:H l=some (.lst xs)) (d:H b=some (.lst zs)) (f:xs.length+zs.length<=sizeLine) (q:∀p,H p=none->Q (.ref p) (upd H p (.lst (xs++zs)))):CY K (.ref l) (.ref b) H Q:=
 .inl ⟨l,b,xs,zs,rfl,rfl,h1,d,f,q⟩
theorem tK {ns:List Int} {i:Nat} (h:(ns.map V.int)[i]?=some x):∃c,x = .int c/\ns[i]?=some c:=by
 cases e:ns[i]?<;>simp_all
theorem cshl (h0:0<=j) (h1:j<=1000000) (f:0<=i) (d:i<2 ^ 256):Qn i j:=by
 exact⟨⟨h0,h1⟩,by lia,by lia⟩
theorem bq (h:n<=1000):n<=sizeLine:=by rw[sizeLine_eq];lia
theorem OV (h:H a=some (.lst xs)) (q:Q (.bl true) H):zA K [.ref a,.ty "list"] H Q:=⟨_,_,.lst h,rfl,q⟩
theorem Gu (h:H a=some (.tup xs)) (q:Q (.bl true) H):zA K [.ref a,.ty "tuple"] H Q:=⟨_,_,.tup h,rfl,q⟩
theorem fresh_ne {q:Addr} (h:upd H p o q=none):q≠p:=fun e=>by
 subst e;rw[ar] at h;cases h
theorem sN {F:Prop} (h0:b=false->F) (h1:b=true->G):if b=true then G else F:=by
 simp_all
theorem Nm {F:Prop} (h0:b=false->F) (h1:b=true->G):if b=false then F else G:=by
 simp_all
theorem Lx:oN 1 15=((List.range 15).map fun i:Nat=>(1:Int)+i).map V.int:=rfl
theorem Io {ns:List Int}:((ns.map V.int).filter p).map (fun x=>x)=(ns.filter fun i=>p (.int i)).map V.int:=by
 rw[List.map_id',List.filter_map];rfl
end Com
namespace L2
open PySem PySem.Spec PyProof.Rows
structure dH (K:W.Frag) (mg:Str->Option Value) (x:Str) (C:Addr):Prop where
 Up:mg x=some (.ref C)
 cl:UR K C
 mks:W.makesIn K C=true
 kp:W.keepIn K (.ref C)=true
def MethAt (K:W.Frag) (C:Addr) (m q:Str) (st:Stmt):Prop:= ∃f d,Fun K m q st f d/\Meth K C m f
def AW (P:Program) (w:World) (K:W.Frag) (mg:Str->Option Value) (base:Heap) (CX:IE) (C:Addr) (m:Str) (k:Nat) (i:List Str) (sp:Sp):Prop:=
 ∃f d,yT P w K mg base CX k f d i sp/\Meth K C m f/\Binds K d i []
theorem OC {K:W.Frag} (X:K.In h) (G:h.Ns mainGlobals mg) (a:W.nsIn K mainGlobals x=some (some (.ref C))) (pg:W.plainGet K C Str.empty=true) (hd:W.hasDictIn K C=true) (po:W.plainOver K C=true) (sa:W.findIn K (.ref C) "__setattr__" = some (some (.builtin "object.__setattr__"))) (mk:W.makesIn K C=true) (kc:W.keepIn K (.ref C)=true):dH K mg x C:=
 ⟨W.mg_of X G a,⟨pg,hd,po,sa⟩,mk,kc⟩
theorem Mm {K:W.Frag} {q:Str} {st:Stmt} {kV:Value} (a:W.findIn K (.ref C) m=some (some (.ref f))) (i:W.isFn K (.ref f)=true) (l:K.lookup f=some ⟨oc,od,.func (W.fnOf m q (fM st) (dh st) (bF st) .none kV doc pm an cdv ct),osl⟩) (c:W.codeIn K cdv q=true) (k:W.keepIn K (.ref f)=true):MethAt K C m q st:=
 ⟨f,_,Px l c k,⟨a,i,k⟩⟩
section
theorem MethAt.fn {K:W.Frag} {q:Str} {st:Stmt} (F:MethAt K C m q st) (S:lQ N ps (bF st)) (y:∀(kV doc pm:Value) (an:Option Addr) (d ct:Value) (us:List Value),us.length=ps.length->bindArgs (W.fnOf m q (fM st) (dh st) (bF st) .none kV doc pm an d ct) ⟨us,[]⟩=pure (ps.zip us)) (len:∀vs H Q E,sp vs H Q E->vs.length=ps.length) (i:∀(f:Addr) (d:Value) (A:Around) (outer:List Env) (s:Shared) (H:Hp) (vs:List V) (Q:VK) (E:XK),c6 k (A.deeper (envOfC q (bF st) s.heap.objs.size f d))->sp vs H Q E->
   ∃t,CB (DT CX P w K mg base N q (bF st) f d A outer s H E).nox (dh st) t/\t {nx:=fun _ H'=>Q .non H',rt:=Q} (start N vs) H):AW P w K mg base CX C m (k+1) ps sp:=by
 obtain⟨f,z,F,hm⟩:=F;have bd:=F.binds y;obtain⟨G,od,kV,doc,pm,an,d,ct,x,rfl,lk,j⟩:=F.ex;refine⟨f,_,KY lk j S len fun A outer s H vs Q E v u=>?_,hm,bd⟩;obtain⟨t,h,q⟩:=i f _ A _ s H vs Q E v u;exact⟨t,h.nox,q⟩
end
def Q8 (C:Addr) (f:Str) (x:V) (H:Hp) (Q:VK):Prop:=match x with
 | .ref a=> ∃dx fs,H a=some (.ins C dx fs)/\∃v,fs.lookup f=some v/\Q v H
 |_=>False
theorem Q7 (h:Q8 C f x H Q):∃a,x = .ref a/\∃dx fs,H a=some (.ins C dx fs)/\∃v,fs.lookup f=some v/\Q v H:=by
 unfold Q8 at h;split at h
 ·exact⟨_,rfl,h⟩
 ·exact h.elim
def J7 (C:Addr) (f:Str) (i:TE):TE:=fun σ H Q=>i σ H fun x d=>Q8 C f x d Q
def Kg (C:Addr) (f:Str) (y x:V) (H:Hp) (N:Hp->Prop):Prop:=match x with
 | .ref a=> ∃dx fs,H a=some (.ins C dx fs)/\fs.length<1000/\N (upd H a (.ins C dx (bQ f y fs)))
 |_=>False
theorem NM (h:Kg C f y x H N):∃a,x = .ref a/\∃dx fs,H a=some (.ins C dx fs)/\fs.length<1000/\N (upd H a (.ins C dx (bQ f y fs))):=by
 unfold Kg at h;split at h
 ·exact⟨_,rfl,h⟩
 ·exact h.elim
def NC (C:Addr) (f:Str) (m j:TE):TS:=fun D σ H=>j σ H fun y i=>m σ i fun x d=>Kg C f y x d (D.nx σ)
def Ko (C:Addr) (f:Str) (x:V) (H:Hp) (K:V->(V->Hp->Prop)->Prop) (N:Hp->Prop):Prop:=match x with
 | .ref a=> ∃dx fs,H a=some (.ins C dx fs)/\∃v,fs.lookup f=some v/\
 K v fun z j=> ∃i d,j a=some (.ins C i d)/\d.length<1000/\N (upd j a (.ins C i (bQ f z d)))
 |_=>False
theorem N6 {K:V->(V->Hp->Prop)->Prop} (h:Ko C f x H K N):∃a,x = .ref a/\∃dx fs,H a=some (.ins C dx fs)/\∃v,fs.lookup f=some v/\K v fun z j=> ∃i d,j a=some (.ins C i d)/\d.length<1000/\N (upd j a (.ins C i (bQ f z d))):=by
 unfold Ko at h;split at h
 ·exact⟨_,rfl,h⟩
 ·exact h.elim
def SU (C:Addr) (f:Str) (m j:TE) (rd:R2):TS:=fun D σ H=>m σ H fun x d=>Ko C f x d (fun v R=>j σ d fun y i=>rd v y i R) (D.nx σ)
def Y7 (C:Addr) (m:Str) (x:V) (H:Hp) (N:Prop):Prop:=match x with
 | .ref a=> ∃dx fs,H a=some (.ins C dx fs)/\fs.lookup m=none/\N
 |_=>False
theorem FT (h:Y7 C m x H N):∃a,x = .ref a/\∃dx fs,H a=some (.ins C dx fs)/\fs.lookup m=none/\N:=by
 unfold Y7 at h;split at h
 ·exact⟨_,rfl,h⟩
 ·exact h.elim
def Nd (C:Addr) (m:Str) (sp:Sp) (i:TE) (t:TA):TE:=fun σ H Q=>i σ H fun x d=>Y7 C m x d (t σ d fun vs f=>sp (x::vs) f Q E0)
theorem N2:Q8 C f (.ref a) H Q= ∃dx fs,H a=some (.ins C dx fs)/\∃v,fs.lookup f=some v/\Q v H:=rfl
theorem LC:Kg C f y (.ref a) H N= ∃dx fs,H a=some (.ins C dx fs)/\fs.length<1000/\N (upd H a (.ins C dx (bQ f y fs))):=rfl
theorem LU {K:V->(V->Hp->Prop)->Prop}:Ko C f (.ref a) H K N= ∃dx fs,H a=some (.ins C dx fs)/\∃v,fs.lookup f=some v/\
  K v fun z j=> ∃i d,j a=some (.ins C i d)/\d.length<1000/\N (upd j a (.ins C i (bQ f z d))):=rfl
theorem Q1:Y7 C m (.ref a) H N= ∃dx fs,H a=some (.ins C dx fs)/\fs.lookup m=none/\N:=rfl
theorem Yl {N:Addr->List (Str×V)->Prop}:(∃dx fs,some (HO.ins C d l)=some (HO.ins C dx fs)/\N dx fs)=N d l:=by
 lia
theorem Yi {N:V->Prop}:(∃v,some x=some v/\N v)=N x:=by
 simp_all
theorem Mg {K:W.Frag} (h:W.findIn K (.ref C) f=some none):bB K C f:=h
theorem cV (nx:H x=none) (nd:H dx=none):a8 H (upd (upd H dx (.own x)) x (.ins C dx fs)):=fun b o e=>by
 rw[ak (aG e nx),ak (aG e nd)];exact e
theorem M9 (h:H p=some o):upd H p o=H:=by
 funext b;unfold upd;split
 ·simp_all
 ·rfl
section
theorem Rw (he:PE X e ta) (c:dH X.K X.mg x C) (nn:bB X.K C f) (F:attributeBase e f X.env (eval e X.env)=eval e X.env):PE X (.Attribute e f pos) (J7 C f ta):=by
 intro d s σ H Q I h;refine SA F (fS (he _ s σ H _ I h) fun u s1 x z G i m=>?_);obtain⟨a,ex,dx,fs,y,v,l,q⟩:=Q7 m;subst ex;obtain rfl:u=Value.ref a:=i;exact Dm G y c.cl nn l fun J s2 j E=>⟨v,z,j,E,q⟩
theorem aQ (ha:PE X o ta) (j:PE X value tv) (c:dH X.K X.mg x C) (nn:bB X.K C f) (hs:mH value=false:=by rfl):PS X (.Assign [.Attribute o f pos'] value pos) (NC C f ta tv):=by
 intro d s σ H D I h;refine plainObj_wpAny_Assign_Attribute (fS (j _ s σ H _ I h) fun u s1 y E O F q=>fS (ha _ s1 σ E _ O q) fun J s2 x P m i v=>?_) (nO hs);obtain⟨a,ex,dx,fs,z,l,q2⟩:=NM v;subst ex;obtain rfl:J=Value.ref a:=i;exact CK m z c.cl nn l F fun s3 G=>⟨σ,_,G,q2⟩
theorem rf (ha:PE X o ta) (E:PE X value tv) (c:dH X.K X.mg x C) (nn:bB X.K C f) (i:gC X (inplaceOp op) rd):PS X (.AugAssign (.Attribute o f tpos) op value pos) (SU C f ta tv rd):=by
 intro j s σ H D I h;refine wpAny_AugAssign_AttributeAny (fS (ha _ s σ H _ I h) fun ov s1 x Y I1 m O=>?_);obtain⟨a,ex,dx,fs,P,v,l,q⟩:=N6 O;subst ex;obtain rfl:ov=Value.ref a:=m;refine Dm I1 P c.cl nn l fun u s2 F ru=>fS (E _ s2 σ Y _ F q) fun w3 s3 y U I3 ry q3=>thn (i _ s3 σ U v y u w3 _ I3 ru ry q3) fun w4 s4 ⟨z,H3,G,rz,dx',Z,d,l',q4⟩=>?_;exact CK G d c.cl nn l' rz fun s5 J=>⟨σ,_,J,q4⟩
theorem Vv [Quiet CX] (he:PE X o ta) (c:dH X.K X.mg x C) (G:AW X.prog X.w X.K X.mg X.base CX C m k ps sp) (z:c6 n X.A) (hk:k<=n) (ha:PA X (e::es) t) (d:(e::es).any isStar=false:=by rfl) (ht:eval (.Call (.Attribute o m apos) (e::es) [] pos) X.env=(do
   let ov<-eval o X.env
   standAt apos.atName
   let (f,first)<-holding [ov] (getMethod ov m pl)
   callWith pos f first (backTo pos (starEach (e::es) X.env)) (backToKw pos (keywordEach [] X.env))):=by rfl):
  PE X (.Call (.Attribute o m apos) (e::es) [] pos) (Nd C m sp ta t):=by
 obtain⟨f,P,F,hm,b⟩:=G;rw[List.any_cons,Bool.or_eq_false_iff] at d;intro i s σ H Q I h;refine W.methodCall_KW (fS (he _ s σ H _ I h) fun u s1 x O v y E=>?_) ht;obtain⟨a,ex,dx,fs,J,l,q⟩:=FT E;subst ex;obtain rfl:u=Value.ref a:=y;refine n_ v J c.cl hm l ?_;refine W.callWith_K I.ok.mod.kin hm.kp (fS (ha _ _ s1 σ O _ v q) fun us s2 vs U j r q2=>⟨j.nL,?_⟩) (cM d.1) (nF d.2);exact FQ (vs:= .ref a::vs) F (z.mono hk) b .nil (Quiet.pass X) j (.cons rfl r) (by simp_all)
theorem Rt [Quiet CX] (he:PE X o ta) (c:dH X.K X.mg x C) (G:AW X.prog X.w X.K X.mg X.base CX C m k ps sp) (v:c6 n X.A) (hk:k<=n) (ht:eval (.Call (.Attribute o m apos) [] [] pos) X.env=(do
   let ov<-eval o X.env
   standAt apos.atName
   let (f,first)<-holding [ov] (getMethod ov m pl)
   callWith pos f first (backTo pos (starEach [] X.env)) (backToKw pos (keywordEach [] X.env))):=by rfl):
  PE X (.Call (.Attribute o m apos) [] [] pos) (Nd C m sp ta Ee):=by
 obtain⟨f,E,F,hm,b⟩:=G;intro i s σ H Q I h;refine W.methodCall_KW (fS (he _ s σ H _ I h) fun u s1 x J d j y=>?_) ht;obtain⟨a,ex,dx,fs,z,l,q⟩:=FT y;subst ex;obtain rfl:u=Value.ref a:=j;refine n_ d z c.cl hm l ?_;exact W.callWith_K0 d.nL hm.kp (FQ (vs:=[.ref a]) F (v.mono hk) b .nil (Quiet.pass X) d (.cons rfl .nil) q)
theorem wD [Quiet CX] (c:dH X.K X.mg x C) (G:AW X.prog X.w X.K X.mg X.base CX C "__init__" k ps sp) (i:c6 n X.A) (hk:k+1<=n) (hg:Gl X x) (ha:PA X (e::es) t) (d:(x == ("__debug__":Str))=false:=by decide) (h:(e::es).any isStar=false:=by rfl):PE X (.Call (.Name x p) (e::es) [] pos) (Nf C sp [] E0 t):=by
 obtain⟨f,j,F,hm,b⟩:=G;rw[List.any_cons,Bool.or_eq_false_iff] at h;exact Ru ⟨c.mks,hm.at_,hm.fn,c.kp⟩ F (i.mono hk) hg c.Up b .nil (Quiet.pass X) ha d (cM h.1) (nF h.2)
end
def YM (K:W.Frag) (p:Addr) (i:Int) (H:Hp) (Q:VK):Option HO->Prop
 |some (.lst xs)=> ∃v,j4 xs i=some v/\Q v H
 |some (.tup xs)=> ∃v,j4 xs i=some v/\Q v H
 |_=>Bt K (.ref p) (.int i) H Q
def NV (K:W.Frag):R2:=fun x y H Q=>match x,y with
 | .ref p,.int i=>YM K p i H Q (H p)
 |x,y=>Bt K x y H Q
theorem NU {K:W.Frag}:NV K (.ref p) (.int i) H Q=YM K p i H Q (H p):=rfl
theorem NT {K:W.Frag}:NV K (.str z) (.int i) H Q=Bt K (.str z) (.int i) H Q:=rfl
theorem RY {K:W.Frag}:YM K p i H Q (some (.lst xs))= ∃v,j4 xs i=some v/\Q v H:=rfl
theorem RX {K:W.Frag}:YM K p i H Q (some (.tup xs))= ∃v,j4 xs i=some v/\Q v H:=rfl
theorem RZ {K:W.Frag} (h:YM K p i H Q (H p)):Bt K (.ref p) (.int i) H Q:=by
 unfold YM at h;split at h
 ·rename_i xs e;obtain⟨v,a,b⟩:=h;exact HY (cT.of e) a b
 ·rename_i xs e;obtain⟨v,a,b⟩:=h;exact dS (dX.of e) a b
 ·exact h
theorem akA (K:W.Frag) (h:X.K=K):IC X (NV K):=IC.imp (afs K h) fun x y H Q h=>by
 unfold NV at h;split at h
 ·exact RZ h
 ·exact h
theorem qp {i:Nat} {x:α} (h:xs[i]?=some x):j4 xs (i:Int)=some x:=by
 have hl:=(List.getElem?_eq_some_iff.mp h).1;unfold j4 M5;rw[if_pos (by lia),if_pos (by lia)];exact h
theorem uM {l:List α}:j4 (a::l) 0=some a:=qp (i:=0) rfl
theorem vQ {l:List α}:j4 (a::b::l) 1=some b:=qp (i:=1) rfl
theorem UL {l:List α}:j4 (a::b::c::l) 2=some c:=qp (i:=2) rfl
theorem UK {l:List α}:j4 (a::b::c::d::l) 3=some d:=qp (i:=3) rfl
theorem agn {l:List α}:j4 (a::b::c::d::e::l) 4=some e:=qp rfl
theorem agm {l:List α}:j4 (a::b::c::d::e::f::l) 5=some f:=qp rfl
def Oz (K:W.Frag) (p:Addr) (H:Hp) (Q:VK):Option HO->Prop
 |some (.lst xs)=>Q (.int xs.length) H
 |some (.tup xs)=>Q (.int xs.length) H
 |_=>A4 K [.ref p] H Q
def Ki (K:W.Frag):List V->Hp->VK->Prop:=fun xs H Q=>match xs with
 | [.ref p]=>Oz K p H Q (H p)
 |xs=>A4 K xs H Q
theorem LK {K:W.Frag}:Ki K [.ref p] H Q=Oz K p H Q (H p):=rfl
theorem LJ {K:W.Frag}:Ki K [.str z] H Q=A4 K [.str z] H Q:=rfl
theorem Oy {K:W.Frag}:Oz K p H Q (some (.lst xs))=Q (.int xs.length) H:=rfl
theorem Ox {K:W.Frag}:Oz K p H Q (some (.tup xs))=Q (.int xs.length) H:=rfl
theorem fN (K:W.Frag) (h:X.K=K):b_ X (.builtin "len") (Ki K):=b_.imp (lE K h) fun xs H Q h=>by
 unfold Ki at h;split at h
 ·unfold Oz at h;split at h
  ·rename_i xs e;exact⟨xs,.inl (cT.of e),h⟩
  ·rename_i xs e;exact⟨xs,.inr (dX.of e),h⟩
  ·exact h
 ·exact h
def Mx (K:W.Frag) (p:Addr) (n:String) (H:Hp) (Q:VK):Option HO->Prop
 |some (.lst _)=>if n = "list" then Q (.bl true) H else zA K [.ref p,.ty n] H Q
 |some (.tup _)=>if n = "tuple" then Q (.bl true) H else zA K [.ref p,.ty n] H Q
 |_=>zA K [.ref p,.ty n] H Q
def Kj (K:W.Frag):List V->Hp->VK->Prop:=fun xs H Q=>match xs with
 | [.ref p,.ty n]=>Mx K p n H Q (H p)
 |xs=>zA K xs H Q
theorem AO (K:W.Frag) (h:X.K=K):b_ X (.builtin "isinstance") (Kj K):=b_.imp (nM K h) fun xs H Q h=>by
 unfold Kj at h;split at h
 ·unfold Mx at h;split at h
  ·rename_i xs e;split at h
   ·rename_i c;subst c;exact Com.OV e h
   ·exact h
  ·rename_i xs e;split at h
   ·rename_i c;subst c;exact Com.Gu e h
   ·exact h
  ·exact h
 ·exact h
theorem LO {K:W.Frag}:Kj K [.ref p,.ty n] H Q=Mx K p n H Q (H p):=rfl
theorem OW {K:W.Frag}:Mx K p "tuple" H Q (some (.tup xs))=Q (.bl true) H:=by simp[Mx]
theorem OX {K:W.Frag}:Mx K p "list" H Q (some (.lst xs))=Q (.bl true) H:=rfl
theorem Q5 {K:W.Frag}:Kj K [.str i,.ty n] H Q=zA K [.str i,.ty n] H Q:=rfl
theorem Yj {N:List V->Prop}:(∃xs,some (HO.lst l)=some (HO.lst xs)/\N xs)=N l:=by
 simp_all
def lH (p:Addr) (H H':Hp):Prop:= ∀b o,H b=some o->b≠p->H' b=some o
theorem lH.refl:lH p H H:=fun _ _ h _=>h
theorem lH.upd {p:Addr} {H:Hp} {o:HO}:lH p H (upd H p o):=fun b x f d=>by rw[ak d];exact f
theorem lH.new {q:Addr} (h:lH p H H') (i:H' q=none):lH p H (L2.upd H' q o):=fun b x f d=>by
 rw[ak (aG (h b x f d) i)];exact h b x f d
end L2
namespace MeterM
noncomputable def mn (a b:Int):Int:=if b<a then b else a
noncomputable def hf (w:Int):Int:=if 1<w / 2 then w / 2 else 1
noncomputable def k1 (m k:Int) (s:Int×Int):Int×Int:=if s.1=m then s else if s.1<k then(s.1+1,s.2) else if s.2+1=s.1 then(s.1+1,0) else(s.1,s.2+1)
noncomputable def kn (m k:Int):Nat->Int×Int->Int×Int
 |0,s=>s
 |n+1,s=>k1 m k (kn m k n s)
theorem afL (h1:1<=w) (d:w<=m):1<=hf w/\hf w<=m:=by
 unfold hf;split<;>lia
def YK (m:Int) (s:Int×Int):Prop:=1<=s.1/\s.1<=m/\0<=s.2/\s.2<s.1
theorem akC (s:Int×Int) (h:YK m s):YK m (k1 m k s):=by
 obtain⟨w,c⟩:=s;unfold YK k1 at*
 (grind)<;>simp only<;>lia
theorem inb:∀(n:Nat) (s:Int×Int),YK m s->YK m (kn m k n s)
 |0,s,h=>h
 |n+1,s,h=>akC _ (inb n s h)
end MeterM
namespace WaysM
noncomputable def lb (x:Nat):Nat:=x-(x &&& (x-1))
theorem SF (a b:Nat):(a &&& b) % 2=(a % 2)*(b % 2):=by
 have e:=Nat.and_mod_two_pow (a:=a) (b:=b) (n:=1);rw[e];rcases(by lia:a % 2=0\/a % 2=1) with p|p<;>rcases(by lia:b % 2=0\/b % 2=1) with q|q<;>rw[p,q]<;>decide
theorem VA (a b:Nat) (h:(a |||b) % 2=1):a % 2=1\/b % 2=1:=by
 simp_all
theorem RU (x:Nat) (h:0<x):∃k,lb x=2 ^ k/\x % 2 ^ k=0/\x / 2 ^ k % 2=1:=by
 induction x using Nat.strongRecOn with
 |_ x j=>
  have d:(x &&& (x-1)) / 2=(x / 2) &&& ((x-1) / 2):=Nat.and_div_two;have m:=SF x (x-1);rcases(by lia:x % 2=0\/x % 2=1) with p|p
  ·obtain⟨k,h1,f,i⟩:=j (x / 2) (by lia) (by lia);rw[show(x-1) / 2=x / 2-1 by lia] at d;rw[p] at m;refine⟨k+1,?_,?_,?_⟩
   ·unfold lb at h1⊢;rw[Nat.pow_succ];have le:(x / 2 &&& (x / 2-1))<=x / 2:=Nat.and_le_left;lia
   ·rw[Nat.pow_succ,Nat.mul_comm,Nat.mod_mul];rw[f];lia
   ·rw[Nat.pow_succ,Nat.mul_comm,<-Nat.div_div_eq_div_mul];exact i
  ·refine⟨0,?_,by lia,by simpa using p⟩;unfold lb;rw[show(x-1) / 2=x / 2 by lia,Nat.and_self] at d;rw[p,show(x-1) % 2=0 by lia] at m;lia
theorem VB (a b k:Nat):(a |||b) / 2 ^ k=a / 2 ^ k |||b / 2 ^ k:=by
 rw[<-Nat.shiftRight_eq_div_pow,<-Nat.shiftRight_eq_div_pow,<-Nat.shiftRight_eq_div_pow];exact Nat.shiftRight_or_distrib
noncomputable def low (t b:Int):Int×Int:=(t / (lb (t.toNat |||b.toNat):Nat),b / (lb (t.toNat |||b.toNat):Nat))
structure agx (t b t' b' s:Int):Prop where
 s0:0<s
 tt:t=s*t'
 bb:b=s*b'
 t0:0<=t'
 b0:0<b'
 od: ¬(t' % 2=0/\b' % 2=0)
 tl:t'<=t
 bl:b'<=b
theorem KI (t b:Nat) (i:0<b):∃k,lb (t |||b)=2 ^ k/\t % 2 ^ k=0/\b % 2 ^ k=0/\(t / 2 ^ k % 2=1\/b / 2 ^ k % 2=1):=by
 have hx:0<t |||b:=by
  simp_all
 obtain⟨k,h1,f,d⟩:=RU _ hx;have e:(t % 2 ^ k) |||(b % 2 ^ k)=0:=by rw[<-Nat.or_mod_two_pow];exact f
 have e1:t % 2 ^ k<=(t % 2 ^ k) |||(b % 2 ^ k):=Nat.left_le_or;have j:b % 2 ^ k<=(t % 2 ^ k) |||(b % 2 ^ k):=Nat.right_le_or;refine⟨k,h1,by lia,by lia,?_⟩;rw[VB] at d;exact VA _ _ d
theorem qc (ht:0<=t) (i:0<b):∃s,agx t b (low t b).1 (low t b).2 s:=by
 obtain⟨t,rfl⟩:=Int.eq_ofNat_of_zero_le ht;obtain⟨b,rfl⟩:=Int.eq_ofNat_of_zero_le (Int.le_of_lt i);obtain⟨k,h1,d,f,m⟩:=KI t b (by lia);have hp:=Nat.two_pow_pos k;have t1:=Nat.div_add_mod t (2 ^ k);have b1:=Nat.div_add_mod b (2 ^ k);rw[d,Nat.add_zero] at t1;rw[f,Nat.add_zero] at b1;have e1:(low (t) (b)).1=((t / 2 ^ k:Nat)):=by simp[low,h1]
 have j:(low (t) (b)).2=((b / 2 ^ k:Nat)):=by simp[low,h1]
 rw[e1,j];have l1:=Nat.div_le_self t (2 ^ k);have l2:=Nat.div_le_self b (2 ^ k);have u:0<b / 2 ^ k:=by
  lia
 generalize t / 2 ^ k=t' at*
 generalize b / 2 ^ k=v at*
 generalize 2 ^ k=s at*
 refine⟨(s),⟨by lia,?_,?_,by lia,by lia,by lia,by lia,by lia⟩⟩
 ·rw[<-Int.natCast_mul,t1]
 ·rw[<-Int.natCast_mul,b1]
theorem tD:∀(n:Nat) (s b:Int),0<s->0<b->2 ^ n=s*b->∃j,j<=n/\b=2 ^ j
 |
   0,s,b,hs,hb,h=>⟨0,Nat.le_refl _,by
   have h1:s*b=1:=by simp_all
   have:b∣1:=⟨s,by rw[Int.mul_comm];exact h1.symm⟩;have:=Int.le_of_dvd (by decide) this;lia⟩
 |n+1,s,b,hs,hb,h=>by
  by_cases i:b % 2=0
  ·obtain⟨c,rfl⟩:∃c,b=2*c:=⟨b / 2,by lia⟩;have:(2:Int) ^ n=s*c:=by
    lia
   obtain⟨j,f,e⟩:=tD n s c hs (by lia) this;exact⟨j+1,by lia,by rw[e,Int.pow_succ,Int.mul_comm]⟩
  ·by_cases d:s % 2=0
   ·obtain⟨c,rfl⟩:∃c,s=2*c:=⟨s / 2,by lia⟩;have:(2:Int) ^ n=c*b:=by
     lia
    obtain⟨j,f,e⟩:=tD n c b (by lia) hb this;exact⟨j,by lia,e⟩
   ·have e1:(s*b) % 2=1:=by rw[Int.mul_emod];rw[show s % 2=1 by lia,show b % 2=1 by lia];decide
    rw[<-h] at e1;lia
end WaysM
namespace L2
open PySem PySem.Spec PyProof.Rows
def Bd (n:Nat) (x:Int):Prop:=x.natAbs<2 ^ n
theorem Bd.mul (h:Bd a x) (d:Bd b y):Bd (a+b) (x*y):=by
 unfold Bd;rw[Int.natAbs_mul,Nat.pow_add];exact Nat.mul_lt_mul'' h d
theorem Bd.up (h:Bd a x) (d:a<=b):Bd b x:=Nat.lt_of_lt_of_le h (Nat.pow_le_pow_right (by decide) d)
theorem Bd.add (h:Bd a x) (d:Bd a y):Bd (a+1) (x+y):=by
 unfold Bd at*
 have:=Int.natAbs_add_le x y;lia
theorem Bd.sub (h:Bd a x) (d:Bd a y):Bd (a+1) (x-y):=by
 unfold Bd at*
 lia
theorem Bd.of (h0:0<=x) (h:x<2 ^ a):Bd a x:=by
 unfold Bd;have e:((2 ^ a:Nat):Int)=2 ^ a:=rfl;lia
theorem Bd.le (h:Bd a y) (h0:0<=x) (hl:x<=y):Bd a x:=by
 unfold Bd at *;lia
theorem Bd.bits (h:Bd n x):Builtin.Int.intBits x<=n:=by
 unfold Builtin.Int.intBits;split
 ·lia
 ·have hx:x.natAbs≠0:=by simp_all
  have:=(Nat.log2_lt hx).mpr h;lia
def Qo (i j:Int):Prop:=Qp i j\/(Bd 8000 i/\Bd 8000 j)
def Qq (_ j:Int):Prop:=0<j/\Bd 8000 j
theorem oY:gC X (binaryOp .Mult) (rI Qo fun i j=> .int (i*j)):=VJ fun _ _ _ _ _ _ _ hc q=>mul_int q (by
 rcases hc with hc|⟨h1,d⟩
 ·exact hc.ok
 ·exact IntMulOk.of_bits (Nat.le_trans h1.bits (by decide)) (Nat.le_trans d.bits (by decide)))
theorem C9:gC X (binaryOp .FloorDiv) (rI Qq fun i j=> .int (i / j)):=VJ fun i j _ _ _ _ _ hc q=>by
 have e:=Int.fdiv_eq_ediv_of_nonneg i (Int.le_of_lt hc.1);rw[<-e] at q;refine floordiv_int (Int.ne_of_gt hc.1) q (.inl (PyProof.noPylong_of_log2 ?_));have hx:j.natAbs≠0:=by have:=hc.1;lia
 exact Nat.lt_of_lt_of_le ((Nat.log2_lt hx).mpr hc.2) (by decide)
theorem VN (h : -(2 ^ 64)<i/\i<2 ^ 64):Qo i j:= .inl (.inl h)
theorem wR (h:Bd a i) (d:Bd b j) (ha:a<=8000) (f:b<=8000):Qo i j:= .inr ⟨h.up ha,d.up f⟩
theorem Ys (h0:0<j) (h:Bd a j) (ha:a<=8000):Qq i j:=⟨h0,h.up ha⟩
end L2
namespace L2
theorem akI (x:Int):(if x<0 then -x else x)=(x.natAbs:Int):=by split<;>lia
theorem Bd.abs (h:Bd n x):Bd n (x.natAbs:Int):=by unfold Bd at *;simpa using h
theorem Bd.c {k:Nat} (h:k<2 ^ n):Bd n (k:Int):=by unfold Bd;simpa using h
end L2
namespace WaysI
open PySem L2
theorem lowbit (ht:0<=t) (d:0<b):Builtin.bitAnd (Builtin.bitOr t b) (-(Builtin.bitOr t b))=(WaysM.lb (t.toNat |||b.toNat):Nat):=by
 obtain⟨t,rfl⟩:=Int.eq_ofNat_of_zero_le ht;obtain⟨b,rfl⟩:=Int.eq_ofNat_of_zero_le (Int.le_of_lt d);rw[BitI.F0];have hx:0<t |||b:=by
  simp_all
 rw[PyProof.Rows.bitAnd_pn (by lia) (by lia)];have e:(Builtin.bitNot (-((t |||b:Nat)))).toNat=(t |||b)-1:=by rw[BitI.not_eq];lia
 rw[e];simp only[Int.toNat_natCast,WaysM.lb];have le:((t |||b) &&& ((t |||b)-1))<=t |||b:=Nat.and_le_left;lia
theorem VS {t:Int} (ht:0<=t) (d:0<b):0<((WaysM.lb (t.toNat |||b.toNat):Nat):Int)/\((WaysM.lb (t.toNat |||b.toNat):Nat):Int)<=b:=by
 obtain⟨t,rfl⟩:=Int.eq_ofNat_of_zero_le ht;obtain⟨b,rfl⟩:=Int.eq_ofNat_of_zero_le (Int.le_of_lt d);obtain⟨k,h1,i,f,j⟩:=WaysM.KI t b (by lia);simp only[Int.toNat_natCast];rw[h1];have hp:=Nat.two_pow_pos k;have:=Nat.le_of_dvd (by lia) (Nat.dvd_of_mod_eq_zero f);lia
end WaysI
namespace L2
open PySem PySem.Spec PyProof.Rows
theorem HZ:∀{ns:List Int} {d:List Value},Vals (ns.map V.int) d->IntsAre d ns
 | [],_,.nil=> .nil
 |n::ns,_,.cons r rr=>by
  obtain⟨t,rfl⟩:=r;exact .cons n t (HZ rr)
def NR (K:W.Frag):List V->Hp->VK->Prop:=fun xs H Q=>match xs with
 | [.int i,.int j]=>Q (.int (if i<j then j else i)) H
 | [.ref p]=> ∃ns:List Int,cT K H p (ns.map V.int)/\0<ns.length/\∀M,M∈ns->(∀a,a∈ns->a<=M)->Q (.int M) H
 |_=>False
theorem Fs (K:W.Frag) (y:X.K=K) (hc:X.calm=true):b_ X (.builtin "max") (NR K):=by
 subst y;intro f s σ H xs us Q I rs q;unfold NR at q;split at q
 ·exact qo hc _ s σ H _ us Q I rs q
 ·obtain⟨u,rfl,E⟩:=vals1 rs;cases E;obtain⟨ns,z,C,q⟩:=q;obtain⟨x,r,pl,J⟩:=I.list z;have hi:=HZ r;have hl:=pl.isList;obtain⟨xs,e⟩:=hi.allInts.items;have d:ns=xs.toList.map (·.1):=by rw[<-hi.numsOf,<-nums_intItems,<-e]
  have hsz:0<xs.size:=by
   simp_all
  rw[e] at hl;refine max_intList (I.ok.hd hc) hl hsz fun v G tk m hk=>?_;obtain⟨t,rfl⟩:=intItems_at m;obtain⟨h1,i⟩:=argBest_gt (numAt xs) (xs.size-1);refine⟨.int _,H,I.kept hk,⟨t,rfl⟩,q _ ?_ fun a ha=>?_⟩
  ·rw[d,numAt_eq];exact getD_mem (by rw[List.length_map,Array.length_toList];lia)
  ·rw[d] at ha;obtain⟨j,F,rfl⟩:=mem_getD ha;rw[List.length_map,Array.length_toList] at F;rw[<-numAt_eq];exact i j (by lia)
 ·trivial
theorem LH {K:W.Frag}:NR K [.ref p] H Q= ∃ns:List Int,cT K H p (ns.map V.int)/\0<ns.length/\∀M,M∈ns->(∀a,a∈ns->a<=M)->Q (.int M) H:=rfl
noncomputable abbrev ik (i:Int):Key:=Sum.inl i
def PU (neg:Bool) (i:Int) (H:Hp) (Q:VK):Option HO->Prop
 |some (.dK kvs)=>Q (.bl (if neg then !(bH kvs (ik i)).isSome else(bH kvs (ik i)).isSome)) H
 |_=>False
def N5 (neg:Bool):R2:=fun y x H Q=>match y,x with
 | .int i,.ref a=>PU neg i H Q (H a)
 |_,_=>False
theorem N4:N5 neg (.int i) (.ref a) H Q=PU neg i H Q (H a):=rfl
theorem Yt:PU true i H Q (some (.dK kvs))=Q (.bl (!(bH kvs (ik i)).isSome)) H:=rfl
theorem Yu:PU false i H Q (some (.dK kvs))=Q (.bl (bH kvs (ik i)).isSome) H:=rfl
def dgO (i:Int) (H:Hp) (Q:VK):Option HO->Prop
 |some (.dK kvs)=> ∃v,bH kvs (ik i)=some v/\Q v H
 |_=>False
def Km:R2:=fun x y H Q=>match x,y with
 | .ref a,.int i=>dgO i H Q (H a)
 |_,_=>False
theorem LS:Km (.ref a) (.int i) H Q=dgO i H Q (H a):=rfl
theorem agh:dgO i H Q (some (.dK kvs))= ∃v,bH kvs (ik i)=some v/\Q v H:=rfl
def dpO (a:Addr) (i:Int) (v:V) (H:Hp) (N:Hp->Prop):Option HO->Prop
 |some (.dK kvs)=>kvs.length<sizeLine/\N (upd H a (.dK (putK kvs (ik i) v)))
 |_=>False
def Kk (x y v:V) (H:Hp) (N:Hp->Prop):Prop:=match x,y with
 | .ref a,.int i=>dpO a i v H N (H a)
 |_,_=>False
def ND (to j i:TE):TS:=fun D σ H=>i σ H fun v f=>to σ f fun x d=>j σ d fun y m=>Kk x y v m (D.nx σ)
theorem LQ:Kk (.ref a) (.int i) v H N=dpO a i v H N (H a):=rfl
theorem agg:dpO a i v H N (some (.dK kvs))=(kvs.length<sizeLine/\N (upd H a (.dK (putK kvs (ik i) v)))):=rfl
def R4:Option HO->Prop
 |some (.dK _)=>True
 |_=>False
def Ss (a:Addr) (i:Int) (H:Hp) (Q:VK):Option HO->Prop
 |some (.dK kvs)=> ∃v,bH kvs (ik i)=some v/\Q v (upd H a (.dK (t7 kvs (ik i))))
 |_=>False
def Kl (x y:V) (H:Hp) (Q:VK):Prop:=match x,y with
 | .ref a,.int i=>Ss a i H Q (H a)
 |_,_=>False
def Vd (x:V) (H:Hp):Prop:=match x with
 | .ref a=>R4 (H a)
 |_=>False
def Nj (to i:TE):TE:=fun σ H Q=>to σ H fun x d=>Vd x d/\i σ d fun y f=>Kl x y f Q
theorem NX:Vd (.ref a) H=R4 (H a):=rfl
theorem XH:R4 (some (.dK kvs))=True:=rfl
theorem LR:Kl (.ref a) (.int i) H Q=Ss a i H Q (H a):=rfl
theorem Yp:Ss a i H Q (some (.dK kvs))= ∃v,bH kvs (ik i)=some v/\Q v (upd H a (.dK (t7 kvs (ik i)))):=rfl
section
theorem Fp (q:N5 neg y x H Q):∃j a d,y = .int j/\x = .ref a/\H a=some (.dK d)/\Q (.bl (if neg then !(bH d (ik j)).isSome else(bH d (ik j)).isSome)) H:=by
 unfold N5 at q;split at q
 ·rename_i j a;unfold PU at q;split at q
  ·rename_i d e1;exact⟨j,a,d,rfl,rfl,e1,q⟩
  ·trivial
 ·trivial
theorem Oj (Y:X.A.units+64<cLine) (hi:PE X i ti) (C:PE X o to):PC X .In i o (IF (N5 false) ti to):=by
 intro f s σ H Q I h;have d:X.A.units+1<cLine:=by lia
 refine fS (hi _ s σ H _ I h) fun U s1 y F O G q1=>fS (C _ s1 σ F _ O q1) fun u s2 x E z m q2=>?_;obtain⟨j,a,J,rfl,rfl,e1,q⟩:=Fp q2;obtain rfl:u=Value.ref a:=m;exact akE d z (G3.k (k:=ik j) e1) G fun P v=>⟨.bl _,E,v,rfl,q⟩
theorem Ji (Y:X.A.units+64<cLine) (hi:PE X i ti) (C:PE X o to):PC X .NotIn i o (IF (N5 true) ti to):=by
 intro f s σ H Q I h;have d:X.A.units+1<cLine:=by lia
 refine fS (hi _ s σ H _ I h) fun U s1 y F O G q1=>fS (C _ s1 σ F _ O q1) fun u s2 x E z m q2=>?_;obtain⟨j,a,J,rfl,rfl,e1,q⟩:=Fp q2;obtain rfl:u=Value.ref a:=m;exact Sv d z (G3.k (k:=ik j) e1) G fun P v=>⟨.bl _,E,v,rfl,q⟩
theorem PV (q:Km x y H Q):∃j a d v,y = .int j/\x = .ref a/\H a=some (.dK d)/\bH d (ik j)=some v/\Q v H:=by
 unfold Km at q;split at q
 ·unfold dgO at q;split at q
  ·simp_all
  ·simp_all
 ·simp_all
theorem Oh (hu:X.A.units+64<cLine) (E:PE X o to) (hi:PE X i ti) (hs:ags i):PE X (.Subscript o i pos) (IF Km to ti):=by
 intro m s σ H Q I h;have f:X.A.units+1<cLine:=by lia
 refine QO PySem.F.slot_dict_getitem.lookup hs (fS (E _ s σ H _ I h) fun u s1 x J Z C q1=>fS (hi _ s1 σ J _ Z q1) fun iv s2 y G z P q2=>?_);obtain⟨j,a,Y,v,rfl,rfl,e1,O,q⟩:=PV q2;obtain rfl:u=Value.ref a:=C;have g:=O▸G3.k e1;exact⟨Iq z g,MN f z g P fun w' s3 U d=>⟨v,G,U,d,q⟩⟩
theorem PM (q:Kk x y v H N):∃j a d,y = .int j/\x = .ref a/\H a=some (.dK d)/\d.length<sizeLine/\N (upd H a (.dK (putK d (ik j) v))):=by
 unfold Kk at q;split at q
 ·unfold dpO at q;split at q
  ·simp_all
  ·simp_all
 ·simp_all
theorem FX (hu:X.A.units+64<cLine) (F:PE X o to) (hi:PE X i ti) (z:PE X value tv) (hs:mH value=false:=by rfl):PS X (.Assign [.Subscript o i pos'] value pos) (ND to ti tv):=by
 intro f s σ H D I h;have d:X.A.units+1<cLine:=by lia
 refine wpAny_Assign_Subscript (fS (z _ s σ H _ I h) fun r s1 v J Z O q1=>fS (F _ s1 σ J _ Z q1) fun u s2 x G C m q2=>fS (hi _ s2 σ G _ C q2) fun iv s3 y H3 U P q3=>?_) (nO hs);obtain⟨j,a,Y,rfl,rfl,e1,hl,q⟩:=PM q3;obtain rfl:u=Value.ref a:=m;exact MM d U (SJ.k (k:=ik j) e1 hl) P O fun s4 E=>⟨σ,_,E,q⟩
theorem ML (q:Kl x y H Q):∃j a d v,y = .int j/\x = .ref a/\H a=some (.dK d)/\bH d (ik j)=some v/\Q v (upd H a (.dK (t7 d (ik j)))):=by
 unfold Kl at q;split at q
 ·unfold Ss at q;split at q
  ·simp_all
  ·simp_all
 ·simp_all
theorem Rx {X:Cx} {o e:Expr} {to te:TE} {apos d:Pos} (P:PE X o to) (he:PE X e te) (Y:attributeBase o "pop" X.env (eval o X.env)=eval o X.env:=by rfl)
  (
   hfew:((backTo d (starEach [e] X.env)).all (fun x=>!x.1)&&(backToKw d (keywordEach [] X.env)).all (fun x=>x.1.isSome)
   &&decide (([e]:List Expr).length+([]:List Keyword).length+(if([]:List Keyword).isEmpty then 0 else 1)<30))=true:=by rfl)
  (f:(apos.endLine == d.line)=true:=by rfl) (ht:backTo d (starEach [e] X.env)= [(false,eval e X.env)]:=by rfl):PE X (.Call (.Attribute o "pop" apos) [e] [] d) (Nj to te):=by
 intro z s σ H Q I h;refine wpAny_Call_method Y hfew f PySem.F.plainAttrs_dict PySem.F.slot_dict_pop PySem.F.type_dict_pop (thn (P _ s σ H _ I h) fun u s1 ⟨x,E,G,J,hd,q1⟩=>?_);obtain⟨a,i,rfl,e0⟩:∃a i,x = .ref a/\E a=some (.dK i):=by
  unfold Vd at hd;split at hd
  ·unfold R4 at hd;split at hd
   ·simp_all
   ·simp_all
  ·simp_all
 obtain rfl:u=Value.ref a:=J;obtain⟨t1,t2,_⟩:=XG G (.inl ⟨i,.inl e0⟩);refine⟨t1,t2,?_⟩;rw[ht];refine Calls.callWith_builtin rfl (Calls.evalArgs_plain (Calls.spliced_cons (fS (he _ s1 σ E _ G q1) fun iv s2 y H2 O ry q2=>Calls.spliced_nil ?_)));obtain⟨j,a',C,v,rfl,U,e1,Z,q⟩:=ML q2;cases U;exact agi O e1 (k:=ik j) ry Z (.inl rfl) fun w' s3 I3 m=>⟨v,_,I3,m,q⟩
end
def Kh (vs:List V) (H:Hp) (Q:VK):Prop:=match vs with
 | [.int i,.int j]=>(-(2 ^ 62)<=i/\i<2 ^ 62/\-(2 ^ 62)<=j/\j<2 ^ 62)/\∀p,H p=none->Q (.ref p) (upd H p (.rng i j))
 |_=>False
def SN (f:TA):TE:=fun σ H Q=>f σ H fun vs d=>Kh vs d Q
theorem LF:Kh [.int i,.int j] H Q=((-(2 ^ 62)<=i/\i<2 ^ 62/\-(2 ^ 62)<=j/\j<2 ^ 62)/\∀p,H p=none->Q (.ref p) (upd H p (.rng i j))):=rfl
theorem Rr (hg:Gl X "range") (hm:X.mg "range" = none) (ha:PA X [a,b] ta) (hs:starEach [a,b] X.env= [(false,eval a X.env),(false,eval b X.env)]:=by rfl) (d:starEach [b] X.env= [(false,eval b X.env)]:=by rfl):
  PE X (.Call (.Name "range" p) [a,b] [] pos) (SN ta):=by
 intro f s σ H Q I h;refine Call_ (wU I hg hm boot_range (PyProof.Rows.callWith_type1 (fS (ha _ _ s σ H _ I h) fun us s1 vs x m v q1=>?_) (by simp_all) (by rw[d];rfl)));replace q1:Kh vs x Q:=q1;unfold Kh at q1;split at q1
 ·rename_i i j;obtain⟨y,z,rfl,⟨t,rfl⟩,⟨t',rfl⟩⟩:=vals2 v;refine call_range_2 ?_;exact⟨.ref _,_,m.laid (fun b u e=>Heap.get?_push_of_some _ e) (Nat.le_refl _) (show dG _ _ _ _ _ (.rng i j) from⟨_,_,_,Heap.get?_push_size _ rfl⟩),rfl,q1.2 _ (m.hok.fresh (Nat.le_refl _))⟩
 ·trivial
def KL (K:W.Frag) (p:Addr) (H:Hp) (Q:VK):Option HO->Prop
 |some (.rng i j)=>(-(2 ^ 62)<=i/\i<2 ^ 62/\-(2 ^ 62)<=j/\j<2 ^ 62)/\(j-i).toNat<=1000000/\∀l,H l=none->Q (.ref l) (upd H l (.lst (oN i (j-i).toNat)))
 |_=>CV K [.ref p] H Q
def Jc (K:W.Frag):List V->Hp->VK->Prop:=fun xs H Q=>match xs with
 | [.ref p]=>KL K p H Q (H p)
 |xs=>CV K xs H Q
theorem Jb {K:W.Frag}:Jc K [.ref p] H Q=KL K p H Q (H p):=rfl
theorem Mq {K:W.Frag}:KL K p H Q (some (.rng i j))=((-(2 ^ 62)<=i/\i<2 ^ 62/\-(2 ^ 62)<=j/\j<2 ^ 62)/\(j-i).toNat<=1000000/\∀l,H l=none->Q (.ref l) (upd H l (.lst (oN i (j-i).toNat)))):=rfl
theorem J3:∀{xs:List V} {us:List Value},xs.length=us.length->(∀(k:Nat) x u,xs[k]?=some x->us[k]?=some u->RelV x u)->Vals xs us
 | [],[],_,_=> .nil
 | [],_::_,h,_=>by trivial
 |_::_,[],h,_=>by trivial
 |x::xs,u::us,h,hr=> .cons (hr 0 x u rfl rfl) (J3 (by simpa using h) fun k a b ha d=>hr (k+1) a b (‹_›) (‹_›))
theorem Jy (h:ItemsOf (fun k v=> ∃t,v = .int (i+k*1) t) acc n):Vals (oN i n) acc.toList:=by
 refine J3 (by simp[oN,h.1]) fun k x u hx d=>?_;have hk:=by
  have:=(List.getElem?_eq_some_iff.mp hx).1;simpa [oN] using this
 obtain⟨t,rfl⟩:=h.2 k u (by simp_all);have:=by
  unfold oN at hx;rw[List.getElem?_map,List.getElem?_range hk] at hx;exact(Option.some.inj hx).symm
 rw[this];exact⟨t,by simp_all⟩
theorem JO (K:W.Frag) (m:X.K=K) (hc:X.calm=true):b_ X (.type "list") (Jc K):=by
 intro f s σ H xs us Q I rs q;unfold Jc at q;split at q
 ·rename_i p;unfold KL at q;split at q
  ·rename_i i j e;obtain⟨u,rfl,E⟩:=vals1 rs;cases E;obtain⟨⟨b1,C,F,z⟩,hn,q⟩:=q;obtain⟨t,u,v,y⟩:=((I.hok p _ e));refine call_list_range (n:=(j-i).toNat) (I.ok.hd hc) y (small_one b1 C F z) (by rw[rangeSize_one];split<;>lia) (by lia) fun x tk d J kp e1 it=>?_
   have G:=Jy it;exact⟨.ref _,_,I.laid kp (Nat.le_refl _) (show dG _ _ _ x _ (.lst _) from⟨by rw[sizeLine_eq];simp[oN];lia,_,J,G,‹_›⟩),rfl,q _ (I.hok.fresh (Nat.le_refl _))⟩
  ·exact DY K m _ s σ H _ us Q I rs q
 ·exact DY K m _ s σ H _ us Q I rs q
def J8 (r P d F:R2) (I v X E te:TE):TE:=fun σ H Q=>I σ H fun x O=>v σ O fun y J=>r x y J fun z m=> ∃k,z = .bl k/\
 (if k=true then X σ m fun f G=>P y f G fun Z i=> ∃k2,Z = .bl k2/\(if k2=true then E σ i fun w2 U=>d f w2 U fun C j=> ∃k3,C = .bl k3/\(if k3=true then te σ j fun Y u=>F w2 Y u Q else Q (.bl false) j) else Q (.bl false) i) else Q (.bl false) m)
section
theorem LY (ho:gC X (compareOp op) r) (F:gC X (compareOp op') r') (m:gC X (compareOp op'') r'') (C:gC X (compareOp op3) E) (ha:PE X a ta) (hb:PE X b tb) (hc:PE X c tc) (hd:PE X d td) (he:PE X e te) (hm:lastMarks [op,op',op'',op3] [b,c,d,e]=false:=by with_unfolding_all rfl):PT X (.Compare a [op,op',op'',op3] [b,c,d,e] pos) (AZ (J8 r r' r'' E ta tb tc td te)):=by
 intro f s σ H Q I h;refine isTrue_chain (fS (ha f s σ H _ I h) fun v s1 x H1 I1 r1 q1=>test_link (fS (hb f s1 σ H1 _ I1 q1) fun u s2 y H2 I2 r2 q2=>
  thn (ho f s2 σ H2 x y v u _ I2 r1 r2 q2) fun d s3 ⟨z,J,I3,E,k,e,q3⟩=>?_)) hm
 subst e;cases E;refine wpAny_truthy_bool ?_;cases k with
 |false=>
  obtain⟨O,i,j⟩:=q3;cases i;exact ite_ff ⟨J,I3,j⟩
 |true=>
  refine ite_tt (test_link (fS (hc f s3 σ J _ I3 q3) fun w' s4 P H4 I4 G q4=>thn (F f s4 σ H4 y P u w' _ I4 r2 G q4) fun d' s5 ⟨z2,U,I5,r5,k2,e2,q5⟩=>?_));subst e2;cases r5;refine wpAny_truthy_bool ?_;cases k2 with
  |false=>
   obtain⟨O,i,j⟩:=q5;cases i;exact ite_ff ⟨U,I5,j⟩
  |true=>
   refine ite_tt (test_link (fS (hd f s5 σ U _ I5 q5) fun Z s6 z3 H6 I6 Y q6=>thn (m f s6 σ H6 P z3 w' Z _ I6 G Y q6) fun d' s7 ⟨z4,H7,I7,r7,k4,e4,q7⟩=>?_));subst e4;cases r7;refine wpAny_truthy_bool ?_;cases k4 with
   |false=>
    obtain⟨O,i,j⟩:=q7;cases i;exact ite_ff ⟨H7,I7,j⟩
   |true=>
    refine ite_tt (test_last (fS (he f s7 σ H7 _ I7 q7) fun w4 s8 z5 H8 I8 r8 q8=>thn (C f s8 σ H8 z3 z5 Z w4 _ I8 Y r8 q8) fun d' s9 ⟨z6,H9,I9,r9,k6,e6,q9⟩=>?_));subst e6;cases r9;exact wpAny_truthy_bool ⟨H9,I9,q9⟩
end
section
structure QE (X:Cx) (e:Expr) (t:TE):Prop where
 h:PE X e t
structure QS (X:Cx) (st:Stmt) (t:TS):Prop where
 h:PS X st t
structure YJ (X:Cx) (l:List Stmt) (t:TS):Prop where
 h:CB X l t
theorem Kq {st:Stmt} (h1:QS X st t):YJ X [st] t:=⟨aq h1.h⟩
theorem tu {st:Stmt} {rest:List Stmt} (h1:QS X st t) (d:YJ X rest u):YJ X (st::rest) (UZ t u):=⟨aj h1.h d.h⟩
theorem FW (d:X.N.Nodup) (hi:X.N[i]?=some x) (hx:Loc X.env.scope x) (he:QE X e te) (h:mH e=false:=by rfl) (hf:X.fn x=true\/X.env.scope.names.lookup x=some .local:=by walk_at "q"):
  QS X (.Assign [.Name x pos'] e pos) (He te (qf i)):=⟨Ks d hi hx he.h h hf⟩
end
def Ql (h:Heap) (e:Addr) (cls:Value) (dx i:Option Addr):Prop:=
 ∃d vs,h.get? e=some d/\d.cls=cls/\d.dict=dx/\d.data = .fields vs/\1<vs.size/\(match i with
  |none=>vs[1]?=some .none
  |some T=>vs[1]?=some (.ref T)/\T≠e/\∃f ts,h.get? T=some f/\f.data = .fields ts/\ts[3]?=some .none)
structure Lft (S:List Addr) (e:Addr) (tb:Option Addr) (h h':Heap):Prop where
 keep:∀b o,b ∉ S->b≠e->(∀T,tb=some T->b≠T)->h.get? b=some o->h'.get? b=some o
 slot:∀b o,b∈S->h.get? b=some o->∃sl,h'.get? b=some {o with slots:=sl}
 there:∀b o,h.get? b=some o->∃o',h'.get? b=some o'
section
theorem DR (f:Array Value->Array Value) (o:Obj):(Obj.mapFields f o).dict=o.dict:=by
 unfold Obj.mapFields;split<;>rfl
noncomputable abbrev U9 (top:Value) (L:Addr) (d:List Value):Obj:={cls:= .type "traceback",dict:=none,data:= .fields ([top,.ref L,.none,rawInt L,.none]++(if d.isEmpty then List.replicate 6 Value.none else d)).toArray}
theorem K3 {top:Value} (y:A.frames=some (env::outer)) (hl:s.heap.FunFrames base (env::outer)) (hf:env.frame=some L) (he:s.heap.get? e=some oe) (hd:oe.data = .fields vs) (hsz:1<vs.size) (h:∀j,Ql j e oe.cls oe.dict (some s.heap.objs.size)->Lft ((env::outer).filterMap (·.frame)) e none s.heap j->Q () {s with heap:=j}):
  wpAny M A (do let a<-frameOf env;let pl<-entryPlaceOf L had;let b<-EntryCells.newEntry top a .none (rawInt L) .none pl;setField (.ref e) 1 b) (fun _ O=>wpAny M A (setFlight (.ref e) none) Q E O) E s:=by
 have out:e ∉ (env::outer).filterMap _:=fun hm=>by
  obtain⟨_,U,v,no⟩:=hl.mem hm;cases he.symm.trans v;exact no vs hd
 refine wpAny_bind (wpAny_frameOf_fun y hl hf fun k ks=>wpAny_bind (wpAny_entryPlaceOf fun u m=>?_));refine wpAny_bind (wpAny_newObj_type ?_ (m.sizeOk5 _ _ _ _ _));have I:=(ks.2.1 e out).trans he;have d:=Nat.ne_of_gt (Heap.lt_size I);have H:=ks.1;have C:=Obj.data_mapFields hd (·.setIfInBounds 1 (Value.ref k.objs.size));have e1:=Heap.get?_push_of_some (U9 top L u) I;have G:=Heap.get?_update_self _ e1 (Obj.isFreed_of_fields C);have r2:=(Heap.get?_update_other (k.push (U9 top L u)) (Obj.mapFields (·.setIfInBounds 1 (Value.ref k.objs.size))) (Ne.symm d)).trans (Heap.get?_push_size k rfl);refine wpAny_setField e1 hd hsz ?_;refine wpAny_bind (wpAny_field G C (x:= .ref k.objs.size) (by simp[hsz]) ?_);have P:=Heap.get?_update_self (Obj.mapFields (·.setIfInBounds 3 ((none).elim Value.none fun f=>rawInt f))) r2 (Obj.isFreed_of_fields (Obj.data_mapFields rfl _));refine wpAny_setField r2 rfl (by simp_all) (h _ ?_ ?_)
 ·rw[<-H];refine⟨_,_,?_,Obj.cls_mapFields _ _,DR _ _,C,by simp[hsz],by simp[hsz],d,_,_,P,rfl,?_⟩
  ·rw[Heap.get?_update_other _ _ d];exact G
  ·rfl
 ·have keep:∀b o,b≠e->k.get? b=some o->(((k.push (U9 top L u)).update e (Obj.mapFields (·.setIfInBounds 1 (Value.ref k.objs.size)))).update _ (Obj.mapFields (·.setIfInBounds 3 ((none).elim Value.none fun f=>rawInt f)))).get? b=some o:=fun b o ne i=>by
   rw[Heap.get?_update_other _ _ (Nat.ne_of_gt (Heap.lt_size i)),Heap.get?_update_other _ _ (Ne.symm ne)];exact Heap.get?_push_of_some _ i
  refine⟨fun b o F ne _ i=>keep b o ne ((ks.2.1 b F).trans i),fun b o F i=>?_,fun b o i=>?_⟩
  ·obtain⟨J,q⟩:=ks.2.2 b o i;exact⟨J,keep b _ (fun z=>out (z▸F)) q⟩
  ·by_cases z:b=e
   ·subst z;rw[Heap.get?_update_other _ _ d];exact⟨_,G⟩
   ·obtain⟨J,q⟩:=ks.2.2 b o i;exact⟨_,keep b _ z q⟩
theorem Om (j:A.frames=some (env::outer)) (hl:s.heap.FunFrames base (env::outer)) (hf:env.frame=some L) (hx:Ql s.heap e cls dx y) (h:∀i,Ql i e cls dx (some s.heap.objs.size)->Lft ((env::outer).filterMap (·.frame)) e y s.heap i->Q () {s with heap:=i}):wpAny M A (noteFrame (.ref e) env) (fun _ F=>wpAny M A (setFlight (.ref e) none) Q E F) E s:=by
 obtain⟨J,vs,he,rfl,rfl,hd,hsz,ht⟩:=hx;unfold noteFrame;simp only[hf];cases y with
 |none=>
  refine wpAny_bind (wpAny_field he hd ht ?_);exact K3 j hl hf he hd hsz h
 |some T=>
  obtain⟨h1,ne,I,ts,v,dT,C⟩:=ht;have apart:∀b o,s.heap.get? b=some o->(∀ws,o.data≠ .fields ws)->b≠T:=fun b o f no z=>by
   simp_all
  have out:T ∉ (env::outer).filterMap _:=fun hm=>by
   obtain⟨_,H,u,no⟩:=hl.mem hm;exact apart T H u no rfl
  refine wpAny_bind (wpAny_field he hd h1 ?_);refine wpAny_bind (wpAny_field v dT C ?_);refine wpAny_bind (wpAny_setField v dT (Array.getElem?_eq_some_iff.mp C).1 ?_);have d:∀b,b≠T->(s.heap.update T (Obj.mapFields (·.setIfInBounds 3 Value.none))).get? b=s.heap.get? b:=fun b z=>Heap.get?_update_other _ _ (Ne.symm z);have self:=Heap.get?_update_self (Obj.mapFields (·.setIfInBounds 3 Value.none)) v (Obj.isFreed_of_fields (Obj.data_mapFields dT _));have fr:=hl.of_keeps fun b o f no=>⟨o,(d b (apart b o f no)).trans f,rfl⟩;refine K3 j fr hf ((d e (Ne.symm ne)).trans he) hd hsz fun i x k=>?_;have sz:(s.heap.update T (Obj.mapFields (·.setIfInBounds 3 Value.none))).objs.size=s.heap.objs.size:=Heap.size_update ..;rw[sz] at x;refine h i x ⟨fun b o m z G f=>k.keep b o m z (fun _ q=>by cases q) ((d b (G T rfl)).trans f),fun b o m f=>k.slot b o m ((d b (fun q=>out (q▸m))).trans f),fun b o f=>?_⟩;by_cases q:b=T
  ·exact q▸k.there _ _ self
  ·exact k.there b o ((d b q).trans f)
theorem Mr (f:A.frames=some (env::outer)) (hl:s.heap.FunFrames base (env::outer)) (hf:env.frame=some L) (hx:Ql s.heap e cls dx tb) (h:∀d,Ql d e cls dx (some s.heap.objs.size)->Lft ((env::outer).filterMap (·.frame)) e tb s.heap d->Q () {s with heap:=d}):wpAny M A (leaving env (.ref e)) Q E s:=wpAny_bind (Om f hl hf hx h)
end
def IH (P:Program) (w:World):IE:=fun outer H s E e d=> ∃f cls dx T H',e = .ref f/\d.os=s.os/\AllBare d.gens/\Un (frs outer) [] H H' s.heap d.heap/\xN P w H' d.heap/\Ql d.heap f cls dx (some T)/\
 (s.heap.get? f=none/\s.heap.get? T=none/\H' f=none/\H' T=none)/\E cls dx H'
noncomputable instance {P:Program} {w:World}:Quiet (IH P w):=⟨fun X pins σ H s e s' I h=>by
 obtain⟨_,_,_,_,_,_,_,_,_,_,_,_,h⟩:=h;exact h.elim⟩
structure SI (X:Cx) (pins:List (Addr×Obj)) (σ:St) (H:Hp) (s:Shared) (ea:Addr) (cls:Value) (dx tb:Option Addr):Prop where
 inv:Inv X pins σ H s
 ex:Ql s.heap ea cls dx tb
 n0:X.s₀.heap.get? ea=none
 nH:H ea=none
 tbs:∀T,tb=some T->X.s₀.heap.get? T=none/\H T=none
 apart:∀p∈X.pn++pins,p.1≠ea/\∀T,tb=some T->p.1≠T
def Rz (X:Cx) (E:XK):Prop:= ∀d σ H s f cls dx i,SI X d σ H s f cls dx i->E cls dx H->X.xe (.ref f) s
section
theorem oX {H:Hp} {s:Shared} {P:Program} {w:World} {K:W.Frag} {mg:Str->Option Value} {base:Heap} {N:List Str} {qual:Str} {scope:Scope} {f:Addr} {cd:Value} {A:Around} {outer:List Env} {E:XK}:Rz (DT (IH P w) P w K mg base N qual scope f cd A outer s H E) E:=by
  intro U σ X s1 m cls dx O F Z;have I:=F.inv;refine Mr (by have:=I.ok.frames;exact this) (by have:=I.stack;exact this) rfl F.ex fun h' hx hk=>?_;have j:=I.Ck;have J:∀b,b∈(envOfC qual scope _ f cd::outer).filterMap (·.frame)->b=s.heap.objs.size\/b∈frs _:=fun b i=>by
    exact(List.mem_cons.mp i).elim .inl .inr
  have C:∀b o,s.heap.get? b=some o->b≠m/\(∀T,O=some T->b≠T)/\b≠s.heap.objs.size:=fun b o e=>
    ⟨
     fun q=>(by have h1:s.heap.get? m=none:=F.n0;rw[q,h1] at e;cases e),
     fun T G q=>(by have h1:s.heap.get? T=none:=(F.tbs T G).1;rw[q,h1] at e;cases e),
     Nat.ne_of_lt (Heap.lt_size e)⟩
  have B:=I.base;refine⟨m,cls,dx,_,X,rfl,I.os,I.bare,⟨fun b o q n i hx=>?_,fun b o q n i hx=>?_,B.free,fun b o q hx=>?_,B.tups,B.frzs,B.tbls⟩,fun b o q=>?_,hx,⟨F.n0,?_,F.nH,I.hok.fresh (Nat.le_refl _)⟩,Z⟩
  ·
    obtain⟨n1,n2,n3⟩:=C b o q;exact hk.keep b o (fun hm=>(J b hm).elim n3 i) n1 n2 (B.keep b o q n i hx)
  ·
    obtain⟨sl,e⟩:=B.slot b o q n i hx;obtain⟨v,Y⟩:=hk.slot b _ (by exact List.mem_cons_of_mem _ i) e;exact⟨v,Y⟩
  ·
    obtain⟨o',e⟩:=B.there b o q hx;exact hk.there b o' e
  · have d:∀c u,X c=some u->c ∉ (envOfC _ _ _ f cd::outer).filterMap _/\c≠m/\∀T,O=some T->c≠T:=fun c u e=>
      ⟨fun hm=>(by rw[j c hm] at e;cases e),fun z=>(by rw[z,F.nH] at e;cases e),fun T G z=>(by rw[z,(F.tbs T G).2] at e;cases e)⟩
    refine(I.hok b o q).stay (fun c u hc e=>?_) (fun c e=>e) (fun c xs e=>e);rcases hc with z|z
    ·
      obtain⟨m1,x,y⟩:=d b o q;subst z;exact hk.keep _ u m1 x y e
    ·
      obtain⟨m1,x,y⟩:=d c _ z;exact hk.keep c u m1 x y e
  · exact Heap.get?_none_of_le I.sz
end
section
theorem PF (hex:X.ex= []) (I:Inv X pins σ H s) (h:IH X.prog X.w X.stack H s E e s'):∃d cls dx T H',e = .ref d/\SI X pins σ H' s' d cls dx (some T)/\E cls dx H':=by
 obtain⟨d,cls,dx,T,H',rfl,os,bare,un,hok,hx,⟨n1,v,j,y⟩,i⟩:=h;have f:=I.call' os un hok bare (fun b z=>absurd z (by simp));have old:∀b,s.heap.get? b=none->X.s₀.heap.get? b=none:=fun b u=>by
  cases q:X.s₀.heap.get? b with
  |none=>rfl
  |some o=>
   obtain⟨x,e⟩:=I.base.there b o q (by simp_all);rw[u] at e;cases e
 refine⟨d,cls,dx,T,H',rfl,⟨f,hx,old d n1,j,(fun m e=>by simp_all),fun p hp=>⟨fun z=>?_,fun m e z=>?_⟩⟩,i⟩
 ·have q:=(I.pin p hp).1;rw[z,n1] at q;cases q
 ·cases e;have q:=(I.pin p hp).1;rw[z,v] at q;cases q
theorem Rz.passes (hex:X.ex= []) (h:Rz X E):Passes (IH X.prog X.w) X E:=fun d σ H s e j I q=>by
 obtain⟨i,cls,dx,T,H',rfl,F,f⟩:=PF hex I q;exact h _ _ _ _ _ _ _ _ F f
end
theorem cn.fnX {K:W.Frag} {st:Stmt} (F:cn K mg x st) (S:lQ N ps (bF st)) (y:∀(kV doc pm:Value) (an:Option Addr) (d ct:Value) (us:List Value),us.length=ps.length->bindArgs (W.fnOf x x (fM st) (dh st) (bF st) .none kV doc pm an d ct) ⟨us,[]⟩=pure (ps.zip us)) (len:∀vs H Q E,sp vs H Q E->vs.length=ps.length) (i:∀(f:Addr) (d:Value) (A:Around) (outer:List Env) (s:Shared) (H:Hp) (vs:List V) (Q:VK) (E:XK),c6 k (A.deeper (envOfC x (bF st) s.heap.objs.size f d))->sp vs H Q E->
   ∃t,CB (DT CX P w K mg base N x (bF st) f d A outer s H E) (dh st) t/\t {nx:=fun _ H'=>Q .non H',rt:=Q} (start N vs) H):FnAt P w K mg base CX x (k+1) ps sp:=by
 obtain⟨f,C,F,hm⟩:=F;have bd:=F.binds y;have kp:=F.kp;obtain⟨z,od,kV,doc,pm,an,d,ct,j,rfl,lk,m⟩:=F.ex;exact⟨f,_,KY lk m S len fun A outer s H vs Q E v u=>i f _ A _ s H vs Q E v u,hm,kp,bd,z,od,j,lk⟩
theorem dG.there (x:dG P w H h a o):∃u,h.get? a=some u:=by
 cases o with
 |lst xs=>obtain⟨_,_,_,_,e⟩:=x;exact⟨_,e⟩
 |tup xs=>obtain⟨_,_,_,⟨o,e,_⟩⟩:=x;exact⟨_,e⟩
 |dK d=>obtain⟨_,_,_,_,o,_,_,e,_⟩:=x;exact⟨_,e⟩
 |dT d=>obtain⟨_,_,_,_,o,_,_,e,_⟩:=x;exact⟨_,e⟩
 |set S n=>obtain⟨o,_,_,_,e,_⟩:=x;exact⟨_,e⟩
 |ins C dx fs=>obtain⟨_,_,_,e,_⟩:=x;exact⟨_,e⟩
 |own y=>trivial
 |xd fs=>obtain⟨_,⟨_,_,_,e,_⟩,_⟩:=x;exact⟨_,e⟩
 |rng lo hi=>obtain⟨_,_,_,e⟩:=x;exact⟨_,e⟩
 |frz ob u=>obtain⟨e,_⟩:=x;exact⟨_,e⟩
 |tbl j=>exact⟨_,((x))⟩
 |met f y=>exact⟨_,((x))⟩
 |ext i=>obtain⟨_,e,_⟩:=x;exact e
noncomputable abbrev Fy:List Value:=[.type "ValueError",.type "Exception",.type "BaseException",.type "object"]
structure D6 (K:W.Frag) (mg:Str->Option Value) (x:Str) (C R:Addr) (ini:Option Value):Prop where
 Up:mg x=some (.ref C)
 cls:∃N nm q bs sn sub ab col dd k0 k1 k2 k3 k5,K.lookup C=some (excClassObj nm q C N bs (.ref R::Fy) true sn sub ab col dd k0 k1 k2 k3 k5 "ValueError.__new__")/\W.nsOkIn K N=true/\W.nsIn K N "__init__" = some ini/\W.nsIn K N "__setattr__" = some none
 road:∃c0 dd cd sl,K.lookup R=some {cls:=c0,dict:=dd,data:= .cls cd,slots:=sl}/\W.nsOkIn K cd.ns=true/\W.nsIn K cd.ns "__init__" = some none/\W.nsIn K cd.ns "__setattr__" = some none
theorem J2 {K:W.Frag} {R:Addr} {q:Str} {k1:Option Value} {cd:ClassData} (X:K.In h) (G:h.Ns mainGlobals mg) (a:W.nsIn K mainGlobals x=some (some (.ref C))) (l:K.lookup C=some (excClassObj nm q C N bs (.ref R::Fy) true sn sub ab col dd k0 k1 k2 k3 k5 "ValueError.__new__")) (o:W.nsOkIn K N=true) (i:W.nsIn K N "__init__" = some ini) (t:W.nsIn K N "__setattr__" = some none) (d:K.lookup R=some {cls:=c0,dict:=ddR,data:= .cls cd,slots:=sl}) (f:W.nsOkIn K cd.ns=true) (j:W.nsIn K cd.ns "__init__" = some none) (t':W.nsIn K cd.ns "__setattr__" = some none):D6 K mg x C R ini:=
 ⟨W.mg_of X G a,⟨N,nm,q,bs,sn,sub,ab,col,dd,k0,k1,k2,k3,k5,l,o,i,t⟩,⟨c0,ddR,cd,sl,d,f,j,t'⟩⟩
theorem D6.tail {K:W.Frag} {R:Addr} (c:D6 K mg x C R ini) (X:K.In h):OwnTail h Fy (.ref R::Fy):=by
 obtain⟨c0,dd,cd,d,l,o,i,_⟩:=c.road;exact .own (X _ _ l) (.of_isNs (W.isNs_of_in X o)) (W.nsMap_none_of_in X o i) .base
section
theorem So (hex:X.ex= []) (I:Inv X pins σ H s) (hm:Heap.MadeExcOf s.heap f e cls args):SI X pins σ H {s with heap:=f} e cls none none:=by
 have hn:=hm.new;obtain⟨t,he,_,_⟩:=hm.there;refine⟨I.kept hm.keeps,⟨_,_,he,rfl,rfl,rfl,by show 1<6;decide,rfl⟩,?_,?_,(fun T q=>by cases q),fun p hp=>⟨fun z=>?_,fun T q=>by cases q⟩⟩
 ·cases q:X.s₀.heap.get? e with
  |none=>rfl
  |some o=>
   obtain⟨i,d⟩:=I.base.there e o q (by simp_all);rw[hn] at d;cases d
 ·cases q:H e with
  |none=>rfl
  |some u=>
   obtain⟨i,d⟩:=(I.hok e u q).there;rw[hn] at d;cases d
 ·have q:=(I.pin p hp).1;rw[z,hn] at q;cases q
def J5 (E:XK) (C:Addr):TS:=fun _ _ H=>E (.ref C) none H
theorem zG {R:Addr} (c:D6 X.K X.mg x C R none) (j:Rz X E) (hc:X.calm=true) (hex:X.ex= []) (hg:Gl X x) (d:(x == ("__debug__":Str))=false:=by decide):
  PS X (.Raise (some (.Call (.Name x np) [] [] cpos)) none pos) (J5 E C):=by
 intro f s σ H D I h;obtain⟨N,nm,q,bs,sn,sub,ab,col,dd,k0,k1,k2,k3,k5,l,o,i,_⟩:=c.cls;have T:=c.tail I.nL;refine wpAny_Raise_call_subT PySem.F.excBase_ValueError (T.hasType (rfl)) (I.ok.hd hc) rfl (W.nsMap_none_of_in I.nL o i) (lO I hg c.Up ⟨rfl,evalArgs_nil3 ⟨rfl,Nat.zero_le _,I.nL _ _ l,.of_isNs (W.isNs_of_in I.nL o),T,fun m e hx=>?_⟩⟩ d);exact j _ _ _ _ _ _ _ _ (So hex I hx) h
end
section
theorem Y0 {K:W.Frag} {R:Addr} {cd:ClassData} (X:K.In s.heap) (hx:s.heap.get? x=some ⟨.ref C,none,.fields vs,#[]⟩) (hc:W.clsIn K C=some cd) (hm:cd.mro = .ref C :: .ref R::Fy) (hd:cd.hasDict=true) (hs:W.findIn K (.ref C) "__setattr__" = some (some (.builtin "object.__setattr__"))) (ha:W.findIn K (.ref C) name=some none) (h:∀f t',f.get? x=some ⟨.ref C,some s.heap.objs.size,.fields vs,#[]⟩->f.Ns1 s.heap.objs.size (fun y=>if y=name then some v else none)->(∀b o,b≠x->s.heap.get? b=some o->f.get? b=some o)->Q () {s with heap:=f,toks:=t'}):
  wpAny (model prog w) A (setAttr (.ref x) name v) Q E s:=by
 have I:W.InstAt s.heap x ⟨.ref C,none,.fields vs,#[]⟩ C none:=⟨hx,rfl,rfl,True.intro⟩;have F:=PySem.F.store_object;have lc:W.Looks (model prog w) s.heap (classData C) cd:=W.looks_clsIn X hc;have sub:W.Looks (model prog w) s.heap (isInstance (.ref x) (.type "object")) true:=I.type.andThen (W.looks_mroIn X (by unfold W.mroIn;rw[hc,Option.bind_some,hm];rfl));have mro:W.Looks (model prog w) s.heap (mroOf (.ref C)) cd.mro:=lc.andThen .now;refine W.set_plain X I hs ?_;refine codeAny_call_builtin F.slot.plain F.entry ?_;refine @W.check_slot (model prog w) _ _ {s with toks:=s.toks+1} "object.__setattr__" "object" "__setattr__" (.ref x) [.str name s.toks,v] [] _ F.kind F.split sub (F.args (.ref x) (.str name s.toks) v) ?_;rw[W.osa_eq,refuse_eq];refine wpAny_bind (wpAny_bind (I.type.here (s:={s with toks:=s.toks+1}) (wpAny_bind (mro.here (s:={s with toks:=s.toks+1}) ?_))));rw[hm,refuseLoop_ref,refuseLoop_ref,PySem.F.store_ValueError.passes];refine wpAny_pure (wpAny_bind (I.type.here (s:={s with toks:=s.toks+1}) (wpAny_bind ((W.looks_findIn X ha).here (s:={s with toks:=s.toks+1}) (wpAny_bind (wpAny_pure ?_))))));refine wpAny_bind (wpAny_pure (wpAny_bind (wpAny_bind (wpAny_loadPart (s:={s with toks:=s.toks+1}) hx (wpAny_bind (lc.here (s:={s with toks:=s.toks+1}) ?_))))));rw[hd,if_neg (by decide)];have u:x≠s.heap.objs.size:=Nat.ne_of_lt (Heap.lt_size hx);have h1:(s.heap.push {cls:= .type "dict",data:= .dict #[]}).get? x=some ⟨.ref C,none,.fields vs,#[]⟩:=Heap.get?_push_of_some _ hx;have J:=Heap.get?_update_self (fun o:Obj=>{cls:=o.cls,dict:=some s.heap.objs.size,data:=o.data,slots:=o.slots}) h1 rfl;have h3:((s.heap.push {cls:= .type "dict",data:= .dict #[]}).update x fun o=>{cls:=o.cls,dict:=some s.heap.objs.size,data:=o.data,slots:=o.slots}).get? s.heap.objs.size=some {cls:= .type "dict",data:= .dict #[]}:=
  (Heap.get?_update_other _ _ u).trans (Heap.get?_push_size _ rfl)
 have hn:((s.heap.push {cls:= .type "dict",data:= .dict #[]}).update x fun o=>{cls:=o.cls,dict:=some s.heap.objs.size,data:=o.data,slots:=o.slots}).Ns s.heap.objs.size (fun _=>none):=
  ⟨_,#[],_,h3,rfl,fun e he=>absurd he (by simp),fun _=>rfl⟩
 show wpAny _ _ (alloc {cls:= .type "dict",data:= .dict #[]} >>= fun d=>update x (fun o=>{cls:=o.cls,dict:=some d,data:=o.data,slots:=o.slots}) >>= fun _=>dictMade (.ref C) x d) _ _ _;refine wpAny_bind (wpAny_alloc ?_);refine wpAny_bind (wpAny_update (s:={s with heap:=s.heap.push {cls:= .type "dict",data:= .dict #[]},toks:=s.toks+1}) h1 ?_);refine wpAny_pure ?_;show wpAny _ _ (Builtin.ObjectAttr.storeInDict s.heap.objs.size (.str name s.toks) name v) _ _ _;unfold Builtin.ObjectAttr.storeInDict Builtin.ObjectAttr.newKeyGuard;refine wpAny_bind (wpAny_pure (wpAny_bind (wpAny_nsSet1 (Heap.Ns1.of_empty hn) fun f z G=>?_)));obtain⟨oD,esD,P,i,m,j⟩:=z.count (PySem.Within.cons name v PySem.Within.nil);refine wpAny_bind (wpAny_lookBehind i (by rw[m];exact pastItsLine_dict (Nat.le_trans j (by rw[List.length_cons,List.length_nil,sizeLine_eq];lia))) ?_);refine wpAny_pure (h f _ ((G.2 x u).trans J) ?_ fun b o ne H=>?_)
 ·obtain⟨U,es,Z,e1,e2,Y,O,e4⟩:=z;exact⟨U,es,Z,e1,e2,Y,O,fun y=>by rw[e4 y]⟩
 ·exact(G.2 b (Nat.ne_of_lt (Heap.lt_size H))).trans ((Heap.get?_update_other _ _ (Ne.symm ne)).trans (Heap.get?_push_of_some _ H))
end
section
variable {os:OsState} {K:W.Frag} {q:Str} {k1:Option Value}
theorem QI {rest:List Value} (X:K.In h) (T:OwnTail h Fy bm) (f:h.get? C=some (excClassObj nm q C N bs bm hdct sn sub ab col dd k0 k1 k2 k3 k5 "ValueError.__new__")) (hi:W.findIn K (.ref C) "__init__" = some (some (.ref fI))) (hf:W.typeIn K (.ref fI)=some (.type "function")) (i:rest.length<=sizeLine) (I:∀j e,Heap.MadeExcOf h j e (.ref C) rest->wpAny (model prog w) A (call (.ref fI) (.ref e::rest)) (fun r u=>r = .none/\Q (.done (.ret (.ref e))) u) E ⟨j,g,d,t,os⟩):
  wpAny (model prog w) A (Builtin.«type.__call__» ⟨.ref C::rest,[]⟩) Q E ⟨h,g,d,t,os⟩:=by
 have F:=PySem.F.excBase_ValueError
 repeat (first|with_reducible refine wpAny_loadPart_at f ?_|with_reducible refine wpAny_madeBy_exc f ?_|wp_step)
 refine codeAny_call_builtin_code (Code.quiet_builtin _ F.quiet) (wpAny_check_new_subT F T f ?_);refine codeAny_exc_new_subT F T f ?_ i;show wpAny _ _ _ _ _ _;have up:∀b o,h.get? b=some o->((h.push {cls:= .type "tuple",data:= .seq rest.toArray}).push {cls:= .ref C,data:= .fields #[.ref h.objs.size,.none,.none,.none,.bool false,.none]}).get? b=some o:=fun b o e=>Heap.get?_push_of_some _ (Heap.get?_push_of_some _ e);have G:=up _ _ f;have v:=X.keeps up;have x:((h.push {cls:= .type "tuple",data:= .seq rest.toArray}).push {cls:= .ref C,data:= .fields #[.ref h.objs.size,.none,.none,.none,.bool false,.none]}).get? (h.objs.size+1)=some {cls:= .ref C,data:= .fields #[.ref h.objs.size,.none,.none,.none,.bool false,.none]}:=by heap_get
 have t2:((h.push {cls:= .type "tuple",data:= .seq rest.toArray}).push {cls:= .ref C,data:= .fields #[.ref h.objs.size,.none,.none,.none,.bool false,.none]}).get? h.objs.size=some {cls:= .type "tuple",data:= .seq rest.toArray}:=Heap.get?_push_of_some _ (Heap.get?_push_at rfl rfl);have made:Heap.MadeExcOf h ((h.push {cls:= .type "tuple",data:= .seq rest.toArray}).push {cls:= .ref C,data:= .fields #[.ref h.objs.size,.none,.none,.none,.bool false,.none]}) (h.objs.size+1) (.ref C) rest:=
  ⟨up,Heap.get?_none_of_le (Nat.le_succ _),h.objs.size,x,Heap.get?_none_of_le (Nat.le_refl _),t2⟩
 have q2:=I _ _ made;have H:(Value.ref C::bm).contains (.ref C)=true:=by simp
 generalize(h.push {cls:= .type "tuple",data:= .seq rest.toArray}).push {cls:= .ref C,data:= .fields #[.ref h.objs.size,.none,.none,.none,.bool false,.none]}=m at*
 unfold isInstance
 repeat (first|with_reducible refine wpAny_loadPart_at x ?_|(with_reducible refine wpAny_isSubtype_exc G ?_;rw[H])|wp_step)
 show wpAny _ _ (typeLookup (.ref C) _) _ _ _;refine(W.looks_findIn v hi).here (s:=⟨m,g,d,t,os⟩) ?_;refine wpAny_holding (wpAny_bind ((W.bind_fn v _ hf).here (s:=⟨m,g,d,t,os⟩) (wpAny_bind (wpAny_mono q2 (fun r u i=>?_) fun _ _ z=>z))));obtain⟨rfl,y⟩:=i
 wp_walk
 exact y
theorem Yz {rest:List Value} (X:K.In h) (T:OwnTail h Fy bm) (i:h.get? C=some (excClassObj nm q C N bs bm hdct sn sub ab col dd k0 k1 k2 k3 k5 "ValueError.__new__")) (hi:W.findIn K (.ref C) "__init__" = some (some (.ref fI))) (hf:W.typeIn K (.ref fI)=some (.type "function")) (m:rest.length<=sizeLine) (u:∀f e,Heap.MadeExcOf h f e (.ref C) rest->wpAny (model prog w) (A.under (.builtin "type.__call__" ⟨.ref C::rest,[]⟩)) (call (.ref fI) (.ref e::rest)) (fun r j=>r = .none/\Q (.ref e) j) E ⟨f,g,d,t,os⟩):
  wpAny (model prog w) A (call (.ref C) rest) Q E ⟨h,g,d,t,os⟩:=by
 have f1:=tc_lookup;have v:=tc_bind (.ref C);have x:(⟨h,g,d,t,os⟩:Shared).TypeIs (.ref C) "type" :=⟨_,i,rfl⟩;refine wpAny_call (codeAny_of_tree ?_);show wpAny _ _ (callAny (.ref C) _) _ _ _
 repeat (any_goals (first|assumption|with_reducible refine wpAny_loadPart_at i ?_|wp_step))
 refine⟨rfl,?_⟩;refine codeAny_call_builtin_at (Code.quiet_builtin _ (by decide+kernel)) entry_typeCall (wpAny_check_type_call_sub i (QI X T i hi hf m fun f e hm=>?_));exact u f e hm
theorem QX {prog:Program} {w:World} {A:Around} {E:Value->Shared->Prop} {nm:Str} {C N:Addr} {bs bm:List Value} {hdct:Bool} {sn:List Str} {sub:List Value} {ab:Bool} {col:Option Bool} {dd:Option Addr} {k0 k2 k3 k5:Option Value} {s:Shared} {env:Env} {x:Sem Value} {Q:Flow->Shared->Prop} (i:bm.contains (.type "BaseException")=true) (hh:A.handled=none)
  (hx:wpAny (model prog w) A x (fun v f=> ∃e dx vs,v = .ref e/\f.heap.get? C=some (excClassObj nm q C N bs bm hdct sn sub ab col dd k0 k1 k2 k3 k5 "ValueError.__new__")/\f.heap.get? e=some ⟨.ref C,dx,.fields vs,#[]⟩/\vs[1]?=some .none/\E (.ref e) f) E s):
  wpAny (model prog w) A (raiseStmt env (some x) none) Q E s:=by
 have y:(Value.ref C::bm).contains (.type "BaseException")=true:=by rw[List.contains_cons,i,Bool.or_true]
 unfold raiseStmt;refine wpAny_bind (wpAny_mono hx (fun v f j=>?_) fun _ _ x=>x);obtain⟨e,dx,vs,rfl,m,he,h1,u⟩:=j;obtain⟨hp,g,d,tk,os⟩:=f
 repeat (first|with_reducible refine wpAny_loadPart_at he ?_|with_reducible refine wpAny_loadPart_at m ?_|(with_reducible refine wpAny_isSubtype_exc m ?_;rw[y])|wp_step)
 rw[h1];refine wpAny_pure ?_;rw[if_neg (by decide)];exact wpAny_pure (wpAny_raiseNew_none hh u)
end
def uU (e C:Addr) (dx:Option Addr):Heap->Prop:=fun h=> ∃vs:Array Value,h.get? e=some ⟨.ref C,dx,.fields vs,#[]⟩/\1<vs.size/\vs[1]?=some .none
theorem PJ (x:uU e C dx h):dG P w H h e (.ext (uU e C dx)):=
 ⟨x,x.elim fun vs q=>⟨_,q.1⟩,fun h1 f d k=>by obtain⟨vs,q,r⟩:=d;exact⟨vs,k _ q,r⟩⟩
noncomputable def o6 (H:Hp) (e:Addr):Hp:=fun b=>if b=e then none else H b
theorem gE (n:b≠e):o6 H e b=H b:=by unfold o6;rw[if_neg n]
theorem DP:o6 H e e=none:=by unfold o6;rw[if_pos rfl]
section
theorem Inv.drop (I:Inv X pins σ H s) (h:H e=some (.ext φ)):Inv X pins σ (o6 H e) s:=by
 have ne:∀{b:Addr} {o:HO},H b=some o->(∀d,o≠ .ext d)->b≠e:=fun{b o} q n z=>by
  grind
 refine I.un ⟨fun b o q n _ _=>q,fun b o q n _ _=>⟨_,q⟩,fun b o q n _=>?_,fun b o q _=>⟨o,q⟩,fun b xs q=>?_,fun b o u q=>?_,fun b f q=>⟨#[],?_⟩⟩ fun b o q=>?_
 ·unfold o6;split
  ·rfl
  ·exact n
 ·rw[gE (ne q (by simp))];exact q
 ·rw[gE (ne q (by simp))];exact q
 ·rw[gE (ne q (by simp)),q];simp
 ·have nb:b≠e:=fun z=>by rw[z,DP] at q;cases q
  rw[gE nb] at q;exact(I.hok b o q).stay (fun c u _ z=>z) (fun c z=>by rw[gE (ne z (by simp))];exact z) fun c xs z=>by rw[gE (ne z (by simp))];exact z
theorem Inv.setx (I:Inv X pins σ H s) (E:H e=some (.ext (uU e C none))) (he:d.get? e=some ⟨.ref C,some s.heap.objs.size,.fields vs,#[]⟩) (m:1<vs.size) (x:vs[1]?=some .none) (hn:d.Ns1 s.heap.objs.size (fun z=>if z=f then some u else none)) (k:∀b o,b≠e->s.heap.get? b=some o->d.get? b=some o) (v:RelV y u):
  Inv X pins σ (upd (upd H s.heap.objs.size (.xd [(f,y)])) e (.ext (uU e C (some s.heap.objs.size)))) {s with heap:=d,toks:=t'}:=by
 have G:=I.hok.fresh (Nat.le_refl _);have nn:∀{b:Addr} {o:HO},H b=some o->b≠s.heap.objs.size:=fun{b o} q z=>by simp_all
 have ne:∀{b:Addr} {o:HO},H b=some o->(∀j,o≠ .ext j)->b≠e:=fun{b o} q n z=>by
  grind
 have fr:∀b,H b=none->b≠e:=fun b q z=>by lia
 refine I.un ⟨fun b o q n _ _=>k b o (fr b n) q,fun b o q n _ _=>⟨_,k b o (fr b n) q⟩,fun b o q n _=>?_,fun b o q _=>?_,fun b xs q=>?_,fun b o u q=>?_,fun b F q=>⟨#[],?_⟩⟩ fun b o q=>?_
 ·rw[ak (fr b n),ak (Nat.ne_of_lt (Heap.lt_size q))];exact n
 ·grind
 ·rw[ak (ne q (by simp)),ak (nn q)];exact q
 ·rw[ak (ne q (by simp)),ak (nn q)];exact q
 ·rw[ak (ne q (by simp)),ak (nn q),q];simp
 ·by_cases z:b=e
  ·subst z;rw[ar] at q;cases q;exact PJ ⟨vs,he,m,x⟩
  ·rw[ak z] at q;by_cases i:b=s.heap.objs.size
   ·subst i;rw[ar] at q;cases q;refine⟨_,hn,fun g=>?_⟩;by_cases c:g=f
    ·rw[c];simp only[List.lookup,BEq.rfl];exact v
    ·rw[if_neg c];have:=beq_eq_false_iff_ne.mpr c;simp only[List.lookup,this];exact True.intro
   ·rw[ak i] at q;refine(I.hok b o q).stay (fun c u hc g=>?_) (fun c g=>by rw[ak (ne g (by simp)),ak (nn g)];exact g) fun c xs g=>by rw[ak (ne g (by simp)),ak (nn g)];exact g
    rcases hc with r|r
    ·exact k c u (r▸z) g
    ·exact k c u (ne r (by simp)) g
end
structure GV (K:W.Frag) (C:Addr) (f:Str):Prop where
 sa:W.findIn K (.ref C) "__setattr__" = some (some (.builtin "object.__setattr__"))
 no:W.findIn K (.ref C) f=some none
def NB (C:Addr) (m j:TE) (f:Str):TS:=fun D σ H=>j σ H fun y i=>m σ i fun x d=> ∃e,x = .ref e/\d e=some (.ext (uU e C none))/\∀dx,d dx=none->D.nx σ (upd (upd d dx (.xd [(f,y)])) e (.ext (uU e C (some dx))))
section
theorem D6.cd {K:W.Frag} {R:Addr} (c:D6 K mg x C R ini):∃cd:ClassData,W.clsIn K C=some cd/\cd.mro = .ref C :: .ref R::Fy/\cd.hasDict=true:=by
 obtain⟨N,nm,q,bs,sn,sub,ab,col,dd,k0,k1,k2,k3,k5,l,_⟩:=c.cls;unfold W.clsIn;rw[l];exact⟨_,rfl,rfl,rfl⟩
theorem Rf {R:Addr} (c:D6 X.K X.mg x C R ini) (m:GV X.K C f) (ha:PE X o ta) (E:PE X value tv) (hs:mH value=false:=by rfl):PS X (.Assign [.Attribute o f pos'] value pos) (NB C ta tv f):=by
 intro i s σ H D I h;obtain⟨cd,hc,hm,hd⟩:=c.cd;refine plainObj_wpAny_Assign_Attribute (fS (E _ s σ H _ I h) fun u s1 y G U J q=>thn (ha _ s1 σ G _ U q) fun P s2 ⟨x,H2,d,v,e,ex,j,q2⟩=>?_) (nO hs);subst ex;obtain rfl:P=Value.ref e:=v;obtain⟨⟨vs,he,F,O⟩,_⟩:=d.hok e _ j;refine Y0 d.nL he hc hm hd m.sa m.no fun h' t' Y z Z=>⟨σ,_,d.setx j Y F O z Z J,q2 _ (d.hok.fresh (Nat.le_refl _))⟩
end
def Fz (C:Addr) (sp:Sp) (E:XK) (i:TA):TS:=fun _ σ H=>i σ H fun vs f=> ∀e,f e=none->sp (.ref e::vs) (upd f e (.ext (uU e C none))) (fun v d=>v = .non/\∃dx,d e=some (.ext (uU e C dx))/\E (.ref C) dx (o6 d e)) E0
section
theorem Inv.newx (I:Inv X pins σ H s) (he:H e=none) (hm:Heap.MadeExcOf s.heap d e (.ref C) args):Inv X pins σ (upd H e (.ext (uU e C none))) {s with heap:=d}:=by
 obtain⟨t,f,_,_⟩:=hm.there;have ne:∀{b:Addr} {o:HO},H b=some o->b≠e:=fun{b o} q z=>by simp_all
 refine I.un ⟨fun b o q n _ _=>hm.keeps b o q,fun b o q n _ _=>⟨_,hm.keeps b o q⟩,fun b o q n _=>?_,fun b o q _=>⟨o,hm.keeps b o q⟩,fun b xs q=>?_,fun b o u q=>?_,fun b i q=>⟨#[],?_⟩⟩ fun b o q=>?_
 ·rw[ak (fun z=>by rw[z,hm.new] at q;cases q)];exact n
 ·rw[ak (ne q)];exact q
 ·rw[ak (ne q)];exact q
 ·rw[ak (ne q),q];simp
 ·by_cases z:b=e
  ·subst z;rw[ar] at q;cases q;exact PJ ⟨_,f,by show 1<6;decide,rfl⟩
  ·rw[ak z] at q;exact(I.hok b o q).stay (fun c u _ g=>hm.keeps c u g) (fun c g=>by rw[ak (ne g)];exact g) fun c xs g=>by rw[ak (ne g)];exact g
theorem LZ {R:Addr} [Quiet CX] (c:D6 X.K X.mg x C R ini) (G:AW X.prog X.w X.K X.mg X.base CX C "__init__" k ps sp) (kp:W.keepIn X.K (.ref C)=true) (hr:c6 (k+1) X.A) (hz:Rz X E) (hc:X.calm=true) (hex:X.ex= []) (hg:Gl X x) (ha:PA X (a::es) ta) (P:(x == ("__debug__":Str))=false:=by decide) (he:starEach (a::es) X.env=(false,eval a X.env)::starEach es X.env:=by rfl) (J:(backTo cpos (starEach es X.env)).any (·.1)=false:=by rfl) (hlen:∀us:List Value,us.length+1=ps.length->us.length<=sizeLine:=by intro us h;simp at h;rw[sizeLine_eq];lia):
  PS X (.Raise (some (.Call (.Name x np) (a::es) [] cpos)) none pos) (Fz C sp E ta):=by
 intro Y s σ H D I h;obtain⟨f,fd,F,M,hb⟩:=G;obtain⟨N,nm,q,bs,sn,sub,ab,col,dd,k0,k1,k2,k3,k5,l,_⟩:=c.cls;refine wpAny_bind (wpAny_standAt ?_);refine QX (nm:=nm) (q:=q) (C:=C) (N:=N) (bs:=bs) (hdct:=true) (sn:=sn) (sub:=sub) (ab:=ab) (col:=col) (dd:=dd) (k0:=k0) (k1:=k1) (k2:=k2) (k3:=k3) (k5:=k5) ((c.tail I.nL).hasType (rfl)) (I.ok.hd hc) ?_;refine wpAny_bind (wpAny_mono (wpAny_Call_Name_kw (lO I hg c.Up (W.callWith_K I.ok.mod.kin kp (fS (ha _ _ s σ H _ I h) fun us s1 vs H1 d r q1=>⟨d.nL,?_⟩) he J) P)) (fun v s₃ m=>wpAny_bind (wpAny_standAt (wpAny_pure m))) fun _ _ z=>z);have T:=c.tail d.nL;have hC:=d.nL _ _ l;have O:=by
  have e0:=(q1 _ (d.hok.fresh (Nat.le_refl _)));have e1:=F.len _ _ _ _ e0;have e2:=r.length;rw[List.length_cons] at e1;exact hlen us (by lia)
 refine Yz d.nL T hC M.at_ (beq_iff_eq.mp M.fn) O fun h' e hm=>?_;have e0:H1 e=none:=by
  cases z:H1 e with
  |none=>rfl
  |some u=>
   obtain⟨o',i⟩:=(d.hok e u z).there;rw[hm.new] at i;cases i
 have n0:X.s₀.heap.get? e=none:=by
  cases z:X.s₀.heap.get? e with
  |none=>rfl
  |some o=>
   obtain⟨o',i⟩:=d.base.there e o z (by simp_all);rw[hm.new] at i;cases i
 have y:=d.newx e0 hm;have hq:=q1 e e0;have r2:Vals (V.ref e::vs) _:= .cons rfl r;have hl:(Value.ref e::us++ []).length=ps.length:=by
  have z:=F.len _ _ _ _ hq;rw[List.append_nil,<-r2.length];exact z
 refine wpAny_call (codeAny_mono (F.run _ _ _ _ _ _ _ _ E0 (hr.make C us []) (y.Sr.make C us []) (by have z:=hb _ _ y.nL hl;rw[List.append_nil] at z;exact z) r2 hq) fun r s' j=>?_);cases r with
 |error x=>exact Quiet.pass X _ σ _ _ x s' y j
 |ok fl=>
  cases fl with
  |ret u=>
   obtain⟨v,H',U,rv,ev,dx,Z,hE⟩:=y.after j;subst ev;obtain⟨⟨ws,oe,w1,w2⟩,_⟩:=U.hok e _ Z;exact⟨rv,e,dx,ws,rfl,U.nL _ _ l,oe,w2,hz _ _ _ _ _ _ _ none ⟨U.drop Z,⟨_,ws,oe,rfl,rfl,rfl,w1,w2⟩,n0,DP,(fun T z=>by cases z),fun p hp=>⟨fun z=>(by have q:=(d.pin p hp).1;rw[z,hm.new] at q;cases q),fun T z=>by cases z⟩⟩ hE⟩
  |next=>trivial
  |brk=>trivial
  |cont=>trivial
end
def K2 (e:Addr) (cls:Value) (dx:Option Addr):Heap->Prop:=fun h=> ∃d vs,h.get? e=some d/\d.cls=cls/\d.dict=dx/\d.data = .fields vs
theorem Yn (x:K2 e cls dx h):dG P w H h e (.ext (K2 e cls dx)):=
 ⟨x,x.elim fun d q=>q.elim fun vs q=>⟨_,q.1⟩,fun h1 i f k=>by obtain⟨d,vs,q,r⟩:=f;exact⟨d,vs,k _ q,r⟩⟩
def Ym (T:Addr):Heap->Prop:=fun h=> ∃o,h.get? T=some o
theorem JH (x:Ym e h):dG P w H h e (.ext (Ym e)):=
 ⟨x,x,fun h1 f d k=>by obtain⟨o,q⟩:=d;exact⟨o,k _ q⟩⟩
section
theorem Inv.track (I:Inv X pins σ H s) (n:H a=none) (n0:X.s₀.heap.get? a=none) (C:∀p∈X.pn++pins,p.1≠a) (i:∃o vs,s.heap.get? a=some o/\o.data = .fields vs) (k:dG X.prog X.w (upd H a (.ext φ)) s.heap a (.ext φ)):Inv X pins σ (upd H a (.ext φ)) s:=by
 obtain⟨o,vs,i,hd⟩:=i;have ne:∀{b:Addr} {u:HO},H b=some u->b≠a:=fun{b u} q z=>by simp_all
 have nl:X.env.locals≠a:=fun z=>by
  obtain⟨m,⟨G,es,O,e1,f,_⟩,_⟩:=I.loc;rw[z,i] at e1;cases e1;rw[hd] at f;cases f
 have E:∀x c,X.env.cells.lookup x=some c->c≠a:=fun x c e z=>by
  obtain⟨v,G,e1,f⟩:=I.cell x c e;rw[z,i] at e1;cases e1;rw[hd] at f;cases f
 refine⟨I.ok,I.os,I.bare,⟨I.base.keep,I.base.slot,fun b u q m hx=>?_,I.base.there,fun b xs q=>?_,fun b o u q=>?_,fun b y q=>?_⟩,I.loc,I.cell,?_,fun x c e=>?_,fun p hp=>?_,fun b u q=>?_,I.len⟩
 ·rw[ak (fun z=>by simp_all)];exact I.base.free b u q m hx
 ·have d:=I.base.tups b xs q;rw[ak (ne d)];exact d
 ·have d:=I.base.frzs b o u q;rw[ak (ne d)];exact d
 ·obtain⟨more,d⟩:=I.base.tbls b y q;exact⟨_,by rw[ak (ne d)];exact d⟩
 ·rw[ak nl];exact I.free
 ·rw[ak (E x c e)];exact I.oh x c e
 ·obtain⟨J,j,F⟩:=I.pin p hp;exact⟨J,by rw[ak (C p hp)];exact j,F⟩
 ·by_cases z:b=a
  ·subst z;rw[ar] at q;cases q;exact k
  ·rw[ak z] at q;exact(I.hok b u q).stay (fun c v _ g=>g) (fun c g=>by rw[ak (ne g)];exact g) fun c xs g=>by rw[ak (ne g)];exact g
theorem Inv.left (I:Inv X pins σ H s) (C:∀t,T=some t->H t=some (.ext (Ym t))) (he:H ea=some (.ext (Ym ea))) (hk:Lft (frs X.stack) ea T s.heap i) (hx:K2 ea cls dx i):
  Inv X pins σ (upd H ea (.ext (K2 ea cls dx))) {s with heap:=i}:=by
 have ne:∀{b:Addr} {o:HO},H b=some o->(∀x,o≠ .ext x)->b≠ea/\∀t,T=some t->b≠t:=fun{b o} q n=>⟨fun z=>by
  grind,fun t ht z=>by
  grind⟩
 have fr:∀b,H b=none->b≠ea/\∀t,T=some t->b≠t:=fun b q=>⟨(fun z=>by lia),fun t ht z=>by grind⟩;refine I.call' (ch:=[]) rfl ⟨fun b o q n f _=>?_,fun b o q n f _=>hk.slot b o f q,fun b o q n _=>?_,fun b o q _=>hk.there b o q,fun b xs q=>?_,fun b o u q=>?_,fun b F q=>⟨#[],?_⟩⟩ (fun b o q=>?_) I.bare (fun b z=>absurd z (by simp))
 ·exact hk.keep b o f (fr b n).1 (fr b n).2 q
 ·rw[ak (fr b n).1];exact n
 ·rw[ak (ne q (by simp)).1];exact q
 ·rw[ak (ne q (by simp)).1];exact q
 ·rw[ak (ne q (by simp)).1,q];simp
 ·by_cases z:b=ea
  ·subst z;rw[ar] at q;cases q;exact Yn hx
  ·rw[ak z] at q;by_cases v:T=some b
   ·have d:=C b v;rw[q] at d;injection d with d;subst d;obtain⟨⟨o,e1⟩,_⟩:=((I.hok b _ q));obtain⟨y,E⟩:=hk.there b o e1;exact JH ⟨y,E⟩
   ·have j:∀{c:Addr} {u:HO},H c=some u->c ∉ frs _:=fun{c u} g m=>by rw[I.Ck c m] at g;cases g
    refine(I.hok b o q).stay (fun c u hc g=>?_) (fun c g=>by rw[ak (ne g (by simp)).1];exact g) fun c xs g=>by rw[ak (ne g (by simp)).1];exact g
    rcases hc with r|r
    ·rw[r] at g⊢;exact hk.keep b u (j q) z (fun t ht e=>v (e▸ht)) g
    ·exact hk.keep c u (j r) (ne r (by simp)).1 (ne r (by simp)).2 g
theorem SI.land (F:SI X pins σ H s ea cls dx u) (hk:Lft (frs X.stack) ea u s.heap m) (hx:Ql m ea cls dx (some T')):Inv X pins σ (upd H ea (.ext (K2 ea cls dx))) {s with heap:=m}:=by
 obtain⟨C,vs,he,hc,hd,d,hsz,j⟩:=F.ex;have f:K2 ea cls dx m:=by obtain⟨o,ws,e1,I,E,G,_⟩:=hx;exact⟨o,ws,e1,I,E,G⟩
 have x:=F.inv.track F.nH F.n0 (fun p hp=>(F.apart p hp).1) ⟨C,vs,he,d⟩ (JH ⟨C,he⟩);cases u with
 |none=>
  have i:=x.left (fun t z=>by cases z) ar hk f;have e:upd (upd H ea (.ext (Ym ea))) ea (.ext (K2 ea cls dx))=upd H ea (.ext (K2 ea cls dx)):=by
   funext b;unfold upd;split<;>rfl
  rw[e] at i;exact i
 |some T=>
  obtain⟨h1,ne,y,ts,j,dT,P⟩:=j;obtain⟨t0,O⟩:=F.tbs T rfl;have i:=x.track (by rw[ak ne];exact O) t0 (fun p hp=>(F.apart p hp).2 T rfl) ⟨y,ts,j,dT⟩ (JH ⟨y,j⟩);have J:=i.left (fun t z=>by cases z;exact ar) (by rw[ak (Ne.symm ne)];exact ar) hk f;have v:=J.drop (by rw[ak ne];exact ar);have e:o6 (upd (upd (upd H ea (.ext (Ym ea))) T (.ext (Ym T))) ea (.ext (K2 ea cls dx))) T=upd H ea (.ext (K2 ea cls dx)):=by
   funext b;unfold o6 upd;by_cases z:b=T
   ·simp_all
   ·simp_all
  rw[e] at v;exact v
theorem Sb {h:Heap} (e:h.get? a=some o):h.objs[a]?=some o:=by
 unfold Heap.get? at e;split at e
 ·cases e
 ·exact e
theorem Dh {h:Heap} (e:h.get? a=some o) (i:f o=o):h.update a f=h:=by
 have m:=Sb e;obtain⟨objs,l⟩:=h;have:objs.modify a f=objs:=by
  apply Array.ext (by simp);intro j h1 d;rw[Array.getElem_modify];split
  ·simp_all
  ·rfl
 show(⟨_,l⟩:Heap)=_;rw[this]
theorem Ii (hx:Ql s.heap ea cls dx (some T)) (h:Q () s):wpAny M A (setFlight (.ref ea) none) Q E s:=by
 obtain⟨x,vs,he,_,_,hd,hsz,h1,ne,m,ts,f,dT,i⟩:=hx;refine wpAny_bind (wpAny_field he hd h1 ?_);refine wpAny_setField f dT (Array.getElem?_eq_some_iff.mp i).1 ?_;rw[Dh f]
 ·exact h
 ·obtain⟨c,d,dt,u⟩:=m;obtain rfl:dt = .fields ts:=dT;show Obj.mk c d _ u=_;congr 1;congr 1;apply Array.ext (by simp);intro j h1 v;rw[Array.getElem_setIfInBounds];split
  ·simp_all
  ·rfl
end
noncomputable abbrev Cx.yZ (X:Cx) (pn:List (Addr×Obj)) (σ:St) (E:XK):Cx:={X with pn:=X.pn++pn,xe:=fun e s=> ∃d cls dx f H',e = .ref d/\SI X pn σ H' s d cls dx f/\E cls dx H'}
noncomputable abbrev Cx.hand (X:Cx) (e:Value):Cx:={X with A:=X.A.mark (some e),calm:=false,xe:=fun _ _=>False}
section
variable {X:Cx} {pn:List (Addr×Obj)}
theorem Cx.Ok.yZ (ok:X.Ok):(X.yZ pn σ E).Ok:=
 ⟨ok.mod,ok.kind,ok.glob,ok.blt,ok.above,ok.inj,ok.has,ok.cab,ok.hd,ok.frames,ok.stk,ok.exf,ok.bs,ok.bsz,ok.noex,ok.exfs,ok.funs,ok.frf⟩
theorem Cx.Ok.untry (ok:(X.yZ pn σ E).Ok):X.Ok:=
 ⟨ok.mod,ok.kind,ok.glob,ok.blt,ok.above,ok.inj,ok.has,ok.cab,ok.hd,ok.frames,ok.stk,ok.exf,ok.bs,ok.bsz,ok.noex,ok.exfs,ok.funs,ok.frf⟩
theorem Cx.Ok.hand (ok:X.Ok):(X.hand e).Ok:=
 ⟨ok.mod,ok.kind,ok.glob,ok.blt,ok.above,ok.inj,ok.has,ok.cab,(fun z=>by cases z),ok.frames,ok.stk,ok.exf,ok.bs,ok.bsz,ok.noex,ok.exfs,ok.funs,ok.frf⟩
theorem Inv.yZ (I:Inv X pn σ H s):Inv (X.yZ pn σ0 E) [] σ H s:=⟨I.ok.yZ,I.os,I.bare,I.base,I.loc,I.cell,I.free,I.oh,fun p hp=>I.pin p (by simp_all),I.hok,I.len⟩
theorem Inv.untry (I:Inv (X.yZ pn σ0 E) pins σ H s):Inv X pn σ H s:=⟨I.ok.untry,I.os,I.bare,I.base,I.loc,I.cell,I.free,I.oh,fun p hp=>I.pin p (List.mem_append_left _ hp),I.hok,I.len⟩
theorem Inv.hand (I:Inv X pins σ H s):Inv (X.hand e) pins σ H s:=⟨I.ok.hand,I.os,I.bare,I.base,I.loc,I.cell,I.free,I.oh,I.pin,I.hok,I.len⟩
theorem Inv.unhand (ok:X.Ok) (I:Inv (X.hand e) pins σ H s):Inv X pins σ H s:=⟨ok,I.os,I.bare,I.base,I.loc,I.cell,I.free,I.oh,I.pin,I.hok,I.len⟩
theorem SI.untry (F:SI (X.yZ pn σ0 E) pins σ H s ea cls dx tb):SI X pn σ H s ea cls dx tb:=⟨F.inv.untry,F.ex,F.n0,F.nH,F.tbs,fun p hp=>F.apart p (List.mem_append_left _ hp)⟩
theorem SP.untry (h:SP (X.yZ pn σ0 E) pins D f s'):SP X pn D f s':=by
 cases f with
 |next=>obtain⟨d,H',I,q⟩:=h;exact⟨d,H',I.untry,q⟩
 |brk=>obtain⟨d,H',I,q⟩:=h;exact⟨d,H',I.untry,q⟩
 |cont=>obtain⟨d,H',I,q⟩:=h;exact⟨d,H',I.untry,q⟩
 |ret u=>obtain⟨v,d,H',I,r,q⟩:=h;exact⟨v,d,H',I.untry,r,q⟩
def IB (CX:IE) (X:Cx) (σ:St) (E:XK):Prop:= ∀(d:List (Addr×Obj)) (H:Hp) (s:Shared) (e:Value) (f:Shared),Inv X d σ H s->CX X.stack H s E e f->X.xe e f
theorem yg (hex:X.ex= []):IB (IH X.prog X.w) (X.yZ pn σ E) σ E:=fun d H s e j I h=>by
 obtain⟨f,cls,dx,T,H',rfl,F,i⟩:=PF (X:=X.yZ pn σ E) hex I h;exact⟨f,cls,dx,_,H',rfl,F.untry,i⟩
end
def Nl (d:St) (sp:Sp) (E:XK) (t:TA):TE:=fun σ H Q=>σ=d/\t σ H fun vs f=>sp vs f Q E
def U2 (d:St) (C:Addr) (m:Str) (sp:Sp) (E:XK) (j:TE) (t:TA):TE:=fun σ H Q=>σ=d/\j σ H fun x f=>Y7 C m x f (t σ f fun vs i=>sp (x::vs) i Q E)
section
theorem FP (F:yT X.prog X.w X.K X.mg X.base CX k f fd ps sp) (m:c6 k X.A) (i:Binds X.K fd ps []) (hx:IB CX X σ0 E) (I:Inv X pins σ0 H s) (r:Vals vs us) (h:sp vs H Q E):wpAny (model X.prog X.w) X.A (call (.ref f) us) (EP X pins σ0 Q) X.xe s:=by
 have hl:(us++ []).length=ps.length:=by rw[List.append_nil,<-r.length];exact F.len _ _ _ _ h
 refine wpAny_call (codeAny_mono (F.run _ _ s H _ us vs Q E m I.Sr (by have z:=i s us I.nL hl;rw[List.append_nil] at z;exact z) r h) fun r j d=>?_);cases r with
 |error e=>exact hx _ H s e j I d
 |ok v=>
  cases v with
  |ret u=>exact I.after d
  |next=>trivial
  |brk=>trivial
  |cont=>trivial
theorem Vw (G:FnAt X.prog X.w X.K X.mg X.base CX x k ps sp) (u:c6 n X.A) (hk:k<=n) (hg:Gl X x) (hx:IB CX X σ0 E) (ha:PA X (e::es) t) (i:(x == ("__debug__":Str))=false:=by decide) (he:starEach (e::es) X.env=(false,eval e X.env)::starEach es X.env:=by rfl) (d:(backTo pos (starEach es X.env)).any (·.1)=false:=by rfl):
  PE X (.Call (.Name x p) (e::es) [] pos) (Nl σ0 sp E t):=by
 obtain⟨f,v,F,hm,kp,b,_⟩:=G;intro j s σ H Q I ⟨hσ,h⟩;subst hσ;refine wpAny_Call_Name_kw (lO I hg hm ?_ i);refine W.callWith_K I.ok.mod.kin kp (fS (ha _ _ s σ H _ I h) fun us s1 vs y m r q=>⟨m.nL,?_⟩) he d;exact FP F (u.mono hk) b hx m r q
theorem Vu (he:PE X o ta) (c:dH X.K X.mg x C) (G:AW X.prog X.w X.K X.mg X.base CX C m k ps sp) (z:c6 n X.A) (hk:k<=n) (hx:IB CX X σ0 E) (ha:PA X (e::es) t) (d:(e::es).any isStar=false:=by rfl) (ht:eval (.Call (.Attribute o m apos) (e::es) [] pos) X.env=(do
   let ov<-eval o X.env
   standAt apos.atName
   let (f,first)<-holding [ov] (getMethod ov m pl)
   callWith pos f first (backTo pos (starEach (e::es) X.env)) (backToKw pos (keywordEach [] X.env))):=by rfl):
  PE X (.Call (.Attribute o m apos) (e::es) [] pos) (U2 σ0 C m sp E ta t):=by
 obtain⟨f,U,F,hm,b⟩:=G;rw[List.any_cons,Bool.or_eq_false_iff] at d;intro i s σ H Q I ⟨hσ,h⟩;subst hσ;refine W.methodCall_KW (fS (he _ s σ H _ I h) fun u s1 x P v y J=>?_) ht;obtain⟨a,ex,dx,fs,O,l,q⟩:=FT J;subst ex;obtain rfl:u=Value.ref a:=y;refine n_ v O c.cl hm l ?_;refine W.callWith_K I.ok.mod.kin hm.kp (fS (ha _ _ s1 σ P _ v q) fun us s2 vs Y j r q2=>⟨j.nL,?_⟩) (cM d.1) (nF d.2);exact FP (vs:= .ref a::vs) F (z.mono hk) b hx j (.cons rfl r) q2
end
structure yQ (K:W.Frag) (mg:Str->Option Value) (x:Str) (C:Addr):Prop where
 Up:mg x=some (.ref C)
 ty:W.typeIn K (.ref C)=some (.type "type")
 ex:W.mroIn K C (.type "BaseException")=some true
noncomputable def isx (K:W.Frag) (cls:Value) (C:Addr):Option Bool:=match cls with
 | .ref D=>W.mroIn K D (.ref C)
 |_=>none
def R8 (o:Option Bool) (p q:Prop):Prop:=match o with
 |some true=>p
 |some false=>q
 |none=>False
theorem afv {q:Prop}:R8 (some true) p q=p:=rfl
theorem afw {q:Prop}:R8 (some false) p q=q:=rfl
section
theorem xmatch {K:W.Frag} (X:K.In s.heap) (he:s.heap.get? e=some oe) (m:yQ K mg x C) (d:isx K oe.cls C=some b) (h:Q b s):
  wpAny (model prog w) A (excMatches (.ref e) (.ref C)) Q E s:=by
 have u:W.Looks (model prog w) _ (isInstance _ _) _:=(W.looks_typeIn X m.ty).andThen (W.Looks.of_pure tc_notTuple);have j:W.Looks (model prog w) _ _ _:=W.looks_mroIn X m.ex;have L2:W.Looks (model prog w) s.heap (isType (.ref C)) true:=by
  have z:=m.ex;obtain⟨cd,hc,_⟩:=Option.bind_eq_some_iff.mp z;unfold W.clsIn at hc;split at hc
  ·rename_i i;intro F H G y k q;exact wpAny_bind (wpAny_loadPart (k _ _ (X _ _ i)) (wpAny_pure q))
  ·cases hc
 have f:W.Looks (model prog w) _ (typeOf (.ref e)) _:=(W.Looks.ld he).andThen .now;have v:W.Looks (model prog w) s.heap (isSubtype oe.cls (.ref C)) b:=by
  unfold isx at d;split at d
  ·rename_i D hD;rw[hD];exact W.looks_mroIn X d
  ·cases d
 refine wpAny_bind (u.here ?_);dsimp only;refine wpAny_bind (wpAny_pure ?_);refine wpAny_bind (wpAny_bind (wpAny_bind ?_));refine wpAny_bind (L2.here ?_);refine j.here ?_;refine wpAny_pure ?_;refine wpAny_pure ?_;refine wpAny_bind (f.here ?_);refine wpAny_bind (wpAny_bind (wpAny_bind (v.here ?_)));cases b with
 |true=>exact wpAny_pure (wpAny_pure (wpAny_pure h))
 |false=>
  refine wpAny_pure ?_;exact wpAny_pure (wpAny_pure h)
end
noncomputable abbrev TH:=Ends->St->Value->Option Addr->Hp->Prop
def PH (X:Cx) (hs:List ExceptHandler) (t:TH):Prop:= ∀(d:List (Addr×Obj)) (s:Shared) (σ:St) (H:Hp) (D:Ends) (f:Addr) (cls:Value) (dx:Option Addr) (T:Addr),
 Inv X d σ (upd H f (.ext (K2 f cls dx))) s->Ql s.heap f cls dx (some T)->H f=none->t D σ cls dx H->wpAny (model X.prog X.w) X.A (handleBy (.ref f) X.env hs) (SP X d D) X.xe s
def tH0:TH:=fun _ _ _ _ _=>False
def YR (d:St->XK->TS) (th:TH):TS:=fun D σ H=>d σ (fun cls dx H'=>th D σ cls dx H') D σ H
section
theorem Oc:PH X [] tH0:=fun _ _ _ _ _ _ _ _ _ _ _ _ h=>h.elim
theorem N8 (y:∀pn σ E,CB (X.yZ pn σ E) body (j σ E)) (hh:PH X (h₀::hs) th) (d:X.stack=X.env::X.outer:=by rfl) (hf:X.env.frame=some X.env.locals:=by rfl):PS X (.Try body (h₀::hs) [] [] pos) (YR j th):=by
 intro m s σ H D I h;refine wpAny_Try_except (wpAny_mono (y _ σ _ [] s σ H D I.yZ h) (fun f s1 q=>?_) fun e s1 q=>?_)
 ·have i:=q.untry;cases f with
  |next=>exact wpAny_execs_nil i
  |brk=>exact i
  |cont=>exact i
  |ret u=>exact i
 ·obtain⟨x,cls,dx,j,H',rfl,F,v⟩:=q;have Ok:=F.inv.ok;have fr:X.A.frames=some (X.env::X.outer):=by rw[<-d];exact Ok.frames
  have z:s1.heap.FunFrames X.base (X.env::X.outer):=by rw[<-d];exact F.inv.stack
  refine Om fr z hf F.ex fun C hx hk=>?_;rw[<-d] at hk;exact hh _ _ σ H' D x _ dx _ (F.land hk hx) hx F.nH v
end
structure Iz (K:W.Frag) (C:Addr):Prop where
 ga:W.findIn K (.ref C) "__getattribute__" = some (some (.builtin "BaseException.__getattribute__"))
 gh:W.findIn K (.ref C) "__getattr__" = some none
 bx:W.mroIn K C (.type "BaseException")=some true
 ob:W.mroIn K C (.type "object")=some true
 hd:W.hasDictIn K C=true
 kc:W.findIn K (.ref C) "__class__" = some (some (.builtin "object.__class__"))
 kg:W.specialIn K (.builtin "object.__class__") "__get__" = some (some (.builtin "getset_descriptor.__get__"))
 kt:W.takesIn K (.builtin "object.__class__")=some true
section
variable {X:Cx} {k n:Nat} {C R:Addr} {ps:List Str} {sp:Sp} {E:XK} {x:Str} {p pos:Pos} {e:Expr} {es:List Expr} {t:TA}
theorem PS.nox {st:Stmt} (h:PS X.nox st ts):PS X st ts:=fun d s σ H D I hw=>
 wpAny_mono (h _ s σ H D (I.wish _) hw) (fun _ _ q=>q.unwish) fun _ _ z=>False.elim z
theorem Vy (G:FnAt X.prog X.w X.K X.mg X.base (IH X.prog X.w) x k ps sp) (i:c6 n X.A) (hk:k<=n) (hg:Gl X x) (j:Rz X E) (hex:X.ex= []) (ha:PA X (e::es) t)
  (d:(x == ("__debug__":Str))=false:=by decide) (h:(e::es).any isStar=false:=by rfl):PE X (.Call (.Name x p) (e::es) [] pos) (E4 sp [] E t):=by
 obtain⟨f,m,F,hm,kp,b,_⟩:=G;rw[List.any_cons,Bool.or_eq_false_iff] at h;exact KD F (i.mono hk) hg hm kp b .nil (j.passes hex) ha d (cM h.1) (nF h.2)
def UO (K:W.Frag) (mg:Str->Option Value) (x:Str) (C R:Addr):Prop:= ∃d,D6 K mg x C R d
theorem fb {apos:Pos} {CX:IE} [Quiet CX] (c:UO X.K X.mg x C R) (G:AW X.prog X.w X.K X.mg X.base CX C "__init__" k ps sp) (kp:W.keepIn X.K (.ref C)=true) (i:c6 n X.A) (hk:k+1<=n) (j:Rz X E) (hc:X.calm=true) (hex:X.ex= []) (hg:Gl X x) (ha:PA X (e::es) t)
  (d:(x == ("__debug__":Str))=false:=by decide) (h:(e::es).any isStar=false:=by rfl) (hlen:∀us:List Value,us.length+1=ps.length->us.length<=sizeLine:=by intro us h;simp at h;rw[sizeLine_eq];lia):
  PS X (.Raise (some (.Call (.Name x p) (e::es) [] apos)) none pos) (Fz C sp E t):=by
 obtain⟨f,c⟩:=c;rw[List.any_cons,Bool.or_eq_false_iff] at h;exact LZ c G kp (i.mono hk) j hc hex hg ha d (cM h.1) (nF h.2) hlen
theorem tw {o:Expr} {i:TE} {value:Expr} {f:Str} {pos':Pos} {d:TE} (c:UO X.K X.mg x C R) (m:GV X.K C f) (ha:PE X o i) (j:PE X value d) (hs:mH value=false:=by rfl):PS X (.Assign [.Attribute o f pos'] value pos) (NB C i d f):=by
 obtain⟨u,c⟩:=c;exact Rf c m ha j hs
end
theorem MethAt.fnX {K:W.Frag} {q:Str} {st:Stmt} (F:MethAt K C m q st) (S:lQ N ps (bF st)) (y:∀(kV doc pm:Value) (an:Option Addr) (d ct:Value) (us:List Value),us.length=ps.length->bindArgs (W.fnOf m q (fM st) (dh st) (bF st) .none kV doc pm an d ct) ⟨us,[]⟩=pure (ps.zip us)) (len:∀vs H Q E,sp vs H Q E->vs.length=ps.length) (i:∀(f:Addr) (d:Value) (A:Around) (outer:List Env) (s:Shared) (H:Hp) (vs:List V) (Q:VK) (E:XK),c6 k (A.deeper (envOfC q (bF st) s.heap.objs.size f d))->sp vs H Q E->
   ∃t,CB (DT CX P w K mg base N q (bF st) f d A outer s H E) (dh st) t/\t {nx:=fun _ H'=>Q .non H',rt:=Q} (start N vs) H):AW P w K mg base CX C m (k+1) ps sp:=by
 obtain⟨f,z,F,hm⟩:=F;have bd:=F.binds y;obtain⟨G,od,kV,doc,pm,an,d,ct,x,rfl,lk,j⟩:=F.ex;exact⟨f,_,KY lk j S len fun A outer s H vs Q E v u=>i f _ A _ s H vs Q E v u,hm,bd⟩
theorem Qz {K:W.Frag} (ga:W.findIn K (.ref C) "__getattribute__" = some (some (.builtin "BaseException.__getattribute__"))) (gh:W.findIn K (.ref C) "__getattr__" = some none) (bx:W.mroIn K C (.type "BaseException")=some true) (ob:W.mroIn K C (.type "object")=some true) (hd:W.hasDictIn K C=true) (kc:W.findIn K (.ref C) "__class__" = some (some (.builtin "object.__class__"))) (kg:W.specialIn K (.builtin "object.__class__") "__get__" = some (some (.builtin "getset_descriptor.__get__"))) (kt:W.takesIn K (.builtin "object.__class__")=some true):Iz K C:=⟨ga,gh,bx,ob,hd,kc,kg,kt⟩
theorem Qy {K:W.Frag} (X:K.In h) (G:h.Ns mainGlobals mg) (a:W.nsIn K mainGlobals x=some (some (.ref C))) (t:W.typeIn K (.ref C)=some (.type "type")) (b:W.mroIn K C (.type "BaseException")=some true):yQ K mg x C:=
 ⟨W.mg_of X G a,t,b⟩
def Dn (K:W.Frag) (H:Hp):Nat->V->Dt->Prop
 |0,x,d=>(x = .non/\d = .non)\/(∃i,x = .int i/\d = .int i)\/(∃z,x = .str z/\d = .str z)\/(∃b,x = .bl b/\d = .int (if b then 1 else 0))
 |n+1,x,d=>Dn K H n x d\/(∃a xs ds,x = .ref a/\d = .l ds/\cT K H a xs/\Paired (Dn K H n) xs ds)\/(∃a xs ds,x = .ref a/\d = .t ds/\dX K H a xs/\Paired (Dn K H n) xs ds)
section
variable {X:Cx}
open Classical in
theorem yO:decide (Dt.int i=Dt.int j)=(i == j):=by
 lia
theorem agl (a b:Bool):((if a then(1:Int) else 0) == (if b then 1 else 0))=(a == b):=by cases a<;>cases b<;>rfl
open Classical in
theorem Su (m:RelV x u) (f:RelV y v) (hx:Dn X.K H 0 x d) (C:Dn X.K H 0 y e):SeqAt.EqAt A s u v (decide (d=e)):=by
 rcases hx with⟨rfl,rfl⟩|⟨i,rfl,rfl⟩|⟨i,rfl,rfl⟩|⟨i,rfl,rfl⟩<;>rcases C with⟨rfl,rfl⟩|⟨j,rfl,rfl⟩|⟨j,rfl,rfl⟩|⟨j,rfl,rfl⟩
 ·cases m;cases f;rw[decide_eq_true rfl];exact SeqAt.EqAt.same _
 ·cases m;obtain⟨t,rfl⟩:=f;rw[decide_eq_false (fun z=>nomatch z)];exact SeqAt.EqAt.none_int _ _
 ·cases m;obtain⟨t,rfl⟩:=f;rw[decide_eq_false (fun z=>nomatch z)];exact SeqAt.EqAt.none_str _ _
 ·cases m;cases f;rw[decide_eq_false (fun z=>nomatch z)];exact SeqAt.EqAt.none_bool _
 ·obtain⟨t,rfl⟩:=m;cases f;rw[decide_eq_false (fun z=>nomatch z)];exact SeqAt.EqAt.int_none _ _
 ·obtain⟨t,rfl⟩:=m;obtain⟨t',rfl⟩:=f;rw[yO];exact SeqAt.EqAt.int_int _ _ _ _
 ·obtain⟨t,rfl⟩:=m;obtain⟨t',rfl⟩:=f;rw[decide_eq_false (fun z=>nomatch z)];exact SeqAt.EqAt.int_str _ _ _ _
 ·obtain⟨t,rfl⟩:=m;cases f;rw[yO];exact SeqAt.EqAt.int_bool _ _ _
 ·obtain⟨t,rfl⟩:=m;cases f;rw[decide_eq_false (fun z=>nomatch z)];exact SeqAt.EqAt.str_none _ _
 ·obtain⟨t,rfl⟩:=m;obtain⟨t',rfl⟩:=f;rw[decide_eq_false (fun z=>nomatch z)];exact SeqAt.EqAt.str_int _ _ _ _
 ·obtain⟨t,rfl⟩:=m;obtain⟨t',rfl⟩:=f;have e:decide (Dt.str i=Dt.str j)=(i == j):=by
   rw[Bool.eq_iff_iff,decide_eq_true_eq,beq_iff_eq];exact⟨fun q=>Dt.str.inj q,fun q=>by rw[q]⟩
  rw[e];exact SeqAt.EqAt.str_str _ _ _ _
 ·obtain⟨t,rfl⟩:=m;cases f;rw[decide_eq_false (fun z=>nomatch z)];exact SeqAt.EqAt.str_bool _ _ _
 ·cases m;cases f;rw[decide_eq_false (fun z=>nomatch z)];exact SeqAt.EqAt.bool_none _
 ·cases m;obtain⟨t,rfl⟩:=f;rw[yO];exact SeqAt.EqAt.bool_int _ _ _
 ·cases m;obtain⟨t,rfl⟩:=f;rw[decide_eq_false (fun z=>nomatch z)];exact SeqAt.EqAt.bool_str _ _ _
 ·cases m;cases f;rw[yO,agl];exact SeqAt.EqAt.bool_bool _ _
theorem Dn.cases {K:W.Frag}:∀{n:Nat} {x:V} {d:Dt},Dn K H n x d->Dn K H 0 x d\/(∃m,m<n/\∃a xs ds,x = .ref a/\d = .l ds/\cT K H a xs/\Paired (Dn K H m) xs ds)\/(∃m,m<n/\∃a xs ds,x = .ref a/\d = .t ds/\dX K H a xs/\Paired (Dn K H m) xs ds)
 |0,_,_,h=> .inl h
 |n+1,_,_,h=>by
  rcases h with h|h|h
  ·rcases Dn.cases h with q|⟨m,hm,q⟩|⟨m,hm,q⟩
   ·exact .inl q
   ·exact .inr (.inl ⟨m,by lia,q⟩)
   ·exact .inr (.inr ⟨m,by lia,q⟩)
  ·exact .inr (.inl ⟨n,by lia,h⟩)
  ·exact .inr (.inr ⟨n,by lia,h⟩)
theorem Dn.up {K:W.Frag} (h:Dn K H n x d) (hm:n<=m):Dn K H m x d:=by
 induction m with
 |zero=>simp_all
 |succ m f=>
  by_cases e:n=m+1
  ·simp_all
  ·exact .inl (f (by lia))
theorem Yr (n:Nat):∀{m:Nat} {x:V} {d e:Dt},Inv X pins σ H s->Dn X.K H n x d->Dn X.K H m x e->d=e:=by
 induction n using Nat.strongRecOn with
 |_ n C=>
 intro m x d e I hx f;rcases hx.cases with hx|⟨m1,hm,a,xs,ds,rfl,rfl,ha,pa⟩|⟨m1,hm,a,xs,ds,rfl,rfl,ha,pa⟩
 ·rcases f.cases with f|⟨k,hk,b,v,es,rfl,rfl,u,pb⟩|⟨k,hk,b,v,es,rfl,rfl,u,pb⟩
  ·rcases hx with⟨rfl,rfl⟩|⟨i,rfl,rfl⟩|⟨i,rfl,rfl⟩|⟨i,rfl,rfl⟩<;>rcases f with⟨z,rfl⟩|⟨j,z,rfl⟩|⟨j,z,rfl⟩|⟨j,z,rfl⟩<;>first|rfl|simp_all|cases z
  ·rcases hx with⟨z,_⟩|⟨i,z,_⟩|⟨i,z,_⟩|⟨i,z,_⟩<;>cases z
  ·rcases hx with⟨z,_⟩|⟨i,z,_⟩|⟨i,z,_⟩|⟨i,z,_⟩<;>cases z
 ·rcases f.cases with f|⟨k,hk,b,v,es,e1,rfl,u,pb⟩|⟨k,hk,b,v,es,e1,rfl,u,pb⟩
  ·rcases f with⟨z,_⟩|⟨i,z,_⟩|⟨i,z,_⟩|⟨i,z,_⟩<;>cases z
  ·cases e1;have:=I.HW ha u;subst this;rw[wG pa pb fun x d e h1 y=>C m1 hm I h1 y]
  ·cases e1;exact(tL I ha u).elim
 ·rcases f.cases with f|⟨k,hk,b,v,es,e1,rfl,u,pb⟩|⟨k,hk,b,v,es,e1,rfl,u,pb⟩
  ·rcases f with⟨z,_⟩|⟨i,z,_⟩|⟨i,z,_⟩|⟨i,z,_⟩<;>cases z
  ·cases e1;exact(tL I u ha).elim
  ·cases e1;have:=I.E2 ha u;subst this;rw[wG pa pb fun x d e h1 y=>C m1 hm I h1 y]
open Classical in
theorem yN {n:Nat} (f:Vals xs its) (r2:Vals ys its2) (pa:Paired (Dn X.K H m) xs ds) (pb:Paired (Dn X.K H k) ys es) (Z:∀x y u v d e,RelV x u->RelV y v->Dn X.K H m x d->Dn X.K H k y e->SeqAt.EqAt A s u v (decide (d=e))):
  ∀j (h1:j<its.toArray.size) (C:j<its2.toArray.size),SeqAt.EqAt A s its.toArray[j] its2.toArray[j] (decide (ds[j]?=es[j]?)):=by
 intro j h1 C;have U:j<its.length:=‹_›;have O:j<its2.length:=‹_›;have l1:=f.length;have l2:=r2.length;have z:xs[j]?=some xs[j]:=by simp
 have i:ys[j]?=some ys[j]:=by simp
 obtain⟨I,E,P⟩:=Paired.get pa z;obtain⟨J,G,pe⟩:=Paired.get pb i;obtain⟨u',hu1,ru⟩:=f.get z;obtain⟨F,hv1,rv⟩:=r2.get i;have e1:its.toArray[j]=u':=by
  simp_all
 have e2:its2.toArray[j]=F:=by
  simp_all
 have Y:decide (ds[j]?=es[j]?)=decide (I=J):=by
  simp_all
 rw[e1,e2,Y];exact Z _ _ _ _ _ _ ru rv P pe
open Classical in
theorem PN (n:Nat):∀{A:Around} {x y:V} {u v:Value} {d e:Dt},Inv X pins σ H s->A.units+n<cLine->RelV x u->RelV y v->Dn X.K H n x d->Dn X.K H n y e->SeqAt.EqAt A s u v (decide (d=e))/\∀a b,x = .ref a->y = .ref b->SeqAt.RcAt A s (.ref a) (.ref b) (decide (d=e)):=by
 induction n using Nat.strongRecOn with
 |_ n ih=>
 intro A x y u v d e I hu G E hx hy;have lift:∀{a b:Addr},x = .ref a->y = .ref b->SeqAt.RcAt A s _ (.ref b) (decide (d=e))->SeqAt.EqAt A s (.ref a) (.ref b) (decide (d=e)):=fun{a b} ea eb q=>by
  by_cases hab:a=b
  ·subst hab;subst ea;subst eb;rw[decide_eq_true (Yr n I hx hy)];exact SeqAt.EqAt.same _
  ·exact SeqAt.EqAt.of_refs hab q
 have f:A.units<cLine:=by lia
 rcases hx.cases with U|⟨m,hm,a,xs,ds,rfl,rfl,ha,pa⟩|⟨m,hm,a,xs,ds,rfl,rfl,ha,pa⟩
 ·rcases hy.cases with J|⟨k,hk,b,ys,es,rfl,rfl,O,pb⟩|⟨k,hk,b,ys,es,rfl,rfl,O,pb⟩
  ·refine⟨Su G E U J,fun a b e1 Y=>?_⟩;subst e1;rcases U with⟨z,_⟩|⟨i,z,_⟩|⟨i,z,_⟩|⟨i,z,_⟩<;>cases z
  ·cases E;obtain⟨F,_,p,_⟩:=I.list O;rcases U with⟨rfl,rfl⟩|⟨i,rfl,rfl⟩|⟨i,rfl,rfl⟩|⟨i,rfl,rfl⟩
   ·cases G;rw[decide_eq_false (fun z=>nomatch z)];exact⟨SeqAt.EqAt.none_list p.isList f,fun a b z=>nomatch z⟩
   ·obtain⟨t,rfl⟩:=G;rw[decide_eq_false (fun z=>nomatch z)];exact⟨SeqAt.EqAt.int_list _ _ p.isList f,fun a b z=>nomatch z⟩
   ·obtain⟨t,rfl⟩:=G;rw[decide_eq_false (fun z=>nomatch z)];exact⟨SeqAt.EqAt.str_list _ _ p.isList f,fun a b z=>nomatch z⟩
   ·cases G;rw[decide_eq_false (fun z=>nomatch z)];exact⟨SeqAt.EqAt.bool_list _ p.isList f,fun a b z=>nomatch z⟩
  ·cases E;obtain⟨F,_,p,_⟩:=I.tuple O;rcases U with⟨rfl,rfl⟩|⟨i,rfl,rfl⟩|⟨i,rfl,rfl⟩|⟨i,rfl,rfl⟩
   ·cases G;rw[decide_eq_false (fun z=>nomatch z)];exact⟨SeqAt.EqAt.none_tuple p f,fun a b z=>nomatch z⟩
   ·obtain⟨t,rfl⟩:=G;rw[decide_eq_false (fun z=>nomatch z)];exact⟨SeqAt.EqAt.int_tuple _ _ p f,fun a b z=>nomatch z⟩
   ·obtain⟨t,rfl⟩:=G;rw[decide_eq_false (fun z=>nomatch z)];exact⟨SeqAt.EqAt.str_tuple _ _ p f,fun a b z=>nomatch z⟩
   ·cases G;rw[decide_eq_false (fun z=>nomatch z)];exact⟨SeqAt.EqAt.bool_tuple _ p f,fun a b z=>nomatch z⟩
 ·cases G;obtain⟨F,r1,p,hz⟩:=I.list ha;rcases hy.cases with J|⟨k,hk,b,ys,es,rfl,rfl,O,pb⟩|⟨k,hk,b,ys,es,rfl,rfl,O,pb⟩
  ·rcases J with⟨rfl,rfl⟩|⟨i,rfl,rfl⟩|⟨i,rfl,rfl⟩|⟨i,rfl,rfl⟩
   ·cases E;rw[decide_eq_false (fun z=>nomatch z)];exact⟨SeqAt.EqAt.list_none p.isList f,fun a b _ z=>nomatch z⟩
   ·obtain⟨t,rfl⟩:=E;rw[decide_eq_false (fun z=>nomatch z)];exact⟨SeqAt.EqAt.list_int _ _ p.isList f,fun a b _ z=>nomatch z⟩
   ·obtain⟨t,rfl⟩:=E;rw[decide_eq_false (fun z=>nomatch z)];exact⟨SeqAt.EqAt.list_str _ _ p.isList f,fun a b _ z=>nomatch z⟩
   ·cases E;rw[decide_eq_false (fun z=>nomatch z)];exact⟨SeqAt.EqAt.list_bool _ p.isList f,fun a b _ z=>nomatch z⟩
  ·cases E;obtain⟨C,r2,P,hz2⟩:=I.list O;have l1:=r1.length;have l2:=r2.length;have l3:=Paired.length pa;have l4:=Paired.length pb;have Z:decide (Dt.l ds=Dt.l es)=decide (ds=es):=by
    rw[Bool.eq_iff_iff,decide_eq_true_eq,decide_eq_true_eq];exact⟨fun q=>Dt.l.inj q,fun q=>by rw[q]⟩
   have rc:SeqAt.RcAt A s (.ref a) (.ref b) (decide (Dt.l ds=Dt.l es)):=by
    rw[Z];by_cases hl:F.length=C.length
    ·have key:=SeqAt.RcAt.lists (e:=fun j=>decide (ds[j]?=es[j]?)) p.isList P.isList (by simpa using hl) f (yN (n:=n) r1 r2 pa pb fun x y u v d e G E h1 h2=>
      (ih (max m k) (by lia) (A:=A.in1) I (by show A.units+1+max m k<cLine;lia) G E (h1.up (Nat.le_max_left _ _)) (h2.up (Nat.le_max_right _ _))).1)
     rw[uX (by rw[List.size_toArray];lia) (by lia)] at key;exact key
    ·have hne:ds≠es:=fun q=>hl (by rw[q] at l3;lia);rw[decide_eq_false hne];exact SeqAt.RcAt.lists_lengths p.isList P.isList (Ka hl) f
   exact⟨lift rfl rfl rc,fun a' b' e1 Y=>by cases e1;cases Y;exact rc⟩
  ·cases E;obtain⟨C,r2,P,_⟩:=I.tuple O;rw[decide_eq_false (fun z=>nomatch z)];exact⟨SeqAt.EqAt.list_tuple p.isList P f,fun a' b' e1 Y=>by cases e1;cases Y;exact SeqAt.RcAt.list_tuple p.isList P f⟩
 ·cases G;obtain⟨F,r1,p,hz⟩:=I.tuple ha;rcases hy.cases with J|⟨k,hk,b,ys,es,rfl,rfl,O,pb⟩|⟨k,hk,b,ys,es,rfl,rfl,O,pb⟩
  ·rcases J with⟨rfl,rfl⟩|⟨i,rfl,rfl⟩|⟨i,rfl,rfl⟩|⟨i,rfl,rfl⟩
   ·cases E;rw[decide_eq_false (fun z=>nomatch z)];exact⟨SeqAt.EqAt.tuple_none p f,fun a b _ z=>nomatch z⟩
   ·obtain⟨t,rfl⟩:=E;rw[decide_eq_false (fun z=>nomatch z)];exact⟨SeqAt.EqAt.tuple_int _ _ p f,fun a b _ z=>nomatch z⟩
   ·obtain⟨t,rfl⟩:=E;rw[decide_eq_false (fun z=>nomatch z)];exact⟨SeqAt.EqAt.tuple_str _ _ p f,fun a b _ z=>nomatch z⟩
   ·cases E;rw[decide_eq_false (fun z=>nomatch z)];exact⟨SeqAt.EqAt.tuple_bool _ p f,fun a b _ z=>nomatch z⟩
  ·cases E;obtain⟨C,r2,P,_⟩:=I.list O;rw[decide_eq_false (fun z=>nomatch z)];exact⟨SeqAt.EqAt.tuple_list p P.isList f,fun a' b' e1 Y=>by cases e1;cases Y;exact SeqAt.RcAt.tuple_list p P.isList f⟩
  ·cases E;obtain⟨C,r2,P,hz2⟩:=I.tuple O;have l1:=r1.length;have l2:=r2.length;have l3:=Paired.length pa;have l4:=Paired.length pb;have Z:decide (Dt.t ds=Dt.t es)=decide (ds=es):=by
    rw[Bool.eq_iff_iff,decide_eq_true_eq,decide_eq_true_eq];exact⟨fun q=>Dt.t.inj q,fun q=>by rw[q]⟩
   have rc:SeqAt.RcAt A s (.ref a) (.ref b) (decide (Dt.t ds=Dt.t es)):=by
    rw[Z];have key:=SeqAt.RcAt.tuples (e:=fun j=>decide (ds[j]?=es[j]?)) p P f (yN (n:=n) r1 r2 pa pb fun x y u v d e G E h1 h2=>
      (ih (max m k) (by lia) (A:=A.in1) I (by show A.units+1+max m k<cLine;lia) G E (h1.up (Nat.le_max_left _ _)) (h2.up (Nat.le_max_right _ _))).1)
    by_cases hl:F.length=C.length
    ·rw[show min F.toArray.size C.toArray.size=ds.length by rw[List.size_toArray,List.size_toArray];lia,uX rfl (by lia),show(F.toArray.size == C.toArray.size)=true by rw[List.size_toArray,List.size_toArray,beq_iff_eq];exact hl,Bool.and_true] at key;exact key
    ·have hne:ds≠es:=fun q=>hl (by rw[q] at l3;lia);rw[decide_eq_false hne];rw[show(F.toArray.size == C.toArray.size)=false by rw[List.size_toArray,List.size_toArray,beq_eq_false_iff_ne];exact hl,Bool.and_false] at key;exact key
   exact⟨lift rfl rfl rc,fun a' b' e1 Y=>by cases e1;cases Y;exact rc⟩
end
def zB (K:W.Frag) (neg:Bool):R2:=fun x y H Q=>match x,y with
 | .ref a,.ref b=> ∃n d e,n<=60/\Dn K H n (.ref a) d/\Dn K H n (.ref b) e/\((d=e/\Q (.bl (!neg)) H)\/(d≠e/\Q (.bl neg) H))
 |x,y=>scal x y=true/\Q (.bl (if neg then !decide (x=y) else decide (x=y))) H
section
open Classical in
theorem VG (m:X.A.units+64<cLine):gC X (compareOp .Eq) (zB X.K false):=by
 intro j s σ H x y v u Q I f i h;unfold zB at h;split at h
 ·obtain⟨n,d,e,hn,hd,he,q⟩:=h;obtain⟨_,rc⟩:=PN n (A:=X.A) I (by lia) f i hd he;cases f;cases i;have:=rc _ _ rfl rfl;refine(this _ _ _ _ ?_);rcases q with⟨c,q⟩|⟨c,q⟩
  ·rw[decide_eq_true c];exact⟨.bl _,H,I,rfl,q⟩
  ·rw[decide_eq_false c];exact⟨.bl _,H,I,rfl,q⟩
 ·exact Zi _ s σ H _ _ v u Q I f i ⟨h.1,by simp_all⟩
open Classical in
theorem VD (hu:X.A.units+64<cLine):gC X (compareOp .NotEq) (zB X.K true):=by
 intro C s σ H x y v u Q I Y Z h;unfold zB at h;split at h
 ·rename_i a b;obtain⟨n,d,e,hn,hd,he,q⟩:=h;cases Y;cases Z;have F:X.A.units<cLine:=by lia
  have fin:SeqAt.RcNeAt _ s (.ref a) (.ref b) (!decide (d=e))->wpAny (model X.prog X.w) X.A (compareOp .NotEq (.ref a) (.ref b)) (EP X C σ Q) X.xe s:=fun rc=>by
   refine(rc X.prog X.w _ _ ?_:wpAny (model X.prog X.w) X.A (richCompare .NotEq _ _) (EP X C σ Q) X.xe s);rcases q with⟨c,q⟩|⟨c,q⟩
   ·rw[decide_eq_true c];exact⟨.bl false,H,I,rfl,q⟩
   ·rw[decide_eq_false c];exact⟨.bl true,H,I,rfl,q⟩
  apply fin;clear fin q;rcases hd.cases with hx'|⟨m,hm,a',xs,ds,e1,rfl,ha,pa⟩|⟨m,hm,a',xs,ds,e1,rfl,ha,pa⟩
  ·rcases hx' with⟨z,_⟩|⟨i,z,_⟩|⟨i,z,_⟩|⟨i,z,_⟩<;>cases z
  ·cases e1;obtain⟨E,r1,p,hz⟩:=I.list ha;rcases he.cases with U|⟨k,hk,b',ys,es,O,rfl,P,pb⟩|⟨k,hk,b',ys,es,O,rfl,P,pb⟩
   ·rcases U with⟨z,_⟩|⟨i,z,_⟩|⟨i,z,_⟩|⟨i,z,_⟩<;>cases z
   ·cases O;obtain⟨f,r2,G,hz2⟩:=I.list P;have l1:=r1.length;have l2:=r2.length;have l3:=Paired.length pa;have l4:=Paired.length pb;have J:decide (Dt.l ds=Dt.l es)=decide (ds=es):=by
     simp_all
    rw[J];by_cases hl:E.length=f.length
    ·have key:=SeqAt.RcNeAt.lists (e:=fun j=>decide (ds[j]?=es[j]?)) p.isList G.isList (‹_›) F (yN (n:=n) r1 r2 pa pb fun x y u v d e Y Z h1 h2=>
      (PN (max m k) (A:=X.A.in1) I (by show X.A.units+1+max m k<cLine;lia) Y Z (h1.up (Nat.le_max_left _ _)) (h2.up (Nat.le_max_right _ _))).1)
     rw[uX (by simp_all) (by lia)] at key;exact key
    ·have hne:ds≠es:=fun q=>hl (by simp_all);rw[decide_eq_false hne];exact SeqAt.RcNeAt.lists_lengths p.isList G.isList (Ka hl) F
   ·cases O;obtain⟨f,r2,G,_⟩:=I.tuple P;rw[decide_eq_false (fun z=>nomatch z)];exact SeqAt.RcNeAt.list_tuple p.isList G F
  ·cases e1;obtain⟨E,r1,p,hz⟩:=I.tuple ha;rcases he.cases with U|⟨k,hk,b',ys,es,O,rfl,P,pb⟩|⟨k,hk,b',ys,es,O,rfl,P,pb⟩
   ·rcases U with⟨z,_⟩|⟨i,z,_⟩|⟨i,z,_⟩|⟨i,z,_⟩<;>cases z
   ·cases O;obtain⟨f,r2,G,_⟩:=I.list P;rw[decide_eq_false (fun z=>nomatch z)];exact SeqAt.RcNeAt.tuple_list p G.isList F
   ·cases O;obtain⟨f,r2,G,hz2⟩:=I.tuple P;have l1:=r1.length;have l2:=r2.length;have l3:=Paired.length pa;have l4:=Paired.length pb;have J:decide (Dt.t ds=Dt.t es)=decide (ds=es):=by
     simp_all
    rw[J];have key:=SeqAt.RcNeAt.tuples (e:=fun j=>decide (ds[j]?=es[j]?)) p G F (yN (n:=n) r1 r2 pa pb fun x y u v d e Y Z h1 h2=>
      (PN (max m k) (A:=X.A.in1) I (by show X.A.units+1+max m k<cLine;lia) Y Z (h1.up (Nat.le_max_left _ _)) (h2.up (Nat.le_max_right _ _))).1)
    by_cases hl:E.length=f.length
    ·rw[show min E.toArray.size f.toArray.size=ds.length by simp_all,uX rfl (by lia),show(E.toArray.size == f.toArray.size)=true by simp_all,Bool.and_true] at key;exact key
    ·grind
 ·exact Zh C s σ H _ _ v u Q I Y Z ⟨h.1,by simp_all⟩
end
section
variable {K:W.Frag}
theorem nE (K:W.Frag) (h:X.K=K) (d:X.A.units+64<cLine):gC X (compareOp .Eq) (zB K false):=h▸VG d
theorem RC (K:W.Frag) (h:X.K=K) (d:X.A.units+64<cLine):gC X (compareOp .NotEq) (zB K true):=h▸VD d
theorem Hz:zB K false (.int i) (.int j) H Q=Q (.bl (decide (i=j))) H:=by
 exact Q_
theorem NP:zB K true (.int i) (.int j) H Q=Q (.bl (!decide (i=j))) H:=by
 exact Q0
theorem N3:zB K false (.str i) (.str j) H Q=Q (.bl (decide (i=j))) H:=by
 exact Q9
theorem NO:zB K true (.str i) (.str j) H Q=Q (.bl (!decide (i=j))) H:=by
 exact QZ
theorem JI:Dn K H n (.int i) (.int i):=Dn.up (n:=0) (.inr (.inl ⟨i,rfl,rfl⟩)) (Nat.zero_le _)
theorem DQ:Dn K H n (.str z) (.str z):=Dn.up (n:=0) (.inr (.inr (.inl ⟨z,rfl,rfl⟩))) (Nat.zero_le _)
theorem AE (h:H a=some (.lst xs)) (p:Paired (Dn K H n) xs ds):Dn K H (n+1) (.ref a) (.l ds):= .inr (.inl ⟨a,xs,ds,rfl,rfl,cT.of h,p⟩)
theorem Yq (h:H a=some (.tup xs)) (p:Paired (Dn K H n) xs ds):Dn K H (n+1) (.ref a) (.t ds):= .inr (.inr ⟨a,xs,ds,rfl,rfl,dX.of h,p⟩)
end
theorem Vs (hc:X.calm=true) (h:Qs X es t) (hn:es.length=n) (f:es.any isStar=false) (I:Inv X pins σ H s) (v:cT X.K H a xs) (hl:xs.length=n) (hw:t xs σ H Q):
  wpAny (model X.prog X.w) X.A (assign (.Tuple es k pos) X.env (.ref a)) (fun _ j=> ∃d H',Inv X pins d H' j/\Q d H') X.xe s:=by
 obtain⟨i,m,hp,y⟩:=I.list v;refine wpAny_bind (wpAny_standAt ?_);unfold unpack;rw[show(assignEach es _).length=i.toArray.size by rw[oM,hn,<-hl,List.size_toArray,m.length],j3 f];refine wpAny_bind (wpAny_holding (W.kun_itemsOf (I.ok.hd hc) hp.isList fun x hx=>?_));have u:=I.kept (t':=s.toks) fun b o e=>hx b o (Nat.ne_of_lt (Heap.lt_size e)) e;exact h _ _ σ H xs _ Q u (‹_›) hw
def gOx (K:W.Frag) (n:Nat) (t:UP) (a:Addr) (σ:St) (H:Hp) (Q:St->Hp->Prop):Option HO->Prop
 |some (.tup xs)=>xs.length=n/\t xs σ H Q
 |some (.lst xs)=>xs.length=n/\t xs σ H Q
 |_=> ∃xs,dX K H a xs/\xs.length=n/\t xs σ H Q
def Pt (K:W.Frag) (n:Nat) (t:UP):TG:=fun v σ H Q=>match v with
 | .ref a=>gOx K n t a σ H Q (H a)
 |_=>False
theorem MJ {K:W.Frag}:Pt K n t (.ref a) σ H Q=gOx K n t a σ H Q (H a):=rfl
theorem Sj {K:W.Frag}:gOx K n t a σ H Q (some (.tup xs))=(xs.length=n/\t xs σ H Q):=rfl
theorem Rl (K:W.Frag) (f:X.K=K) (hc:X.calm=true) (hh:Qs X es u) (hn:es.length=n:=by rfl) (h:es.any isStar=false:=by rfl):PG X (.Tuple es j pos) (Pt K n u):=by
 intro d s σ H v w Q I r q;unfold Pt at q;split at q
 ·rename_i a;unfold gOx at q;split at q
  ·rename_i xs e;exact Ky K f hc hh hn h _ s σ H _ w Q I r ⟨a,xs,rfl,dX.of e,q⟩
  ·rename_i xs e;obtain rfl:w=Value.ref a:=r;exact Vs hc hh hn h I (cT.of e) q.1 q.2
  ·obtain⟨xs,h1,i⟩:=q;exact Ky K f hc hh hn h _ s σ H _ w Q I r ⟨a,xs,rfl,h1,i⟩
 ·trivial
structure QA (X:Cx) (es:List Expr) (t:TA):Prop where
 h:PA X es t
section
theorem zE:QA X [] Ee:=⟨jn⟩
theorem Bu (ha:QE X e te) (d:QA X es t) (h:isStar e=false:=by rfl):QA X (e::es) (xT te t):=⟨dz ha.h d.h h⟩
theorem Vh (h:QA X es t):QE X (.Tuple es k pos) (UY t):=⟨cJ h.h⟩
theorem CZ (h:QA X es t):QE X (.List es pos) (U3 t):=⟨jl h.h⟩
theorem Vg (h:QE X e te):QS X (.Return (some e) pos) (U0 te):=⟨aH h.h⟩
end
def FU:V->List V->Hp->VK->Prop:=fun x vs H Q=>match x,vs with
 | .str z,[.str y]=> ∃i r,Builtin.Str.occurrences z y 0 z.length 1=i::r/\Q (.int (i:Nat)) H
 |_,_=>False
noncomputable def RT (z:Str) (i:Int):Str:=if i<=z.length then z else Builtin.Str.padded z 0 (i.toNat-z.length) 32
def Ja:V->List V->Hp->VK->Prop:=fun x vs H Q=>match x,vs with
 | .str z,[.int i]=>(0<=i/\i<=1000)/\(RT z i).length<=sizeLine/\Q (.str (RT z i)) H
 |_,_=>False
section
theorem Mi:Qj X "str.index" FU:=by
 intro d s σ H x vs v us Q I f m h;unfold FU at h;split at h
 ·obtain⟨i,r,e,h⟩:=h;obtain⟨t,rfl⟩:=f;cases m with
  |cons j u=>
  cases u;obtain⟨t',rfl⟩:=j;exact call_gives F.slot_str_index (typeIs_str s _ t) F.entry_str_index (F.args_str_index_2 _ _) (gives_str_index _ _ t t' i r e) ((⟨.int _,H,I.tok _,⟨_,rfl⟩,h⟩))
 ·trivial
theorem Oq:Qj X "str.ljust" Ja:=by
 intro d s σ H x vs v us Q I f m h;unfold Ja at h;split at h
 ·rename_i z i;obtain⟨⟨C,y⟩,hl,h⟩:=h;obtain⟨t,rfl⟩:=f;cases m with
  |cons j u=>
  cases u;obtain⟨t',rfl⟩:=j;refine call_gives F.slot_str_ljust (typeIs_str s _ t) F.entry_str_ljust (F.args_str_ljust_2 _ _) (gives_str_ljust z i t t' ?_ ?_) ?_
  ·lia
  ·unfold Builtin.Str.tooLong sizeLine;exact decide_eq_false (by lia)
  ·unfold RT at h hl;split
   ·rename_i c;rw[if_pos c] at h;exact((⟨.str _,H,I,⟨_,rfl⟩,h⟩))
   ·rename_i c;rw[if_neg c] at h hl;exact⟨hl,((⟨.str _,H,I.tok _,⟨_,rfl⟩,h⟩))⟩
 ·trivial
end
theorem Ha {d:Array Value} {x:Value} {e:Nat->Bool} {prog:Program} {w:World} {A:Around} {E:Value->Shared->Prop} {j:Nat} {f:Nat->Option Fin×Unit->Sem (ForInStep (Option Fin×Unit))}
    (hf:f
            = fun i _=>match d[i]? with
            |
              some y=>do
              let b<-eqBool y x
              if b=true then do
                  let r<-retInt ↑i
                  pure (ForInStep.done (some r,()))
                else pure (ForInStep.yield (none,()))
            |_=>pure (ForInStep.yield (none,())))
    (v:j<d.size) (hit:e j=true) (u:∀m,m<j->e m=false):∀(k i:Nat) (s:Shared) (Q:Option Fin×Unit->Shared->Prop),i+k=d.size->i<=j->
    (∀m (hm:m<d.size),SeqAt.EqAt A s d[m] x (e m))->
    Q (some (.done (.ret (.int j s.toks))),()) {s with toks:=s.toks+1}->wpAny (model prog w) A (forIn (List.range' i k) ((none:Option Fin),()) f) Q E s
  |0,i,s,Q,h1,h2,_,_=>absurd h1 (by lia)
  |
    k+1,i,s,Q,h1,h2,he,hq=>by
    have hi:i<d.size:=by lia
    rw[List.range'_succ,List.forIn_cons];refine wpAny_bind ?_;rw[hf];dsimp only;rw[(Array.getElem?_eq_getElem hi)];refine wpAny_bind (he i hi _ w _ _ ?_);by_cases c:i=j
    ·
      subst c;rw[hit];refine wpAny_bind ?_;exact wpAny_bind (wpAny_mkInt (wpAny_pure (wpAny_pure (wpAny_pure hq))))
    ·
      rw[u i (by lia)];refine wpAny_pure ?_;rw[<-hf];exact Ha hf v hit u k _ s Q (by lia) (by lia) he hq
theorem tix {e:Nat->Bool} (f:s.heap.get? t=some o) (hd:o.data = .seq its n) (i:j<its.size) (hit:e j=true) (d:∀m,m<j->e m=false) (he:∀m (hm:m<its.size),SeqAt.EqAt A s its[m] x (e m)) (u:Q (.done (.ret (.int j s.toks))) {s with toks:=s.toks+1}):wpAny (model prog w) A (Builtin.«tuple.index» ⟨[.ref t,x],[]⟩) Q E s:=by
 refine wpAny_bind (wpAny_of_eq (rfl) ?_);refine wpAny_bind (wpAny_bind (wpAny_seqItems f hd (wpAny_pure ?_)));refine wpAny_bind (wpAny_pure (wpAny_bind (wpAny_pure ?_)));refine wpAny_bind ?_;rw[Nat.min_self,Std.Legacy.Range.forIn_eq_forIn_range'];have sz: [:its.size].size=its.size:=by simp_all
 rw[sz];exact Ha rfl i hit d _ 0 s _ (by lia) (Nat.zero_le _) he (wpAny_pure u)
def H_ (d:List Str) (y:Str) (j:Nat):Prop:=d[j]?=some y/\∀m,m<j->d[m]?≠some y
def Cp (K:W.Frag):V->List V->Hp->VK->Prop:=fun x vs H Q=>match x,vs with
 | .ref p,[.str y]=> ∃d:List Str,dX K H p (d.map V.str)/\∃j,H_ d y j/\Q (.int (j:Nat)) H
 |_,_=>False
theorem G4:∀{f:List Str} {d:List Value},Vals (f.map V.str) d->d.length=f.length/\∀m (h:m<d.length) y,f[m]?=some y->∃t,d[m] = .str y t
 | [],_,.nil=>⟨rfl,fun m h=>absurd h (by simp)⟩
 |z::f,_,.cons r rr=>by
  obtain⟨h1,i⟩:=G4 rr;refine⟨by simp_all,fun m h y e=>?_⟩;cases m with
  |zero=>cases e;obtain⟨t,rfl⟩:=r;exact⟨t,rfl⟩
  |succ m=>exact i m (by simpa using h) y e
section
theorem MB (f:Vals (ss.map V.str) its) (h:H_ ss y j):
  j<its.toArray.size/\(decide (ss[j]?=some y))=true/\(∀m,m<j->(decide (ss[m]?=some y))=false)/\∀m (hm:m<its.toArray.size),SeqAt.EqAt A s its.toArray[m] (.str y u) (decide (ss[m]?=some y)):=by
 obtain⟨l1,l2⟩:=G4 f;have x:=(List.getElem?_eq_some_iff.mp h.1).1;refine⟨by simp_all,decide_eq_true h.1,fun m hm=>decide_eq_false (h.2 m hm),fun m hm=>?_⟩;have i:m<its.length:=by trivial
 have hs:ss[m]?=some _:=List.getElem?_eq_getElem (by lia);obtain⟨t,e⟩:=l2 m _ _ hs;have d:its.toArray[m] = .str _ t:=‹_›;have v:decide (ss[m]?=some y)=(ss[m] == y):=by
  lia
 rw[d,v];exact SeqAt.EqAt.str_str _ _ _ _
theorem Mh:Qj X "tuple.index" (Cp X.K):=by
 intro d s σ H x vs v us Q I i J h;unfold Cp at h;split at h
 ·rename_i p y;obtain⟨Y,P,j,G,h⟩:=h;obtain rfl:v=Value.ref p:=i;obtain⟨u,rfl,E⟩:=Vals.one J;obtain⟨t,rfl⟩:=E;obtain⟨m,r,⟨o,f,hc,n,hd⟩,U⟩:=I.tuple P;obtain⟨f1,z,C,O⟩:=MB r G;exact wpAny_call (codeAny_call_builtin F.slot_tuple_index.plain F.entry_tuple_index (F.slot_tuple_index.check _ _ _ _ _ _ _ _ ⟨o,f,hc⟩ (F.args_tuple_index_2 _ _) (tix f hd f1 z C O ((⟨.int _,H,I.tok _,⟨_,rfl⟩,h⟩)))))
 ·trivial
end
def rJoin (K:W.Frag):V->List V->Hp->VK->Prop:=fun x vs H Q=>match x,vs with
 | .str z,[.ref p]=> ∃d:List Str,cT K H p (d.map V.str)/\(d.map (·.length)).sum+d.length*z.length<=1000000/\Q (.str (Txt.join z d)) H
 |_,_=>False
theorem EY:∀{f:List Str} {d:List Value},Vals (f.map V.str) d->StrsAre d f
 | [],_,.nil=> .nil
 |_::_,_,.cons r rr=>by
  obtain⟨t,rfl⟩:=r;exact .cons _ _ (EY rr)
theorem RO:Qj X "str.join" (rJoin X.K):=by
 intro d s σ H x vs v us Q I f m h;unfold rJoin at h;split at h
 ·rename_i z p;obtain⟨E,y,hl,h⟩:=h;obtain⟨t,rfl⟩:=f;obtain⟨u,rfl,j⟩:=Vals.one m;obtain rfl:u=Value.ref p:=j;obtain⟨i,r,pl,C⟩:=I.list y;refine join_list pl.isList (by simpa using EY r) (by lia) fun t' k=>((⟨.str _,H,I.tok _,⟨_,rfl⟩,h⟩))
 ·trivial
section
variable {K:W.Frag}
theorem Hy:FU (.str z) [.str y] H Q= ∃i r,Builtin.Str.occurrences z y 0 z.length 1=i::r/\Q (.int (i:Nat)) H:=rfl
theorem I_:Ja (.str z) [.int i] H Q=((0<=i/\i<=1000)/\(RT z i).length<=sizeLine/\Q (.str (RT z i)) H):=rfl
theorem Hx:Cp K (.ref p) [.str y] H Q= ∃d:List Str,dX K H p (d.map V.str)/\∃j,H_ d y j/\Q (.int (j:Nat)) H:=rfl
theorem LN:rJoin K (.str z) [.ref p] H Q= ∃d:List Str,cT K H p (d.map V.str)/\(d.map (·.length)).sum+d.length*z.length<=1000000/\Q (.str (Txt.join z d)) H:=rfl
end
section
variable {X:Cx} (K:W.Frag)
theorem Js (h:X.K=K):Qj X "tuple.index" (Cp K):=h▸Mh
theorem Ot (h:X.K=K):Qj X "str.join" (rJoin K):=h▸RO
end
def yS (K:W.Frag) (C:Addr):Prop:=W.findIn K (.ref C) "__init__" = some (some (.builtin "object.__init__"))
theorem Oo {K:W.Frag} (h:W.findIn K (.ref C) "__init__" = some (some (.builtin "object.__init__"))):yS K C:=h
def YS (C:Addr):TE:=fun _ H Q=> ∀x dx,H x=none->H dx=none->dx≠x->Q (.ref x) (upd (upd H dx (.own x)) x (.ins C dx []))
section
theorem my (c:dH X.K X.mg x C) (j:yS X.K C) (hg:Gl X x) (d:(x == ("__debug__":Str))=false:=by decide):PE X (.Call (.Name x p) [] [] pos) (YS C):=by
 intro f s σ H Q I h;refine wpAny_Call_Name_kw (lO I hg c.Up ?_ d);have m:=h (s.heap.objs.size+1) s.heap.objs.size (I.hok.fresh (Nat.le_succ _)) (I.hok.fresh (Nat.le_refl _)) (Nat.ne_of_lt (Nat.lt_succ_self _));have i:=Inv.made (C:=C) I;refine W.callWith_K0 (first:=[]) I.nL c.kp (wpAny_call (Mo I.nL c.mks j (fun self=>W.Looks.of_pure (W.oi_bind self)) ?_))
 have Y:=W.makes_of (M:=model X.prog X.w) I.nL c.mks;have hx:((s.heap.push W.emptyDict).push (W.instObj C s.heap.objs.size)).get? (s.heap.objs.size+1)=some (W.instObj C s.heap.objs.size):=by heap_get
 have t1:W.Looks (model X.prog X.w) ((s.heap.push W.emptyDict).push (W.instObj C s.heap.objs.size)) (typeOf (.ref (s.heap.objs.size+1))) (.ref C):=(W.Looks.ld hx).andThen .now;have t2:W.Looks (model X.prog X.w) ((s.heap.push W.emptyDict).push (W.instObj C s.heap.objs.size)) (isInstance (.ref (s.heap.objs.size+1)) (.type "object")) true:=t1.andThen (Y.top.keeps fun b o e=>Heap.get?_push_of_some _ (Heap.get?_push_of_some _ e));refine codeAny_call_builtin W.oi_plain W.entry_oi (@W.check_slot (model X.prog X.w) _ _ _ "object.__init__" "object" "__init__" (.ref (s.heap.objs.size+1)) [] [] _ W.oi_kind W.oi_split t2 (W.oi_args (.ref (s.heap.objs.size+1))) ?_);rw[W.oi_run];exact wpAny_pure (And.intro rfl ⟨.ref _,_,i,rfl,m⟩)
def EX (P:Program) (w:World) (K:W.Frag) (mg:Str->Option Value) (base:Heap) (CX:IE) (m:Str) (n:Nat) (sp:Sp):Prop:= ∀x H Q E,sp [x] H Q E->
 ∃a C dx fs k f d,x = .ref a/\H a=some (.ins C dx fs)/\fs.lookup m=none/\k<=n/\UR K C/\AW P w K mg base CX C m k f d/\d [.ref a] H Q E
def Nc (sp:Sp) (E:XK) (f:TE):TE:=fun σ H Q=>f σ H fun x d=>sp [x] d Q E
theorem Kz (he:PE X o ta) (G:EX X.prog X.w X.K X.mg X.base CX m k sp) (y:c6 n X.A) (hk:k<=n) (hp:Passes CX X E) (ht:eval (.Call (.Attribute o m apos) [] [] pos) X.env=(do
   let ov<-eval o X.env
   standAt apos.atName
   let (f,first)<-holding [ov] (getMethod ov m pl)
   callWith pos f first (backTo pos (starEach [] X.env)) (backToKw pos (keywordEach [] X.env)))):
  PE X (.Call (.Attribute o m apos) [] [] pos) (Nc sp E ta):=by
 intro d s σ H Q I h;refine W.methodCall_KW (pl:=pl) (fS (he d s σ H _ I h) fun u s1 x Y i v q=>?_) ht;obtain⟨a,C,dx,fs,U,O,z,rfl,J,l,j,c,⟨f,P,F,hm,b⟩,q⟩:=G _ _ _ _ q;obtain rfl:u=Value.ref a:=v;refine n_ i J c hm l ?_;exact W.callWith_K0 (first:=[.ref a]) i.nL hm.kp (FQ (us:=[.ref a]) (vs:=[.ref a]) F (y.mono (Nat.le_trans j hk)) b .nil hp i (.cons rfl .nil) q)
theorem wC [Quiet CX] (he:PE X o ta) (G:EX X.prog X.w X.K X.mg X.base CX m k sp) (d:c6 n X.A) (hk:k<=n) (ht:eval (.Call (.Attribute o m apos) [] [] pos) X.env=(do
   let ov<-eval o X.env
   standAt apos.atName
   let (f,first)<-holding [ov] (getMethod ov m pl)
   callWith pos f first (backTo pos (starEach [] X.env)) (backToKw pos (keywordEach [] X.env))):=by rfl):
  PE X (.Call (.Attribute o m apos) [] [] pos) (Nc sp E0 ta):=Kz he G d hk (Quiet.pass X) ht
theorem KA (he:PE X o ta) (G:EX X.prog X.w X.K X.mg X.base (IH X.prog X.w) m k sp) (d:c6 n X.A) (hk:k<=n) (i:Rz X E) (hex:X.ex= []) (ht:eval (.Call (.Attribute o m apos) [] [] pos) X.env=(do
   let ov<-eval o X.env
   standAt apos.atName
   let (f,first)<-holding [ov] (getMethod ov m pl)
   callWith pos f first (backTo pos (starEach [] X.env)) (backToKw pos (keywordEach [] X.env))):=by rfl):
  PE X (.Call (.Attribute o m apos) [] [] pos) (Nc sp E ta):=Kz he G d hk (i.passes hex) ht
end
structure akL (K:W.Frag) (D:Addr):Prop where
 hg:W.plainGet K D "__class__" = true
 hd:W.hasDictIn K D=true
 ha:W.findIn K (.ref D) "__class__" = some (some (.builtin "object.__class__"))
 hn:W.specialIn K (.builtin "object.__class__") "__get__" = some (some (.builtin "getset_descriptor.__get__"))
 htk:W.takesIn K (.builtin "object.__class__")=some true
 hm:W.mroIn K D (.type "object")=some true
theorem agC {K:W.Frag} (a:W.plainGet K D "__class__" = true) (b:W.hasDictIn K D=true) (c:W.findIn K (.ref D) "__class__" = some (some (.builtin "object.__class__"))) (d:W.specialIn K (.builtin "object.__class__") "__get__" = some (some (.builtin "getset_descriptor.__get__"))) (e:W.takesIn K (.builtin "object.__class__")=some true) (f:W.mroIn K D (.type "object")=some true):akL K D:=⟨a,b,c,d,e,f⟩
section
theorem U7 {K:W.Frag} {R:Addr} {cd:ClassData} (X:K.In s.heap) (hx:s.heap.get? x=some ⟨.ref C,some dx,.fields vs,#[]⟩) (hn:s.heap.Ns1 dx m) (hw:PySem.Within m ns) (hl:ns.length<1000) (hc:W.clsIn K C=some cd) (hm:cd.mro = .ref C :: .ref R::Fy) (hd:cd.hasDict=true) (hs:W.findIn K (.ref C) "__setattr__" = some (some (.builtin "object.__setattr__"))) (ha:W.findIn K (.ref C) name=some none) (h:∀d t',d.Ns1 dx (fun y=>if y=name then some v else m y)->(∀b o,b≠dx->s.heap.get? b=some o->d.get? b=some o)->Q () {s with heap:=d,toks:=t'}):
  wpAny (model prog w) A (setAttr (.ref x) name v) Q E s:=by
 obtain⟨od,es,U,f,_⟩:=id hn;have I:W.InstAt s.heap x ⟨.ref C,some dx,.fields vs,#[]⟩ C (some od):=⟨hx,rfl,rfl,f⟩;have F:=PySem.F.store_object;have lc:W.Looks (model prog w) s.heap (classData C) cd:=W.looks_clsIn X hc;have sub:W.Looks (model prog w) s.heap (isInstance (.ref x) (.type "object")) true:=I.type.andThen (W.looks_mroIn X (by unfold W.mroIn;rw[hc,Option.bind_some,hm];rfl));have mro:W.Looks (model prog w) s.heap (mroOf (.ref C)) cd.mro:=lc.andThen .now;refine W.set_plain X I hs ?_;refine codeAny_call_builtin F.slot.plain F.entry ?_;refine @W.check_slot (model prog w) _ _ {s with toks:=s.toks+1} "object.__setattr__" "object" "__setattr__" (.ref x) [.str name s.toks,v] [] _ F.kind F.split sub (F.args (.ref x) (.str name s.toks) v) ?_;rw[W.osa_eq,refuse_eq];refine wpAny_bind (wpAny_bind (I.type.here (s:={s with toks:=s.toks+1}) (wpAny_bind (mro.here (s:={s with toks:=s.toks+1}) ?_))));rw[hm,refuseLoop_ref,refuseLoop_ref,PySem.F.store_ValueError.passes];refine wpAny_pure (wpAny_bind (I.type.here (s:={s with toks:=s.toks+1}) (wpAny_bind ((W.looks_findIn X ha).here (s:={s with toks:=s.toks+1}) (wpAny_bind (wpAny_pure ?_))))));refine wpAny_bind (wpAny_pure (wpAny_bind (wpAny_bind (wpAny_loadPart (s:={s with toks:=s.toks+1}) hx (wpAny_bind (lc.here (s:={s with toks:=s.toks+1}) ?_))))));rw[hd,if_neg (by decide)];refine wpAny_pure ?_;show wpAny _ _ (Builtin.ObjectAttr.storeInDict dx (.str name s.toks) name v) _ _ _;unfold Builtin.ObjectAttr.storeInDict Builtin.ObjectAttr.newKeyGuard;refine wpAny_bind (wpAny_pure (wpAny_bind (wpAny_nsSet1 (s:={s with toks:=s.toks+1}) hn fun d z J=>?_)));obtain⟨P,H,G,i,u,j⟩:=z.count (PySem.Within.cons name v hw);refine wpAny_bind (wpAny_lookBehind i (by rw[u];exact pastItsLine_dict (Nat.le_trans j (by rw[List.length_cons,sizeLine_eq];lia))) ?_);exact wpAny_pure (h d _ z fun b o ne O=>(J.2 b ne).trans O)
end
section
theorem HS:∀{fs:List (Str×V)} {g:Str} {y:V},fs.lookup g=some y->g∈fs.map (·.1)
 | [],_,_,h=>by cases h
 |(k,z)::fs,g,y,h=>by
  simp only[List.lookup] at h;split at h
  ·rename_i e;rw[beq_iff_eq.mp e];exact List.mem_cons_self
  ·exact List.mem_cons_of_mem _ (HS h)
theorem HU:∀{fs:List (Str×V)} {f g:Str} {y:V},fs.lookup f=none->(fs++ [(f,y)]).lookup g=if g=f then some y else fs.lookup g
 | [],f,g,y,_=>by
  show List.lookup g [(f,y)]=_;by_cases c:g=f
  ·rw[if_pos c,c];simp[List.lookup]
  ·have:(g == f)=false:=beq_eq_false_iff_ne.mpr c;rw[if_neg c];simp[List.lookup,this]
 |(k,z)::fs,f,g,y,h=>by
  simp only[List.lookup] at h;split at h
  ·cases h
  ·rename_i e;have i:=HU (g:=g) (y:=y) h;show List.lookup g ((k,z)::(fs++ [(f,y)]))=_;simp only[List.lookup];split
   ·rename_i d;have:g≠f:=fun q=>by
     rw[<-q,d] at e;cases e
    rw[if_neg this]
   ·exact i
theorem Inv.YZ {m:Str->Option Value} (I:Inv X pins σ H s) (i:H dx=some (.xd fs)) (hf:fs.lookup f=none) (v:∀g,sM (fs.lookup g) (m g)) (hn:j.Ns1 dx (fun z=>if z=f then some u else m z)) (k:∀b o,b≠dx->s.heap.get? b=some o->j.get? b=some o) (C:RelV y u):
  Inv X pins σ (upd H dx (.xd (fs++ [(f,y)]))) {s with heap:=j,toks:=t'}:=by
 have ne:∀{b:Addr} {o:HO},H b=some o->(∀x,o≠ .xd x)->b≠dx:=fun{b o} q n z=>by
  subst z;rw[i] at q;injection q with q;exact n _ q.symm
 have fr:∀b,H b=none->b≠dx:=fun b q z=>by rw[z,i] at q;cases q
 obtain⟨od,_,_,d,_⟩:=id hn;refine I.un (t':=t') ⟨fun b o q n _ _=>k b o (fr b n) q,fun b o q n _ _=>⟨o.slots,k b o (fr b n) q⟩,fun b o q n _=>?_,fun b o q _=>?_,fun b xs q=>?_,fun b o u q=>?_,fun b E q=>⟨#[],?_⟩⟩ fun b o q=>?_
 ·rw[ak (fr b n)];exact n
 ·by_cases z:b=dx
  ·exact⟨_,z▸d⟩
  ·exact⟨o,k b o z q⟩
 ·rw[ak (ne q (by simp))];exact q
 ·rw[ak (ne q (by simp))];exact q
 ·rw[ak (ne q (by simp)),q];simp
 ·by_cases z:b=dx
  ·subst z;rw[ar] at q;cases q;refine⟨_,hn,fun g=>?_⟩;rw[HU hf];by_cases c:g=f
   ·rw[if_pos c,if_pos c];exact C
   ·rw[if_neg c,if_neg c];exact v g
  ·rw[ak z] at q;refine(I.hok b o q).stay (fun c u hc g=>?_) (fun c g=>by rw[ak (ne g (by simp))];exact g) fun c xs g=>by rw[ak (ne g (by simp))];exact g
   rcases hc with r|r
   ·exact k c u (r▸z) g
   ·exact k c u (ne r (by simp)) g
end
def NA (C:Addr) (m j:TE) (f:Str):TS:=fun D σ H=>j σ H fun y i=>m σ i fun x d=> ∃e,x = .ref e/\∃dx fs,d e=some (.ext (uU e C (some dx)))/\d dx=some (.xd fs)/\fs.lookup f=none/\fs.length<1000/\D.nx σ (upd d dx (.xd (fs++ [(f,y)])))
section
theorem N9 {R:Addr} (c:UO X.K X.mg x C R) (m:GV X.K C f) (ha:PE X o ta) (F:PE X value tv) (hs:mH value=false:=by rfl):PS X (.Assign [.Attribute o f pos'] value pos) (NA C ta tv f):=by
 intro d s σ H D I h;obtain⟨O,c⟩:=c;obtain⟨cd,hc,hm,hd⟩:=c.cd;refine plainObj_wpAny_Assign_Attribute (fS (F d s σ H _ I h) fun u s1 y J Z U q=>thn (ha d s1 σ J _ Z q) fun Y s2 ⟨x,G,i,z,e,ex,dx,fs,P,v,hf,hl,q2⟩=>?_) (nO hs);subst ex;obtain rfl:Y=Value.ref e:=z;obtain⟨⟨vs,he,v1,v2⟩,_⟩:=i.hok e _ P;obtain⟨mA,hn,j⟩:=(show dG X.prog X.w G s2.heap dx (.xd fs) from i.hok dx _ v);refine U7 i.nL he hn (ns:=fs.map (·.1)) (fun g hg=>?_) (by rw[List.length_map];exact hl) hc hm hd m.sa m.no fun h' t' g1 E=>⟨σ,_,i.YZ v hf j g1 E U,q2⟩;have:=j g;cases e1:fs.lookup g with
 |some y=>exact HS e1
 |none=>
  rw[e1] at this;exact absurd (sM.none_of this) hg
end
def tHn (K:W.Frag) (C:Addr) (th:TS) (f:TH):TH:=fun D σ cls dx H=>R8 (isx K cls C) (∀d,H d=none->th D σ (upd H d (.ext (K2 d cls dx)))) (f D σ cls dx H)
section
theorem Od {X:Cx} {K:W.Frag} {x:Str} {C:Addr} {Y pos:Pos} {j:Stmt} {body:List Stmt} {rest:List ExceptHandler} {th:TS} {O:TH} (Z:X.K=K) (m:yQ X.K X.mg x C) (hg:Gl X x)
  (hs:∀e,CB (X.hand e) (j::body) th) (U:PH X rest O) (G:(x == ("__debug__":Str))=false:=by decide):PH X (.ExceptHandler (some (.Name x Y)) none (j::body) pos::rest) (tHn K C th O):=by
 subst Z;intro i s σ H D E cls dx T I hx J h;have ok:=I.ok;have P:Inv (X.hand (.ref E)) i σ (upd H E (.ext (K2 E cls dx))) s:=I.hand;obtain⟨oe,vs,he,hc,_⟩:=id hx;refine wpAny_handleBy_cons (codeAny_handlers_test (lO (X:=X.hand (.ref E)) P hg m.Up ?_ G)) (by intro q;cases q);unfold tHn at h;cases F:isx X.K cls C with
 |none=>rw[F] at h;exact h.elim
 |some b=>
  rw[F] at h;refine xmatch I.nL he m (by rw[hc];exact F) ?_;cases b with
  |false=>exact U i s σ H D E cls dx T I hx J h
  |true=>
   refine codeAny_handlers_suite (Ii hx ?_);refine wpAny_mono (hs (.ref E) i s _ _ _ P (h E J)) (fun f s2 q=>?_) fun _ _ z=>z.elim;cases f with
   |next=>obtain⟨d,H',y,q⟩:=q;exact⟨d,H',y.unhand ok,q⟩
   |brk=>obtain⟨d,H',y,q⟩:=q;exact⟨d,H',y.unhand ok,q⟩
   |cont=>obtain⟨d,H',y,q⟩:=q;exact⟨d,H',y.unhand ok,q⟩
   |ret u=>obtain⟨v,d,H',y,r,q⟩:=q;exact⟨v,d,H',y.unhand ok,r,q⟩
end
section
theorem KC (he:PE X o ta) (c:dH X.K X.mg x C) (G:AW X.prog X.w X.K X.mg X.base CX C m k ps sp) (v:c6 n X.A) (hk:k<=n) (hx:IB CX X σ0 E) (ht:eval (.Call (.Attribute o m apos) [] [] pos) X.env=(do
   let ov<-eval o X.env
   standAt apos.atName
   let (f,first)<-holding [ov] (getMethod ov m pl)
   callWith pos f first (backTo pos (starEach [] X.env)) (backToKw pos (keywordEach [] X.env))):=by rfl):
  PE X (.Call (.Attribute o m apos) [] [] pos) (U2 σ0 C m sp E ta Ee):=by
 obtain⟨f,J,F,hm,b⟩:=G;intro i s σ H Q I ⟨hσ,h⟩;subst hσ;refine W.methodCall_KW (fS (he _ s σ H _ I h) fun u s1 x O d j y=>?_) ht;obtain⟨a,ex,dx,fs,z,l,q⟩:=FT y;subst ex;obtain rfl:u=Value.ref a:=j;refine n_ d z c.cl hm l ?_;exact W.callWith_K0 d.nL hm.kp (FP (vs:=[.ref a]) F (v.mono hk) b hx d (.cons rfl .nil) q)
end
noncomputable def anyS:List (Option Bool)->Option Bool
 | []=>some false
 |some true::_=>some true
 |some false::r=>anyS r
 |none::_=>none
structure YN (K:W.Frag) (C:Addr):Prop where
 ty:W.typeIn K (.ref C)=some (.type "type")
 ex:W.mroIn K C (.type "BaseException")=some true
theorem yQ.c {K:W.Frag} (m:yQ K mg x C):YN K C:=⟨m.ty,m.ex⟩
section
variable {K:W.Frag}
theorem YN.exc (m:YN K C) (X:K.In s.heap) (h:Q true s):wpAny (model prog w) A (isExcClass (.ref C)) Q E s:=by
 have d:W.Looks (model prog w) _ _ _:=W.looks_mroIn X m.ex;have L2:W.Looks (model prog w) s.heap (isType (.ref C)) true:=by
  have z:=m.ex;obtain⟨cd,hc,_⟩:=Option.bind_eq_some_iff.mp z;unfold W.clsIn at hc;split at hc
  ·rename_i f;intro j v i u k q;exact wpAny_bind (wpAny_loadPart (k _ _ (X _ _ f)) (wpAny_pure q))
  ·cases hc
 refine wpAny_bind (L2.here ?_);exact d.here h
theorem Mv {s:Shared} (X:K.In s.heap) (d:isx K cls C=some b):W.Looks (model prog w) s.heap (isSubtype cls (.ref C)) b:=by
 unfold isx at d;split at d
 ·exact W.looks_mroIn X d
 ·cases d
theorem KZ {g:Value->Sem (ForInStep PUnit)} (X:K.In s.heap):∀{Cs:List Addr},(∀C∈Cs,YN K C)->Q ⟨⟩ s->
  wpAny (model prog w) A (forIn (Cs.map Value.ref) PUnit.unit fun c _=>isExcClass c >>= fun y=>if(!y)=true then g c else pure (ForInStep.yield PUnit.unit)) Q E s
 | [],_,h=>by
  exact wpAny_pure h
 |C::Cs,hm,h=>by
  rw[List.map_cons,List.forIn_cons];refine wpAny_bind (wpAny_bind ((hm C (List.mem_cons_self ..)).exc X ?_));refine wpAny_pure ?_;exact KZ X (fun D hD=>hm D (List.mem_cons_of_mem _ hD)) h
theorem J9 (X:K.In s.heap):∀{Cs:List Addr},anyS (Cs.map (isx K cls))=some b->Q (if b then some true else none,()) s->
  wpAny (model prog w) A (forIn (Cs.map Value.ref) ((none,()):Option Bool×Unit) fun c _=>isSubtype cls c >>= fun y=>if y=true then pure (ForInStep.done (some true,())) else pure (ForInStep.yield (none,()))) Q E s
 | [],e,h=>by
  cases e;exact wpAny_pure h
 |C::Cs,e,h=>by
  rw[List.map_cons] at e;rw[List.map_cons,List.forIn_cons];cases e1:isx K _ C with
  |none=>rw[e1] at e;cases e
  |some c=>
   rw[e1] at e;refine wpAny_bind (wpAny_bind ((Mv X e1).here ?_));cases c with
   |true=>
    cases e;exact wpAny_pure (wpAny_pure h)
   |false=>
    refine wpAny_pure ?_;exact J9 X e h
theorem Qx {Cs:List Addr} (X:K.In s.heap) (he:s.heap.get? e=some oe) (ht:s.heap.get? t=some ⟨.type "tuple",none,.seq (Cs.map Value.ref).toArray n,#[]⟩) (hm:∀C∈Cs,YN K C) (d:anyS (Cs.map (isx K oe.cls))=some b) (h:Q b s):
  wpAny (model prog w) A (excMatches (.ref e) (.ref t)) Q E s:=by
 have i:W.Looks (model prog w) s.heap (isInstance (.ref t) (.type "tuple")) true:=((W.Looks.ld ht).andThen .now).andThen (W.Looks.of_pure (rfl));have f:W.Looks (model prog w) s.heap (typeOf (.ref e)) oe.cls:=(W.Looks.ld he).andThen .now;refine wpAny_bind (i.here ?_);refine wpAny_bind (wpAny_seqItems ht rfl ?_);refine wpAny_bind (wpAny_pure ?_);refine wpAny_bind ?_;refine KZ (Cs:=Cs) X hm ?_;refine wpAny_bind (f.here ?_);refine wpAny_bind (J9 (Cs:=Cs) X d ?_);cases b with
 |true=>exact wpAny_pure h
 |false=>exact wpAny_pure h
end
def NmL (X:Cx) (es:List Expr) (Cs:List Addr):Prop:=(∀C∈Cs,YN X.K C)/\∀(e:Value) (pos:Pos) (d:List (Addr×Obj)) (s:Shared) (σ:St) (H:Hp) (Q:List Value->Shared->Prop) (E:Value->Shared->Prop),
 Inv (X.hand e) d σ H s->Q (Cs.map Value.ref) s->wpAny (model X.prog X.w) (X.hand e).A (spliced (backTo pos (starEach es X.env))) Q E s
section
theorem VM:NmL X [] []:=⟨(fun _ h=>nomatch h),fun _ _ _ _ _ _ _ _ _ h=>Calls.spliced_nil h⟩
theorem Gk (m:yQ X.K X.mg x C) (hg:Gl X x) (f:NmL X es Cs) (d:(x == ("__debug__":Str))=false:=by decide):NmL X (.Name x np::es) (C::Cs):=by
 refine⟨fun D hD=>?_,fun e pos i s σ H Q E I h=>?_⟩
 ·rcases List.mem_cons.mp hD with rfl|hD
  ·exact m.c
  ·exact f.1 D hD
 ·refine Calls.spliced_cons (lO I hg m.Up ?_ d);exact f.2 e _ _ s σ H _ E I h
def tHt (K:W.Frag) (Cs:List Addr) (th:TS) (f:TH):TH:=fun D σ cls dx H=> ∀t,H t=none->R8 (anyS (Cs.map (isx K cls))) (∀d,upd H t (.tup (Cs.map V.ref)) d=none->th D σ (upd (upd H t (.tup (Cs.map V.ref))) d (.ext (K2 d cls dx)))) (f D σ cls dx (upd H t (.tup (Cs.map V.ref))))
theorem M_ (h:a≠b):upd (upd H a o) b u=upd (upd H b u) a o:=by
 funext c;by_cases c1:c=b
 ·subst c1;rw[ar,ak (Ne.symm h),ar]
 ·rw[ak c1];by_cases d:c=a
  ·subst d;rw[ar,ar]
  ·rw[ak d,ak d,ak c1]
theorem E_:∀{Cs:List Addr},Vals (Cs.map V.ref) (Cs.map Value.ref)
 | []=> .nil
 |_::_=> .cons rfl E_
theorem Vp {X:Cx} {K:W.Frag} {es:List Expr} {Cs:List Addr} {j:_} {np pos:Pos} {i:Stmt} {body:List Stmt} {rest:List ExceptHandler} {th:TS} {tr:TH} (hK:X.K=K) (hn:NmL X es Cs) (hz:Cs.length<=100)
  (hs:∀e,CB (X.hand e) (i::body) th) (hr:PH X rest tr):PH X (.ExceptHandler (some (.Tuple es j np)) none (i::body) pos::rest) (tHt K Cs th tr):=by
 subst hK;intro pins s σ H D y cls dx T I hx hH h;have ok:=I.ok;have Ih:Inv (X.hand (.ref y)) _ σ _ s:=I.hand;obtain⟨oe,vs,he,hc,O⟩:=id hx;have hsz:Cs.length<=sizeLine:=by rw[sizeLine_eq];lia
 have m:=Heap.lt_size he;have nt:=Nat.ne_of_gt m;have fr:=I.hok.fresh (Nat.le_refl _);have G:=by rw[ak nt] at fr;exact fr
 refine wpAny_handleBy_cons (codeAny_handlers_test (wpAny_Tuple_spliced (hn.2 _ _ _ s σ _ _ _ Ih ⟨by simp_all,?_⟩))) (by intro q;cases q);have kp:∀b u,s.heap.get? b=some u->(s.heap.push {cls:= .type "tuple",data:= .seq (Cs.map Value.ref).toArray}).get? b=some u:=fun b u e=>Heap.get?_push_of_some _ e;have F:Inv X _ σ (upd _ _ (.tup _)) {s with heap:=s.heap.push _,toks:=s.toks}:=
  I.laid kp (Nat.le_refl _) ⟨by simp_all,_,E_,⟨_,Heap.get?_push_size _ rfl,rfl,_,rfl⟩⟩
 rw[M_ (Ne.symm nt)] at F;have C:Ql (s.heap.push {cls:= .type "tuple",data:= .seq (Cs.map Value.ref).toArray}) y cls dx (some T):=by
  obtain⟨J,P,U,hv,hT,oT,ts,h1,h2,h3⟩:=O;exact⟨oe,vs,kp _ _ he,hc,J,P,U,hv,hT,oT,ts,kp _ _ h1,h2,h3⟩
 have E:upd H s.heap.objs.size (.tup (Cs.map V.ref)) y=none:=by rw[ak (Ne.symm nt)];exact hH
 replace h:=h _ G;cases Y:anyS _ with
 |none=>rw[Y] at h;exact h.elim
 |some b=>
  rw[Y] at h;refine Qx F.nL (kp _ _ he) (Heap.get?_push_size _ rfl) hn.1 (by rw[hc];exact Y) ?_;cases b with
  |false=>exact hr _ _ σ _ D y _ dx T F C E h
  |true=>
   have Z:Inv (X.hand (.ref y)) _ σ _ _:=F.hand;refine codeAny_handlers_suite (Ii C ?_);refine wpAny_mono (hs _ _ _ _ _ _ Z (h y E)) (fun f s2 q=>?_) fun _ _ z=>z.elim;cases f with
   |next=>obtain⟨d,H',x,q⟩:=q;exact⟨d,H',x.unhand ok,q⟩
   |brk=>obtain⟨d,H',x,q⟩:=q;exact⟨d,H',x.unhand ok,q⟩
   |cont=>obtain⟨d,H',x,q⟩:=q;exact⟨d,H',x.unhand ok,q⟩
   |ret u=>obtain⟨v,d,H',x,r,q⟩:=q;exact⟨v,d,H',x.unhand ok,r,q⟩
end
theorem YE {os:List (Option Bool)}:anyS (some true::os)=some true:=rfl
theorem YF {os:List (Option Bool)}:anyS (some false::os)=anyS os:=rfl
section
open Classical in
end
end L2
namespace WaysM
noncomputable def nsp (a A b B m:Int):Int×Int:=low (3*b*A+((a-m*A).natAbs:Int)*B) (4*(A*B))
noncomputable def nsm (a A m:Int):Int×Int:=low (3*a+m*A) (4*A)
structure St (n:Nat) (P S D a A b B:Int):Prop where
 p:P=4 ^ n
 s0:0<=S
 s1:S<=1000000*P
 d0:0<=D
 d1:D<=2000000*P
 sa:a*P=S*A
 db:b*(2*P)=D*B
 a0:0<=a
 b0:0<=b
 pa:∃i,A=2 ^ i
 pb:∃j,B=2 ^ j
 oa: ¬(a % 2=0/\A % 2=0)
 ob: ¬(b % 2=0/\B % 2=0)
theorem two_pos (i:Nat):(0:Int)<2 ^ i:=by
 have:((2 ^ i:Nat):Int)=2 ^ i:=rfl;have:=Nat.two_pow_pos i;lia
theorem PB (i:Nat):(0:Int)<4 ^ i:=by
 have:((4 ^ i:Nat):Int)=4 ^ i:=rfl;have:0<4 ^ i:=Nat.pow_pos (by decide);lia
theorem St.A0 (h:St n P S D a A b B):0<A:=by obtain⟨i,e⟩:=h.pa;rw[e];exact two_pos i
theorem St.B0 (h:St n P S D a A b B):0<B:=by obtain⟨i,e⟩:=h.pb;rw[e];exact two_pos i
theorem St.P0 (h:St n P S D a A b B):0<P:=by rw[h.p];exact PB n
theorem xX {D:Int} (i:B=2 ^ j) (h:b*2 ^ k=D*B) (o: ¬(b % 2=0/\B % 2=0)):B<=2 ^ k:=by
 by_cases m:j<=k
 ·rw[i];obtain⟨d,rfl⟩:=Nat.exists_eq_add_of_le m;have h1:=by have:=two_pos d;omega
  have f:=two_pos j;rw[Int.pow_add];have:=Int.mul_le_mul_of_nonneg_left h1 (Int.le_of_lt f);lia
 ·exfalso;obtain⟨d,rfl⟩:=Nat.exists_eq_add_of_le (show k+1<=j by lia);apply o;have e:(2:Int) ^ (k+1+d)=2 ^ k*(2*2 ^ d):=by rw[Int.pow_add,Int.pow_succ,Int.mul_assoc]
  rw[i,e] at h;have f:b=D*(2*2 ^ d):=by
   apply Int.eq_of_mul_eq_mul_left (Int.ne_of_gt (two_pos k));rw[Int.mul_comm,h];rw[Int.mul_left_comm]
  constructor
  ·rw[f,Int.mul_left_comm];exact Int.mul_emod_right _ _
  ·rw[i,e,Int.mul_left_comm];exact Int.mul_emod_right _ _
theorem yx (n:Nat):(4:Int) ^ n=2 ^ (2*n):=by rw[Int.pow_mul];rfl
theorem St.A1 (h:St n P S D a A b B):A<=P:=by
 obtain⟨i,e⟩:=h.pa;have h1:=h.sa;rw[h.p,yx] at h1;rw[h.p,yx];exact xX e h1 h.oa
theorem St.B1 (h:St n P S D a A b B):B<=2*P:=by
 obtain⟨i,e⟩:=h.pb;have h1:=h.db;have d:2*P=2 ^ (2*n+1):=by rw[h.p,yx];lia
 rw[d] at h1⊢;exact xX e h1 h.ob
theorem St.a1 (h:St n P S D a A b B):a<=S:=by
 have h1:=Int.mul_le_mul_of_nonneg_left h.A1 h.s0;rw[<-h.sa] at h1;exact Int.le_of_mul_le_mul_right h1 h.P0
theorem St.b1 (h:St n P S D a A b B):b<=D:=by
 have h1:=Int.mul_le_mul_of_nonneg_left h.B1 h.d0;rw[<-h.db] at h1;exact Int.le_of_mul_le_mul_right h1 (by have:=h.P0;lia)
theorem cancel {y:Int} (hs:0<s) (h:s*x=s*y):x=y:=Int.eq_of_mul_eq_mul_left (Int.ne_of_gt hs) h
theorem St.first (h0:0<=m) (h1:m<=1000000):St 0 1 m m m 1 (low m 2).1 (low m 2).2:=by
 obtain⟨s,L⟩:=qc (b:=2) h0 (by decide);obtain⟨j,_,d⟩:=tD 1 s _ L.s0 L.b0 (by simpa using L.bb);refine⟨rfl,h0,‹_›,h0,by lia,rfl,?_,h0,L.t0,⟨0,rfl⟩,⟨j,d⟩,by lia,L.od⟩;have e1:=L.tt;have f:=L.bb;generalize(low m 2).1=t at*
 generalize(low m 2).2=b at*
 rw[e1] at*
 grind
theorem St.step (h:St n P S D a A b B) (h0:0<=m) (h1:m<=1000000):
  St (n+1) (4*P) (3*S+m*P) (3*D+2*((S-m*P).natAbs:Int)) (nsm a A m).1 (nsm a A m).2 (nsp a A b B m).1 (nsp a A b B m).2:=by
 have A0:=h.A0;have B0:=h.B0;have P0:=h.P0;have a0:=h.a0;have b0:=h.b0;have sa:=h.sa;have db:=h.db;have s0:=h.s0;have s1:=h.s1;have d0:=h.d0;have d1:=h.d1;have O:=Int.mul_nonneg h0 (Int.le_of_lt A0);have U:=Int.mul_nonneg h0 (Int.le_of_lt P0);have E:=Int.mul_le_mul_of_nonneg_right h1 (Int.le_of_lt P0);have X:=Int.mul_pos A0 B0;have I:=Int.mul_nonneg b0 (Int.le_of_lt A0);have J:=Int.mul_nonneg (Int.natCast_nonneg (a-m*A).natAbs) (Int.le_of_lt B0);obtain⟨s,L⟩:=qc (t:=3*a+m*A) (b:=4*A) (by lia) (by lia);obtain⟨r,M⟩:=qc (t:=3*b*A+((a-m*A).natAbs:Int)*B) (b:=4*(A*B)) (by lia) (by lia);obtain⟨i,ei⟩:=h.pa;obtain⟨j,C⟩:=h.pb;have H:(2:Int) ^ (i+2)=s*(nsm a A m).2:=by
  refine Eq.trans ?_ L.bb;rw[ei,Int.pow_add,Int.mul_comm];rfl
 have z:(2:Int) ^ (i+j+2)=r*(nsp a A b B m).2:=by
  refine Eq.trans ?_ M.bb;rw[ei,C,<-Int.pow_add,Int.pow_add _ _ 2,Int.mul_comm];rfl
 obtain⟨F,_,f⟩:=tD _ _ _ L.s0 L.b0 H;obtain⟨G,_,d⟩:=tD _ _ _ M.s0 M.b0 z;refine⟨by rw[h.p,Int.pow_succ,Int.mul_comm],by lia,by lia,by lia,by lia,?_,?_,L.t0,M.t0,⟨F,f⟩,⟨G,d⟩,L.od,M.od⟩
 ·apply cancel L.s0;have e1:=L.tt;have v:=L.bb;unfold nsm;generalize(low (3*a+m*A) (4*A)).1=t at*
  generalize(low (3*a+m*A) (4*A)).2=u at*
  have k1:s*(t*(4*P))=(3*a+m*A)*(4*P):=by rw[e1];grind
  have k2:s*((3*S+m*P)*u)=(3*S+m*P)*(4*A):=by rw[v];grind
  rw[k1,k2];have:(3*a+m*A)*(4*P)=12*(a*P)+4*(m*A*P):=by grind
  rw[this,sa]
  grind
 ·apply cancel M.s0;have e1:=M.tt;have v:=M.bb;unfold nsp;have ab:((a-m*A).natAbs:Int)*P=((S-m*P).natAbs:Int)*A:=by
   have q1:((a-m*A)*P).natAbs=((S-m*P)*A).natAbs:=by
    have:(a-m*A)*P=(S-m*P)*A:=by
     rw[Int.sub_mul,Int.sub_mul,sa];grind
    rw[this]
   rw[Int.natAbs_mul,Int.natAbs_mul] at q1;have q2:((P.natAbs:Nat):Int)=P:=by lia
   have q3:((A.natAbs:Nat):Int)=A:=by lia
   have q4:(((a-m*A).natAbs*P.natAbs:Nat):Int)=(((S-m*P).natAbs*A.natAbs:Nat):Int):=by rw[q1]
   rw[Int.natCast_mul,Int.natCast_mul,q2,q3] at q4;exact q4
  generalize((a-m*A).natAbs:Int)=x at*
  generalize((S-m*P).natAbs:Int)=y at*
  generalize(low (3*b*A+x*B) (4*(A*B))).1=t at*
  generalize(low (3*b*A+x*B) (4*(A*B))).2=u at*
  have k1:r*(t*(2*(4*P)))=(3*b*A+x*B)*(2*(4*P)):=by rw[e1];grind
  have k2:r*((3*D+2*y)*u)=(3*D+2*y)*(4*(A*B)):=by rw[v];grind
  rw[k1,k2];have:(3*b*A+x*B)*(2*(4*P))=12*A*(b*(2*P))+8*B*(x*P):=by grind
  rw[this,db,ab]
  grind
end WaysM
namespace FrameM
open PySem L2 Com
noncomputable def xM:List V:=[.str "bare",.str "signs",.str "begin",.str "end",.str "ask"]
noncomputable def mq:Str:=" !\"#$&'()*+,-./0123456789:;<=>?@ABCDEFGHIJKLMNOPQRSTUVWXYZ[\\]^_`abcdefghijklmnopqrstuvwxyz{|}~"
noncomputable def OZ (x:V):Bool:=match x with
 | .str i=>!(Builtin.Str.occurrences mq i 0 mq.length 1).isEmpty
 |_=>false
noncomputable def eV (v l h:Int):Bool:=decide (l<=v)&&decide (v<=h)
noncomputable def qO (k d:Str):Bool:=if k = "signs" then(decide (1<=d.length)&&decide (d.length<=4)&&(d9 d).all OZ) else decide (d = "")
noncomputable def cD (k:Str) (n a r:Int) (hs:List Int) (d:Str):Bool:=
 D_ (.str k) xM&&eV n 0 (if D_ (.str k) [.str "bare",.str "ask"]=true then 0 else 63)&&eV a 0 63&&eV r 0 16&&Held.dZ 0 hs&&qO k d
def si (H:Hp) (t:Addr) (k:Str) (n a r:Int) (hs:List Int) (d:Str):Prop:=
 ∃h,H t=some (.tup [.str k,.int n,.int a,.int r,.ref h,.str d])/\H h=some (.tup (hs.map V.int))/\hs.length<=1000/\d.length<=1000
theorem zI {x y:Nat} (h:y<2 ^ k):Builtin.bitOr ((x:Int)*2 ^ k) (y:Int)=((x*2 ^ k+y:Nat):Int):=by
 have e:(x)*2 ^ k=((x*2 ^ k:Nat):Int):=rfl;rw[e,BitI.F0,RemM.yh h]
theorem Zf {x y:Nat} (h:y<64):Builtin.bitOr ((x:Int)*64) (y:Int)=((x*64+y:Nat):Int):=zI (k:=6) h
theorem agV {x y:Nat} (h:y<32):Builtin.bitOr ((x:Int)*32) (y:Int)=((x*32+y:Nat):Int):=zI (k:=5) h
theorem or8 {x y:Nat} (h:y<8):Builtin.bitOr ((x:Int)*8) (y:Int)=((x*8+y:Nat):Int):=zI (k:=3) h
theorem Zg {x y:Nat} (h:y<128):Builtin.bitOr ((x:Int)*128) (y:Int)=((x*128+y:Nat):Int):=zI (k:=7) h
theorem RA {x y:Nat} (h:y<32768):Builtin.bitOr ((x:Int)*32768) (y:Int)=((x*32768+y:Nat):Int):=zI (k:=15) h
theorem agW {x y:Nat} (h:y<268435456):Builtin.bitOr ((x:Int)*268435456) (y:Int)=((x*268435456+y:Nat):Int):=zI (k:=28) h
noncomputable def kinds:List Str:=["bare","signs","begin","end","ask"]
noncomputable def kidx (k:Str):Nat:=kinds.idxOf k
theorem Ms (h:D_ (.str k) xM=true):k∈kinds:=by
 unfold D_ xM at h;simp only[List.any_cons,List.any_nil,Bool.or_false,Bool.or_eq_true,Sq,beq_iff_eq] at h;unfold kinds;rcases h with h|h|h|h|h<;>simp[h]
theorem Gr (h:D_ (.str k) xM=true):H_ kinds k (kidx k)/\kidx k<5:=by
 have hm:=Ms h;have e:∀z∈kinds,H_ kinds z (kidx z)/\kidx z<5:=by
  intro z u;have d:∀i:_root_.Fin 5,kinds[kidx (kinds.getD i "")]?=some (kinds.getD i "")/\kidx (kinds.getD i "")=i.val/\∀m:_root_.Fin 5,m.val<i.val->kinds[m.val]?≠some (kinds.getD i ""):=by trivial
  obtain⟨i,hi,rfl⟩:=List.mem_iff_getElem.mp u;have f:i<5:=hi;have e1:kinds.getD i "" = kinds[i]:=by rw[List.getD_eq_getElem?_getD,List.getElem?_eq_getElem hi];rfl
  have j:=d ⟨i,f⟩;simp only[e1] at j;refine⟨⟨j.1,fun m hm=>j.2.2 ⟨m,by lia⟩ (by lia)⟩,by lia⟩
 exact e k hm
noncomputable def fQ (hs:List Int):Nat:=(hs.map fun h=>2 ^ (h-1).toNat).sum
theorem Fl:∀hs:List Int,(hs.map fun h=>(1:Int)*2 ^ (h-1).toNat).sum=(fQ hs:Nat)
 | []=>rfl
 |x::xs=>by
  have d:=Fl xs;unfold fQ at d⊢;rw[List.map_cons,List.sum_cons,d];simp
theorem Ib:∀{hs:List Int} {l:Nat},Held.dZ (l:Int) hs=true->l<=15->fQ hs+2 ^ l<=32768
 | [],l,_,hl=>by
  have:(2) ^ l<=2 ^ 15:=Nat.pow_le_pow_right (by decide) hl;unfold fQ;simpa using this
 |x::xs,l,h,hl=>by
  unfold Held.dZ at h;rw[Bool.and_eq_true,Bool.and_eq_true,decide_eq_true_eq,decide_eq_true_eq] at h;obtain⟨⟨h1,d⟩,f⟩:=h;obtain⟨j,rfl⟩:∃j:Nat,x=(j)+1:=⟨(x-1).toNat,by lia⟩;have i:=Ib (l:=j+1) (‹_›) (by lia);have e:fQ (((j)+1)::xs)=2 ^ j+fQ xs:=by
   unfold fQ;rw[List.map_cons,List.sum_cons];congr 2;lia
  have p:(2) ^ l<=2 ^ j:=Nat.pow_le_pow_right (by decide) (by lia);lia
noncomputable def sgl:List Nat:=mq.cps.toList
theorem Kc:sgl.length=94:=by decide+kernel
noncomputable def sgn (c:Nat):Nat:=sgl.idxOf c
theorem RK:∀j:_root_.Fin 94,Builtin.Str.occurrences mq ⟨#[sgl.getD j 0]⟩ 0 mq.length 1= [sgn (sgl.getD j 0)]/\sgn (sgl.getD j 0)=j.val:=by decide+kernel
theorem o4 (h:c∈sgl):Builtin.Str.occurrences mq ⟨#[c]⟩ 0 mq.length 1= [sgn c]/\sgn c<94/\sgl[sgn c]?=some c:=by
 obtain⟨i,hi,rfl⟩:=List.mem_iff_getElem.mp h;have f:i<94:=‹_›;have e1:sgl.getD i 0=sgl[i]:=by rw[List.getD_eq_getElem?_getD,List.getElem?_eq_getElem hi];rfl
 have d:=RK ⟨i,f⟩;simp only[e1] at d;have m:=d.2;refine⟨d.1,by lia,?_⟩;generalize sgn sgl[i]=j at m;subst m;exact List.getElem?_eq_getElem hi
theorem R5 (h:OZ (.str ⟨#[c]⟩)=true):c∈sgl:=by
 have d:(!(Builtin.Str.occurrences _ _ 0 _ 1).isEmpty)=true:=h;rw[StrLaws.found_one,decide_eq_true_eq] at d;exact d
theorem Nq:32∈sgl:=by decide+kernel
noncomputable def Eg (b:Nat) (cs:List Nat):Nat:=cs.foldl (fun b c=>b*128+sgn c) b
theorem Lv:Eg b (cs++ [c])=Eg b cs*128+sgn c:=by unfold Eg;rw[List.foldl_append];rfl
theorem Hl:∀(cs:List Nat) (b:Nat),(∀c∈cs,c∈sgl)->Eg b cs<(b+1)*128 ^ cs.length
 | [],b,_=>by show b<(b+1)*1;lia
 |c::cs,b,h=>by
  have i:=Hl cs (b*128+sgn c) fun c hc=>h c (List.mem_cons_of_mem _ hc);have s:=(o4 (h c (by simp))).2.1;rw[List.length_cons,Nat.pow_succ,Nat.mul_comm _ 128,<-Nat.mul_assoc];exact Nat.lt_of_lt_of_le i (Nat.mul_le_mul_right _ (by lia))
theorem Kb (h:∀c∈cs,c∈sgl):Eg 0 cs<128 ^ cs.length:=by
 have:=Hl cs 0 h;lia
noncomputable def vh (d:Str):List Nat:=d.cps.toList++List.replicate (4-d.length) 32
noncomputable def Lu (d:Str):Nat:=Eg 0 (vh d)
theorem aff (h:sg.length<=4):(RT sg 4).cps.toList=vh sg/\(RT sg 4).length=4:=by
 unfold RT vh;have hl:sg.cps.toList.length=sg.length:=rfl;by_cases c:(4:Int)<=sg.length
 ·rw[if_pos c];have:4-sg.length=0:=by lia
  rw[this];exact⟨by simp,by lia⟩
 ·rw[if_neg c];unfold Builtin.Str.padded;refine⟨?_,?_⟩
  ·simp
  ·have e:∀z:Str,z.length=z.cps.toList.length:=fun z=>rfl;rw[e];simp;have:=hl;simp at this;lia
noncomputable def Lb (ki n a r h len s:Nat):Nat:=(((((ki*2 ^ 6+n)*2 ^ 6+a)*2 ^ 5+r)*2 ^ 15+h)*2 ^ 3+len)*2 ^ 28+s
noncomputable def fR (k:Str) (n a r:Int) (hs:List Int) (d:Str):Nat:=Lb (kidx k) n.toNat a.toNat r.toNat (fQ hs) d.length (Lu d)
noncomputable def ip (k:Str) (n a r:Int) (hs:List Int) (d:Str):Nat:=fR k n a r hs d*256 |||Rem.R (fR k n a r hs d*256)
structure sj (k:Str) (n a r:Int) (hs:List Int) (sg:Str):Prop where
 hk:D_ (.str k) xM=true
 n0:0<=n/\n<=63
 a0:0<=a/\a<=63
 r0:0<=r/\r<=16
 hh:Held.dZ 0 hs=true
 hl:sg.length<=4
 hs:∀c∈sg.cps.toList,c∈sgl
theorem C4 (h:cD k n a r hs sg=true):sj k n a r hs sg:=by
 unfold cD eV at h;simp at h;obtain⟨⟨⟨⟨⟨h1,i⟩,m⟩,u⟩,j⟩,d⟩:=h;have f:sg.length<=4/\∀c∈sg.cps.toList,c∈sgl:=by
  unfold qO at d;split at d
  ·simp only[Bool.and_eq_true,decide_eq_true_eq] at d;refine⟨d.1.2,fun c hc=>?_⟩;have:=List.all_eq_true.mp d.2 _ (List.mem_map.mpr ⟨c,hc,rfl⟩);exact R5 this
  ·rw[decide_eq_true_eq] at d;subst d;exact⟨by decide,by decide⟩
 exact⟨h1,⟨i.1,by lia⟩,m,u,j,f.1,f.2⟩
theorem sj.pad {hs:List Int} (p:sj k n a r hs sg):(∀c∈vh sg,c∈sgl)/\(vh sg).length=4:=by
 refine⟨fun c hc=>?_,?_⟩
 ·rcases List.mem_append.mp hc with h|h
  ·exact p.hs c h
  ·rw[(List.mem_replicate.mp h).2];exact Nq
 ·unfold vh;have hl:sg.cps.toList.length=sg.length:=rfl;rw[List.length_append,List.length_replicate,hl];have:=p.hl;lia
structure JU (ki n a r h len s:Nat):Prop where
 ki:ki<8
 n:n<64
 a:a<64
 r:r<32
 h:h<32768
 len:len<8
 s:s<268435456
theorem sj.parts {hs:List Int} (p:sj k n a r hs sg):JU (kidx k) n.toNat a.toNat r.toNat (fQ hs) sg.length (Lu sg):=by
 have h1:=(Gr p.hk).2;have f:=Ib (l:=0) (by exact_mod_cast p.hh) (by decide);have d:=Kb p.pad.1;rw[p.pad.2] at d;have:=p.n0;have:=p.a0;have:=p.r0;have:=p.hl;exact⟨by lia,by lia,by lia,by lia,‹_›,by lia,d⟩
theorem JU.lt {ki n a r h len s:Nat} (p:JU ki n a r h len s):Lb ki n a r h len s<2 ^ 66:=by
 obtain⟨h1,d,j,m,f,u,i⟩:=p;unfold Lb;lia
theorem Fm:ip k n a r hs sg=fR k n a r hs sg*256+Rem.R (fR k n a r hs sg*256):=by
 exact RemM.yh (p:=8) (Rem.JT _)
theorem sj.Py {hs:List Int} (p:sj k n a r hs sg):ip k n a r hs sg<2 ^ 74:=by
 have h1:=p.parts.lt;have d:=Rem.JT (fR k n a r hs sg*256);rw[Fm];unfold fR at*
 lia
theorem Pz:Rem.R (ip k n a r hs sg)=0:=RemM.SG _
theorem dropx (S:a8 H H1) (he:H1 e=none) (hd:upd H1 e o d=none):a8 H (o6 (upd (upd (upd H1 e o) d (.xd [(f,v)])) e (.ext (uU e C (some d)))) e)/\o6 (upd (upd (upd H1 e o) d (.xd [(f,v)])) e (.ext (uU e C (some d)))) e d=some (.xd [(f,v)]):=by
 have nd:d≠e:=fun z=>by rw[z,ar] at hd;cases hd
 refine⟨fun b u i=>?_,?_⟩
 ·have h1:=S b u i;have nb:=aG h1 he;rw[gE nb,ak nb,ak (fun z=>?_),ak nb];exact h1;rw[z] at h1;rw[ak nd] at hd;rw[h1] at hd;cases hd
 ·rw[gE nd,ak nd,ar]
theorem si.same (h:si H t k n a r hs sg) (e:a8 H H'):si H' t k n a r hs sg:=by
 obtain⟨hh,h1,d,f⟩:=h;exact⟨hh,e _ _ h1,e _ _ d,f⟩
end FrameM
namespace StM
end StM
namespace L2
open PySem PySem.Spec PyProof.Rows
section
variable {X:Cx} {CX:IE} {k n:Nat} {ps:List Str} {sp:Sp} {x:Str} {p pos pos' apos:Pos} {e a b o:Expr} {es:List Expr} {t:TA} {te ta tb:TE} {C:Addr} {f m:Str} {K:W.Frag}
theorem br [Quiet CX] (G:FnAt X.prog X.w X.K X.mg X.base CX x k ps sp) (i:c6 n X.A) (ha:PA X (e::es) t) (hk:k<=n:=by decide) (hg:Gl X x:=by exact rfl)
    (d:(x == ("__debug__":Str))=false:=by decide) (h:(e::es).any isStar=false:=by rfl):PE X (.Call (.Name x p) (e::es) [] pos) (E4 sp [] E0 t):=Vx G i hk hg ha d h
theorem bT [Quiet CX] {pl:Sem Bool} (he:PE X o ta) (c:dH X.K X.mg x C) (G:AW X.prog X.w X.K X.mg X.base CX C m k ps sp) (i:c6 n X.A) (ha:PA X (e::es) t) (hk:k<=n:=by decide) (d:(e::es).any isStar=false:=by rfl)
    (ht:eval (.Call (.Attribute o m apos) (e::es) [] pos) X.env=(do
      let ov<-eval o X.env
      standAt apos.atName
      let (f,first)<-holding [ov] (getMethod ov m pl)
      callWith pos f first (backTo pos (starEach (e::es) X.env)) (backToKw pos (keywordEach [] X.env))):=by rfl):PE X (.Call (.Attribute o m apos) (e::es) [] pos) (Nd C m sp ta t):=Vv he c G i hk ha d ht
theorem bO [Quiet CX] {pl:Sem Bool} (he:PE X o ta) (c:dH X.K X.mg x C) (G:AW X.prog X.w X.K X.mg X.base CX C m k ps sp) (d:c6 n X.A) (hk:k<=n:=by decide)
    (ht:eval (.Call (.Attribute o m apos) [] [] pos) X.env=(do
      let ov<-eval o X.env
      standAt apos.atName
      let (f,first)<-holding [ov] (getMethod ov m pl)
      callWith pos f first (backTo pos (starEach [] X.env)) (backToKw pos (keywordEach [] X.env))):=by rfl):PE X (.Call (.Attribute o m apos) [] [] pos) (Nd C m sp ta Ee):=Rt he c G d hk ht
theorem aw (he:PE X e ta) (c:dH X.K X.mg x C) (nn:bB X.K C f) (d:attributeBase e f X.env (eval e X.env)=eval e X.env:=by exact rfl):PE X (.Attribute e f pos) (J7 C f ta):=Rw he c nn d
theorem aO (i:Nat) (d:X.N.Nodup) (he:PE X e te) (hi:X.N[i]?=some x:=by exact rfl) (hx:Loc X.env.scope x:=by walk_at "q") (h:mH e=false:=by rfl) (hf:X.fn x=true\/X.env.scope.names.lookup x=some .local:=by walk_at "q"):
    PS X (.Assign [.Name x pos'] e pos) (He te (qf i)):=Ks d hi hx he h hf
theorem aS (K:W.Frag) (ha:PE X a ta) (d:PE X b tb) (i:X.K=K:=by exact rfl) (hs:G0 b:=by exact fun _ _=>rfl):PE X (.Subscript a b pos) (IF (NV K) ta tb):=SX (akA K i) ha d hs
theorem cK (K:W.Frag) (ha:PE X a ta) (d:PE X b tb) (i:X.K=K:=by exact rfl) (hs:G0 b:=by exact fun _ _=>rfl):PE X (.Subscript a b pos) (IF (Bt K) ta tb):=SX (afs K i) ha d hs
theorem eg (K:W.Frag) (j:c6 n X.A) (ha:PE X a ta) (d:PE X b tb) (i:X.K=K:=by exact rfl):PT X (.Compare a [.Eq] [b] pos) (AZ (IF (zB K false) ta tb)):=Cq (nE K i j.units) ha d (nomark _)
theorem wB (K:W.Frag) (j:c6 n X.A) (ha:PE X a ta) (d:PE X b tb) (i:X.K=K:=by exact rfl):PT X (.Compare a [.NotEq] [b] pos) (AZ (IF (zB K true) ta tb)):=Cq (RC K i j.units) ha d (nomark _)
theorem bw {op:CmpOp} {r:R2} (i:gC X (compareOp op) r) (ha:PE X a ta) (d:PE X b tb) (hm:behindInMarks op b=false:=by exact nomark _):PT X (.Compare a [op] [b] pos) (AZ (IF r ta tb)):=Cq i ha d hm
theorem dP {op:CmpOp} {r:R2} (i:gC X (compareOp op) r) (ha:PE X a ta) (d:PE X b tb) (hm:behindInMarks op b=false:=by exact nomark _):PE X (.Compare a [op] [b] pos) (IF r ta tb):=Ct i ha d hm
theorem a_ (K:W.Frag) (ha:PE X a ta) (d:PE X b tb) (i:X.K=K:=by exact rfl):PE X (.BinOp a .Add b pos) (IF (CY K) ta tb):=aL (RE K i) ha d
theorem bu (i:Nat) (d:X.N.Nodup) (hi:X.N[i]?=some x:=by exact rfl) (hx:Loc X.env.scope x:=by walk_at "q") (hf:X.fn x=true\/X.env.scope.names.lookup x=some .local:=by walk_at "q"):PG X (.Name x pos) (qf i):=Rp d hi hx hf
theorem cX (ha:PE X e te) (h:isStar e=false:=by rfl):PA X [e] (xT te Ee):=dz ha jn h
theorem c9 (ha:PE X a ta) (d:PE X b tb) (h:isStar a=false:=by rfl) (i:isStar b=false:=by rfl):PA X [a,b] (xT ta (xT tb Ee)):=dz ha (dz d jn i) h
end
end L2
namespace L2
open PySem
def zqr (l:List V) (f:Addr->List V->Prop):Prop:=match l with
 |.ref x::r=>f x r
 |_=>False
@[elab_as_elim]
theorem zqre {f:Addr->List V->Prop} {G:List V->Prop} (h:zqr l f) (k:∀x r,f x r->G (.ref x::r)):G l:=by
 unfold zqr at h;split at h
 ·exact k _ _ h
 ·exact h.elim
def zqi (l:List V) (f:Int->List V->Prop):Prop:=match l with
 |.int x::r=>f x r
 |_=>False
@[elab_as_elim]
theorem zqie {f:Int->List V->Prop} {G:List V->Prop} (h:zqi l f) (k:∀x r,f x r->G (.int x::r)):G l:=by
 unfold zqi at h;split at h
 ·exact k _ _ h
 ·exact h.elim
def zqs (l:List V) (f:Str->List V->Prop):Prop:=match l with
 |.str x::r=>f x r
 |_=>False
@[elab_as_elim]
theorem zqse {f:Str->List V->Prop} {G:List V->Prop} (h:zqs l f) (k:∀x r,f x r->G (.str x::r)):G l:=by
 unfold zqs at h;split at h
 ·exact k _ _ h
 ·exact h.elim
def zqv (l:List V) (f:V->List V->Prop):Prop:=match l with
 |x::r=>f x r
 |_=>False
@[elab_as_elim]
theorem zqve {f:V->List V->Prop} {G:List V->Prop} (h:zqv l f) (k:∀x r,f x r->G (x::r)):G l:=by
 unfold zqv at h;split at h
 ·exact k _ _ h
 ·exact h.elim
def zqn (l:List V) (p:Prop):Prop:=match l with
 | []=>p
 |_=>False
@[elab_as_elim]
theorem zqne {p:Prop} {G:List V->Prop} (h:zqn l p) (k:p->G []):G l:=by
 unfold zqn at h;split at h
 ·exact k h
 ·exact h.elim
end L2
set_option backward.eqns.nonrecursive false
namespace K67
noncomputable section
open PySem L2 Com FrameM
def aD (u:TS):TS:=u
theorem aE (h:CB X l u):CB X l (aD u):=h
theorem tj (h:YJ X l u):YJ X l (aD u):=⟨h.h⟩
theorem Ig {u:TS} (h:∀d,d=D->u d σ H):u D σ H:=h D rfl
noncomputable def top (i:Nat):Stmt:=Challenge.pw_slowroad_k67_rooms_and_reading.main.body.getD i (.Pass ⟨0,0,0,0⟩)
abbrev BdT (f:List Str) (x y:Str) (s:Stmt):Prop:= ∀(kV doc pm:Value) (an:Option Addr) (d ct:Value) (us:List Value),us.length=f.length->bindArgs (W.fnOf x y (fM s) (dh s) (bF s) .none kV doc pm an d ct) ⟨us,[]⟩=pure (f.zip us)
theorem Uu {α:Type} {us:List α} (h:us.length=1):∃a0,us= [a0]:=List.length_eq_one_iff.mp h
theorem Ut {α:Type} {us:List α} (h:us.length=2):∃a0 a1,us= [a0,a1]:=by
 obtain⟨a,t,rfl⟩:=List.exists_cons_of_length_eq_add_one h;obtain⟨b0,rfl⟩:=Uu (Nat.succ.inj h);exact⟨a,b0,rfl⟩
theorem Us {α:Type} {us:List α} (h:us.length=3):∃a0 a1 d,us= [a0,a1,d]:=by
 obtain⟨a,t,rfl⟩:=List.exists_cons_of_length_eq_add_one h;obtain⟨b0,b1,rfl⟩:=Ut (Nat.succ.inj h);exact⟨a,b0,b1,rfl⟩
theorem Ur {α:Type} {us:List α} (h:us.length=4):∃a0 a1 d f,us= [a0,a1,d,f]:=by
 obtain⟨a,t,rfl⟩:=List.exists_cons_of_length_eq_add_one h;obtain⟨b0,b1,i,rfl⟩:=Us (Nat.succ.inj h);exact⟨a,b0,b1,i,rfl⟩
theorem Uq {α:Type} {us:List α} (h:us.length=5):∃a0 a1 d f i,us= [a0,a1,d,f,i]:=by
 obtain⟨a,t,rfl⟩:=List.exists_cons_of_length_eq_add_one h;obtain⟨b0,b1,j,m,rfl⟩:=Ur (Nat.succ.inj h);exact⟨a,b0,b1,j,m,rfl⟩
theorem afg {α:Type} {us:List α} (h:us.length=6):∃a0 a1 d i j f,us= [a0,a1,d,i,j,f]:=by
 obtain⟨a,t,rfl⟩:=List.exists_cons_of_length_eq_add_one h;obtain⟨b0,b1,m,v,u,rfl⟩:=Uq (Nat.succ.inj h);exact⟨a,b0,b1,m,v,u,rfl⟩
abbrev FA (P:Program) (w:World) (K:W.Frag) (mg:Str->Option Value) (base:Heap) (x:Str) (k:Nat) (d:List Str) (sp:Sp):Prop:=FnAt P w K mg base (IH P w) x k d sp
abbrev MA (P:Program) (w:World) (K:W.Frag) (mg:Str->Option Value) (base:Heap) (C:Addr) (x:Str) (k:Nat) (d:List Str) (sp:Sp):Prop:=AW P w K mg base (IH P w) C x k d sp
noncomputable abbrev ic (i j:Nat):Stmt:=inClass (top i) j
abbrev SB (N d:List Str) (x y:Str) (s:Stmt):Prop:=lQ N d (bF s)/\BdT d x y s
abbrev SC (d:List Str) (x y:Str) (s:Stmt):Prop:=lQ d d (bF s)/\BdT d x y s
abbrev SY (d:List Str) (x:Str) (s:Stmt):Prop:=lQ d d (bF s)/\BdT d x x s
abbrev SZ (N d:List Str) (x:Str) (s:Stmt):Prop:=lQ N d (bF s)/\BdT d x x s
set_option hygiene false in
local macro_rules | `(tactic| exists 2) => `(tactic| (refine⟨⟨rfl,rfl,rfl,by decide +kernel,rfl,by decide +kernel,by decide +kernel⟩, ?_⟩; intro _ _ _ _ _ _ us hl; first | (obtain⟨_,rfl⟩ := Uu hl; rfl) | (obtain⟨_,_,rfl⟩ := Ut hl; rfl) | (obtain⟨_,_,_,rfl⟩ := Us hl; rfl) | (obtain⟨_,_,_,_,rfl⟩ := Ur hl; rfl) | (obtain⟨_,_,_,_,_,rfl⟩ := Uq hl; rfl) | (obtain⟨_,_,_,_,_,_,rfl⟩ := afg hl; rfl)))
theorem vd:SC ["self","frame"] "__init__" "NoFrame.__init__" (ic 2 0):=by exists 2
theorem wg:SC ["self","frame"] "__init__" "Spoilt.__init__" (ic 3 0):=by exists 2
theorem vc:SC ["self","what"] "__init__" "NoPiece.__init__" (ic 4 0):=by exists 2
theorem vb:SC ["self","least"] "__init__" "NotWide.__init__" (ic 6 0):=by exists 2
theorem wq:SC ["self","state","wish"] "__init__" "NotNow.__init__" (ic 8 0):=by exists 2
theorem IY:SY ["value","low","high"] "is_from" (top 10):=by exists 2
theorem A2:SZ ["thing","kind"] ["thing"] "is_piece" (top 26):=by exists 2
theorem qQ:SZ ["held","last","step"] ["held"] "is_held" (top 27):=by exists 2
theorem FH:SY ["kind","signs"] "are_signs" (top 28):=by exists 2
theorem qP:SZ ["bits","left"] ["bits"] "remainder" (top 29):=by exists 2
theorem CL:SZ ["piece","unchecked"] ["piece"] "written" (top 30):=by exists 2
theorem gU:SZ ["piece","body"] ["piece"] "body_of" (top 31):=by exists 2
theorem Bh:SY ["held"] "bits_of_held" (top 32):=by exists 2
theorem fz:SZ ["signs","bits","sign"] ["signs"] "bits_of_signs" (top 33):=by exists 2
theorem Ho:SY ["number"] "is_frame" (top 34):=by exists 2
theorem Ke:SZ ["frame","piece"] ["frame"] "read" (top 35):=by exists 2
theorem Bg:SY ["body"] "likely_piece" (top 36):=by exists 2
theorem IW:SY ["code"] "kind_of" (top 37):=by exists 2
theorem IZ:SY ["bits"] "held_of" (top 38):=by exists 2
theorem Hm:SY ["bits"] "signs_of" (top 39):=by exists 2
theorem IV:SY ["code"] "sign_of" (top 40):=by exists 2
theorem ya:SC ["self","most"] "__init__" "Meter.__init__" (ic 42 0):=by exists 2
theorem sY:SB ["self","many","piece"] ["self","many"] "known" "Meter.known" (ic 42 1):=by exists 2
theorem x_:SC ["self"] "know_one" "Meter.know_one" (ic 42 2):=by exists 2
theorem Ek:SC ["self"] "half" "Meter.half" (ic 42 3):=by exists 2
theorem zk:SC ["self"] "ran_out" "Meter.ran_out" (ic 42 4):=by exists 2
theorem zp:SC ["self"] "hurried" "Meter.hurried" (ic 42 5):=by exists 2
theorem Nz:SY ["ring","one","other"] "ahead" (top 44):=by exists 2
theorem E7:SZ ["top","bottom","shared"] ["top","bottom"] "lowest" (top 47):=by exists 2
theorem y_:SC ["self","first","longest"] "__init__" "Ways.__init__" (ic 48 0):=by exists 2
theorem y9:SC ["self","m"] "measured" "Ways.measured" (ic 48 1):=by exists 2
theorem gc:SB ["self","m","bottoms","away"] ["self","m"] "next_spread" "Ways.next_spread" (ic 48 2):=by exists 2
theorem uZ:SC ["self","m"] "next_smooth" "Ways.next_smooth" (ic 48 3):=by exists 2
theorem nW:SB ["self","top"] ["self"] "least_wait" "Ways.least_wait" (ic 48 4):=by exists 2
theorem Bj:SC ["self"] "ran_out" "Ways.ran_out" (ic 48 5):=by exists 2
theorem wo:SC ["self","ring","first","longest","most"] "__init__" "Sender.__init__" (ic 51 0):=by exists 2
theorem Ei:SC ["self","thing"] "put" "Sender.put" (ic 51 1):=by exists 2
theorem CQ:SC ["self"] "many" "Sender.many" (ic 51 2):=by exists 2
theorem Bl:SC ["self","place"] "thing" "Sender.thing" (ic 51 3):=by exists 2
theorem gJ:SB ["self","number","room","held","turn","steps","fresh","place"] ["self","number","room","held","turn"] "heard" "Sender.heard" (ic 51 4):=by exists 2
theorem m9:SB ["self","steps","low"] ["self","steps"] "grow_base" "Sender.grow_base" (ic 51 5):=by exists 2
theorem va:SC ["self","held"] "note_held" "Sender.note_held" (ic 51 6):=by exists 2
theorem d_:SB ["self","places","fresh","place"] ["self","places"] "newly_known" "Sender.newly_known" (ic 51 7):=by exists 2
theorem nX:SC ["self"] "known_above_base" "Sender.known_above_base" (ic 51 8):=by exists 2
theorem u9:SC ["self"] "under_way" "Sender.under_way" (ic 51 9):=by exists 2
theorem sG:SC ["self"] "thing_waits" "Sender.thing_waits" (ic 51 10):=by exists 2
theorem qS:SC ["self","turn"] "clock_is_out" "Sender.clock_is_out" (ic 51 11):=by exists 2
theorem qR:SC ["self"] "hurry_is_due" "Sender.hurry_is_due" (ic 51 12):=by exists 2
theorem sX:SC ["self"] "new_may_go" "Sender.new_may_go" (ic 51 13):=by exists 2
theorem FK:SC ["self","turn"] "go" "Sender.go" (ic 51 14):=by exists 2
theorem u_:SC ["self","turn"] "set_clock" "Sender.set_clock" (ic 51 15):=by exists 2
theorem wk:SC ["self","turn"] "go_again" "Sender.go_again" (ic 51 16):=by exists 2
theorem p9:SB ["self","turn","place"] ["self","turn"] "go_new" "Sender.go_new" (ic 51 17):=by exists 2
theorem qT:SC ["self","turn"] "ask_for_room" "Sender.ask_for_room" (ic 51 18):=by exists 2
theorem u7:SC ["self"] "wish_begin" "State.wish_begin" (ic 53 1):=by exists 2
theorem x8:SC ["self"] "wish_end" "State.wish_end" (ic 53 2):=by exists 2
theorem zh:SC ["self"] "may_put" "State.may_put" (ic 53 3):=by exists 2
theorem CP:SC ["self"] "begun" "State.begun" (ic 53 4):=by exists 2
theorem CO:SC ["self"] "ended" "State.ended" (ic 53 5):=by exists 2
theorem x9:SC ["self"] "answered" "State.answered" (ic 53 6):=by exists 2
theorem FJ:SC ["self"] "name" "Shut.name" (ic 54 0):=by exists 2
theorem wj:SC ["self"] "wish_begin" "Shut.wish_begin" (ic 54 1):=by exists 2
theorem Eh:SC ["self"] "begun" "Shut.begun" (ic 54 2):=by exists 2
theorem Br:SC ["self"] "name" "Calling.name" (ic 55 0):=by exists 2
theorem vg:SC ["self"] "wish_end" "Calling.wish_end" (ic 55 1):=by exists 2
theorem wu:SC ["self"] "may_put" "Calling.may_put" (ic 55 2):=by exists 2
theorem zy:SC ["self"] "begun" "Calling.begun" (ic 55 3):=by exists 2
theorem FL:SC ["self"] "name" "Open.name" (ic 56 0):=by exists 2
theorem zj:SC ["self"] "wish_end" "Open.wish_end" (ic 56 1):=by exists 2
theorem Bm:SC ["self"] "may_put" "Open.may_put" (ic 56 2):=by exists 2
theorem Ej:SC ["self"] "ended" "Open.ended" (ic 56 3):=by exists 2
theorem FN:SC ["self"] "name" "Left.name" (ic 57 0):=by exists 2
theorem zr:SC ["self"] "wish_end" "Left.wish_end" (ic 57 1):=by exists 2
theorem Bn:SC ["self"] "may_put" "Left.may_put" (ic 57 2):=by exists 2
theorem Bp:SC ["self"] "name" "Leaving.name" (ic 58 0):=by exists 2
theorem zu:SC ["self"] "ended" "Leaving.ended" (ic 58 1):=by exists 2
theorem ve:SC ["self"] "answered" "Leaving.answered" (ic 58 2):=by exists 2
theorem Bk:SC ["self"] "name" "Waiting.name" (ic 59 0):=by exists 2
theorem zc:SC ["self"] "ended" "Waiting.ended" (ic 59 1):=by exists 2
theorem Bq:SC ["self"] "name" "Closing.name" (ic 60 0):=by exists 2
theorem vf:SC ["self"] "answered" "Closing.answered" (ic 60 1):=by exists 2
theorem x6:SC ["self","ring","room"] "__init__" "Taker.__init__" (ic 62 0):=by exists 2
theorem we:SC ["self"] "room_left" "Taker.room_left" (ic 62 1):=by exists 2
theorem pF:SB ["self","number","thing","steps","place"] ["self","number","thing"] "take" "Taker.take" (ic 62 2):=by exists 2
theorem iN:SB ["self","things"] ["self"] "stand_in_order" "Taker.stand_in_order" (ic 62 3):=by exists 2
theorem sA:SB ["self","held"] ["self"] "answer" "Taker.answer" (ic 62 4):=by exists 2
theorem pG:SB ["self","most","things","place"] ["self","most"] "read" "Taker.read" (ic 62 5):=by exists 2
theorem IX:SY ["text"] "is_text" (top 67):=by exists 2
theorem Bf:SY ["frame"] "read_or_none" (top 68):=by exists 2
theorem zw:SC ["self","side","terms"] "__init__" "Hand.__init__" (ic 69 0):=by exists 2
theorem FO:SC ["self"] "name" "Hand.name" (ic 69 1):=by exists 2
theorem Em:SC ["self"] "begin" "Hand.begin" (ic 69 2):=by exists 2
theorem Hq:SC ["self"] "end" "Hand.end" (ic 69 3):=by exists 2
theorem A3:SB ["self","text","at"] ["self","text"] "put" "Hand.put" (ic 69 4):=by exists 2
theorem qU:SB ["self","many","had_room","things"] ["self","many"] "read" "Hand.read" (ic 69 5):=by exists 2
theorem yc:SB ["self","frame","turn","piece"] ["self","frame","turn"] "come" "Hand.come" (ic 69 6):=by exists 2
theorem qV:SB ["self","piece","turn","low","place"] ["self","piece","turn"] "hear" "Hand.hear" (ic 69 7):=by exists 2
theorem mr:SB ["self","number","thing","taken","in_order"] ["self","number","thing"] "take_in" "Hand.take_in" (ic 69 8):=by exists 2
theorem zv:SC ["self","kind"] "stand_to" "Hand.stand_to" (ic 69 9):=by exists 2
theorem nz:SB ["self","turn","what","word","place"] ["self","turn"] "send" "Hand.send" (ic 69 10):=by exists 2
theorem kr:SB ["self","word","place","answer","thing"] ["self","word","place"] "piece_of" "Hand.piece_of" (ic 69 11):=by exists 2
theorem El:SC ["self"] "quiet" "Hand.quiet" (ic 69 12):=by exists 2
theorem QW:SY ["room","lag"] "need" (top 71):=by exists 2
theorem FI:SY ["rooms"] "are_rooms" (top 78):=by exists 2
theorem FG:SY ["first","longest"] "are_waits" (top 79):=by exists 2
theorem oW:SB ["self","ring","rooms","lag","first","longest","least"] ["self","ring","rooms","lag","first","longest"] "__init__" "Terms.__init__" (ic 80 0):=by exists 2
theorem Bi:SY ["_law_script","_law_k"] "_law_cell_at" (top 82):=by exists 2
theorem lI:SZ ["_law_cell","_law_k","_law_number","_law_turn"] ["_law_cell","_law_k"] "_law_mixed" (top 83):=by exists 2
theorem cA:SZ ["_law_cell","_law_other","_law_rooms","_law_lag","_law_least","_law_first","_law_ring"] ["_law_cell","_law_other"] "_law_terms" (top 84):=by exists 2
theorem fA:SZ ["_law_cell","_law_size","_law_some","_law_signs","_law_k"] ["_law_cell","_law_size"] "_law_text" (top 85):=by exists 2
theorem iX:SZ ["_law_hand","_law_cell","_law_size","_law_told"] ["_law_hand","_law_cell"] "_law_wish" (top 86):=by exists 2
theorem CN:SY ["_law_hand"] "_law_things" (top 87):=by exists 2
theorem fB:SZ ["_law_hand","_law_turn","_law_sent","_law_frame","_law_word","_law_place","_law_due"] ["_law_hand","_law_turn","_law_sent"] "_law_come" (top 88):=by exists 2
theorem gD:SZ ["_law_hands","_law_side","_law_many","_law_turn","_law_taker","_law_out","_law_due","_law_found"] ["_law_hands","_law_side","_law_many","_law_turn"] "_law_reads" (top 89):=by exists 2
theorem nq:SZ ["_law_hands","_law_terms_here","_law_side","_law_sender","_law_taker"] ["_law_hands","_law_terms_here"] "_law_room" (top 90):=by exists 2
theorem xZ:SZ ["_law_hand","_law_idle","_law_sent","_law_sender"] ["_law_hand","_law_idle","_law_sent"] "_law_asks" (top 91):=by exists 2
theorem eZ:SZ ["_law_script","_law_terms_here","_law_hands","_law_way","_law_idle","_law_turn","_law_cell","_law_number","_law_side","_law_taker","_law_full","_law_k","_law_found"] ["_law_script"] "law" (top 92):=by exists 2
section
variable {x v0 v1 v2 v3 v4 v5 v6 v7 v8 v9 v10 v11:V}
noncomputable def xC (v0:V):List (Str×V):=[("most",v0)]
theorem DM:(xC v0).length<1000:=by show 1<1000;decide
theorem DL:bQ "most" v0 []=xC v0:=by kernel_rfl
noncomputable def xA (v0 v1:V):List (Str×V):=[("most",v0),("window",v1)]
theorem DI:(xA v0 v1).length<1000:=by show 2<1000;decide
theorem DH:bQ "window" v1 (xC v0)=xA v0 v1:=by kernel_rfl
noncomputable def xy (v0 v1 v2:V):List (Str×V):=[("most",v0),("window",v1),("knee",v2)]
theorem DG:(xy v0 v1 v2).length<1000:=by show 3<1000;decide
theorem DF:bQ "knee" v2 (xA v0 v1)=xy v0 v1 v2:=by kernel_rfl
noncomputable def a9 (v0 v1 v2 v3:V):List (Str×V):=[("most",v0),("window",v1),("knee",v2),("counted",v3)]
theorem GF:(a9 v0 v1 v2 v3).length<1000:=by show 4<1000;decide
theorem GD:bQ "counted" v3 (xy v0 v1 v2)=a9 v0 v1 v2 v3:=by kernel_rfl
theorem yH:(a9 v0 v1 v2 v3).lookup ("most":Str)=some v0:=by kernel_rfl
theorem vF:(a9 v0 v1 v2 v3).lookup ("window":Str)=some v1:=by kernel_rfl
theorem yI:(a9 v0 v1 v2 v3).lookup ("knee":Str)=some v2:=by kernel_rfl
theorem t6:(a9 v0 v1 v2 v3).lookup ("counted":Str)=some v3:=by kernel_rfl
theorem vC:bQ "window" x (a9 v0 v1 v2 v3)=a9 v0 x v2 v3:=by kernel_rfl
theorem yF:bQ "knee" x (a9 v0 v1 v2 v3)=a9 v0 v1 x v3:=by kernel_rfl
theorem tY:bQ "counted" x (a9 v0 v1 v2 v3)=a9 v0 v1 v2 x:=by kernel_rfl
theorem yG:(a9 v0 v1 v2 v3).lookup ("known":Str)=none:=by kernel_rfl
theorem tZ:(a9 v0 v1 v2 v3).lookup ("know_one":Str)=none:=by kernel_rfl
theorem Aw:(a9 v0 v1 v2 v3).lookup ("half":Str)=none:=by kernel_rfl
theorem vD:(a9 v0 v1 v2 v3).lookup ("ran_out":Str)=none:=by kernel_rfl
theorem vE:(a9 v0 v1 v2 v3).lookup ("hurried":Str)=none:=by kernel_rfl
noncomputable def Ai (v0:V):List (Str×V):=[("longest",v0)]
theorem EF:(Ai v0).length<1000:=by show 1<1000;decide
theorem EE:bQ "longest" v0 []=Ai v0:=by kernel_rfl
noncomputable def Ah (v0 v1:V):List (Str×V):=[("longest",v0),("smooth",v1)]
theorem ED:(Ah v0 v1).length<1000:=by show 2<1000;decide
theorem EC:bQ "smooth" v1 (Ai v0)=Ah v0 v1:=by kernel_rfl
noncomputable def Af (v0 v1 v2:V):List (Str×V):=[("longest",v0),("smooth",v1),("spread",v2)]
theorem EB:(Af v0 v1 v2).length<1000:=by show 3<1000;decide
theorem EA:bQ "spread" v2 (Ah v0 v1)=Af v0 v1 v2:=by kernel_rfl
noncomputable def bE (v0 v1 v2 v3:V):List (Str×V):=[("longest",v0),("smooth",v1),("spread",v2),("wait",v3)]
theorem Ik:(bE v0 v1 v2 v3).length<1000:=by show 4<1000;decide
theorem Ij:bQ "wait" v3 (Af v0 v1 v2)=bE v0 v1 v2 v3:=by kernel_rfl
theorem vx:(bE v0 v1 v2 v3).lookup ("longest":Str)=some v0:=by kernel_rfl
theorem xb:(bE v0 v1 v2 v3).lookup ("smooth":Str)=some v1:=by kernel_rfl
theorem xa:(bE v0 v1 v2 v3).lookup ("spread":Str)=some v2:=by kernel_rfl
theorem Ae:(bE v0 v1 v2 v3).lookup ("wait":Str)=some v3:=by kernel_rfl
theorem wZ:bQ "smooth" x (bE v0 v1 v2 v3)=bE v0 x v2 v3:=by kernel_rfl
theorem wY:bQ "spread" x (bE v0 v1 v2 v3)=bE v0 v1 x v3:=by kernel_rfl
theorem Ac:bQ "wait" x (bE v0 v1 v2 v3)=bE v0 v1 v2 x:=by kernel_rfl
theorem vw:(bE v0 v1 v2 v3).lookup ("measured":Str)=none:=by kernel_rfl
theorem rD:(bE v0 v1 v2 v3).lookup ("next_spread":Str)=none:=by kernel_rfl
theorem rE:(bE v0 v1 v2 v3).lookup ("next_smooth":Str)=none:=by kernel_rfl
theorem sI:(bE v0 v1 v2 v3).lookup ("least_wait":Str)=none:=by kernel_rfl
theorem w_:(bE v0 v1 v2 v3).lookup ("ran_out":Str)=none:=by kernel_rfl
noncomputable def iQ (v0:V):List (Str×V):=[("ring",v0)]
theorem Ca:(iQ v0).length<1000:=by show 1<1000;decide
theorem B_:bQ "ring" v0 []=iQ v0:=by kernel_rfl
noncomputable def lX (v0 v1:V):List (Str×V):=[("ring",v0),("ways",v1)]
theorem B9:(lX v0 v1).length<1000:=by show 2<1000;decide
theorem B8:bQ "ways" v1 (iQ v0)=lX v0 v1:=by kernel_rfl
noncomputable def lW (v0 v1 v2:V):List (Str×V):=[("ring",v0),("ways",v1),("meter",v2)]
theorem B7:(lW v0 v1 v2).length<1000:=by show 3<1000;decide
theorem B6:bQ "meter" v2 (lX v0 v1)=lW v0 v1 v2:=by kernel_rfl
noncomputable def tX (v0 v1 v2 v3:V):List (Str×V):=[("ring",v0),("ways",v1),("meter",v2),("things",v3)]
theorem BZ:(tX v0 v1 v2 v3).length<1000:=by show 4<1000;decide
theorem BY:bQ "things" v3 (lW v0 v1 v2)=tX v0 v1 v2 v3:=by kernel_rfl
noncomputable def tW (v0 v1 v2 v3 v4:V):List (Str×V):=[("ring",v0),("ways",v1),("meter",v2),("things",v3),("base",v4)]
theorem BX:(tW v0 v1 v2 v3 v4).length<1000:=by show 5<1000;decide
theorem BW:bQ "base" v4 (tX v0 v1 v2 v3)=tW v0 v1 v2 v3 v4:=by kernel_rfl
noncomputable def tV (v0 v1 v2 v3 v4 v5:V):List (Str×V):=[("ring",v0),("ways",v1),("meter",v2),("things",v3),("base",v4),("top",v5)]
theorem BV:(tV v0 v1 v2 v3 v4 v5).length<1000:=by show 6<1000;decide
theorem BU:bQ "top" v5 (tW v0 v1 v2 v3 v4)=tV v0 v1 v2 v3 v4 v5:=by kernel_rfl
noncomputable def tU (v0 v1 v2 v3 v4 v5 v6:V):List (Str×V):=[("ring",v0),("ways",v1),("meter",v2),("things",v3),("base",v4),("top",v5),("edge",v6)]
theorem BS:(tU v0 v1 v2 v3 v4 v5 v6).length<1000:=by show 7<1000;decide
theorem BR:bQ "edge" v6 (tV v0 v1 v2 v3 v4 v5)=tU v0 v1 v2 v3 v4 v5 v6:=rfl
noncomputable def tT (v0 v1 v2 v3 v4 v5 v6 v7:V):List (Str×V):=[("ring",v0),("ways",v1),("meter",v2),("things",v3),("base",v4),("top",v5),("edge",v6),("clock",v7)]
theorem BQ:(tT v0 v1 v2 v3 v4 v5 v6 v7).length<1000:=by show 8<1000;decide
theorem BP:bQ "clock" v7 (tU v0 v1 v2 v3 v4 v5 v6)=tT v0 v1 v2 v3 v4 v5 v6 v7:=rfl
noncomputable def lV (v0 v1 v2 v3 v4 v5 v6 v7 v8:V):List (Str×V):=[("ring",v0),("ways",v1),("meter",v2),("things",v3),("base",v4),("top",v5),("edge",v6),("clock",v7),("base_hurried",v8)]
theorem BO:(lV v0 v1 v2 v3 v4 v5 v6 v7 v8).length<1000:=by show 9<1000;decide
theorem BN:bQ "base_hurried" v8 (tT v0 v1 v2 v3 v4 v5 v6 v7)=lV v0 v1 v2 v3 v4 v5 v6 v7 v8:=rfl
noncomputable def jP (v0 v1 v2 v3 v4 v5 v6 v7 v8 v9:V):List (Str×V):=[("ring",v0),("ways",v1),("meter",v2),("things",v3),("base",v4),("top",v5),("edge",v6),("clock",v7),("base_hurried",v8),("known_places",v9)]
theorem Av:(jP v0 v1 v2 v3 v4 v5 v6 v7 v8 v9).length<1000:=by show 10<1000;decide
theorem Au:bQ "known_places" v9 (lV v0 v1 v2 v3 v4 v5 v6 v7 v8)=jP v0 v1 v2 v3 v4 v5 v6 v7 v8 v9:=rfl
noncomputable def jO (v0 v1 v2 v3 v4 v5 v6 v7 v8 v9 v10:V):List (Str×V):=[("ring",v0),("ways",v1),("meter",v2),("things",v3),("base",v4),("top",v5),("edge",v6),("clock",v7),("base_hurried",v8),("known_places",v9),("first_turns",v10)]
theorem Ar:(jO v0 v1 v2 v3 v4 v5 v6 v7 v8 v9 v10).length<1000:=by show 11<1000;decide
theorem Aq:bQ "first_turns" v10 (jP v0 v1 v2 v3 v4 v5 v6 v7 v8 v9)=jO v0 v1 v2 v3 v4 v5 v6 v7 v8 v9 v10:=rfl
noncomputable def aM (v0 v1 v2 v3 v4 v5 v6 v7 v8 v9 v10 v11:V):List (Str×V):=[("ring",v0),("ways",v1),("meter",v2),("things",v3),("base",v4),("top",v5),("edge",v6),("clock",v7),("base_hurried",v8),("known_places",v9),("first_turns",v10),("gone_again",v11)]
theorem EH:(aM v0 v1 v2 v3 v4 v5 v6 v7 v8 v9 v10 v11).length<1000:=by show 12<1000;decide
theorem EG:bQ "gone_again" v11 (jO v0 v1 v2 v3 v4 v5 v6 v7 v8 v9 v10)=aM v0 v1 v2 v3 v4 v5 v6 v7 v8 v9 v10 v11:=rfl
theorem xu:(aM v0 v1 v2 v3 v4 v5 v6 v7 v8 v9 v10 v11).lookup ("ring":Str)=some v0:=rfl
theorem xt:(aM v0 v1 v2 v3 v4 v5 v6 v7 v8 v9 v10 v11).lookup ("ways":Str)=some v1:=rfl
theorem vA:(aM v0 v1 v2 v3 v4 v5 v6 v7 v8 v9 v10 v11).lookup ("meter":Str)=some v2:=rfl
theorem tS:(aM v0 v1 v2 v3 v4 v5 v6 v7 v8 v9 v10 v11).lookup ("things":Str)=some v3:=rfl
theorem xx:(aM v0 v1 v2 v3 v4 v5 v6 v7 v8 v9 v10 v11).lookup ("base":Str)=some v4:=rfl
theorem yE:(aM v0 v1 v2 v3 v4 v5 v6 v7 v8 v9 v10 v11).lookup ("top":Str)=some v5:=rfl
theorem xv:(aM v0 v1 v2 v3 v4 v5 v6 v7 v8 v9 v10 v11).lookup ("edge":Str)=some v6:=rfl
theorem vB:(aM v0 v1 v2 v3 v4 v5 v6 v7 v8 v9 v10 v11).lookup ("clock":Str)=some v7:=rfl
theorem oo:(aM v0 v1 v2 v3 v4 v5 v6 v7 v8 v9 v10 v11).lookup ("base_hurried":Str)=some v8:=rfl
theorem om:(aM v0 v1 v2 v3 v4 v5 v6 v7 v8 v9 v10 v11).lookup ("known_places":Str)=some v9:=rfl
theorem oR:(aM v0 v1 v2 v3 v4 v5 v6 v7 v8 v9 v10 v11).lookup ("first_turns":Str)=some v10:=rfl
theorem pL:(aM v0 v1 v2 v3 v4 v5 v6 v7 v8 v9 v10 v11).lookup ("gone_again":Str)=some v11:=rfl
theorem xp:bQ "base" x (aM v0 v1 v2 v3 v4 v5 v6 v7 v8 v9 v10 v11)=aM v0 v1 v2 v3 x v5 v6 v7 v8 v9 v10 v11:=rfl
theorem yC:bQ "top" x (aM v0 v1 v2 v3 v4 v5 v6 v7 v8 v9 v10 v11)=aM v0 v1 v2 v3 v4 x v6 v7 v8 v9 v10 v11:=rfl
theorem xo:bQ "edge" x (aM v0 v1 v2 v3 v4 v5 v6 v7 v8 v9 v10 v11)=aM v0 v1 v2 v3 v4 v5 x v7 v8 v9 v10 v11:=rfl
theorem vy:bQ "clock" x (aM v0 v1 v2 v3 v4 v5 v6 v7 v8 v9 v10 v11)=aM v0 v1 v2 v3 v4 v5 v6 x v8 v9 v10 v11:=rfl
theorem oj:bQ "base_hurried" x (aM v0 v1 v2 v3 v4 v5 v6 v7 v8 v9 v10 v11)=aM v0 v1 v2 v3 v4 v5 v6 v7 x v9 v10 v11:=rfl
theorem qh:(aM v0 v1 v2 v3 v4 v5 v6 v7 v8 v9 v10 v11).lookup ("put":Str)=none:=rfl
theorem yD:(aM v0 v1 v2 v3 v4 v5 v6 v7 v8 v9 v10 v11).lookup ("many":Str)=none:=rfl
theorem xq:(aM v0 v1 v2 v3 v4 v5 v6 v7 v8 v9 v10 v11).lookup ("thing":Str)=none:=rfl
theorem xr:(aM v0 v1 v2 v3 v4 v5 v6 v7 v8 v9 v10 v11).lookup ("heard":Str)=none:=rfl
theorem rJ:(aM v0 v1 v2 v3 v4 v5 v6 v7 v8 v9 v10 v11).lookup ("grow_base":Str)=none:=rfl
theorem rH:(aM v0 v1 v2 v3 v4 v5 v6 v7 v8 v9 v10 v11).lookup ("note_held":Str)=none:=rfl
theorem pK:(aM v0 v1 v2 v3 v4 v5 v6 v7 v8 v9 v10 v11).lookup ("newly_known":Str)=none:=rfl
theorem lU:(aM v0 v1 v2 v3 v4 v5 v6 v7 v8 v9 v10 v11).lookup ("known_above_base":Str)=none:=rfl
theorem rF:(aM v0 v1 v2 v3 v4 v5 v6 v7 v8 v9 v10 v11).lookup ("under_way":Str)=none:=rfl
theorem pJ:(aM v0 v1 v2 v3 v4 v5 v6 v7 v8 v9 v10 v11).lookup ("thing_waits":Str)=none:=rfl
theorem oP:(aM v0 v1 v2 v3 v4 v5 v6 v7 v8 v9 v10 v11).lookup ("clock_is_out":Str)=none:=rfl
theorem oO:(aM v0 v1 v2 v3 v4 v5 v6 v7 v8 v9 v10 v11).lookup ("hurry_is_due":Str)=none:=rfl
theorem qi:(aM v0 v1 v2 v3 v4 v5 v6 v7 v8 v9 v10 v11).lookup ("new_may_go":Str)=none:=rfl
theorem BM:(aM v0 v1 v2 v3 v4 v5 v6 v7 v8 v9 v10 v11).lookup ("go":Str)=none:=by kernel_rfl
theorem rG:(aM v0 v1 v2 v3 v4 v5 v6 v7 v8 v9 v10 v11).lookup ("set_clock":Str)=none:=rfl
theorem sL:(aM v0 v1 v2 v3 v4 v5 v6 v7 v8 v9 v10 v11).lookup ("go_again":Str)=none:=rfl
theorem vz:(aM v0 v1 v2 v3 v4 v5 v6 v7 v8 v9 v10 v11).lookup ("go_new":Str)=none:=rfl
theorem oQ:(aM v0 v1 v2 v3 v4 v5 v6 v7 v8 v9 v10 v11).lookup ("ask_for_room":Str)=none:=rfl
noncomputable def xn (v0 v1:V):List (Str×V):=[("ring",v0),("room",v1)]
theorem DE:(xn v0 v1).length<1000:=by show 2<1000;decide
theorem DC:bQ "room" v1 (iQ v0)=xn v0 v1:=by kernel_rfl
noncomputable def xl (v0 v1 v2:V):List (Str×V):=[("ring",v0),("room",v1),("got",v2)]
theorem DB:(xl v0 v1 v2).length<1000:=by show 3<1000;decide
theorem DA:bQ "got" v2 (xn v0 v1)=xl v0 v1 v2:=by kernel_rfl
noncomputable def xk (v0 v1 v2 v3:V):List (Str×V):=[("ring",v0),("room",v1),("got",v2),("out",v3)]
theorem Dz:(xk v0 v1 v2 v3).length<1000:=by show 4<1000;decide
theorem Dy:bQ "out" v3 (xl v0 v1 v2)=xk v0 v1 v2 v3:=by kernel_rfl
noncomputable def bV (v0 v1 v2 v3 v4:V):List (Str×V):=[("ring",v0),("room",v1),("got",v2),("out",v3),("kept",v4)]
theorem GC:(bV v0 v1 v2 v3 v4).length<1000:=by show 5<1000;decide
theorem GB:bQ "kept" v4 (xk v0 v1 v2 v3)=bV v0 v1 v2 v3 v4:=by kernel_rfl
theorem yA:(bV v0 v1 v2 v3 v4).lookup ("ring":Str)=some v0:=by kernel_rfl
theorem yz:(bV v0 v1 v2 v3 v4).lookup ("room":Str)=some v1:=by kernel_rfl
theorem Ap:(bV v0 v1 v2 v3 v4).lookup ("got":Str)=some v2:=by kernel_rfl
theorem Ao:(bV v0 v1 v2 v3 v4).lookup ("out":Str)=some v3:=by kernel_rfl
theorem yB:(bV v0 v1 v2 v3 v4).lookup ("kept":Str)=some v4:=by kernel_rfl
theorem Ak:bQ "got" x (bV v0 v1 v2 v3 v4)=bV v0 v1 x v3 v4:=by kernel_rfl
theorem Aj:bQ "out" x (bV v0 v1 v2 v3 v4)=bV v0 v1 v2 x v4:=by kernel_rfl
theorem sJ:(bV v0 v1 v2 v3 v4).lookup ("room_left":Str)=none:=by kernel_rfl
theorem Am:(bV v0 v1 v2 v3 v4).lookup ("take":Str)=none:=by kernel_rfl
theorem oi:(bV v0 v1 v2 v3 v4).lookup ("stand_in_order":Str)=none:=by kernel_rfl
theorem xj:(bV v0 v1 v2 v3 v4).lookup ("answer":Str)=none:=by kernel_rfl
theorem An:(bV v0 v1 v2 v3 v4).lookup ("read":Str)=none:=by kernel_rfl
noncomputable def AD (v0:V):List (Str×V):=[("side",v0)]
theorem EV:(AD v0).length<1000:=by show 1<1000;decide
theorem EU:bQ "side" v0 []=AD v0:=by kernel_rfl
noncomputable def qj (v0 v1:V):List (Str×V):=[("side",v0),("ring",v1)]
theorem ET:(qj v0 v1).length<1000:=by show 2<1000;decide
theorem ES:bQ "ring" v1 (AD v0)=qj v0 v1:=by kernel_rfl
noncomputable def d6 (v0 v1 v2:V):List (Str×V):=[("side",v0),("ring",v1),("taker",v2)]
theorem ER:(d6 v0 v1 v2).length<1000:=by show 3<1000;decide
theorem EO:bQ "taker" v2 (qj v0 v1)=d6 v0 v1 v2:=by kernel_rfl
noncomputable def dF (v0 v1 v2 v3:V):List (Str×V):=[("side",v0),("ring",v1),("taker",v2),("sender",v3)]
theorem EN:(dF v0 v1 v2 v3).length<1000:=by show 4<1000;decide
theorem EM:bQ "sender" v3 (d6 v0 v1 v2)=dF v0 v1 v2 v3:=by kernel_rfl
noncomputable def AA (v0 v1 v2 v3 v4:V):List (Str×V):=[("side",v0),("ring",v1),("taker",v2),("sender",v3),("state",v4)]
theorem EL:(AA v0 v1 v2 v3 v4).length<1000:=by show 5<1000;decide
theorem EK:bQ "state" v4 (dF v0 v1 v2 v3)=AA v0 v1 v2 v3 v4:=by kernel_rfl
noncomputable def uT (v0 v1 v2 v3 v4 v5:V):List (Str×V):=[("side",v0),("ring",v1),("taker",v2),("sender",v3),("state",v4),("answer_due",v5)]
theorem EJ:(uT v0 v1 v2 v3 v4 v5).length<1000:=by show 6<1000;decide
theorem EI:bQ "answer_due" v5 (AA v0 v1 v2 v3 v4)=uT v0 v1 v2 v3 v4 v5:=by kernel_rfl
noncomputable def aX (v0 v1 v2 v3 v4 v5 v6:V):List (Str×V):=[("side",v0),("ring",v1),("taker",v2),("sender",v3),("state",v4),("answer_due",v5),("end_places",v6)]
theorem Im:(aX v0 v1 v2 v3 v4 v5 v6).length<1000:=by show 7<1000;decide
theorem Il:bQ "end_places" v6 (uT v0 v1 v2 v3 v4 v5)=aX v0 v1 v2 v3 v4 v5 v6:=rfl
theorem Az:(aX v0 v1 v2 v3 v4 v5 v6).lookup ("ring":Str)=some v1:=by kernel_rfl
theorem yK:(aX v0 v1 v2 v3 v4 v5 v6).lookup ("taker":Str)=some v2:=by kernel_rfl
theorem xE:(aX v0 v1 v2 v3 v4 v5 v6).lookup ("sender":Str)=some v3:=by kernel_rfl
theorem yL:(aX v0 v1 v2 v3 v4 v5 v6).lookup ("state":Str)=some v4:=by kernel_rfl
theorem rM:(aX v0 v1 v2 v3 v4 v5 v6).lookup ("answer_due":Str)=some v5:=by kernel_rfl
theorem rL:(aX v0 v1 v2 v3 v4 v5 v6).lookup ("end_places":Str)=some v6:=by kernel_rfl
theorem yJ:bQ "state" x (aX v0 v1 v2 v3 v4 v5 v6)=aX v0 v1 v2 v3 x v5 v6:=rfl
theorem rK:bQ "answer_due" x (aX v0 v1 v2 v3 v4 v5 v6)=aX v0 v1 v2 v3 v4 x v6:=rfl
theorem Cd:(aX v0 v1 v2 v3 v4 v5 v6).lookup ("name":Str)=none:=by kernel_rfl
theorem Ay:(aX v0 v1 v2 v3 v4 v5 v6).lookup ("begin":Str)=none:=by kernel_rfl
theorem DO:(aX v0 v1 v2 v3 v4 v5 v6).lookup ("end":Str)=none:=by kernel_rfl
theorem DN:(aX v0 v1 v2 v3 v4 v5 v6).lookup ("put":Str)=none:=by kernel_rfl
theorem Cc:(aX v0 v1 v2 v3 v4 v5 v6).lookup ("read":Str)=none:=by kernel_rfl
theorem Cf:(aX v0 v1 v2 v3 v4 v5 v6).lookup ("come":Str)=none:=by kernel_rfl
theorem Ce:(aX v0 v1 v2 v3 v4 v5 v6).lookup ("hear":Str)=none:=by kernel_rfl
theorem xD:(aX v0 v1 v2 v3 v4 v5 v6).lookup ("take_in":Str)=none:=by kernel_rfl
theorem vG:(aX v0 v1 v2 v3 v4 v5 v6).lookup ("stand_to":Str)=none:=by kernel_rfl
theorem Cb:(aX v0 v1 v2 v3 v4 v5 v6).lookup ("send":Str)=none:=by kernel_rfl
theorem vH:(aX v0 v1 v2 v3 v4 v5 v6).lookup ("piece_of":Str)=none:=by kernel_rfl
theorem Ax:(aX v0 v1 v2 v3 v4 v5 v6).lookup ("quiet":Str)=none:=by kernel_rfl
noncomputable def xi (v0 v1:V):List (Str×V):=[("ring",v0),("rooms",v1)]
theorem Dx:(xi v0 v1).length<1000:=by show 2<1000;decide
theorem Dw:bQ "rooms" v1 (iQ v0)=xi v0 v1:=by kernel_rfl
noncomputable def xh (v0 v1 v2:V):List (Str×V):=[("ring",v0),("rooms",v1),("lag",v2)]
theorem Dv:(xh v0 v1 v2).length<1000:=by show 3<1000;decide
theorem Du:bQ "lag" v2 (xi v0 v1)=xh v0 v1 v2:=by kernel_rfl
noncomputable def xg (v0 v1 v2 v3:V):List (Str×V):=[("ring",v0),("rooms",v1),("lag",v2),("first",v3)]
theorem Ds:(xg v0 v1 v2 v3).length<1000:=by show 4<1000;decide
theorem Dr:bQ "first" v3 (xh v0 v1 v2)=xg v0 v1 v2 v3:=by kernel_rfl
noncomputable def jN (v0 v1 v2 v3 v4:V):List (Str×V):=[("ring",v0),("rooms",v1),("lag",v2),("first",v3),("longest",v4)]
theorem GA:bQ "longest" v4 (xg v0 v1 v2 v3)=jN v0 v1 v2 v3 v4:=by kernel_rfl
theorem yy:(jN v0 v1 v2 v3 v4).lookup ("ring":Str)=some v0:=by kernel_rfl
theorem xc:(jN v0 v1 v2 v3 v4).lookup ("rooms":Str)=some v1:=by kernel_rfl
theorem xf:(jN v0 v1 v2 v3 v4).lookup ("first":Str)=some v3:=by kernel_rfl
theorem tQ:(jN v0 v1 v2 v3 v4).lookup ("longest":Str)=some v4:=by kernel_rfl
end
abbrev ai:Addr:=304
abbrev av:Addr:=374
abbrev aa:Addr:=515
abbrev ax:Addr:=863
abbrev aA:Addr:=982
abbrev bj:Addr:=1020
abbrev bp:Addr:=24
abbrev aN:Addr:=44
abbrev aR:Addr:=63
abbrev aI:Addr:=82
abbrev aT:Addr:=94
abbrev aP:Addr:=113
abbrev aZ:Addr:=125
abbrev aK:Addr:=144
abbrev SK:Addr:=578
abbrev ay:Addr:=613
abbrev ae:Addr:=653
abbrev az:Addr:=693
abbrev aB:Addr:=726
abbrev af:Addr:=759
abbrev ag:Addr:=785
abbrev ah:Addr:=811
structure Txt (K:W.Frag) (mg:Str->Option Value):Prop where
 bK:dH K mg "Meter" ai
 nI:bB K ai "most"
 bN:bB K ai "window"
 dR:bB K ai "knee"
 cv:bB K ai "counted"
 bJ:dH K mg "Ways" av
 fh:bB K av "longest"
 bC:bB K av "smooth"
 b9:bB K av "spread"
 dI:bB K av "wait"
 aC:dH K mg "Sender" aa
 lM:bB K aa "ring"
 cO:bB K aa "ways"
 cZ:bB K aa "meter"
 da:bB K aa "things"
 aW:bB K aa "base"
 bh:bB K aa "top"
 cQ:bB K aa "edge"
 cG:bB K aa "clock"
 bZ:bB K aa "base_hurried"
 bY:bB K aa "known_places"
 cE:bB K aa "first_turns"
 cI:bB K aa "gone_again"
 ba:dH K mg "Taker" ax
 js:bB K ax "ring"
 nG:bB K ax "room"
 bP:bB K ax "got"
 cu:bB K ax "out"
 cL:bB K ax "kept"
 aV:dH K mg "Hand" aA
 tJ:bB K aA "side"
 iP:bB K aA "ring"
 cp:bB K aA "taker"
 bc:bB K aA "sender"
 bM:bB K aA "state"
 bW:bB K aA "answer_due"
 df:bB K aA "end_places"
 c7:dH K mg "Terms" bj
 fH:bB K bj "ring"
 dj:bB K bj "rooms"
 tI:bB K bj "lag"
 lL:bB K bj "first"
 dY:bB K bj "longest"
 xP:yQ K mg "RoadError" bp
 vT:yQ K mg "NoFrame" aN
 yV:yQ K mg "Spoilt" aR
 vS:yQ K mg "NoPiece" aI
 AY:yQ K mg "BadTerms" aT
 CC:yQ K mg "NotWide" aP
 CD:yQ K mg "BadText" aZ
 yW:yQ K mg "NotNow" aK
 uP:UO K mg "NoFrame" aN bp
 Aa:Iz K aN
 wW:W.keepIn K (.ref aN)=true
 ft:GV K aN "frame"
 wz:W.kitOne K (.ref aN) (.type "ValueError")=some true
 gg:W.kitOne K (.ref aN) (.ref bp)=some true
 gr:isx K (.ref aN) bp=some true
 eO:W.kitOne K (.ref aN) (.ref aN)=some true
 eU:isx K (.ref aN) aN=some true
 kJ:W.kitOne K (.ref aN) (.ref aR)=some false
 kZ:isx K (.ref aN) aR=some false
 jc:W.kitOne K (.ref aN) (.ref aI)=some false
 jE:isx K (.ref aN) aI=some false
 gZ:W.kitOne K (.ref aN) (.ref aT)=some false
 h9:isx K (.ref aN) aT=some false
 ja:W.kitOne K (.ref aN) (.ref aP)=some false
 jD:isx K (.ref aN) aP=some false
 jd:W.kitOne K (.ref aN) (.ref aZ)=some false
 jF:isx K (.ref aN) aZ=some false
 kK:W.kitOne K (.ref aN) (.ref aK)=some false
 k7:isx K (.ref aN) aK=some false
 xQ:UO K mg "Spoilt" aR bp
 Dp:Iz K aR
 z7:W.keepIn K (.ref aR)=true
 gG:GV K aR "frame"
 zC:W.kitOne K (.ref aR) (.type "ValueError")=some true
 gV:W.kitOne K (.ref aR) (.ref bp)=some true
 hU:isx K (.ref aR) bp=some true
 fE:W.kitOne K (.ref aR) (.ref aN)=some false
 fK:isx K (.ref aR) aN=some false
 gK:W.kitOne K (.ref aR) (.ref aR)=some true
 gL:isx K (.ref aR) aR=some true
 kz:W.kitOne K (.ref aR) (.ref aI)=some false
 kP:isx K (.ref aR) aI=some false
 iY:W.kitOne K (.ref aR) (.ref aT)=some false
 jt:isx K (.ref aR) aT=some false
 ku:W.kitOne K (.ref aR) (.ref aP)=some false
 kO:isx K (.ref aR) aP=some false
 kA:W.kitOne K (.ref aR) (.ref aZ)=some false
 kQ:isx K (.ref aR) aZ=some false
 mv:W.kitOne K (.ref aR) (.ref aK)=some false
 mD:isx K (.ref aR) aK=some false
 pT:UO K mg "NoPiece" aI bp
 z_:Iz K aI
 rA:W.keepIn K (.ref aI)=true
 gI:GV K aI "what"
 wy:W.kitOne K (.ref aI) (.type "ValueError")=some true
 gf:W.kitOne K (.ref aI) (.ref bp)=some true
 gq:isx K (.ref aI) bp=some true
 eK:W.kitOne K (.ref aI) (.ref aN)=some false
 eS:isx K (.ref aI) aN=some false
 fF:W.kitOne K (.ref aI) (.ref aR)=some false
 fL:isx K (.ref aI) aR=some false
 eJ:W.kitOne K (.ref aI) (.ref aI)=some true
 eQ:isx K (.ref aI) aI=some true
 gY:W.kitOne K (.ref aI) (.ref aT)=some false
 hZ:isx K (.ref aI) aT=some false
 i9:W.kitOne K (.ref aI) (.ref aP)=some false
 jB:isx K (.ref aI) aP=some false
 i_:W.kitOne K (.ref aI) (.ref aZ)=some false
 jC:isx K (.ref aI) aZ=some false
 kI:W.kitOne K (.ref aI) (.ref aK)=some false
 kY:isx K (.ref aI) aK=some false
 qt:D6 K mg "BadTerms" aT bp none
 wX:Iz K aT
 tf:W.kitOne K (.ref aT) (.type "ValueError")=some true
 e_:W.kitOne K (.ref aT) (.ref bp)=some true
 fi:isx K (.ref aT) bp=some true
 g_:W.kitOne K (.ref aT) (.ref aN)=some false
 ig:isx K (.ref aT) aN=some false
 ji:W.kitOne K (.ref aT) (.ref aR)=some false
 jK:isx K (.ref aT) aR=some false
 g9:W.kitOne K (.ref aT) (.ref aI)=some false
 ie:isx K (.ref aT) aI=some false
 gj:W.kitOne K (.ref aT) (.ref aT)=some true
 gu:isx K (.ref aT) aT=some true
 g8:W.kitOne K (.ref aT) (.ref aP)=some false
 ia:isx K (.ref aT) aP=some false
 hG:W.kitOne K (.ref aT) (.ref aZ)=some false
 ij:isx K (.ref aT) aZ=some false
 jj:W.kitOne K (.ref aT) (.ref aK)=some false
 jL:isx K (.ref aT) aK=some false
 uO:UO K mg "NotWide" aP bp
 z9:Iz K aP
 wV:W.keepIn K (.ref aP)=true
 fq:GV K aP "least"
 wx:W.kitOne K (.ref aP) (.type "ValueError")=some true
 gd:W.kitOne K (.ref aP) (.ref bp)=some true
 gp:isx K (.ref aP) bp=some true
 i6:W.kitOne K (.ref aP) (.ref aN)=some false
 jx:isx K (.ref aP) aN=some false
 kB:W.kitOne K (.ref aP) (.ref aR)=some false
 kR:isx K (.ref aP) aR=some false
 i5:W.kitOne K (.ref aP) (.ref aI)=some false
 jv:isx K (.ref aP) aI=some false
 gW:W.kitOne K (.ref aP) (.ref aT)=some false
 hV:isx K (.ref aP) aT=some false
 iZ:W.kitOne K (.ref aP) (.ref aP)=some true
 ju:isx K (.ref aP) aP=some true
 i7:W.kitOne K (.ref aP) (.ref aZ)=some false
 jy:isx K (.ref aP) aZ=some false
 kC:W.kitOne K (.ref aP) (.ref aK)=some false
 kS:isx K (.ref aP) aK=some false
 yX:D6 K mg "BadText" aZ bp none
 Ab:Iz K aZ
 wA:W.kitOne K (.ref aZ) (.type "ValueError")=some true
 gi:W.kitOne K (.ref aZ) (.ref bp)=some true
 gs:isx K (.ref aZ) bp=some true
 jg:W.kitOne K (.ref aZ) (.ref aN)=some false
 jI:isx K (.ref aZ) aN=some false
 kL:W.kitOne K (.ref aZ) (.ref aR)=some false
 k8:isx K (.ref aZ) aR=some false
 jf:W.kitOne K (.ref aZ) (.ref aI)=some false
 jH:isx K (.ref aZ) aI=some false
 g7:W.kitOne K (.ref aZ) (.ref aT)=some false
 h_:isx K (.ref aZ) aT=some false
 je:W.kitOne K (.ref aZ) (.ref aP)=some false
 jG:isx K (.ref aZ) aP=some false
 jh:W.kitOne K (.ref aZ) (.ref aZ)=some true
 jJ:isx K (.ref aZ) aZ=some true
 kM:W.kitOne K (.ref aZ) (.ref aK)=some false
 k9:isx K (.ref aZ) aK=some false
 nN:UO K mg "NotNow" aK bp
 Dq:Iz K aK
 qd:W.keepIn K (.ref aK)=true
 gH:GV K aK "state"
 iS:GV K aK "wish"
 zD:W.kitOne K (.ref aK) (.type "ValueError")=some true
 gX:W.kitOne K (.ref aK) (.ref bp)=some true
 hX:isx K (.ref aK) bp=some true
 kG:W.kitOne K (.ref aK) (.ref aN)=some false
 kW:isx K (.ref aK) aN=some false
 mw:W.kitOne K (.ref aK) (.ref aR)=some false
 mE:isx K (.ref aK) aR=some false
 kE:W.kitOne K (.ref aK) (.ref aI)=some false
 kU:isx K (.ref aK) aI=some false
 i8:W.kitOne K (.ref aK) (.ref aT)=some false
 jA:isx K (.ref aK) aT=some false
 kD:W.kitOne K (.ref aK) (.ref aP)=some false
 kT:isx K (.ref aK) aP=some false
 kH:W.kitOne K (.ref aK) (.ref aZ)=some false
 kX:isx K (.ref aK) aZ=some false
 mx:W.kitOne K (.ref aK) (.ref aK)=some true
 mF:isx K (.ref aK) aK=some true
 KN:dH K mg "State" SK
 mG:dH K mg "Shut" ay
 d5:dH K mg "Calling" ae
 n9:dH K mg "Open" az
 pI:dH K mg "Left" aB
 dB:dH K mg "Leaving" af
 d4:dH K mg "Waiting" ag
 dC:dH K mg "Closing" ah
 yr:yS K ay
 lg:MethAt K ay "wish_end" "State.wish_end" (ic 53 2)
 mI:MethAt K ay "may_put" "State.may_put" (ic 53 3)
 pM:MethAt K ay "ended" "State.ended" (ic 53 5)
 lh:MethAt K ay "answered" "State.answered" (ic 53 6)
 wO:yS K ae
 eE:MethAt K ae "wish_begin" "State.wish_begin" (ic 53 1)
 ly:MethAt K ae "ended" "State.ended" (ic 53 5)
 gz:MethAt K ae "answered" "State.answered" (ic 53 6)
 Cu:yS K az
 ir:MethAt K az "wish_begin" "State.wish_begin" (ic 53 1)
 pN:MethAt K az "begun" "State.begun" (ic 53 4)
 lp:MethAt K az "answered" "State.answered" (ic 53 6)
 Gn:yS K aB
 iu:MethAt K aB "wish_begin" "State.wish_begin" (ic 53 1)
 pP:MethAt K aB "begun" "State.begun" (ic 53 4)
 pO:MethAt K aB "ended" "State.ended" (ic 53 5)
 lq:MethAt K aB "answered" "State.answered" (ic 53 6)
 rl:yS K af
 eB:MethAt K af "wish_begin" "State.wish_begin" (ic 53 1)
 gx:MethAt K af "wish_end" "State.wish_end" (ic 53 2)
 iw:MethAt K af "may_put" "State.may_put" (ic 53 3)
 lr:MethAt K af "begun" "State.begun" (ic 53 4)
 wN:yS K ag
 eA:MethAt K ag "wish_begin" "State.wish_begin" (ic 53 1)
 gv:MethAt K ag "wish_end" "State.wish_end" (ic 53 2)
 iq:MethAt K ag "may_put" "State.may_put" (ic 53 3)
 k_:MethAt K ag "begun" "State.begun" (ic 53 4)
 gw:MethAt K ag "answered" "State.answered" (ic 53 6)
 rp:yS K ah
 eC:MethAt K ah "wish_begin" "State.wish_begin" (ic 53 1)
 gy:MethAt K ah "wish_end" "State.wish_end" (ic 53 2)
 iy:MethAt K ah "may_put" "State.may_put" (ic 53 3)
 lx:MethAt K ah "begun" "State.begun" (ic 53 4)
 lu:MethAt K ah "ended" "State.ended" (ic 53 5)
 iH:MethAt K aN "__init__" "NoFrame.__init__" (ic 2 0)
 jS:MethAt K aR "__init__" "Spoilt.__init__" (ic 3 0)
 iG:MethAt K aI "__init__" "NoPiece.__init__" (ic 4 0)
 iF:MethAt K aP "__init__" "NotWide.__init__" (ic 6 0)
 jW:MethAt K aK "__init__" "NotNow.__init__" (ic 8 0)
 AK:cn K mg "is_from" (top 10)
 xG:cn K mg "is_piece" (top 26)
 AJ:cn K mg "is_held" (top 27)
 t_:cn K mg "are_signs" (top 28)
 t8:cn K mg "remainder" (top 29)
 AF:cn K mg "written" (top 30)
 AM:cn K mg "body_of" (top 31)
 ou:cn K mg "bits_of_held" (top 32)
 mJ:cn K mg "bits_of_signs" (top 33)
 xH:cn K mg "is_frame" (top 34)
 JJ:cn K mg "read" (top 35)
 ot:cn K mg "likely_piece" (top 36)
 AH:cn K mg "kind_of" (top 37)
 AL:cn K mg "held_of" (top 38)
 xF:cn K mg "signs_of" (top 39)
 AG:cn K mg "sign_of" (top 40)
 lD:MethAt K ai "__init__" "Meter.__init__" (ic 42 0)
 pS:MethAt K ai "known" "Meter.known" (ic 42 1)
 lC:MethAt K ai "know_one" "Meter.know_one" (ic 42 2)
 rW:MethAt K ai "half" "Meter.half" (ic 42 3)
 mQ:MethAt K ai "ran_out" "Meter.ran_out" (ic 42 4)
 mR:MethAt K ai "hurried" "Meter.hurried" (ic 42 5)
 GH:cn K mg "ahead" (top 44)
 DS:cn K mg "lowest" (top 47)
 mL:MethAt K av "__init__" "Ways.__init__" (ic 48 0)
 mK:MethAt K av "measured" "Ways.measured" (ic 48 1)
 iz:MethAt K av "next_spread" "Ways.next_spread" (ic 48 2)
 iA:MethAt K av "next_smooth" "Ways.next_smooth" (ic 48 3)
 jQ:MethAt K av "least_wait" "Ways.least_wait" (ic 48 4)
 ox:MethAt K av "ran_out" "Ways.ran_out" (ic 48 5)
 jV:MethAt K aa "__init__" "Sender.__init__" (ic 51 0)
 rT:MethAt K aa "put" "Sender.put" (ic 51 1)
 pR:MethAt K aa "many" "Sender.many" (ic 51 2)
 oA:MethAt K aa "thing" "Sender.thing" (ic 51 3)
 oB:MethAt K aa "heard" "Sender.heard" (ic 51 4)
 iE:MethAt K aa "grow_base" "Sender.grow_base" (ic 51 5)
 iD:MethAt K aa "note_held" "Sender.note_held" (ic 51 6)
 fo:MethAt K aa "newly_known" "Sender.newly_known" (ic 51 7)
 c_:MethAt K aa "known_above_base" "Sender.known_above_base" (ic 51 8)
 iB:MethAt K aa "under_way" "Sender.under_way" (ic 51 9)
 fj:MethAt K aa "thing_waits" "Sender.thing_waits" (ic 51 10)
 eG:MethAt K aa "clock_is_out" "Sender.clock_is_out" (ic 51 11)
 eF:MethAt K aa "hurry_is_due" "Sender.hurry_is_due" (ic 51 12)
 gA:MethAt K aa "new_may_go" "Sender.new_may_go" (ic 51 13)
 uA:MethAt K aa "go" "Sender.go" (ic 51 14)
 iC:MethAt K aa "set_clock" "Sender.set_clock" (ic 51 15)
 jU:MethAt K aa "go_again" "Sender.go_again" (ic 51 16)
 mN:MethAt K aa "go_new" "Sender.go_new" (ic 51 17)
 eI:MethAt K aa "ask_for_room" "Sender.ask_for_room" (ic 51 18)
 uz:MethAt K ay "name" "Shut.name" (ic 54 0)
 jT:MethAt K ay "wish_begin" "Shut.wish_begin" (ic 54 1)
 rS:MethAt K ay "begun" "Shut.begun" (ic 54 2)
 oI:MethAt K ae "name" "Calling.name" (ic 55 0)
 iK:MethAt K ae "wish_end" "Calling.wish_end" (ic 55 1)
 jX:MethAt K ae "may_put" "Calling.may_put" (ic 55 2)
 mX:MethAt K ae "begun" "Calling.begun" (ic 55 3)
 uB:MethAt K az "name" "Open.name" (ic 56 0)
 mO:MethAt K az "wish_end" "Open.wish_end" (ic 56 1)
 oC:MethAt K az "may_put" "Open.may_put" (ic 56 2)
 rV:MethAt K az "ended" "Open.ended" (ic 56 3)
 uC:MethAt K aB "name" "Left.name" (ic 57 0)
 mS:MethAt K aB "wish_end" "Left.wish_end" (ic 57 1)
 oE:MethAt K aB "may_put" "Left.may_put" (ic 57 2)
 oF:MethAt K af "name" "Leaving.name" (ic 58 0)
 mT:MethAt K af "ended" "Leaving.ended" (ic 58 1)
 iI:MethAt K af "answered" "Leaving.answered" (ic 58 2)
 oy:MethAt K ag "name" "Waiting.name" (ic 59 0)
 mM:MethAt K ag "ended" "Waiting.ended" (ic 59 1)
 oH:MethAt K ah "name" "Closing.name" (ic 60 0)
 iJ:MethAt K ah "answered" "Closing.answered" (ic 60 1)
 lB:MethAt K ax "__init__" "Taker.__init__" (ic 62 0)
 jR:MethAt K ax "room_left" "Taker.room_left" (ic 62 1)
 rQ:MethAt K ax "take" "Taker.take" (ic 62 2)
 dU:MethAt K ax "stand_in_order" "Taker.stand_in_order" (ic 62 3)
 oz:MethAt K ax "answer" "Taker.answer" (ic 62 4)
 rR:MethAt K ax "read" "Taker.read" (ic 62 5)
 AI:cn K mg "is_text" (top 67)
 oq:cn K mg "read_or_none" (top 68)
 mW:MethAt K aA "__init__" "Hand.__init__" (ic 69 0)
 uF:MethAt K aA "name" "Hand.name" (ic 69 1)
 rY:MethAt K aA "begin" "Hand.begin" (ic 69 2)
 xJ:MethAt K aA "end" "Hand.end" (ic 69 3)
 xI:MethAt K aA "put" "Hand.put" (ic 69 4)
 uE:MethAt K aA "read" "Hand.read" (ic 69 5)
 uH:MethAt K aA "come" "Hand.come" (ic 69 6)
 uG:MethAt K aA "hear" "Hand.hear" (ic 69 7)
 oG:MethAt K aA "take_in" "Hand.take_in" (ic 69 8)
 mU:MethAt K aA "stand_to" "Hand.stand_to" (ic 69 9)
 uD:MethAt K aA "send" "Hand.send" (ic 69 10)
 mV:MethAt K aA "piece_of" "Hand.piece_of" (ic 69 11)
 rX:MethAt K aA "quiet" "Hand.quiet" (ic 69 12)
 JK:cn K mg "need" (top 71)
 ur:cn K mg "are_rooms" (top 78)
 t9:cn K mg "are_waits" (top 79)
 lA:MethAt K bj "__init__" "Terms.__init__" (ic 80 0)
 ow:cn K mg "_law_cell_at" (top 82)
 rP:cn K mg "_law_mixed" (top 83)
 rN:cn K mg "_law_terms" (top 84)
 uv:cn K mg "_law_text" (top 85)
 uu:cn K mg "_law_wish" (top 86)
 pQ:cn K mg "_law_things" (top 87)
 ux:cn K mg "_law_come" (top 88)
 rO:cn K mg "_law_reads" (top 89)
 uw:cn K mg "_law_room" (top 90)
 uy:cn K mg "_law_asks" (top 91)
 K8:cn K mg "law" (top 92)
 Qg:mg "abs" = none
 Iw:mg "all" = none
 JR:mg "bool" = none
 Qf:mg "int" = none
 cC:mg "isinstance" = none
 lY:mg "len" = none
 GO:mg "list" = none
 Bb:mg "max" = none
 D2:mg "min" = none
 dv:mg "range" = none
 Ld:mg "str" = none
 Qe:mg "sum" = none
 sf:mg "tuple" = none
 uW:TupAt K mg "KINDS" [.str "bare",.str "signs",.str "begin",.str "end",.str "ask"]
 r_:gF mg "SIGNS" (.str " !\"#$&'()*+,-./0123456789:;<=>?@ABCDEFGHIJKLMNOPQRSTUVWXYZ[\\]^_`abcdefghijklmnopqrstuvwxyz{|}~")
 rZ:TupAt K mg "UNNUMBERED" [.str "bare",.str "ask"]
 lP:gF mg "NUMBER_MOST" (.int 63)
 iL:gF mg "ROOM_MOST_pieces" (.int 16)
 o7:gF mg "HELD_MOST" (.int 15)
 fO:gF mg "SIGNS_MOST" (.int 4)
 se:gF mg "FRAME_BITS" (.int 74)
 nJ:gF mg "CHECK_BITS" (.int 8)
 AU:gF mg "DIVISOR" (.int 263)
 oK:gF mg "DIVISOR_BITS" (.int 9)
 lF:gF mg "REMAINDER_MOST" (.int 255)
 AS:gF mg "NO_KIND" (.str "")
 AR:gF mg "NO_SIGN" (.str "\n")
 jZ:gF mg "WAIT_LEAST_ways" (.int 2)
 lG:gF mg "KNOWN_TO_HURRY" (.int 2)
 uJ:gF mg "TEXT_MOST" (.int 60)
 CA:TupAt K mg "BEGIN" [.str "begin",.str ""]
 Qa:TupAt K mg "END" [.str "end",.str ""]
 uK:gF mg "RING_MOST" (.int 64)
 j2:gF mg "ROOM_MOST_terms" (.int 16)
 xK:gF mg "LAG_MOST" (.int 32)
 dW:gF mg "WAIT_LEAST_terms" (.int 2)
 uI:gF mg "WAIT_MOST" (.int 64)
noncomputable section
open PySem W
abbrev Ob:=Obj
abbrev Pm:=Params
noncomputable abbrev q (x:String) (k:Nat):Value:= .str (Str.ofString x) k
noncomputable abbrev tp (x:List Value):Obj:=⟨.type "tuple",none,.seq x.toArray,#[]⟩
noncomputable abbrev fm (n m:String) (t:Stmt):=FuncData.mk (Str.ofString n) (Str.ofString m) (L2.fM t) (.stmts (L2.dh t)) (L2.bF t)
noncomputable abbrev cd (n:String) (a:Nat) (m:String) (b c:Nat) (l d e f g:Int) (r:Nat) (o:Bool) (k:Int) (s:Nat) (v w x y:Value) (i:Int) (z:Nat):Ob:=⟨.type "code",none,.fields #[q n a,q m b,q "/claim/cut.py" c,.int l 0,.int d 0,.int e 0,.int f 0,.int g 0,.ref r,.bool o,.int k 0,.ref s,v,w,x,y,.int i 0,.int l 0,q "/claim/cut.py" z],#[]⟩
noncomputable abbrev f0 (n m:String) (t:Stmt):Ob:=⟨.none,none,.func (fm n m t 0 [] .none .none .none .none none .none .none 0),#[]⟩
noncomputable abbrev f1 (n m:String) (t:Stmt) (c:Nat) (v:Value) (r:Nat):Ob:=⟨.type "function",none,.func (fm n m t c [] .none .none .none v none (.ref r) .none 0),#[]⟩
noncomputable abbrev den (P:Params) (x:String) (k:Nat) (v:Value):DictEntry:=DictEntry.mk (PyData.keyHash P (Str.ofString x)) (Value.str (Str.ofString x) k) v
noncomputable def up:List Ob->BT->Nat->BT
 | [],t,_=>t
 |o::r,t,n=>up r (t.ins n o) (n+1)
noncomputable def ch:List (Nat×Ob)->BT->BT
 | [],t=>t
 |p::r,t=>ch r (t.ins p.1 p.2)
abbrev nt {α:Type} (n m:String) (t:Stmt) (k:String->String->Stmt->α):α:=k n m t
abbrev cf (n m:String) (t:Stmt) (a:Nat) (l d g:Int) (r i:Nat):Ob:=cd n a m (a+1) (a+2) l d 0 0 g r true 181 (r+1) .none (.ref (r+2)) (.ref (r+3)) (.ref (r+4)) i (i+1)
abbrev ck (n:String) (a:Nat) (l:Int) (r:Nat):Ob:=cd n a n (a+1) (a+2) l 0 0 0 0 r false 181 (r+1) .none .none .none .none (a+3) (a+4)
abbrev q0:=q "slowroad.errors" 187
abbrev q1:=q "RoadError" 189
abbrev q2:=q "RoadError" 197
abbrev q3:=q "slowroad.pieces" 377
abbrev q4:=q "slowroad.ways" 604
abbrev q5:=q "slowroad.meter" 522
abbrev q6:=q "slowroad.sender" 691
abbrev q7:=q "slowroad.states" 879
abbrev q8:=q "State" 881
abbrev q9:=q "State" 889
abbrev Fc:=q "slowroad.hand" 1287
abbrev Rc:=q "slowroad.taker" 1209
abbrev LX:=q "law_slowroad_k67_rooms_and_reading" 1522
abbrev YL:=q "slowroad.terms" 1465
def tql:List String->Nat->List Value
 | [],_=>[]
 |x::r,k=>q x k::tql r (k+1)
abbrev tq (l:List String) (k:Nat):Ob:=tp (tql l k)
noncomputable def ztl:List (Int×Int×Nat)->List Value
 | []=>[]
 |x::r=> .int x.1 0 :: .int x.2.1 0 :: .ref x.2.2::ztl r
abbrev zt (l:List (Int×Int×Nat)):Ob:=⟨.none,none,.fields (ztl l).toArray,#[]⟩
noncomputable abbrev zx (n:String) (b m:List Value) (a:Nat) (s:List Value) (d:Option Value) (t u:Value):Ob:=⟨.type "type",none,.cls (.mk (.ofString n) b (m++ [.type "ValueError",.type "Exception",.type "BaseException",.type "object"]) a (.ofString n) true [] s false none false),#[d,none,some t,some u,some (.builtin "ValueError.__new__"),some (.bool true)]⟩
noncomputable abbrev zo (n:String) (b m:List Value) (a:Nat) (s:List Value) (d:Option Value) (t u:Value):Ob:=⟨.type "type",none,.cls (.mk (.ofString n) b (m++ [.type "object"]) a (.ofString n) true [] s false none false),#[d,none,some t,some u,some (.builtin "object.__new__"),some (.bool true)]⟩
noncomputable abbrev pg:=Challenge.rw_slowroad_k67_rooms_and_reading.row.prog
noncomputable def mdl (P:Pm):List DictEntry:=[den P "__doc__" 166 .none,den P "__package__" 167 .none,den P "__loader__" 168 (.builtin "__main__.__loader__#opaque"),den P "__spec__" 169 .none,den P "__annotations__" 170 (.ref 6),den P "__builtins__" 171 (.ref 4),den P "__file__" 173 (q "/claim/cut.py" 172),den P "__cached__" 174 .none,den P "RoadError" 206 (.ref 24),den P "NoFrame" 231 (.ref 44),den P "Spoilt" 256 (.ref 63),den P "NoPiece" 281 (.ref 82),den P "BadTerms" 297 (.ref 94),den P "NotWide" 322 (.ref 113),den P "BadText" 338 (.ref 125),den P "NotNow" 365 (.ref 144),den P "is_from" 376 (.ref 153),den P "KINDS" 384 (.ref 154),den P "SIGNS" 386 (q " !\"#$&'()*+,-./0123456789:;<=>?@ABCDEFGHIJKLMNOPQRSTUVWXYZ[\\]^_`abcdefghijklmnopqrstuvwxyz{|}~" 385),den P "UNNUMBERED" 389 (.ref 155),den P "NUMBER_MOST" 391 (.int 63 390),den P "ROOM_MOST_pieces" 393 (.int 16 392),den P "HELD_MOST" 395 (.int 15 394),den P "SIGNS_MOST" 397 (.int 4 396),den P "FRAME_BITS" 399 (.int 74 398),den P "CHECK_BITS" 401 (.int 8 400),den P "DIVISOR" 403 (.int 263 402),den P "DIVISOR_BITS" 405 (.int 9 404),den P "REMAINDER_MOST" 407 (.int 255 406),den P "NO_KIND" 409 (q "" 408),den P "NO_SIGN" 411 (q "\n" 410),den P "is_piece" 419 (.ref 162),den P "is_held" 428 (.ref 169),den P "are_signs" 434 (.ref 174),den P "remainder" 442 (.ref 181),den P "written" 450 (.ref 188),den P "body_of" 458 (.ref 195),den P "bits_of_held" 464 (.ref 200),den P "bits_of_signs" 473 (.ref 207),den P "is_frame" 480 (.ref 214),den P "read" 488 (.ref 221),den P "likely_piece" 495 (.ref 228),den P "kind_of" 502 (.ref 235),den P "held_of" 508 (.ref 240),den P "signs_of" 514 (.ref 245),den P "sign_of" 521 (.ref 252),den P "Meter" 592 (.ref 304),den P "ahead" 603 (.ref 315),den P "WAIT_LEAST_ways" 607 (.int 2 606),den P "lowest" 616 (.ref 322),den P "Ways" 690 (.ref 374),den P "KNOWN_TO_HURRY" 694 (.int 2 693),den P "Sender" 878 (.ref 515),den P "State" 949 (.ref 578),den P "Shut" 986 (.ref 613),den P "Calling" 1030 (.ref 653),den P "Open" 1074 (.ref 693),den P "Left" 1111 (.ref 726),den P "Leaving" 1148 (.ref 759),den P "Waiting" 1178 (.ref 785),den P "Closing" 1208 (.ref 811),den P "Taker" 1286 (.ref 863),den P "TEXT_MOST" 1290 (.int 60 1289),den P "BEGIN" 1293 (.ref 868),den P "END" 1296 (.ref 869),den P "is_text" 1302 (.ref 874),den P "read_or_none" 1309 (.ref 881),den P "Hand" 1454 (.ref 982),den P "need" 1464 (.ref 993),den P "RING_MOST" 1468 (.int 64 1467),den P "ROOM_MOST_terms" 1470 (.int 16 1469),den P "LAG_MOST" 1472 (.int 32 1471),den P "WAIT_LEAST_terms" 1474 (.int 2 1473),den P "WAIT_MOST" 1476 (.int 64 1475),den P "are_rooms" 1482 (.ref 998),den P "are_waits" 1490 (.ref 1005),den P "Terms" 1521 (.ref 1020),den P "_law_cell_at" 1531 (.ref 1031),den P "_law_mixed" 1541 (.ref 1038),den P "_law_terms" 1547 (.ref 1043),den P "_law_text" 1558 (.ref 1050),den P "_law_wish" 1568 (.ref 1057),den P "_law_things" 1574 (.ref 1062),den P "_law_come" 1587 (.ref 1069),den P "_law_reads" 1601 (.ref 1076),den P "_law_room" 1612 (.ref 1083),den P "_law_asks" 1622 (.ref 1090),den P "law" 1641 (.ref 1097)]
abbrev md (P:Pm) (v:Value) (k n:Nat):Ob:=⟨.type "dict",none,.dict ⟨den P "__name__" 165 v::(mdl P).take k⟩ n,#[]⟩
def ltl:List Value:=ztl [(2,0,20),(4,0,33),(8,0,52),(12,0,71),(16,0,90),(18,0,102),(22,0,121),(24,0,133),(30,0,152),(47,0,161),(52,0,168),(61,0,173),(67,0,180),(72,0,187),(77,0,194),(85,0,199),(87,0,206),(92,0,213),(94,0,220),(103,0,227),(105,0,234),(107,0,239),(109,0,244),(111,0,251),(114,0,258),(150,0,314),(154,0,321),(157,0,328),(190,0,384),(303,0,525),(325,0,588),(335,0,621),(348,0,661),(361,0,701),(371,0,734),(381,0,767),(388,0,793),(396,0,819),(438,0,873),(440,0,880),(445,0,887),(535,0,992),(543,0,997),(545,0,1004),(547,0,1011),(563,0,1030),(567,0,1037),(574,0,1042),(586,0,1049),(593,0,1056),(608,0,1061),(610,0,1068),(620,0,1075),(626,0,1082),(635,0,1089),(640,0,1096)]
abbrev lt (k:Nat):Ob:=⟨.none,none,.fields ⟨ltl.take k⟩,#[]⟩
noncomputable abbrev zb (n:Nat):Ob:=⟨.type "builtin_function_or_method",none,.fields #[.builtin "object.__init_subclass__",.ref n],#[]⟩
noncomputable abbrev zs (n:Nat):Ob:=⟨.type "super",none,.fields #[.ref n,.ref n,.ref n],#[]⟩
noncomputable abbrev zf (a b c:Nat) (m:Value) (d:Nat):Ob:=⟨.type "frame",none,.plain,#[some (.ref a),some (.ref b),some (.ref c),none,some m,none,some (.ref d)]⟩
noncomputable abbrev zi (i j:Nat):Stmt:=inClass (top i) j
noncomputable abbrev zn (a b:Int) (c:Nat):Ob:=⟨.none,none,.fields #[.int a 0,.int b 0,.ref c],#[]⟩
noncomputable abbrev zm (P:Params) (a:Nat) (m:Value):DictEntry:=den P "__module__" a m
noncomputable abbrev zq (P:Params) (a:Nat) (m:String) (b:Nat):DictEntry:=den P "__qualname__" a (q m b)
noncomputable abbrev zl (P:Params) (a:Nat) (m:Int) (b:Nat):DictEntry:=den P "__firstlineno__" a (.int m b)
noncomputable abbrev za (P:Params) (a b:Nat):DictEntry:=den P "__static_attributes__" a (.ref b)
noncomputable abbrev zd (x:Array DictEntry) (n:Nat):Ob:=⟨.type "dict",none,.dict x n,#[]⟩
abbrev sO (x:String):Str:=Str.ofString x
def aF:=tp []
def cj:Ob:=⟨.none,none,.fields #[],#[]⟩
def o13:=ck "<module>" 182 1 11
def o14:=zf 13 3 3 (q "__main__" 164) 0
def o15(P:Pm):=md P q0 11 12
def o16:=lt 9
def o17:=tp [.type "ValueError"]
def D9:Ob:=⟨.type "builtin_function_or_method",none,.fields #[.builtin "type.__prepare__",.type "type"],#[]⟩
def o19(P:Pm):=zd #[zm P 196 q0,zq P 198 "RoadError" 197,zl P 200 2 199,za P 201 22] 4
def o22:=ck "RoadError" 191 2 18
def o23:=zf 20 3 17 q0 0
def o25(P:Pm):=zd #[zm P 196 q0,zl P 200 2 199,za P 201 22,den P "__weakref__" 203 (.ref 25),den P "__doc__" 204 .none] 3
def o26:=zx "RoadError" [.type "ValueError"] [.ref 24] 23 [.ref 44,.ref 63] (some (.ref 15)) q1 q2
def o27:Ob:=⟨.type "getset_descriptor",none,.fields #[q "__weakref__" 202,.ref 24,.builtin "ExceptionGroup.__weakref__",.none],#[]⟩
def o28:=zs 24
def o29:=zb 24
def KH:=tp [.ref 24]
def o32(P:Pm):=zd #[zm P 214 q0,zq P 216 "NoFrame" 215,zl P 218 4 217,den P "__init__" 226 (.ref 41),za P 228 42] 5
def o34:=zn 6 4 40
def o35:=ck "NoFrame" 209 4 31
def o36:=zf 33 3 30 q0 0
def o39:=tq ["self","frame"] 222
abbrev j41 {α}:=nt (α:=α) "__init__" "NoFrame.__init__" (zi 2 0)
def o41:=j41 f0
def o42:=j41 cf 219 6 2 3 35 224
def o43:=j41 f1 3 q0 40
def o44:=tq ["frame"] 227
def o45(P:Pm):=zd #[zm P 214 q0,zl P 218 4 217,den P "__init__" 226 (.ref 41),za P 228 42,den P "__doc__" 229 .none] 2
def o46:=zx "NoFrame" [.ref 24] [.ref 44,.ref 24] 43 [] (some (.ref 28)) (q "NoFrame" 207) (q "NoFrame" 215)
def o47:=zs 44
def o48:=zb 44
def o51(P:Pm):=zd #[zm P 239 q0,zq P 241 "Spoilt" 240,zl P 243 8 242,den P "__init__" 251 (.ref 60),za P 253 61] 5
def o53:=zn 10 4 59
def o54:=ck "Spoilt" 234 8 50
def o55:=zf 52 3 49 q0 0
def o58:=tq ["self","frame"] 247
abbrev j60 {α}:=nt (α:=α) "__init__" "Spoilt.__init__" (zi 3 0)
def o60:=j60 f0
def o61:=j60 cf 244 10 2 3 54 249
def o62:=j60 f1 3 q0 59
def o63:=tq ["frame"] 252
def o64(P:Pm):=zd #[zm P 239 q0,zl P 243 8 242,den P "__init__" 251 (.ref 60),za P 253 61,den P "__doc__" 254 .none] 2
def o65:=zx "Spoilt" [.ref 24] [.ref 63,.ref 24] 62 [] (some (.ref 47)) (q "Spoilt" 232) (q "Spoilt" 240)
def o66:=zs 63
def o67:=zb 63
def o68(P:Pm):=md P q0 13 14
def o69:=lt 15
def o70:=zx "RoadError" [.type "ValueError"] [.ref 24] 23 [.ref 44,.ref 63,.ref 82,.ref 94] (some (.ref 15)) q1 q2
def o73(P:Pm):=zd #[zm P 264 q0,zq P 266 "NoPiece" 265,zl P 268 12 267,den P "__init__" 276 (.ref 79),za P 278 80] 5
def o75:=zn 14 4 78
def o76:=ck "NoPiece" 259 12 69
def o77:=zf 71 3 68 q0 0
def o80:=tq ["self","what"] 272
abbrev j82 {α}:=nt (α:=α) "__init__" "NoPiece.__init__" (zi 4 0)
def o82:=j82 f0
def o83:=j82 cf 269 14 2 3 73 274
def o84:=j82 f1 3 q0 78
def o85:=tq ["what"] 277
def o86(P:Pm):=zd #[zm P 264 q0,zl P 268 12 267,den P "__init__" 276 (.ref 79),za P 278 80,den P "__doc__" 279 .none] 2
def o87:=zx "NoPiece" [.ref 24] [.ref 82,.ref 24] 81 [] (some (.ref 66)) (q "NoPiece" 257) (q "NoPiece" 265)
def o88:=zs 82
def o89:=zb 82
def o92(P:Pm):=zd #[zm P 289 q0,zq P 291 "BadTerms" 290,zl P 293 16 292,za P 294 92] 4
def o95:=ck "BadTerms" 284 16 88
def o96:=zf 90 3 87 q0 0
def o98(P:Pm):=zd #[zm P 289 q0,zl P 293 16 292,za P 294 92,den P "__doc__" 295 .none] 2
def o99:=zx "BadTerms" [.ref 24] [.ref 94,.ref 24] 93 [] (some (.ref 85)) (q "BadTerms" 282) (q "BadTerms" 290)
def akr:=zs 94
def akq:=zb 94
def akp(P:Pm):=md P q0 15 16
def ako:=lt 21
def akn:=zx "RoadError" [.type "ValueError"] [.ref 24] 23 [.ref 44,.ref 63,.ref 82,.ref 94,.ref 113,.ref 125] (some (.ref 15)) q1 q2
def akm(P:Pm):=zd #[zm P 305 q0,zq P 307 "NotWide" 306,zl P 309 18 308,den P "__init__" 317 (.ref 110),za P 319 111] 5
def akl:=zn 20 4 109
def akk:=ck "NotWide" 300 18 100
def akj:=zf 102 3 99 q0 0
def aeL:=tq ["self","least"] 313
abbrev XB {α}:=nt (α:=α) "__init__" "NotWide.__init__" (zi 6 0)
def aki:=XB f0
def aeK:=XB cf 310 20 2 3 104 315
def aeJ:=XB f1 3 q0 109
def aeI:=tq ["least"] 318
def aeH(P:Pm):=zd #[zm P 305 q0,zl P 309 18 308,den P "__init__" 317 (.ref 110),za P 319 111,den P "__doc__" 320 .none] 2
def aeG:=zx "NotWide" [.ref 24] [.ref 113,.ref 24] 112 [] (some (.ref 97)) (q "NotWide" 298) (q "NotWide" 306)
def akh:=zs 113
def akg:=zb 113
def akf(P:Pm):=zd #[zm P 330 q0,zq P 332 "BadText" 331,zl P 334 22 333,za P 335 123] 4
def ake:=ck "BadText" 325 22 119
def akd:=zf 121 3 118 q0 0
def aeF(P:Pm):=zd #[zm P 330 q0,zl P 334 22 333,za P 335 123,den P "__doc__" 336 .none] 2
def aeE:=zx "BadText" [.ref 24] [.ref 125,.ref 24] 124 [] (some (.ref 116)) (q "BadText" 323) (q "BadText" 331)
def akc:=zs 125
def akb:=zb 125
def aka(P:Pm):=md P q3 40 41
def aj_:=lt 54
def aeD:=zx "RoadError" [.type "ValueError"] [.ref 24] 23 [.ref 44,.ref 63,.ref 82,.ref 94,.ref 113,.ref 125,.ref 144] (some (.ref 15)) q1 q2
def aj9(P:Pm):=zd #[zm P 346 q0,zq P 348 "NotNow" 347,zl P 350 24 349,den P "__init__" 359 (.ref 141),za P 362 142] 5
def aj8:=zn 26 4 140
def aj7:=ck "NotNow" 341 24 131
def aj6:=zf 133 3 130 q0 0
def aeC:=tq ["self","state","wish"] 354
abbrev XA {α}:=nt (α:=α) "__init__" "NotNow.__init__" (zi 8 0)
def aj5:=XA f0
def aeB:=XA cf 351 26 3 3 135 357
def aeA:=XA f1 3 q0 140
def aez:=tq ["state","wish"] 360
def aey(P:Pm):=zd #[zm P 346 q0,zl P 350 24 349,den P "__init__" 359 (.ref 141),za P 362 142,den P "__doc__" 363 .none] 2
def aex:=zx "NotNow" [.ref 24] [.ref 144,.ref 24] 143 [] (some (.ref 128)) (q "NotNow" 339) (q "NotNow" 347)
def aj4:=zs 144
def aj3:=zb 144
def aew:=tq ["value","low","high"] 371
abbrev Xz {α}:=nt (α:=α) "is_from" "is_from" (top 10)
def aj2:=Xz f0
def aev:=Xz cf 368 30 3 3 147 374
def aeu:=Xz f1 3 (q "slowroad.bounds" 366) 152
def aet:=tq ["bare","signs","begin","end","ask"] 379
def aes:=tq ["bare","ask"] 387
def aer:=tq ["thing","kind"] 415
abbrev Xy {α}:=nt (α:=α) "is_piece" "is_piece" (top 26)
def aj1:=Xy f0
def aeq:=Xy cf 412 47 1 3 156 417
def aep:=Xy f1 3 q3 161
def aeo:=tq ["held","last","step"] 423
abbrev Xx {α}:=nt (α:=α) "is_held" "is_held" (top 27)
def aj0:=Xx f0
def aen:=Xx cf 420 52 1 3 163 426
def aem:=Xx f1 3 q3 168
abbrev afr {α}:=nt (α:=α) "are_signs" "are_signs" (top 28)
def ajZ:=afr f0
def ael:=cd "are_signs" 429 "are_signs" 430 431 61 2 0 0 3 170 true 181 171 .none .none .none (.ref 172) 432 433
def aek:=afr f1 3 q3 173
def aej:=tq ["bits","left"] 438
abbrev Xw {α}:=nt (α:=α) "remainder" "remainder" (top 29)
def ajY:=Xw f0
def aei:=Xw cf 435 67 1 3 175 440
def aeh:=Xw f1 3 q3 180
def aeg:=tq ["piece","unchecked"] 446
abbrev Xv {α}:=nt (α:=α) "written" "written" (top 30)
def ajX:=Xv f0
def aef:=Xv cf 443 72 1 3 182 448
def aee:=Xv f1 3 q3 187
def aed:=tq ["piece","body"] 454
abbrev Xu {α}:=nt (α:=α) "body_of" "body_of" (top 31)
def ajW:=Xu f0
def aec:=Xu cf 451 77 1 3 189 456
def aeb:=Xu f1 3 q3 194
abbrev afq {α}:=nt (α:=α) "bits_of_held" "bits_of_held" (top 32)
def ajV:=afq f0
def aea:=cd "bits_of_held" 459 "bits_of_held" 460 461 85 1 0 0 3 196 true 181 197 .none .none .none (.ref 198) 462 463
def ad_:=afq f1 3 q3 199
def ad9:=tq ["signs","bits","sign"] 468
abbrev Xs {α}:=nt (α:=α) "bits_of_signs" "bits_of_signs" (top 33)
def ajU:=Xs f0
def ad8:=Xs cf 465 87 1 3 201 471
def ad7:=Xs f1 3 q3 206
def ad6:=tq ["number"] 477
abbrev Xr {α}:=nt (α:=α) "is_frame" "is_frame" (top 34)
def ajT:=Xr f0
def ad5:=Xr cf 474 92 1 3 208 478
def ad4:=Xr f1 3 q3 213
def ajS(P:Pm):=md P q4 50 51
def ajR:=lt 81
def ad3:=tq ["frame","piece"] 484
abbrev Xq {α}:=nt (α:=α) "read" "read" (top 35)
def ajQ:=Xq f0
def ad2:=Xq cf 481 94 1 3 215 486
def ad1:=Xq f1 3 q3 220
def ad0:=tq ["body"] 492
abbrev Xp {α}:=nt (α:=α) "likely_piece" "likely_piece" (top 36)
def ajP:=Xp f0
def adZ:=Xp cf 489 103 1 3 222 493
def adY:=Xp f1 3 q3 227
def adX:=tq ["code"] 499
abbrev Xo {α}:=nt (α:=α) "kind_of" "kind_of" (top 37)
def ajO:=Xo f0
def adW:=Xo cf 496 105 1 3 229 500
def adV:=Xo f1 3 q3 234
abbrev afp {α}:=nt (α:=α) "held_of" "held_of" (top 38)
def ajN:=afp f0
def adU:=cd "held_of" 503 "held_of" 504 505 107 1 0 0 3 236 true 181 237 .none .none .none (.ref 238) 506 507
def adT:=afp f1 3 q3 239
abbrev afo {α}:=nt (α:=α) "signs_of" "signs_of" (top 39)
def ajM:=afo f0
def adS:=cd "signs_of" 509 "signs_of" 510 511 109 1 0 0 3 241 true 181 242 .none .none .none (.ref 243) 512 513
def adR:=afo f1 3 q3 244
def adQ:=tq ["code"] 518
abbrev Xn {α}:=nt (α:=α) "sign_of" "sign_of" (top 40)
def ajL:=Xn f0
def adP:=Xn cf 515 111 1 3 246 519
def adO:=Xn f1 3 q3 251
def ajK(P:Pm):=zd #[zm P 531 q5,zq P 533 "Meter" 532,zl P 535 114 534,den P "__init__" 543 (.ref 266),den P "known" 552 (.ref 273),den P "know_one" 559 (.ref 280),den P "half" 566 (.ref 287),den P "ran_out" 573 (.ref 294),den P "hurried" 580 (.ref 301),za P 585 302] 10
def ajJ:=zt [(116,4,265),(122,4,272),(126,4,279),(137,4,286),(140,4,293),(145,4,300)]
def ajI:=ck "Meter" 526 114 256
def ajH:=zf 258 3 255 q5 0
def adN:=tq ["self","most"] 539
abbrev Xm {α}:=nt (α:=α) "__init__" "Meter.__init__" (zi 42 0)
def ajG:=Xm f0
def adM:=Xm cf 536 116 2 3 260 541
def adL:=Xm f1 3 q5 265
def adK:=tq ["self","many","piece"] 547
abbrev Xl {α}:=nt (α:=α) "known" "Meter.known" (zi 42 1)
def ajF:=Xl f0
def adJ:=Xl cf 544 122 2 3 267 550
def adI:=Xl f1 3 q5 272
def adH:=tq ["self"] 556
abbrev Xk {α}:=nt (α:=α) "know_one" "Meter.know_one" (zi 42 2)
def ajE:=Xk f0
def adG:=Xk cf 553 126 1 3 274 557
def adF:=Xk f1 3 q5 279
def adE:=tq ["self"] 563
abbrev Xj {α}:=nt (α:=α) "half" "Meter.half" (zi 42 3)
def ajD:=Xj f0
def adD:=Xj cf 560 137 1 3 281 564
def adC:=Xj f1 3 q5 286
def adB:=tq ["self"] 570
abbrev Xi {α}:=nt (α:=α) "ran_out" "Meter.ran_out" (zi 42 4)
def ajC:=Xi f0
def adA:=Xi cf 567 140 1 3 288 571
def adz:=Xi f1 3 q5 293
def ady:=tq ["self"] 577
abbrev Xh {α}:=nt (α:=α) "hurried" "Meter.hurried" (zi 42 5)
def ajB:=Xh f0
def adx:=Xh cf 574 145 1 3 295 578
def adw:=Xh f1 3 q5 300
def adv:=tq ["counted","knee","most","window"] 581
def adu(P:Pm):=zd #[zm P 531 q5,zl P 535 114 534,den P "__init__" 543 (.ref 266),den P "known" 552 (.ref 273),den P "know_one" 559 (.ref 280),den P "half" 566 (.ref 287),den P "ran_out" 573 (.ref 294),den P "hurried" 580 (.ref 301),za P 585 302,den P "__dict__" 587 (.ref 305),den P "__weakref__" 589 (.ref 306),den P "__doc__" 590 .none] 4
def adt:=zo "Meter" [.type "object"] [.ref 304] 303 [] none (q "Meter" 524) (q "Meter" 532)
def ads:Ob:=⟨.type "getset_descriptor",none,.fields #[q "__dict__" 586,.ref 304,.builtin "function.__dict__",.builtin "function.__dict__#set"],#[]⟩
def adq:Ob:=⟨.type "getset_descriptor",none,.fields #[q "__weakref__" 588,.ref 304,.builtin "ExceptionGroup.__weakref__",.none],#[]⟩
def ajA:=zs 304
def ajz:=zb 304
def adp:=tq ["ring","one","other"] 598
abbrev Xg {α}:=nt (α:=α) "ahead" "ahead" (top 44)
def ajy:=Xg f0
def ado:=Xg cf 595 150 3 3 309 601
def adn:=Xg f1 3 (q "slowroad.rings" 593) 314
def adm:=tq ["top","bottom","shared"] 611
abbrev Xf {α}:=nt (α:=α) "lowest" "lowest" (top 47)
def ajx:=Xf f0
def adl:=Xf cf 608 154 2 3 316 614
def adk:=Xf f1 3 q4 321
def ajw(P:Pm):=md P q6 52 53
def ajv:=lt 84
def aju(P:Pm):=zd #[zm P 624 q4,zq P 626 "Ways" 625,zl P 628 157 627,den P "__init__" 637 (.ref 336),den P "measured" 645 (.ref 343),den P "next_spread" 655 (.ref 350),den P "next_smooth" 663 (.ref 357),den P "least_wait" 671 (.ref 364),den P "ran_out" 678 (.ref 371),za P 683 372] 10
def ajt:=zt [(159,4,335),(165,4,342),(174,4,349),(179,4,356),(182,4,363),(186,4,370)]
def ajs:=ck "Ways" 619 157 326
def ajr:=zf 328 3 325 q4 0
def adj:=tq ["self","first","longest"] 632
abbrev Xe {α}:=nt (α:=α) "__init__" "Ways.__init__" (zi 48 0)
def ajq:=Xe f0
def adi:=Xe cf 629 159 3 3 330 635
def adh:=Xe f1 3 q4 335
def adg:=tq ["self","m"] 641
abbrev Xd {α}:=nt (α:=α) "measured" "Ways.measured" (zi 48 1)
def ajp:=Xd f0
def adf:=Xd cf 638 165 2 3 337 643
def ade:=Xd f1 3 q4 342
def adb:=tq ["self","m","bottoms","away"] 649
abbrev Xc {α}:=nt (α:=α) "next_spread" "Ways.next_spread" (zi 48 2)
def ajo:=Xc f0
def ada:=Xc cf 646 174 2 3 344 653
def ac_:=Xc f1 3 q4 349
def ac9:=tq ["self","m"] 659
abbrev Xb {α}:=nt (α:=α) "next_smooth" "Ways.next_smooth" (zi 48 3)
def ajn:=Xb f0
def ac8:=Xb cf 656 179 2 3 351 661
def ac7:=Xb f1 3 q4 356
def ac6:=tq ["self","top"] 667
abbrev Xa {α}:=nt (α:=α) "least_wait" "Ways.least_wait" (zi 48 4)
def ajm:=Xa f0
def ac5:=Xa cf 664 182 1 3 358 669
def ac4:=Xa f1 3 q4 363
def ac3:=tq ["self"] 675
abbrev W_ {α}:=nt (α:=α) "ran_out" "Ways.ran_out" (zi 48 5)
def ajl:=W_ f0
def ac2:=W_ cf 672 186 1 3 365 676
def ac1:=W_ f1 3 q4 370
def ac0:=tq ["longest","smooth","spread","wait"] 679
def acZ(P:Pm):=zd #[zm P 624 q4,zl P 628 157 627,den P "__init__" 637 (.ref 336),den P "measured" 645 (.ref 343),den P "next_spread" 655 (.ref 350),den P "next_smooth" 663 (.ref 357),den P "least_wait" 671 (.ref 364),den P "ran_out" 678 (.ref 371),za P 683 372,den P "__dict__" 685 (.ref 375),den P "__weakref__" 687 (.ref 376),den P "__doc__" 688 .none] 4
def acY:=zo "Ways" [.type "object"] [.ref 374] 373 [] none (q "Ways" 617) (q "Ways" 625)
def acX:Ob:=⟨.type "getset_descriptor",none,.fields #[q "__dict__" 684,.ref 374,.builtin "function.__dict__",.builtin "function.__dict__#set"],#[]⟩
def acW:Ob:=⟨.type "getset_descriptor",none,.fields #[q "__weakref__" 686,.ref 374,.builtin "ExceptionGroup.__weakref__",.none],#[]⟩
def ajk:=zs 374
def ajj:=zb 374
def aji(P:Pm):=md P q6 53 54
def ajh:=lt 87
def ajg(P:Pm):=zd #[zm P 702 q6,zq P 704 "Sender" 703,zl P 706 190 705,den P "__init__" 717 (.ref 392),den P "put" 725 (.ref 399),den P "many" 732 (.ref 406),den P "thing" 740 (.ref 413),den P "heard" 754 (.ref 420),den P "grow_base" 763 (.ref 427),den P "note_held" 769 (.ref 432),den P "newly_known" 775 (.ref 437),den P "known_above_base" 781 (.ref 442),den P "under_way" 788 (.ref 449),den P "thing_waits" 795 (.ref 456),den P "clock_is_out" 803 (.ref 463),den P "hurry_is_due" 810 (.ref 470),den P "new_may_go" 817 (.ref 477),den P "go" 825 (.ref 484),den P "set_clock" 833 (.ref 491),den P "go_again" 841 (.ref 498),den P "go_new" 850 (.ref 505),den P "ask_for_room" 858 (.ref 512),za P 871 513] 23
def ajf:=zt [(192,4,391),(206,4,398),(209,4,405),(212,4,412),(215,4,419),(230,4,426),(235,4,431),(238,4,436),(244,4,441),(247,4,448),(250,4,455),(253,4,462),(256,4,469),(259,4,476),(262,4,483),(276,4,490),(279,4,497),(285,4,504),(293,4,511)]
def aje:=ck "Sender" 697 190 382
def ajd:=zf 384 3 381 q6 0
def acV:=tq ["self","ring","first","longest","most"] 710
abbrev W9 {α}:=nt (α:=α) "__init__" "Sender.__init__" (zi 51 0)
def ajc:=W9 f0
def acU:=W9 cf 707 192 5 3 386 715
def acT:=W9 f1 3 q6 391
def acS:=tq ["self","thing"] 721
abbrev W8 {α}:=nt (α:=α) "put" "Sender.put" (zi 51 1)
def ajb:=W8 f0
def acR:=W8 cf 718 206 2 3 393 723
def acQ:=W8 f1 3 q6 398
def acP:=tq ["self"] 729
abbrev W7 {α}:=nt (α:=α) "many" "Sender.many" (zi 51 2)
def aja:=W7 f0
def acO:=W7 cf 726 209 1 3 400 730
def acN:=W7 f1 3 q6 405
def acM:=tq ["self","place"] 736
abbrev W6 {α}:=nt (α:=α) "thing" "Sender.thing" (zi 51 3)
def ai_:=W6 f0
def acL:=W6 cf 733 212 2 3 407 738
def acK:=W6 f1 3 q6 412
def acJ:=tq ["self","number","room","held","turn","steps","fresh","place"] 744
abbrev W5 {α}:=nt (α:=α) "heard" "Sender.heard" (zi 51 4)
def ai9:=W5 f0
def acI:=W5 cf 741 215 5 3 414 752
def acH:=W5 f1 3 q6 419
def acG:=tq ["self","steps","low"] 758
abbrev W4 {α}:=nt (α:=α) "grow_base" "Sender.grow_base" (zi 51 5)
def ai8:=W4 f0
def acF:=W4 cf 755 230 2 3 421 761
def acE:=W4 f1 3 q6 426
abbrev afn {α}:=nt (α:=α) "note_held" "Sender.note_held" (zi 51 6)
def ai7:=afn f0
def acD:=cd "note_held" 764 "Sender.note_held" 765 766 235 2 0 0 3 428 true 181 429 .none .none .none (.ref 430) 767 768
def acC:=afn f1 3 q6 431
abbrev afm {α}:=nt (α:=α) "newly_known" "Sender.newly_known" (zi 51 7)
def ai6:=afm f0
def acB:=cd "newly_known" 770 "Sender.newly_known" 771 772 238 2 0 0 3 433 true 181 434 .none .none .none (.ref 435) 773 774
def acA:=afm f1 3 q6 436
abbrev afl {α}:=nt (α:=α) "known_above_base" "Sender.known_above_base" (zi 51 8)
def ai5:=afl f0
def acz:=cd "known_above_base" 776 "Sender.known_above_base" 777 778 244 1 0 0 3 438 true 181 439 .none .none .none (.ref 440) 779 780
def acy:=afl f1 3 q6 441
def acx:=tq ["self"] 785
abbrev W3 {α}:=nt (α:=α) "under_way" "Sender.under_way" (zi 51 9)
def ai4:=W3 f0
def acw:=W3 cf 782 247 1 3 443 786
def acv:=W3 f1 3 q6 448
def acu:=tq ["self"] 792
abbrev W2 {α}:=nt (α:=α) "thing_waits" "Sender.thing_waits" (zi 51 10)
def ai3:=W2 f0
def acs:=W2 cf 789 250 1 3 450 793
def acr:=W2 f1 3 q6 455
def acq:=tq ["self","turn"] 799
abbrev W0 {α}:=nt (α:=α) "clock_is_out" "Sender.clock_is_out" (zi 51 11)
def ai2:=W0 f0
def acp:=W0 cf 796 253 2 3 457 801
def aco:=W0 f1 3 q6 462
def acn:=tq ["self"] 807
abbrev WZ {α}:=nt (α:=α) "hurry_is_due" "Sender.hurry_is_due" (zi 51 12)
def ai1:=WZ f0
def acm:=WZ cf 804 256 1 3 464 808
def ack:=WZ f1 3 q6 469
def acj:=tq ["self"] 814
abbrev WY {α}:=nt (α:=α) "new_may_go" "Sender.new_may_go" (zi 51 13)
def ai0:=WY f0
def aci:=WY cf 811 259 1 3 471 815
def ach:=WY f1 3 q6 476
def acg:=tq ["self","turn"] 821
abbrev WX {α}:=nt (α:=α) "go" "Sender.go" (zi 51 14)
def aiZ:=WX f0
def acf:=WX cf 818 262 2 3 478 823
def ace:=WX f1 3 q6 483
def acd:=tq ["self","turn"] 829
abbrev WW {α}:=nt (α:=α) "set_clock" "Sender.set_clock" (zi 51 15)
def aiY:=WW f0
def acb:=WW cf 826 276 2 3 485 831
def aca:=WW f1 3 q6 490
def ab_:=tq ["self","turn"] 837
abbrev WV {α}:=nt (α:=α) "go_again" "Sender.go_again" (zi 51 16)
def aiX:=WV f0
def ab9:=WV cf 834 279 2 3 492 839
def ab8:=WV f1 3 q6 497
def ab7:=tq ["self","turn","place"] 845
abbrev WU {α}:=nt (α:=α) "go_new" "Sender.go_new" (zi 51 17)
def aiW:=WU f0
def ab6:=WU cf 842 285 2 3 499 848
def ab5:=WU f1 3 q6 504
def ab4:=tq ["self","turn"] 854
abbrev WT {α}:=nt (α:=α) "ask_for_room" "Sender.ask_for_room" (zi 51 18)
def aiV:=WT f0
def ab3:=WT cf 851 293 2 3 506 856
def ab2:=WT f1 3 q6 511
def ab1:=tq ["base","base_hurried","clock","edge","first_turns","gone_again","known_places","meter","ring","things","top","ways"] 859
def ab0(P:Pm):=zd #[zm P 702 q6,zl P 706 190 705,den P "__init__" 717 (.ref 392),den P "put" 725 (.ref 399),den P "many" 732 (.ref 406),den P "thing" 740 (.ref 413),den P "heard" 754 (.ref 420),den P "grow_base" 763 (.ref 427),den P "note_held" 769 (.ref 432),den P "newly_known" 775 (.ref 437),den P "known_above_base" 781 (.ref 442),den P "under_way" 788 (.ref 449),den P "thing_waits" 795 (.ref 456),den P "clock_is_out" 803 (.ref 463),den P "hurry_is_due" 810 (.ref 470),den P "new_may_go" 817 (.ref 477),den P "go" 825 (.ref 484),den P "set_clock" 833 (.ref 491),den P "go_again" 841 (.ref 498),den P "go_new" 850 (.ref 505),den P "ask_for_room" 858 (.ref 512),za P 871 513,den P "__dict__" 873 (.ref 516),den P "__weakref__" 875 (.ref 517),den P "__doc__" 876 .none] 4
def abZ:=zo "Sender" [.type "object"] [.ref 515] 514 [] none (q "Sender" 695) (q "Sender" 703)
def abY:Ob:=⟨.type "getset_descriptor",none,.fields #[q "__dict__" 872,.ref 515,.builtin "function.__dict__",.builtin "function.__dict__#set"],#[]⟩
def abX:Ob:=⟨.type "getset_descriptor",none,.fields #[q "__weakref__" 874,.ref 515,.builtin "ExceptionGroup.__weakref__",.none],#[]⟩
def aiU:=zs 515
def aiT:=zb 515
def aiS(P:Pm):=md P q7 54 55
def aiR:=lt 90
def aiQ(P:Pm):=zd #[zm P 888 q7,zq P 890 "State" 889,zl P 892 303 891,den P "name" 899 (.ref 533),den P "wish_begin" 906 (.ref 540),den P "wish_end" 913 (.ref 547),den P "may_put" 920 (.ref 554),den P "begun" 927 (.ref 561),den P "ended" 934 (.ref 568),den P "answered" 941 (.ref 575),za P 942 576] 11
def aiP:=zt [(305,4,532),(308,4,539),(311,4,546),(314,4,553),(317,4,560),(320,4,567),(323,4,574)]
def aiO:=ck "State" 883 303 523
def aiN:=zf 525 3 522 q7 0
def abW:=tq ["self"] 896
abbrev WR {α}:=nt (α:=α) "name" "State.name" (zi 53 0)
def aiM:=WR f0
def abV:=WR cf 893 305 1 3 527 897
def abU:=WR f1 3 q7 532
def abT:=tq ["self"] 903
abbrev WQ {α}:=nt (α:=α) "wish_begin" "State.wish_begin" (zi 53 1)
def aiL:=WQ f0
def abS:=WQ cf 900 308 1 3 534 904
def abR:=WQ f1 3 q7 539
def abQ:=tq ["self"] 910
abbrev WO {α}:=nt (α:=α) "wish_end" "State.wish_end" (zi 53 2)
def aiK:=WO f0
def abP:=WO cf 907 311 1 3 541 911
def abO:=WO f1 3 q7 546
def abN:=tq ["self"] 917
abbrev WN {α}:=nt (α:=α) "may_put" "State.may_put" (zi 53 3)
def aiJ:=WN f0
def abM:=WN cf 914 314 1 3 548 918
def abL:=WN f1 3 q7 553
def abK:=tq ["self"] 924
abbrev WM {α}:=nt (α:=α) "begun" "State.begun" (zi 53 4)
def aiI:=WM f0
def abJ:=WM cf 921 317 1 3 555 925
def abI:=WM f1 3 q7 560
def abH:=tq ["self"] 931
abbrev WL {α}:=nt (α:=α) "ended" "State.ended" (zi 53 5)
def aiH:=WL f0
def abG:=WL cf 928 320 1 3 562 932
def abF:=WL f1 3 q7 567
def abE:=tq ["self"] 938
abbrev WK {α}:=nt (α:=α) "answered" "State.answered" (zi 53 6)
def aiG:=WK f0
def abD:=WK cf 935 323 1 3 569 939
def abC:=WK f1 3 q7 574
def abB(P:Pm):=zd #[zm P 888 q7,zl P 892 303 891,den P "name" 899 (.ref 533),den P "wish_begin" 906 (.ref 540),den P "wish_end" 913 (.ref 547),den P "may_put" 920 (.ref 554),den P "begun" 927 (.ref 561),den P "ended" 934 (.ref 568),den P "answered" 941 (.ref 575),za P 942 576,den P "__dict__" 944 (.ref 579),den P "__weakref__" 946 (.ref 580),den P "__doc__" 947 .none] 4
def aiF:=zo "State" [.type "object"] [.ref 578] 577 [] none q8 q9
def abA:Ob:=⟨.type "getset_descriptor",none,.fields #[q "__dict__" 943,.ref 578,.builtin "function.__dict__",.builtin "function.__dict__#set"],#[]⟩
def abz:Ob:=⟨.type "getset_descriptor",none,.fields #[q "__weakref__" 945,.ref 578,.builtin "ExceptionGroup.__weakref__",.none],#[]⟩
def aiE:=zs 578
def aiD:=zb 578
def aiC(P:Pm):=md P q7 56 57
def aiB:=lt 96
def aiA:=zo "State" [.type "object"] [.ref 578] 577 [.ref 613,.ref 653] none q8 q9
def yq:=tp [.ref 578]
def aiz(P:Pm):=zd #[zm P 957 q7,zq P 959 "Shut" 958,zl P 961 325 960,den P "name" 968 (.ref 596),den P "wish_begin" 975 (.ref 603),den P "begun" 982 (.ref 610),za P 983 611] 7
def aiy:=zt [(327,4,595),(330,4,602),(333,4,609)]
def aix:=ck "Shut" 952 325 586
def aiw:=zf 588 3 585 q7 0
def aby:=tq ["self"] 965
abbrev WJ {α}:=nt (α:=α) "name" "Shut.name" (zi 54 0)
def aiv:=WJ f0
def abx:=WJ cf 962 327 1 3 590 966
def abw:=WJ f1 3 q7 595
def abv:=tq ["self"] 972
abbrev WI {α}:=nt (α:=α) "wish_begin" "Shut.wish_begin" (zi 54 1)
def aiu:=WI f0
def abu:=WI cf 969 330 1 3 597 973
def abt:=WI f1 3 q7 602
def abr:=tq ["self"] 979
abbrev WH {α}:=nt (α:=α) "begun" "Shut.begun" (zi 54 2)
def ait:=WH f0
def abq:=WH cf 976 333 1 3 604 980
def abp:=WH f1 3 q7 609
def abo(P:Pm):=zd #[zm P 957 q7,zl P 961 325 960,den P "name" 968 (.ref 596),den P "wish_begin" 975 (.ref 603),den P "begun" 982 (.ref 610),za P 983 611,den P "__doc__" 984 .none] 2
def abn:=zo "Shut" [.ref 578] [.ref 613,.ref 578] 612 [] (some (.ref 583)) (q "Shut" 950) (q "Shut" 958)
def ais:=zs 613
def air:=zb 613
def aiq(P:Pm):=zd #[zm P 994 q7,zq P 996 "Calling" 995,zl P 998 335 997,den P "name" 1005 (.ref 629),den P "wish_end" 1012 (.ref 636),den P "may_put" 1019 (.ref 643),den P "begun" 1026 (.ref 650),za P 1027 651] 8
def aip:=zt [(337,4,628),(340,4,635),(343,4,642),(346,4,649)]
def aio:=ck "Calling" 989 335 619
def ain:=zf 621 3 618 q7 0
def abm:=tq ["self"] 1002
abbrev WG {α}:=nt (α:=α) "name" "Calling.name" (zi 55 0)
def aim:=WG f0
def abl:=WG cf 999 337 1 3 623 1003
def abk:=WG f1 3 q7 628
def abj:=tq ["self"] 1009
abbrev WE {α}:=nt (α:=α) "wish_end" "Calling.wish_end" (zi 55 1)
def ail:=WE f0
def abi:=WE cf 1006 340 1 3 630 1010
def abh:=WE f1 3 q7 635
def abg:=tq ["self"] 1016
abbrev WD {α}:=nt (α:=α) "may_put" "Calling.may_put" (zi 55 2)
def aik:=WD f0
def abf:=WD cf 1013 343 1 3 637 1017
def abe:=WD f1 3 q7 642
def abd:=tq ["self"] 1023
abbrev WC {α}:=nt (α:=α) "begun" "Calling.begun" (zi 55 3)
def aij:=WC f0
def abc:=WC cf 1020 346 1 3 644 1024
def abb:=WC f1 3 q7 649
def aba(P:Pm):=zd #[zm P 994 q7,zl P 998 335 997,den P "name" 1005 (.ref 629),den P "wish_end" 1012 (.ref 636),den P "may_put" 1019 (.ref 643),den P "begun" 1026 (.ref 650),za P 1027 651,den P "__doc__" 1028 .none] 2
def aa_:=zo "Calling" [.ref 578] [.ref 653,.ref 578] 652 [] (some (.ref 616)) (q "Calling" 987) (q "Calling" 995)
def aii:=zs 653
def aih:=zb 653
def aif(P:Pm):=md P q7 58 59
def aie:=lt 102
def aid:=zo "State" [.type "object"] [.ref 578] 577 [.ref 613,.ref 653,.ref 693,.ref 726] none q8 q9
def aic(P:Pm):=zd #[zm P 1038 q7,zq P 1040 "Open" 1039,zl P 1042 348 1041,den P "name" 1049 (.ref 669),den P "wish_end" 1056 (.ref 676),den P "may_put" 1063 (.ref 683),den P "ended" 1070 (.ref 690),za P 1071 691] 8
def aib:=zt [(350,4,668),(353,4,675),(356,4,682),(359,4,689)]
def aia:=ck "Open" 1033 348 659
def ah_:=zf 661 3 658 q7 0
def aa9:=tq ["self"] 1046
abbrev WB {α}:=nt (α:=α) "name" "Open.name" (zi 56 0)
def ah9:=WB f0
def aa8:=WB cf 1043 350 1 3 663 1047
def aa7:=WB f1 3 q7 668
def aa6:=tq ["self"] 1053
abbrev WA {α}:=nt (α:=α) "wish_end" "Open.wish_end" (zi 56 1)
def ah8:=WA f0
def aa5:=WA cf 1050 353 1 3 670 1054
def aa4:=WA f1 3 q7 675
def aa3:=tq ["self"] 1060
abbrev Wz {α}:=nt (α:=α) "may_put" "Open.may_put" (zi 56 2)
def ah7:=Wz f0
def aa2:=Wz cf 1057 356 1 3 677 1061
def aa1:=Wz f1 3 q7 682
def aa0:=tq ["self"] 1067
abbrev Wy {α}:=nt (α:=α) "ended" "Open.ended" (zi 56 3)
def ah6:=Wy f0
def aaZ:=Wy cf 1064 359 1 3 684 1068
def aaY:=Wy f1 3 q7 689
def aaX(P:Pm):=zd #[zm P 1038 q7,zl P 1042 348 1041,den P "name" 1049 (.ref 669),den P "wish_end" 1056 (.ref 676),den P "may_put" 1063 (.ref 683),den P "ended" 1070 (.ref 690),za P 1071 691,den P "__doc__" 1072 .none] 2
def aaW:=zo "Open" [.ref 578] [.ref 693,.ref 578] 692 [] (some (.ref 656)) (q "Open" 1031) (q "Open" 1039)
def ah5:=zs 693
def ah4:=zb 693
def ah3(P:Pm):=zd #[zm P 1082 q7,zq P 1084 "Left" 1083,zl P 1086 361 1085,den P "name" 1093 (.ref 709),den P "wish_end" 1100 (.ref 716),den P "may_put" 1107 (.ref 723),za P 1108 724] 7
def ah2:=zt [(363,4,708),(366,4,715),(369,4,722)]
def ah1:=ck "Left" 1077 361 699
def ah0:=zf 701 3 698 q7 0
def aaV:=tq ["self"] 1090
abbrev Wx {α}:=nt (α:=α) "name" "Left.name" (zi 57 0)
def ahZ:=Wx f0
def aaU:=Wx cf 1087 363 1 3 703 1091
def aaT:=Wx f1 3 q7 708
def aaS:=tq ["self"] 1097
abbrev Ww {α}:=nt (α:=α) "wish_end" "Left.wish_end" (zi 57 1)
def ahY:=Ww f0
def aaR:=Ww cf 1094 366 1 3 710 1098
def aaQ:=Ww f1 3 q7 715
def aaP:=tq ["self"] 1104
abbrev Wv {α}:=nt (α:=α) "may_put" "Left.may_put" (zi 57 2)
def ahX:=Wv f0
def aaO:=Wv cf 1101 369 1 3 717 1105
def aaN:=Wv f1 3 q7 722
def aaM(P:Pm):=zd #[zm P 1082 q7,zl P 1086 361 1085,den P "name" 1093 (.ref 709),den P "wish_end" 1100 (.ref 716),den P "may_put" 1107 (.ref 723),za P 1108 724,den P "__doc__" 1109 .none] 2
def aaL:=zo "Left" [.ref 578] [.ref 726,.ref 578] 725 [] (some (.ref 696)) (q "Left" 1075) (q "Left" 1083)
def ahW:=zs 726
def ahV:=zb 726
def ahU(P:Pm):=md P q7 60 61
def ahT:=lt 108
def ahS:=zo "State" [.type "object"] [.ref 578] 577 [.ref 613,.ref 653,.ref 693,.ref 726,.ref 759,.ref 785] none q8 q9
def ahR(P:Pm):=zd #[zm P 1119 q7,zq P 1121 "Leaving" 1120,zl P 1123 371 1122,den P "name" 1130 (.ref 742),den P "ended" 1137 (.ref 749),den P "answered" 1144 (.ref 756),za P 1145 757] 7
def ahQ:=zt [(373,4,741),(376,4,748),(379,4,755)]
def ahP:=ck "Leaving" 1114 371 732
def ahO:=zf 734 3 731 q7 0
def aaK:=tq ["self"] 1127
abbrev Wu {α}:=nt (α:=α) "name" "Leaving.name" (zi 58 0)
def ahN:=Wu f0
def aaJ:=Wu cf 1124 373 1 3 736 1128
def aaI:=Wu f1 3 q7 741
def aaH:=tq ["self"] 1134
abbrev Wt {α}:=nt (α:=α) "ended" "Leaving.ended" (zi 58 1)
def ahM:=Wt f0
def aaG:=Wt cf 1131 376 1 3 743 1135
def aaF:=Wt f1 3 q7 748
def aaE:=tq ["self"] 1141
abbrev Wr {α}:=nt (α:=α) "answered" "Leaving.answered" (zi 58 2)
def ahL:=Wr f0
def aaD:=Wr cf 1138 379 1 3 750 1142
def aaC:=Wr f1 3 q7 755
def aaB(P:Pm):=zd #[zm P 1119 q7,zl P 1123 371 1122,den P "name" 1130 (.ref 742),den P "ended" 1137 (.ref 749),den P "answered" 1144 (.ref 756),za P 1145 757,den P "__doc__" 1146 .none] 2
def aaA:=zo "Leaving" [.ref 578] [.ref 759,.ref 578] 758 [] (some (.ref 729)) (q "Leaving" 1112) (q "Leaving" 1120)
def ahK:=zs 759
def ahJ:=zb 759
def ahI(P:Pm):=zd #[zm P 1156 q7,zq P 1158 "Waiting" 1157,zl P 1160 381 1159,den P "name" 1167 (.ref 775),den P "ended" 1174 (.ref 782),za P 1175 783] 6
def ahH:=zt [(383,4,774),(386,4,781)]
def ahG:=ck "Waiting" 1151 381 765
def ahF:=zf 767 3 764 q7 0
def aaz:=tq ["self"] 1164
abbrev Wq {α}:=nt (α:=α) "name" "Waiting.name" (zi 59 0)
def ahE:=Wq f0
def aay:=Wq cf 1161 383 1 3 769 1165
def aax:=Wq f1 3 q7 774
def aaw:=tq ["self"] 1171
abbrev Wo {α}:=nt (α:=α) "ended" "Waiting.ended" (zi 59 1)
def ahD:=Wo f0
def aav:=Wo cf 1168 386 1 3 776 1172
def aau:=Wo f1 3 q7 781
def aat(P:Pm):=zd #[zm P 1156 q7,zl P 1160 381 1159,den P "name" 1167 (.ref 775),den P "ended" 1174 (.ref 782),za P 1175 783,den P "__doc__" 1176 .none] 2
def aas:=zo "Waiting" [.ref 578] [.ref 785,.ref 578] 784 [] (some (.ref 762)) (q "Waiting" 1149) (q "Waiting" 1157)
def ahC:=zs 785
def ahB:=zb 785
def ahA(P:Pm):=md P Fc 64 65
def ahz:=lt 114
def aar:=zo "State" [.type "object"] [.ref 578] 577 [.ref 613,.ref 653,.ref 693,.ref 726,.ref 759,.ref 785,.ref 811] none q8 q9
def ahy(P:Pm):=zd #[zm P 1186 q7,zq P 1188 "Closing" 1187,zl P 1190 388 1189,den P "name" 1197 (.ref 801),den P "answered" 1204 (.ref 808),za P 1205 809] 6
def ahx:=zt [(390,4,800),(393,4,807)]
def ahw:=ck "Closing" 1181 388 791
def ahv:=zf 793 3 790 q7 0
def aaq:=tq ["self"] 1194
abbrev Wn {α}:=nt (α:=α) "name" "Closing.name" (zi 60 0)
def ahu:=Wn f0
def aap:=Wn cf 1191 390 1 3 795 1195
def aao:=Wn f1 3 q7 800
def aan:=tq ["self"] 1201
abbrev Wm {α}:=nt (α:=α) "answered" "Closing.answered" (zi 60 1)
def aht:=Wm f0
def aam:=Wm cf 1198 393 1 3 802 1202
def aal:=Wm f1 3 q7 807
def aak(P:Pm):=zd #[zm P 1186 q7,zl P 1190 388 1189,den P "name" 1197 (.ref 801),den P "answered" 1204 (.ref 808),za P 1205 809,den P "__doc__" 1206 .none] 2
def aaj:=zo "Closing" [.ref 578] [.ref 811,.ref 578] 810 [] (some (.ref 788)) (q "Closing" 1179) (q "Closing" 1187)
def ahs:=zs 811
def ahr:=zb 811
def ahq(P:Pm):=zd #[zm P 1218 Rc,zq P 1220 "Taker" 1219,zl P 1222 396 1221,den P "__init__" 1231 (.ref 827),den P "room_left" 1238 (.ref 834),den P "take" 1249 (.ref 841),den P "stand_in_order" 1257 (.ref 848),den P "answer" 1263 (.ref 853),den P "read" 1273 (.ref 860),za P 1279 861] 10
def ahp:=zt [(398,4,826),(405,4,833),(408,4,840),(417,4,847),(424,4,852),(428,4,859)]
def aho:=ck "Taker" 1213 396 817
def ahn:=zf 819 3 816 Rc 0
def aai:=tq ["self","ring","room"] 1226
abbrev Wl {α}:=nt (α:=α) "__init__" "Taker.__init__" (zi 62 0)
def ahm:=Wl f0
def aah:=Wl cf 1223 398 3 3 821 1229
def aag:=Wl f1 3 Rc 826
def aaf:=tq ["self"] 1235
abbrev Wk {α}:=nt (α:=α) "room_left" "Taker.room_left" (zi 62 1)
def ahl:=Wk f0
def aae:=Wk cf 1232 405 1 3 828 1236
def aad:=Wk f1 3 Rc 833
def aac:=tq ["self","number","thing","steps","place"] 1242
abbrev Wj {α}:=nt (α:=α) "take" "Taker.take" (zi 62 2)
def ahk:=Wj f0
def aab:=Wj cf 1239 408 3 3 835 1247
def aaa:=Wj f1 3 Rc 840
def Z_:=tq ["self","things"] 1253
abbrev Wi {α}:=nt (α:=α) "stand_in_order" "Taker.stand_in_order" (zi 62 3)
def ahj:=Wi f0
def Z9:=Wi cf 1250 417 1 3 842 1255
def Z8:=Wi f1 3 Rc 847
abbrev afk {α}:=nt (α:=α) "answer" "Taker.answer" (zi 62 4)
def ahi:=afk f0
def Z7:=cd "answer" 1258 "Taker.answer" 1259 1260 424 1 0 0 3 849 true 181 850 .none .none .none (.ref 851) 1261 1262
def Z6:=afk f1 3 Rc 852
def Z5:=tq ["self","most","things","place"] 1267
abbrev Wh {α}:=nt (α:=α) "read" "Taker.read" (zi 62 5)
def ahh:=Wh f0
def Z4:=Wh cf 1264 428 2 3 854 1271
def Z3:=Wh f1 3 Rc 859
def Z2:=tq ["got","kept","out","ring","room"] 1274
def Z1(P:Pm):=zd #[zm P 1218 Rc,zl P 1222 396 1221,den P "__init__" 1231 (.ref 827),den P "room_left" 1238 (.ref 834),den P "take" 1249 (.ref 841),den P "stand_in_order" 1257 (.ref 848),den P "answer" 1263 (.ref 853),den P "read" 1273 (.ref 860),za P 1279 861,den P "__dict__" 1281 (.ref 864),den P "__weakref__" 1283 (.ref 865),den P "__doc__" 1284 .none] 4
def Z0:=zo "Taker" [.type "object"] [.ref 863] 862 [] none (q "Taker" 1211) (q "Taker" 1219)
def ZZ:Ob:=⟨.type "getset_descriptor",none,.fields #[q "__dict__" 1280,.ref 863,.builtin "function.__dict__",.builtin "function.__dict__#set"],#[]⟩
def ZY:Ob:=⟨.type "getset_descriptor",none,.fields #[q "__weakref__" 1282,.ref 863,.builtin "ExceptionGroup.__weakref__",.none],#[]⟩
def ahg:=zs 863
def ahf:=zb 863
def ZX:=tq ["begin",""] 1291
def ahe(P:Pm):=md P Fc 68 69
def ahd:=lt 123
def ZW:=tq ["end",""] 1294
abbrev afj {α}:=nt (α:=α) "is_text" "is_text" (top 67)
def ahc:=afj f0
def ZV:=cd "is_text" 1297 "is_text" 1298 1299 438 1 0 0 3 870 true 181 871 .none .none .none (.ref 872) 1300 1301
def ZU:=afj f1 3 Fc 873
def ZT:=tq ["frame"] 1306
abbrev Wf {α}:=nt (α:=α) "read_or_none" "read_or_none" (top 68)
def ahb:=Wf f0
def ZS:=Wf cf 1303 440 1 3 875 1307
def ZR:=Wf f1 3 Fc 880
def aha(P:Pm):=zd #[zm P 1317 Fc,zq P 1319 "Hand" 1318,zl P 1321 445 1320,den P "__init__" 1330 (.ref 895),den P "name" 1337 (.ref 902),den P "begin" 1344 (.ref 909),den P "end" 1351 (.ref 916),den P "put" 1360 (.ref 923),den P "read" 1370 (.ref 930),den P "come" 1380 (.ref 937),den P "hear" 1391 (.ref 944),den P "take_in" 1402 (.ref 951),den P "stand_to" 1410 (.ref 958),den P "send" 1421 (.ref 965),den P "piece_of" 1432 (.ref 972),den P "quiet" 1439 (.ref 979),za P 1447 980] 17
def ag_:=zt [(447,4,894),(456,4,901),(459,4,908),(463,4,915),(468,4,922),(476,4,929),(483,4,936),(495,4,943),(502,4,950),(508,4,957),(516,4,964),(525,4,971),(532,4,978)]
def ag9:=ck "Hand" 1312 445 885
def ag8:=zf 887 3 884 Fc 0
def ZQ:=tq ["self","side","terms"] 1325
abbrev We {α}:=nt (α:=α) "__init__" "Hand.__init__" (zi 69 0)
def ag7:=We f0
def ZP:=We cf 1322 447 3 3 889 1328
def ZO:=We f1 3 Fc 894
def ZN:=tq ["self"] 1334
abbrev Wd {α}:=nt (α:=α) "name" "Hand.name" (zi 69 1)
def ag6:=Wd f0
def ZM:=Wd cf 1331 456 1 3 896 1335
def ZL:=Wd f1 3 Fc 901
def ZK:=tq ["self"] 1341
abbrev Wc {α}:=nt (α:=α) "begin" "Hand.begin" (zi 69 2)
def ag5:=Wc f0
def ZJ:=Wc cf 1338 459 1 3 903 1342
def ZI:=Wc f1 3 Fc 908
def ZH:=tq ["self"] 1348
abbrev Wa {α}:=nt (α:=α) "end" "Hand.end" (zi 69 3)
def ag4:=Wa f0
def ZG:=Wa cf 1345 463 1 3 910 1349
def ZF:=Wa f1 3 Fc 915
def ZE:=tq ["self","text","at"] 1355
abbrev V_ {α}:=nt (α:=α) "put" "Hand.put" (zi 69 4)
def ag3:=V_ f0
def ZD:=V_ cf 1352 468 2 3 917 1358
def ZC:=V_ f1 3 Fc 922
def ZA:=tq ["self","many","had_room","things"] 1364
abbrev V9 {α}:=nt (α:=α) "read" "Hand.read" (zi 69 5)
def ag2:=V9 f0
def Zz:=V9 cf 1361 476 2 3 924 1368
def Zy:=V9 f1 3 Fc 929
def Zx:=tq ["self","frame","turn","piece"] 1374
abbrev V8 {α}:=nt (α:=α) "come" "Hand.come" (zi 69 6)
def ag1:=V8 f0
def Zw:=V8 cf 1371 483 3 3 931 1378
def Zv:=V8 f1 3 Fc 936
def Zu:=tq ["self","piece","turn","low","place"] 1384
abbrev V7 {α}:=nt (α:=α) "hear" "Hand.hear" (zi 69 7)
def ag0:=V7 f0
def Zt:=V7 cf 1381 495 3 3 938 1389
def Zs:=V7 f1 3 Fc 943
def Zr:=tq ["self","number","thing","taken","in_order"] 1395
abbrev V6 {α}:=nt (α:=α) "take_in" "Hand.take_in" (zi 69 8)
def agZ:=V6 f0
def Zq:=V6 cf 1392 502 3 3 945 1400
def Zp:=V6 f1 3 Fc 950
def Zo:=tq ["self","kind"] 1406
abbrev V5 {α}:=nt (α:=α) "stand_to" "Hand.stand_to" (zi 69 9)
def agY:=V5 f0
def Zn:=V5 cf 1403 508 2 3 952 1408
def Zm:=V5 f1 3 Fc 957
def Zl:=tq ["self","turn","what","word","place"] 1414
abbrev V4 {α}:=nt (α:=α) "send" "Hand.send" (zi 69 10)
def agX:=V4 f0
def Zk:=V4 cf 1411 516 2 3 959 1419
def Zj:=V4 f1 3 Fc 964
def Um:=tq ["self","word","place","answer","thing"] 1425
abbrev OT {α}:=nt (α:=α) "piece_of" "Hand.piece_of" (zi 69 11)
def afc:=OT f0
def Ul:=OT cf 1422 525 3 3 966 1430
def Uk:=OT f1 3 Fc 971
def Uj:=tq ["self"] 1436
abbrev OS {α}:=nt (α:=α) "quiet" "Hand.quiet" (zi 69 12)
def afb:=OS f0
def Ui:=OS cf 1433 532 1 3 973 1437
def Uh:=OS f1 3 Fc 978
def Ug:=tq ["answer_due","end_places","ring","sender","side","state","taker"] 1440
def Ue(P:Pm):=zd #[zm P 1317 Fc,zl P 1321 445 1320,den P "__init__" 1330 (.ref 895),den P "name" 1337 (.ref 902),den P "begin" 1344 (.ref 909),den P "end" 1351 (.ref 916),den P "put" 1360 (.ref 923),den P "read" 1370 (.ref 930),den P "come" 1380 (.ref 937),den P "hear" 1391 (.ref 944),den P "take_in" 1402 (.ref 951),den P "stand_to" 1410 (.ref 958),den P "send" 1421 (.ref 965),den P "piece_of" 1432 (.ref 972),den P "quiet" 1439 (.ref 979),za P 1447 980,den P "__dict__" 1449 (.ref 983),den P "__weakref__" 1451 (.ref 984),den P "__doc__" 1452 .none] 4
def Ud:=zo "Hand" [.type "object"] [.ref 982] 981 [] none (q "Hand" 1310) (q "Hand" 1318)
def Uc:Ob:=⟨.type "getset_descriptor",none,.fields #[q "__dict__" 1448,.ref 982,.builtin "function.__dict__",.builtin "function.__dict__#set"],#[]⟩
def Ub:Ob:=⟨.type "getset_descriptor",none,.fields #[q "__weakref__" 1450,.ref 982,.builtin "ExceptionGroup.__weakref__",.none],#[]⟩
def afa:=zs 982
def ae_:=zb 982
def ae9(P:Pm):=md P LX 87 88
def ae8:=lt 165
def Ua:=tq ["room","lag"] 1460
abbrev OR {α}:=nt (α:=α) "need" "need" (top 71)
def ae7:=OR f0
def T_:=OR cf 1457 535 2 3 987 1462
def T9:=OR f1 3 (q "slowroad.fooling" 1455) 992
abbrev UA {α}:=nt (α:=α) "are_rooms" "are_rooms" (top 78)
def ae6:=UA f0
def T8:=cd "are_rooms" 1477 "are_rooms" 1478 1479 543 1 0 0 3 994 true 181 995 .none .none .none (.ref 996) 1480 1481
def T7:=UA f1 3 YL 997
def T6:=tq ["first","longest"] 1486
abbrev OQ {α}:=nt (α:=α) "are_waits" "are_waits" (top 79)
def ae5:=OQ f0
def T5:=OQ cf 1483 545 2 3 999 1488
def T4:=OQ f1 3 YL 1004
def ae4(P:Pm):=zd #[zm P 1498 YL,zq P 1500 "Terms" 1499,zl P 1502 547 1501,den P "__init__" 1508 (.ref 1017),za P 1514 1018] 5
def ae3:=zn 549 4 1016
def ae2:=ck "Terms" 1493 547 1009
def ae1:=zf 1011 3 1008 YL 0
abbrev Uz {α}:=nt (α:=α) "__init__" "Terms.__init__" (zi 80 0)
def ae0:=Uz f0
def T3:=cd "__init__" 1503 "Terms.__init__" 1504 1505 549 6 0 0 3 1013 true 181 1014 .none .none .none (.ref 1015) 1506 1507
def T2:=Uz f1 3 YL 1016
def TZ:=tq ["first","lag","longest","ring","rooms"] 1509
def TY(P:Pm):=zd #[zm P 1498 YL,zl P 1502 547 1501,den P "__init__" 1508 (.ref 1017),za P 1514 1018,den P "__dict__" 1516 (.ref 1021),den P "__weakref__" 1518 (.ref 1022),den P "__doc__" 1519 .none] 4
def TX:=zo "Terms" [.type "object"] [.ref 1020] 1019 [] none (q "Terms" 1491) (q "Terms" 1499)
def TV:Ob:=⟨.type "getset_descriptor",none,.fields #[q "__dict__" 1515,.ref 1020,.builtin "function.__dict__",.builtin "function.__dict__#set"],#[]⟩
def TU:Ob:=⟨.type "getset_descriptor",none,.fields #[q "__weakref__" 1517,.ref 1020,.builtin "ExceptionGroup.__weakref__",.none],#[]⟩
def aeZ:=zs 1020
def aeY:=zb 1020
def TR:=tq ["_law_script","_law_k"] 1527
abbrev OP {α}:=nt (α:=α) "_law_cell_at" "_law_cell_at" (top 82)
def aeX:=OP f0
def TQ:=OP cf 1524 563 2 3 1025 1529
def TN:=OP f1 3 LX 1030
def TM:=tq ["_law_cell","_law_k","_law_number","_law_turn"] 1535
abbrev OO {α}:=nt (α:=α) "_law_mixed" "_law_mixed" (top 83)
def aeW:=OO f0
def TL:=OO cf 1532 567 2 3 1032 1539
def TK:=OO f1 3 LX 1037
abbrev Uy {α}:=nt (α:=α) "_law_terms" "_law_terms" (top 84)
def aeV:=Uy f0
def TJ:=cd "_law_terms" 1542 "_law_terms" 1543 1544 574 2 0 0 3 1039 true 181 1040 .none .none .none (.ref 1041) 1545 1546
def TF:=Uy f1 3 LX 1042
def TC:=tq ["_law_cell","_law_size","_law_some","_law_signs","_law_k"] 1551
abbrev OM {α}:=nt (α:=α) "_law_text" "_law_text" (top 85)
def aeU:=OM f0
def TB:=OM cf 1548 586 2 3 1044 1556
def Tz:=OM f1 3 LX 1049
def Tx:=tq ["_law_hand","_law_cell","_law_size","_law_told"] 1562
abbrev OL {α}:=nt (α:=α) "_law_wish" "_law_wish" (top 86)
def aeT:=OL f0
def Tw:=OL cf 1559 593 2 3 1051 1566
def Tv:=OL f1 3 LX 1056
abbrev Ux {α}:=nt (α:=α) "_law_things" "_law_things" (top 87)
def aeS:=Ux f0
def Tu:=cd "_law_things" 1569 "_law_things" 1570 1571 608 1 0 0 3 1058 true 181 1059 .none .none .none (.ref 1060) 1572 1573
def Tt:=Ux f1 3 LX 1061
def Ts:=tq ["_law_hand","_law_turn","_law_sent","_law_frame","_law_word","_law_place","_law_due"] 1578
abbrev OK {α}:=nt (α:=α) "_law_come" "_law_come" (top 88)
def aeR:=OK f0
def Tr:=OK cf 1575 610 3 3 1063 1585
def Tp:=OK f1 3 LX 1068
def To:=tq ["_law_hands","_law_side","_law_many","_law_turn","_law_taker","_law_out","_law_due","_law_found"] 1591
abbrev OJ {α}:=nt (α:=α) "_law_reads" "_law_reads" (top 89)
def aeQ:=OJ f0
def Tn:=OJ cf 1588 620 4 3 1070 1599
def Tj:=OJ f1 3 LX 1075
def Ti:=tq ["_law_hands","_law_terms_here","_law_side","_law_sender","_law_taker"] 1605
abbrev OI {α}:=nt (α:=α) "_law_room" "_law_room" (top 90)
def aeP:=OI f0
def Tg:=OI cf 1602 626 2 3 1077 1610
def Tf:=OI f1 3 LX 1082
def Te:=tq ["_law_hand","_law_idle","_law_sent","_law_sender"] 1616
abbrev OH {α}:=nt (α:=α) "_law_asks" "_law_asks" (top 91)
def aeO:=OH f0
def Td:=OH cf 1613 635 3 3 1084 1620
def Tc:=OH f1 3 LX 1089
def Tb(P:Pm):Ob:=⟨.type "dict",none,.dict #[den P "__name__" 165 LX,den P "__doc__" 166 .none,den P "__package__" 167 .none,den P "__loader__" 168 (.builtin "__main__.__loader__#opaque"),den P "__spec__" 169 .none,den P "__annotations__" 170 (.ref 6),den P "__builtins__" 171 (.ref 4),den P "__file__" 173 (q "/claim/cut.py" 172),den P "__cached__" 174 .none,den P "RoadError" 206 (.ref 24),den P "NoFrame" 231 (.ref 44),den P "Spoilt" 256 (.ref 63),den P "NoPiece" 281 (.ref 82),den P "BadTerms" 297 (.ref 94),den P "NotWide" 322 (.ref 113),den P "BadText" 338 (.ref 125),den P "NotNow" 365 (.ref 144),den P "is_from" 376 (.ref 153),den P "KINDS" 384 (.ref 154),den P "SIGNS" 386 (q " !\"#$&'()*+,-./0123456789:;<=>?@ABCDEFGHIJKLMNOPQRSTUVWXYZ[\\]^_`abcdefghijklmnopqrstuvwxyz{|}~" 385),den P "UNNUMBERED" 389 (.ref 155),den P "NUMBER_MOST" 391 (.int 63 390),den P "ROOM_MOST_pieces" 393 (.int 16 392),den P "HELD_MOST" 395 (.int 15 394),den P "SIGNS_MOST" 397 (.int 4 396),den P "FRAME_BITS" 399 (.int 74 398),den P "CHECK_BITS" 401 (.int 8 400),den P "DIVISOR" 403 (.int 263 402),den P "DIVISOR_BITS" 405 (.int 9 404),den P "REMAINDER_MOST" 407 (.int 255 406),den P "NO_KIND" 409 (q "" 408),den P "NO_SIGN" 411 (q "\n" 410),den P "is_piece" 419 (.ref 162),den P "is_held" 428 (.ref 169),den P "are_signs" 434 (.ref 174),den P "remainder" 442 (.ref 181),den P "written" 450 (.ref 188),den P "body_of" 458 (.ref 195),den P "bits_of_held" 464 (.ref 200),den P "bits_of_signs" 473 (.ref 207),den P "is_frame" 480 (.ref 214),den P "read" 488 (.ref 221),den P "likely_piece" 495 (.ref 228),den P "kind_of" 502 (.ref 235),den P "held_of" 508 (.ref 240),den P "signs_of" 514 (.ref 245),den P "sign_of" 521 (.ref 252),den P "Meter" 592 (.ref 304),den P "ahead" 603 (.ref 315),den P "WAIT_LEAST_ways" 607 (.int 2 606),den P "lowest" 616 (.ref 322),den P "Ways" 690 (.ref 374),den P "KNOWN_TO_HURRY" 694 (.int 2 693),den P "Sender" 878 (.ref 515),den P "State" 949 (.ref 578),den P "Shut" 986 (.ref 613),den P "Calling" 1030 (.ref 653),den P "Open" 1074 (.ref 693),den P "Left" 1111 (.ref 726),den P "Leaving" 1148 (.ref 759),den P "Waiting" 1178 (.ref 785),den P "Closing" 1208 (.ref 811),den P "Taker" 1286 (.ref 863),den P "TEXT_MOST" 1290 (.int 60 1289),den P "BEGIN" 1293 (.ref 868),den P "END" 1296 (.ref 869),den P "is_text" 1302 (.ref 874),den P "read_or_none" 1309 (.ref 881),den P "Hand" 1454 (.ref 982),den P "need" 1464 (.ref 993),den P "RING_MOST" 1468 (.int 64 1467),den P "ROOM_MOST_terms" 1470 (.int 16 1469),den P "LAG_MOST" 1472 (.int 32 1471),den P "WAIT_LEAST_terms" 1474 (.int 2 1473),den P "WAIT_MOST" 1476 (.int 64 1475),den P "are_rooms" 1482 (.ref 998),den P "are_waits" 1490 (.ref 1005),den P "Terms" 1521 (.ref 1020),den P "_law_cell_at" 1531 (.ref 1031),den P "_law_mixed" 1541 (.ref 1038),den P "_law_terms" 1547 (.ref 1043),den P "_law_text" 1558 (.ref 1050),den P "_law_wish" 1568 (.ref 1057),den P "_law_things" 1574 (.ref 1062),den P "_law_come" 1587 (.ref 1069),den P "_law_reads" 1601 (.ref 1076),den P "_law_room" 1612 (.ref 1083),den P "_law_asks" 1622 (.ref 1090),den P "law" 1641 (.ref 1097)] 89,#[]⟩
def aeN:=lt 168
def Ta:=tq ["_law_script","_law_terms_here","_law_hands","_law_way","_law_idle","_law_turn","_law_cell","_law_number","_law_side","_law_taker","_law_full","_law_k","_law_found"] 1626
abbrev OG {α}:=nt (α:=α) "law" "law" (top 92)
def aeM:=OG f0
def S_:=OG cf 1623 640 1 3 1091 1639
def S9:=OG f1 3 LX 1096
local macro_rules
 | `(#[0]) => `(List.nil)
 | `(#[0,$n:num,$x]) => `(List.cons (nat_lit $n, $x) List.nil)
 | `(#[0,$n:num,$x,$xs,*]) => `(List.cons (nat_lit $n, $x) #[0,$xs,*])
def Gw:Params->Frag:=fun P=>#[0,2,boot_o_2 P,3,Tb P,15,o17,22,aF,23,o25 P,24,aeD,25,o27,28,KH,35,aF,37,o39,38,aF,40,o42,41,o43,42,o44,43,o45 P,44,o46,47,KH,54,aF,56,o58,57,aF,59,o61,60,o62,61,o63,62,o64 P,63,o65,66,KH,73,aF,75,o80,76,aF,78,o83,79,o84,80,o85,81,o86 P,82,o87,85,KH,92,aF,93,o98 P,94,o99,97,KH,104,aF,106,aeL,107,aF,109,aeK,110,aeJ,111,aeI,112,aeH P,113,aeG,116,KH,123,aF,124,aeF P,125,aeE,128,KH,135,aF,137,aeC,138,aF,140,aeB,141,aeA,142,aez,143,aey P,144,aex,147,aF,149,aew,150,aF,152,aev,153,aeu,154,aet,155,aes,156,aF,158,aer,159,aF,161,aeq,162,aep,163,aF,165,aeo,166,aF,168,aen,169,aem,170,aF,173,ael,174,aek,175,aF,177,aej,178,aF,180,aei,181,aeh,182,aF,184,aeg,185,aF,187,aef,188,aee,189,aF,191,aed,192,aF,194,aec,195,aeb,196,aF,199,aea,200,ad_,201,aF,203,ad9,204,aF,206,ad8,207,ad7,208,aF,210,ad6,211,aF,213,ad5,214,ad4,215,aF,217,ad3,218,aF,220,ad2,221,ad1,222,aF,224,ad0,225,aF,227,adZ,228,adY,229,aF,231,adX,232,aF,234,adW,235,adV,236,aF,239,adU,240,adT,241,aF,244,adS,245,adR,246,aF,248,adQ,249,aF,251,adP,252,adO,260,aF,262,adN,263,aF,265,adM,266,adL,267,aF,269,adK,270,aF,272,adJ,273,adI,274,aF,276,adH,277,aF,279,adG,280,adF,281,aF,283,adE,284,aF,286,adD,287,adC,288,aF,290,adB,291,aF,293,adA,294,adz,295,aF,297,ady,298,aF,300,adx,301,adw,302,adv,303,adu P,304,adt,305,ads,306,adq,309,aF,311,adp,312,aF,314,ado,315,adn,316,aF,318,adm,319,aF,321,adl,322,adk,330,aF,332,adj,333,aF,335,adi,336,adh,337,aF,339,adg,340,aF,342,adf,343,ade,344,aF,346,adb,347,aF,349,ada,350,ac_,351,aF,353,ac9,354,aF,356,ac8,357,ac7,358,aF,360,ac6,361,aF,363,ac5,364,ac4,365,aF,367,ac3,368,aF,370,ac2,371,ac1,372,ac0,373,acZ P,374,acY,375,acX,376,acW,386,aF,388,acV,389,aF,391,acU,392,acT,393,aF,395,acS,396,aF,398,acR,399,acQ,400,aF,402,acP,403,aF,405,acO,406,acN,407,aF,409,acM,410,aF,412,acL,413,acK,414,aF,416,acJ,417,aF,419,acI,420,acH,421,aF,423,acG,424,aF,426,acF,427,acE,428,aF,431,acD,432,acC,433,aF,436,acB,437,acA,438,aF,441,acz,442,acy,443,aF,445,acx,446,aF,448,acw,449,acv,450,aF,452,acu,453,aF,455,acs,456,acr,457,aF,459,acq,460,aF,462,acp,463,aco,464,aF,466,acn,467,aF,469,acm,470,ack,471,aF,473,acj,474,aF,476,aci,477,ach,478,aF,480,acg,481,aF,483,acf,484,ace,485,aF,487,acd,488,aF,490,acb,491,aca,492,aF,494,ab_,495,aF,497,ab9,498,ab8,499,aF,501,ab7,502,aF,504,ab6,505,ab5,506,aF,508,ab4,509,aF,511,ab3,512,ab2,513,ab1,514,ab0 P,515,abZ,516,abY,517,abX,527,aF,529,abW,530,aF,532,abV,533,abU,534,aF,536,abT,537,aF,539,abS,540,abR,541,aF,543,abQ,544,aF,546,abP,547,abO,548,aF,550,abN,551,aF,553,abM,554,abL,555,aF,557,abK,558,aF,560,abJ,561,abI,562,aF,564,abH,565,aF,567,abG,568,abF,569,aF,571,abE,572,aF,574,abD,575,abC,576,aF,577,abB P,578,aar,579,abA,580,abz,583,yq,590,aF,592,aby,593,aF,595,abx,596,abw,597,aF,599,abv,600,aF,602,abu,603,abt,604,aF,606,abr,607,aF,609,abq,610,abp,611,aF,612,abo P,613,abn,616,yq,623,aF,625,abm,626,aF,628,abl,629,abk,630,aF,632,abj,633,aF,635,abi,636,abh,637,aF,639,abg,640,aF,642,abf,643,abe,644,aF,646,abd,647,aF,649,abc,650,abb,651,aF,652,aba P,653,aa_,656,yq,663,aF,665,aa9,666,aF,668,aa8,669,aa7,670,aF,672,aa6,673,aF,675,aa5,676,aa4,677,aF,679,aa3,680,aF,682,aa2,683,aa1,684,aF,686,aa0,687,aF,689,aaZ,690,aaY,691,aF,692,aaX P,693,aaW,696,yq,703,aF,705,aaV,706,aF,708,aaU,709,aaT,710,aF,712,aaS,713,aF,715,aaR,716,aaQ,717,aF,719,aaP,720,aF,722,aaO,723,aaN,724,aF,725,aaM P,726,aaL,729,yq,736,aF,738,aaK,739,aF,741,aaJ,742,aaI,743,aF,745,aaH,746,aF,748,aaG,749,aaF,750,aF,752,aaE,753,aF,755,aaD,756,aaC,757,aF,758,aaB P,759,aaA,762,yq,769,aF,771,aaz,772,aF,774,aay,775,aax,776,aF,778,aaw,779,aF,781,aav,782,aau,783,aF,784,aat P,785,aas,788,yq,795,aF,797,aaq,798,aF,800,aap,801,aao,802,aF,804,aan,805,aF,807,aam,808,aal,809,aF,810,aak P,811,aaj,821,aF,823,aai,824,aF,826,aah,827,aag,828,aF,830,aaf,831,aF,833,aae,834,aad,835,aF,837,aac,838,aF,840,aab,841,aaa,842,aF,844,Z_,845,aF,847,Z9,848,Z8,849,aF,852,Z7,853,Z6,854,aF,856,Z5,857,aF,859,Z4,860,Z3,861,Z2,862,Z1 P,863,Z0,864,ZZ,865,ZY,868,ZX,869,ZW,870,aF,873,ZV,874,ZU,875,aF,877,ZT,878,aF,880,ZS,881,ZR,889,aF,891,ZQ,892,aF,894,ZP,895,ZO,896,aF,898,ZN,899,aF,901,ZM,902,ZL,903,aF,905,ZK,906,aF,908,ZJ,909,ZI,910,aF,912,ZH,913,aF,915,ZG,916,ZF,917,aF,919,ZE,920,aF,922,ZD,923,ZC,924,aF,926,ZA,927,aF,929,Zz,930,Zy,931,aF,933,Zx,934,aF,936,Zw,937,Zv,938,aF,940,Zu,941,aF,943,Zt,944,Zs,945,aF,947,Zr,948,aF,950,Zq,951,Zp,952,aF,954,Zo,955,aF,957,Zn,958,Zm,959,aF,961,Zl,962,aF,964,Zk,965,Zj,966,aF,968,Um,969,aF,971,Ul,972,Uk,973,aF,975,Uj,976,aF,978,Ui,979,Uh,980,Ug,981,Ue P,982,Ud,983,Uc,984,Ub,987,aF,989,Ua,990,aF,992,T_,993,T9,994,aF,997,T8,998,T7,999,aF,1001,T6,1002,aF,1004,T5,1005,T4,1013,aF,1016,T3,1017,T2,1018,TZ,1019,TY P,1020,TX,1021,TV,1022,TU,1025,aF,1027,TR,1028,aF,1030,TQ,1031,TN,1032,aF,1034,TM,1035,aF,1037,TL,1038,TK,1039,aF,1042,TJ,1043,TF,1044,aF,1046,TC,1047,aF,1049,TB,1050,Tz,1051,aF,1053,Tx,1054,aF,1056,Tw,1057,Tv,1058,aF,1061,Tu,1062,Tt,1063,aF,1065,Ts,1066,aF,1068,Tr,1069,Tp,1070,aF,1072,To,1073,aF,1075,Tn,1076,Tj,1077,aF,1079,Ti,1080,aF,1082,Tg,1083,Tf,1084,aF,1086,Te,1087,aF,1089,Td,1090,Tc,1091,aF,1093,Ta,1094,aF,1096,S_,1097,S9]
def er:Program:={Challenge.pw_slowroad_k67_rooms_and_reading with main:={Challenge.pw_slowroad_k67_rooms_and_reading.main with body:=[top 1,top 2,top 3,top 4,top 5,top 6,top 7,top 8,top 10,top 12,top 13,top 14,top 15,top 16,top 17,top 18,top 19,top 20,top 21,top 22,top 23,top 24,top 25,top 26,top 27,top 28,top 29,top 30,top 31,top 32,top 33,top 34,top 35,top 36,top 37,top 38,top 39,top 40,top 42,top 44,top 46,top 47,top 48,top 50,top 51,top 53,top 54,top 55,top 56,top 57,top 58,top 59,top 60,top 62,top 64,top 65,top 66,top 67,top 68,top 69,top 71,top 73,top 74,top 75,top 76,top 77,top 78,top 79,top 80,top 82,top 83,top 84,top 85,top 86,top 87,top 88,top 89,top 90,top 91,top 92]}}
noncomputable def jM:List Addr:=[2,3,15,22,23,24,25,28,35,37,38,40,41,42,43,44,47,54,56,57,59,60,61,62,63,66,73,75,76,78,79,80,81,82,85,92,93,94,97,104,106,107,109,110,111,112,113,116,123,124,125,128,135,137,138,140,141,142,143,144,147,149,150,152,153,154,155,156,158,159,161,162,163,165,166,168,169,170,173,174,175,177,178,180,181,182,184,185,187,188,189,191,192,194,195,196,199,200,201,203,204,206,207,208,210,211,213,214,215,217,218,220,221,222,224,225,227,228,229,231,232,234,235,236,239,240,241,244,245,246,248,249,251,252,260,262,263,265,266,267,269,270,272,273,274,276,277,279,280,281,283,284,286,287,288,290,291,293,294,295,297,298,300,301,302,303,304,305,306,309,311,312,314,315,316,318,319,321,322,330,332,333,335,336,337,339,340,342,343,344,346,347,349,350,351,353,354,356,357,358,360,361,363,364,365,367,368,370,371,372,373,374,375,376,386,388,389,391,392,393,395,396,398,399,400,402,403,405,406,407,409,410,412,413,414,416,417,419,420,421,423,424,426,427,428,431,432,433,436,437,438,441,442,443,445,446,448,449,450,452,453,455,456,457,459,460,462,463,464,466,467,469,470,471,473,474,476,477,478,480,481,483,484,485,487,488,490,491,492,494,495,497,498,499,501,502,504,505,506,508,509,511,512,513,514,515,516,517,527,529,530,532,533,534,536,537,539,540,541,543,544,546,547,548,550,551,553,554,555,557,558,560,561,562,564,565,567,568,569,571,572,574,575,576,577,578,579,580,583,590,592,593,595,596,597,599,600,602,603,604,606,607,609,610,611,612,613,616,623,625,626,628,629,630,632,633,635,636,637,639,640,642,643,644,646,647,649,650,651,652,653,656,663,665,666,668,669,670,672,673,675,676,677,679,680,682,683,684,686,687,689,690,691,692,693,696,703,705,706,708,709,710,712,713,715,716,717,719,720,722,723,724,725,726,729,736,738,739,741,742,743,745,746,748,749,750,752,753,755,756,757,758,759,762,769,771,772,774,775,776,778,779,781,782,783,784,785,788,795,797,798,800,801,802,804,805,807,808,809,810,811,821,823,824,826,827,828,830,831,833,834,835,837,838,840,841,842,844,845,847,848,849,852,853,854,856,857,859,860,861,862,863,864,865,868,869,870,873,874,875,877,878,880,881,889,891,892,894,895,896,898,899,901,902,903,905,906,908,909,910,912,913,915,916,917,919,920,922,923,924,926,927,929,930,931,933,934,936,937,938,940,941,943,944,945,947,948,950,951,952,954,955,957,958,959,961,962,964,965,966,968,969,971,972,973,975,976,978,979,980,981,982,983,984,987,989,990,992,993,994,997,998,999,1001,1002,1004,1005,1013,1016,1017,1018,1019,1020,1021,1022,1025,1027,1028,1030,1031,1032,1034,1035,1037,1038,1039,1042,1043,1044,1046,1047,1049,1050,1051,1053,1054,1056,1057,1058,1061,1062,1063,1065,1066,1068,1069,1070,1072,1073,1075,1076,1077,1079,1080,1082,1083,1084,1086,1087,1089,1090,1091,1093,1094,1096,1097]
theorem yt:∀P,jM=(Gw P).map (·.1):=fun _=>by kernel_rfl
def KS:Env:={scope:=pg.main.scope,locals:=mainNs,globals:=mainNs,cells:=[],code:=Value.ref 13,frame:=some 14}
def Dj:List Stmt:=behindTheImports pg
def UI:Code:= .body Dj KS
abbrev hdB:List Frame:=[topFrame (Pos.mk 0 0 0 0)]
abbrev hdn:Option Value:=Option.some (Value.ref 6)
def hpre:Params->Heap:=fun P=>⟨Array.mk [boot_o_0 P,boot_o_1 P,boot_o_2 P,boot_o_3 P,boot_o_4 P,boot_o_5 P,boot_o_6 P,boot_o_7 P,boot_o_8 P,boot_o_9 P,boot_o_10 P,aF,cj,o13,o14],Life.mk List.nil List.nil List.nil 0 List.nil List.nil Bool.false (List.toArray List.nil) List.nil 0 Bool.false Bool.false Bool.false 0 (List.cons 2000 (List.cons 10 (List.cons 10 List.nil))) Bool.false 0 Bool.true List.nil List.nil 0 Bool.false⟩
theorem XN (w:World) (os:OsState):topGo treeTable pg w 11 hdn 12 (⟨boot_heap w.params,Array.mk [],boot_drawn,boot_toks,os⟩:Shared) (topStub pg)=some ((⟨hpre w.params,Array.mk [],Drawn.mk 0 0 0 0,187,os⟩:Shared),⟨denote treeTable UI,UI,Pos.mk 0 0 0 0,hdB⟩):=by kernel_rfl
def Ia (P:Pm):BT:=up [boot_o_0 P,boot_o_1 P,boot_o_2 P,boot_o_3 P,boot_o_4 P,boot_o_5 P,boot_o_6 P,boot_o_7 P,boot_o_8 P,boot_o_9 P,boot_o_10 P,aF,cj,o13,o14] .nil 0
noncomputable abbrev lif:Life:=Life.mk List.nil List.nil List.nil 0 List.nil List.nil Bool.false (List.toArray List.nil) List.nil 0 Bool.false Bool.false Bool.false 0 (List.cons 2000 (List.cons 10 (List.cons 10 List.nil))) Bool.false 0 Bool.true List.nil List.nil 0 Bool.false
abbrev sh (t:Pm->BT) (n k:Nat) (w:World) (os:OsState):SharedT:=SharedT.mk (t w.params) n lif (Array.mk []) (Drawn.mk 0 0 0 0) k os
def hgg (i j:Nat):List Stmt:=(Dj.drop i).take j
abbrev sgr (w:World) (os:OsState) (n:Nat) (a:World->OsState->SharedT) (l:List Stmt) (p:Pos) (b:World->OsState->SharedT) (q:Pos):Prop:=segRunT treeTable pg w 11 hdn 1 n (a w os) (piecesOf l KS UI p hdB)=some (.next,b w os,UI,q)
abbrev Dg:=sh Ia 15 187
theorem X7 (w:World) (os:OsState):segRun treeTable pg w 11 hdn 1 1 (⟨hpre w.params,Array.mk [],Drawn.mk 0 0 0 0,187,os⟩:Shared) (blockOf Dj KS UI (Pos.mk 0 0 0 0) hdB)=some (.next,((Dg w os)).abs,UI,Pos.mk 0 0 0 0):=by kernel_rfl
def UD (P:Pm):BT:=up [o17,D9,o19 P,aF,cj,o22,o23,aF,o25 P,o26,o27,o28,o29,KH,D9,o32 P,aF,o34,o35,o36,aF,cj,o39,aF,o41,o42,o43,o44,o45 P,o46,o47,o48,KH,D9,o51 P,aF,o53,o54,o55,aF,cj,o58,aF,o60,o61,o62,o63,o64 P,o65,o66,o67] (ch [(3,o15 P),(12,o16)] (Ia P)) 15
abbrev UH:=sh UD 66 257
def hg4:=hgg 0 4
theorem af9 (w os):sgr w os 686 Dg hg4 (.mk 0 0 0 0) UH (.mk 8 0 11 26):=by unfold sgr;kernel_rfl
def UC (P:Pm):BT:=up [KH,D9,o73 P,aF,o75,o76,o77,aF,cj,o80,aF,o82,o83,o84,o85,o86 P,o87,o88,o89,KH,D9,o92 P,aF,cj,o95,o96,aF,o98 P,o99,akr,akq] (ch [(3,o68 P),(12,o69),(24,o70)] (UD P)) 66
abbrev UG:=sh UC 97 298
def hg6:=hgg 4 2
theorem af8 (w os):sgr w os 459 UH hg6 (.mk 8 0 11 26) UG (.mk 16 0 17 8):=by unfold sgr;kernel_rfl
def UB (P:Pm):BT:=up [KH,D9,akm P,aF,akl,akk,akj,aF,cj,aeL,aF,aki,aeK,aeJ,aeI,aeH P,aeG,akh,akg,KH,D9,akf P,aF,cj,ake,akd,aF,aeF P,aeE,akc,akb] (ch [(3,akp P),(12,ako),(24,akn)] (UC P)) 97
abbrev UE:=sh UB 128 339
def hg8:=hgg 6 2
theorem af7 (w os):sgr w os 459 UG hg8 (.mk 16 0 17 8) UE (.mk 22 0 23 8):=by unfold sgr;kernel_rfl
def Pa (P:Pm):BT:=up [KH,D9,aj9 P,aF,aj8,aj7,aj6,aF,cj,aeC,aF,aj5,aeB,aeA,aez,aey P,aex,aj4,aj3,aF,cj,aew,aF,aj2,aev,aeu,aet,aes,aF,cj,aer,aF,aj1,aeq,aep,aF,cj,aeo,aF,aj0,aen,aem,aF,cj,ajZ,ael,aek,aF,cj,aej,aF,ajY,aei,aeh,aF,cj,aeg,aF,ajX,aef,aee,aF,cj,aed,aF,ajW,aec,aeb,aF,cj,ajV,aea,ad_,aF,cj,ad9,aF,ajU,ad8,ad7,aF,cj,ad6,aF,ajT,ad5,ad4] (ch [(3,aka P),(12,aj_),(24,aeD)] (UB P)) 128
abbrev Po:=sh Pa 215 481
def afK:=hgg 8 27
theorem X4 (w os):sgr w os 695 UE afK (.mk 22 0 23 8) Po (.mk 92 0 93 52):=by unfold sgr;kernel_rfl
def O_ (P:Pm):BT:=up [aF,cj,ad3,aF,ajQ,ad2,ad1,aF,cj,ad0,aF,ajP,adZ,adY,aF,cj,adX,aF,ajO,adW,adV,aF,cj,ajN,adU,adT,aF,cj,ajM,adS,adR,aF,cj,adQ,aF,ajL,adP,adO,aF,D9,ajK P,aF,ajJ,ajI,ajH,aF,cj,adN,aF,ajG,adM,adL,aF,cj,adK,aF,ajF,adJ,adI,aF,cj,adH,aF,ajE,adG,adF,aF,cj,adE,aF,ajD,adD,adC,aF,cj,adB,aF,ajC,adA,adz,aF,cj,ady,aF,ajB,adx,adw,adv,adu P,adt,ads,adq,ajA,ajz,aF,cj,adp,aF,ajy,ado,adn,aF,cj,adm,aF,ajx,adl,adk] (ch [(3,ajS P),(12,ajR)] (Pa P)) 215
abbrev Pn:=sh O_ 323 617
def afJ:=hgg 35 13
theorem X0 (w os):sgr w os 650 Po afJ (.mk 92 0 93 52) Pn (.mk 154 0 156 44):=by unfold sgr;kernel_rfl
def O9 (P:Pm):BT:=up [aF,D9,aju P,aF,ajt,ajs,ajr,aF,cj,adj,aF,ajq,adi,adh,aF,cj,adg,aF,ajp,adf,ade,aF,cj,adb,aF,ajo,ada,ac_,aF,cj,ac9,aF,ajn,ac8,ac7,aF,cj,ac6,aF,ajm,ac5,ac4,aF,cj,ac3,aF,ajl,ac2,ac1,ac0,acZ P,acY,acX,acW,ajk,ajj] (ch [(3,ajw P),(12,ajv)] (O_ P)) 323
abbrev Pl:=sh O9 379 695
def afI:=hgg 48 3
theorem XZ (w os):sgr w os 406 Pn afI (.mk 154 0 156 44) Pl (.mk 189 0 189 14):=by unfold sgr;kernel_rfl
def O8 (P:Pm):BT:=up [aF,D9,ajg P,aF,ajf,aje,ajd,aF,cj,acV,aF,ajc,acU,acT,aF,cj,acS,aF,ajb,acR,acQ,aF,cj,acP,aF,aja,acO,acN,aF,cj,acM,aF,ai_,acL,acK,aF,cj,acJ,aF,ai9,acI,acH,aF,cj,acG,aF,ai8,acF,acE,aF,cj,ai7,acD,acC,aF,cj,ai6,acB,acA,aF,cj,ai5,acz,acy,aF,cj,acx,aF,ai4,acw,acv,aF,cj,acu,aF,ai3,acs,acr,aF,cj,acq,aF,ai2,acp,aco,aF,cj,acn,aF,ai1,acm,ack,aF,cj,acj,aF,ai0,aci,ach,aF,cj,acg,aF,aiZ,acf,ace,aF,cj,acd,aF,aiY,acb,aca,aF,cj,ab_,aF,aiX,ab9,ab8,aF,cj,ab7,aF,aiW,ab6,ab5,aF,cj,ab4,aF,aiV,ab3,ab2,ab1,ab0 P,abZ,abY,abX,aiU,aiT] (ch [(3,aji P),(12,ajh)] (O9 P)) 379
abbrev Pk:=sh O8 520 879
def afH:=hgg 51 1
theorem XY (w os):sgr w os 804 Pl afH (.mk 189 0 189 14) Pk (.mk 190 0 301 28):=by unfold sgr;kernel_rfl
def O7 (P:Pm):BT:=up [aF,D9,aiQ P,aF,aiP,aiO,aiN,aF,cj,abW,aF,aiM,abV,abU,aF,cj,abT,aF,aiL,abS,abR,aF,cj,abQ,aF,aiK,abP,abO,aF,cj,abN,aF,aiJ,abM,abL,aF,cj,abK,aF,aiI,abJ,abI,aF,cj,abH,aF,aiH,abG,abF,aF,cj,abE,aF,aiG,abD,abC,aF,abB P,aiF,abA,abz,aiE,aiD] (ch [(3,aiS P),(12,aiR)] (O8 P)) 520
abbrev Pj:=sh O7 583 950
def afG:=hgg 52 2
theorem XX (w os):sgr w os 416 Pk afG (.mk 190 0 301 28) Pj (.mk 303 0 324 19):=by unfold sgr;kernel_rfl
def O6 (P:Pm):BT:=up [yq,D9,aiz P,aF,aiy,aix,aiw,aF,cj,aby,aF,aiv,abx,abw,aF,cj,abv,aF,aiu,abu,abt,aF,cj,abr,aF,ait,abq,abp,aF,abo P,abn,ais,air,yq,D9,aiq P,aF,aip,aio,ain,aF,cj,abm,aF,aim,abl,abk,aF,cj,abj,aF,ail,abi,abh,aF,cj,abg,aF,aik,abf,abe,aF,cj,abd,aF,aij,abc,abb,aF,aba P,aa_,aii,aih] (ch [(3,aiC P),(12,aiB),(578,aiA)] (O7 P)) 583
abbrev Ph:=sh O6 656 1031
def afF:=hgg 54 2
theorem XW (w os):sgr w os 642 Pj afF (.mk 303 0 324 19) Ph (.mk 335 0 347 21):=by unfold sgr;kernel_rfl
def O5 (P:Pm):BT:=up [yq,D9,aic P,aF,aib,aia,ah_,aF,cj,aa9,aF,ah9,aa8,aa7,aF,cj,aa6,aF,ah8,aa5,aa4,aF,cj,aa3,aF,ah7,aa2,aa1,aF,cj,aa0,aF,ah6,aaZ,aaY,aF,aaX P,aaW,ah5,ah4,yq,D9,ah3 P,aF,ah2,ah1,ah0,aF,cj,aaV,aF,ahZ,aaU,aaT,aF,cj,aaS,aF,ahY,aaR,aaQ,aF,cj,aaP,aF,ahX,aaO,aaN,aF,aaM P,aaL,ahW,ahV] (ch [(3,aif P),(12,aie),(578,aid)] (O6 P)) 656
abbrev Pg:=sh O5 729 1112
def afE:=hgg 56 2
theorem XU (w os):sgr w os 642 Ph afE (.mk 335 0 347 21) Pg (.mk 361 0 370 19):=by unfold sgr;kernel_rfl
def O4 (P:Pm):BT:=up [yq,D9,ahR P,aF,ahQ,ahP,ahO,aF,cj,aaK,aF,ahN,aaJ,aaI,aF,cj,aaH,aF,ahM,aaG,aaF,aF,cj,aaE,aF,ahL,aaD,aaC,aF,aaB P,aaA,ahK,ahJ,yq,D9,ahI P,aF,ahH,ahG,ahF,aF,cj,aaz,aF,ahE,aay,aax,aF,cj,aaw,aF,ahD,aav,aau,aF,aat P,aas,ahC,ahB] (ch [(3,ahU P),(12,ahT),(578,ahS)] (O5 P)) 729
abbrev Pf:=sh O4 788 1179
def afD:=hgg 58 2
theorem XT (w os):sgr w os 580 Pg afD (.mk 361 0 370 19) Pf (.mk 381 0 387 21):=by unfold sgr;kernel_rfl
def O3 (P:Pm):BT:=up [yq,D9,ahy P,aF,ahx,ahw,ahv,aF,cj,aaq,aF,ahu,aap,aao,aF,cj,aan,aF,aht,aam,aal,aF,aak P,aaj,ahs,ahr,aF,D9,ahq P,aF,ahp,aho,ahn,aF,cj,aai,aF,ahm,aah,aag,aF,cj,aaf,aF,ahl,aae,aad,aF,cj,aac,aF,ahk,aab,aaa,aF,cj,Z_,aF,ahj,Z9,Z8,aF,cj,ahi,Z7,Z6,aF,cj,Z5,aF,ahh,Z4,Z3,Z2,Z1 P,Z0,ZZ,ZY,ahg,ahf,ZX] (ch [(3,ahA P),(12,ahz),(578,aar)] (O4 P)) 788
abbrev Pe:=sh O3 869 1294
def afC:=hgg 60 6
theorem XS (w os):sgr w os 701 Pf afC (.mk 381 0 387 21) Pe (.mk 436 0 436 5):=by unfold sgr;kernel_rfl
def O2 (P:Pm):BT:=up [ZW,aF,cj,ahc,ZV,ZU,aF,cj,ZT,aF,ahb,ZS,ZR,aF,D9,aha P,aF,ag_,ag9,ag8,aF,cj,ZQ,aF,ag7,ZP,ZO,aF,cj,ZN,aF,ag6,ZM,ZL,aF,cj,ZK,aF,ag5,ZJ,ZI,aF,cj,ZH,aF,ag4,ZG,ZF,aF,cj,ZE,aF,ag3,ZD,ZC,aF,cj,ZA,aF,ag2,Zz,Zy,aF,cj,Zx,aF,ag1,Zw,Zv,aF,cj,Zu,aF,ag0,Zt,Zs,aF,cj,Zr,aF,agZ,Zq,Zp,aF,cj,Zo,aF,agY,Zn,Zm,aF,cj,Zl,aF,agX,Zk,Zj,aF,cj,Um,aF,afc,Ul,Uk,aF,cj,Uj,aF,afb,Ui,Uh,Ug,Ue P,Ud,Uc,Ub,afa,ae_] (ch [(3,ahe P),(12,ahd)] (O3 P)) 869
abbrev Pd:=sh O2 987 1455
def afB:=hgg 66 4
theorem XR (w os):sgr w os 694 Pe afB (.mk 436 0 436 5) Pd (.mk 445 0 533 98):=by unfold sgr;kernel_rfl
def O1 (P:Pm):BT:=up [aF,cj,Ua,aF,ae7,T_,T9,aF,cj,ae6,T8,T7,aF,cj,T6,aF,ae5,T5,T4,aF,D9,ae4 P,aF,ae3,ae2,ae1,aF,cj,ae0,T3,T2,TZ,TY P,TX,TV,TU,aeZ,aeY,aF,cj,TR,aF,aeX,TQ,TN,aF,cj,TM,aF,aeW,TL,TK,aF,cj,aeV,TJ,TF,aF,cj,TC,aF,aeU,TB,Tz,aF,cj,Tx,aF,aeT,Tw,Tv,aF,cj,aeS,Tu,Tt,aF,cj,Ts,aF,aeR,Tr,Tp,aF,cj,To,aF,aeQ,Tn,Tj,aF,cj,Ti,aF,aeP,Tg,Tf,aF,cj,Te,aF,aeO,Td,Tc] (ch [(3,ae9 P),(12,ae8)] (O2 P)) 987
abbrev Pc:=sh O1 1091 1623
def afA:=hgg 70 22
theorem XQ (w os):sgr w os 696 Pd afA (.mk 445 0 533 98) Pc (.mk 635 0 639 24):=by unfold sgr;kernel_rfl
def O0 (P:Pm):BT:=up [aF,cj,Ta,aF,aeM,S_,S9] (ch [(3,Tb P),(12,aeN)] (O1 P)) 1091
abbrev Pb:=sh O0 1098 1642
def afz:=hgg 92 1
theorem XO (w os):sgr w os 42 Pc afz (.mk 635 0 639 24) Pb (.mk 640 0 670 15):=by unfold sgr;kernel_rfl
def hfin:Pm->Heap:=fun P=>⟨Array.mk ((O0 P).list 1098),Life.mk List.nil List.nil List.nil 0 List.nil List.nil Bool.false (List.toArray List.nil) List.nil 0 Bool.false Bool.false Bool.false 0 (List.cons 2000 (List.cons 10 (List.cons 10 List.nil))) Bool.false 0 Bool.true List.nil List.nil 0 Bool.false⟩
theorem X6 (w:World) (os:OsState):topRun treeTable pg w 11 hdn 2 ((Pb w os)).abs ⟨doneF .next,UI,Pos.mk 640 0 670 15,hdB⟩=some (⟨hfin w.params,Array.mk [],Drawn.mk 0 0 0 0,1642,os⟩:Shared):=by kernel_rfl
theorem Sf (w:World) (os:OsState):topRun treeTable pg w 11 hdn 8574 ((Dg w os)).abs (restOf Dj KS UI (Pos.mk 0 0 0 0) hdB)=some (⟨hfin w.params,Array.mk [],Drawn.mk 0 0 0 0,1642,os⟩:Shared):=.trans (by kernel_rfl) (piece_app (segRun_of (af9 w os)) (piece_app (segRun_of (af8 w os)) (piece_app (segRun_of (af7 w os)) (piece_app (segRun_of (X4 w os)) (piece_app (segRun_of (X0 w os)) (piece_app (segRun_of (XZ w os)) (piece_app (segRun_of (XY w os)) (piece_app (segRun_of (XX w os)) (piece_app (segRun_of (XW w os)) (piece_app (segRun_of (XU w os)) (piece_app (segRun_of (XT w os)) (piece_app (segRun_of (XS w os)) (piece_app (segRun_of (XR w os)) (piece_app (segRun_of (XQ w os)) (piece_app (segRun_of (XO w os)) (piece_nil (X6 w os)))))))))))))))))
theorem XM (w:World) (os:OsState):topRun treeTable pg w 11 hdn 8587 (⟨boot_heap w.params,Array.mk [],boot_drawn,boot_toks,os⟩:Shared) (topStub pg)=some (⟨hfin w.params,Array.mk [],Drawn.mk 0 0 0 0,1642,os⟩:Shared):=go_top (n:=12) (N:=8575) (XN w os) (piece_block (n:=1) (N:=8574) (X7 w os) (Sf w os))
theorem Sg:∀w:World,(fencedOpening treeTable pg w 17240).map (fun s=>(s.heap,s.gens,s.drawn,s.toks))=some (boot_heap w.params,Array.mk [],boot_drawn,boot_toks):=boot_open rfl (by decide) (fun s=>rfl)
theorem Se:∀w:World,((boot_heap w.params).isNs mainGlobals&&(Array.mk []:Array GenState).size == 0,(boot_heap w.params).objs.size,(boot_heap w.params).nsMap mainGlobals "__annotations__")=(true,11,hdn):=fun w=>by kernel_rfl
theorem afX (w:World) (os:OsState):(staticsOk (importedModules pg.main.body) (boot_heap w.params) (hfin w.params)&&namesBound pg (hfin w.params)&&gensDone (⟨hfin w.params,Array.mk [],Drawn.mk 0 0 0 0,1642,os⟩:Shared)&&laidKept (boot_heap w.params) (hfin w.params))=true:=by kernel_rfl
abbrev Qr (w:World) (os:OsState):Shared:=(⟨hfin w.params,Array.mk [],Drawn.mk 0 0 0 0,1642,os⟩:Shared)
abbrev Si (w:World) (os:OsState):=openSeen er [] (importedModules pg.main.body) (fun s=>xlAt er [] s&&recOk Challenge.rw_slowroad_k67_rooms_and_reading.row.records s) true (Qr w os)
theorem afU (w:World) (os:OsState):(Si w os).1=PyProof.Rows.expectedOf er:=by kernel_rfl
theorem afT (w:World) (os:OsState):(Si w os).2.1=bltViewBooted:=by kernel_rfl
theorem afS (w:World) (os:OsState):(Si w os).2.2.1=true:=by kernel_rfl
theorem afR (w:World) (os:OsState):(Si w os).2.2.2.1=true:=by kernel_rfl
theorem afQ (w:World) (os:OsState):(Si w os).2.2.2.2.1=pinGoodD (PyProof.Rows.drecsOf er):=by kernel_rfl
theorem afP (w:World) (os:OsState):(Si w os).2.2.2.2.2.1=PyProof.Rows.plainGoodE er (looseW er []):=by kernel_rfl
theorem afO (w:World) (os:OsState):(Si w os).2.2.2.2.2.2.1=PyProof.Rows.plainGoodD er []:=by kernel_rfl
theorem afN (w:World) (os:OsState):(Si w os).2.2.2.2.2.2.2.1=wideGood er:=by kernel_rfl
theorem afM (w:World) (os:OsState):(Si w os).2.2.2.2.2.2.2.2=clsGoodW er []:=by kernel_rfl
theorem hd_pr {α β:Type} {p:α×β} {a:α} {b:β} (h:p.1=a) (t:p.2=b):p=(a,b):=by cases p;cases h;cases t;rfl
theorem afW (w:World) (os:OsState):openSeen er [] (importedModules pg.main.body) (fun s=>xlAt er [] s&&recOk Challenge.rw_slowroad_k67_rooms_and_reading.row.records s) true (⟨hfin w.params,Array.mk [],Drawn.mk 0 0 0 0,1642,os⟩:Shared)=openGood er []:=.trans (by kernel_rfl) (.trans (hd_pr (afU w os) (hd_pr (afT w os) (hd_pr (afS w os) (hd_pr (afR w os) (hd_pr (afQ w os) (hd_pr (afP w os) (hd_pr (afO w os) (hd_pr (afN w os) (afM w os))))))))) (by kernel_rfl))
theorem Di {α β d:Type} {f:α->d} {g:β->d} {l:List α} {m:List β} (k n:Nat) (h:((l.drop k).take n).map f=((m.drop k).take n).map g) (t:(l.drop (k+n)).map f=(m.drop (k+n)).map g):(l.drop k).map f=(m.drop k).map g:=by
 rw[<-List.take_append_drop n (l.drop k),<-List.take_append_drop n (m.drop k),List.map_append,List.map_append,h,List.drop_drop,List.drop_drop,t]
theorem af5 (w:World) (os:OsState):((jM.drop 0).take 110).map (Qr w os).heap.get?=(((Gw w.params).drop 0).take 110).map (fun p=>some p.2):=by kernel_rfl
theorem af4 (w:World) (os:OsState):((jM.drop 110).take 110).map (Qr w os).heap.get?=(((Gw w.params).drop 110).take 110).map (fun p=>some p.2):=by kernel_rfl
theorem af3 (w:World) (os:OsState):((jM.drop 220).take 110).map (Qr w os).heap.get?=(((Gw w.params).drop 220).take 110).map (fun p=>some p.2):=by kernel_rfl
theorem af2 (w:World) (os:OsState):((jM.drop 330).take 110).map (Qr w os).heap.get?=(((Gw w.params).drop 330).take 110).map (fun p=>some p.2):=by kernel_rfl
theorem af1 (w:World) (os:OsState):((jM.drop 440).take 110).map (Qr w os).heap.get?=(((Gw w.params).drop 440).take 110).map (fun p=>some p.2):=by kernel_rfl
theorem af0 (w:World) (os:OsState):((jM.drop 550).take 110).map (Qr w os).heap.get?=(((Gw w.params).drop 550).take 110).map (fun p=>some p.2):=by kernel_rfl
theorem afZ (w:World) (os:OsState):((jM.drop 660).take 110).map (Qr w os).heap.get?=(((Gw w.params).drop 660).take 110).map (fun p=>some p.2):=by kernel_rfl
theorem afY (w:World) (os:OsState):(jM.drop 770).map (Qr w os).heap.get?=((Gw w.params).drop 770).map (fun p=>some p.2):=by kernel_rfl
theorem afV (w:World) (os:OsState):(kHook Gw jM yt).obs (⟨hfin w.params,Array.mk [],Drawn.mk 0 0 0 0,1642,os⟩:Shared)=(kHook Gw jM yt).val w:=.trans (by kernel_rfl) (.trans (Di 0 110 (af5 w os) (Di 110 110 (af4 w os) (Di 220 110 (af3 w os) (Di 330 110 (af2 w os) (Di 440 110 (af1 w os) (Di 550 110 (af0 w os) (Di 660 110 (afZ w os) (afY w os)))))))) (by kernel_rfl))
theorem af6:∀w:World,Option.map (fun s=>(openSeen er [] (importedModules pg.main.body) (fun s=>xlAt er [] s&&recOk Challenge.rw_slowroad_k67_rooms_and_reading.row.records s) true s,(kHook Gw jM yt).obs s)) (openEnds treeTable pg w 17240)=some (openGood er [],(kHook Gw jM yt).val w):=LeftO.of_pieces (H₀:=boot_heap) (H₁:=hfin) Sg Se XM (by decide) (fun w=>funext fun os=>looks_pair (afX w os) (looks_pair (afW w os) (afV w os)))
end
def v_:Sp:=fun vs H Q E=>zqi vs fun v vs=>zqi vs fun l vs=>zqi vs fun h vs=>zqn vs (Q (.bl (eV v l h)) H)
def vZ:Sp:=fun vs H Q E=>zqr vs fun h vs=>zqn vs ( ∃hs:List Int,H h=some (.tup (hs.map V.int))/\hs.length<=1000/\Q (.bl (Held.dZ 0 hs)) H)
def qx:Sp:=fun vs H Q E=>zqs vs fun k vs=>zqs vs fun sg vs=>zqn vs (sg.length<=1000/\∀H',a8 H H'->Q (.bl (qO k sg)) H')
def sQ:Sp:=fun vs H Q E=>zqr vs fun t vs=>zqn vs ( ∃k n a r hs d,si H t k n a r hs d/\∀H',a8 H H'->Q (.bl (cD k n a r hs d)) H')
def qu:Sp:=fun vs H Q E=>zqi vs fun n vs=>zqn vs ((0<=n/\n<2 ^ 400)/\Q (.int (Rem.R n.toNat:Nat)) H)
def f_ (aN:Addr):Sp:=fun vs H Q E=>zqr vs fun e vs=>zqv vs fun v vs=>zqn vs (H e=some (.ext (uU e aN none))/\∀d,H d=none->Q .non (upd (upd H d (.xd [("frame",v)])) e (.ext (uU e aN (some d)))))
def gP (aR:Addr):Sp:=fun vs H Q E=>zqr vs fun e vs=>zqv vs fun v vs=>zqn vs (H e=some (.ext (uU e aR none))/\∀d,H d=none->Q .non (upd (upd H d (.xd [("frame",v)])) e (.ext (uU e aR (some d)))))
def f9 (aI:Addr):Sp:=fun vs H Q E=>zqr vs fun e vs=>zqv vs fun v vs=>zqn vs (H e=some (.ext (uU e aI none))/\∀d,H d=none->Q .non (upd (upd H d (.xd [("what",v)])) e (.ext (uU e aI (some d)))))
def l_:Sp:=fun vs H Q E=>zqr vs fun h vs=>zqn vs ( ∃hs:List Int,H h=some (.tup (hs.map V.int))/\Held.dZ 0 hs=true/\hs.length<=1000/\∀H',a8 H H'->Q (.int (fQ hs:Nat)) H')
def j8:Sp:=fun vs H Q E=>zqs vs fun d vs=>zqn vs ((d.length<=4/\∀c∈d.cps.toList,c∈sgl)/\Q (.int (Lu d:Nat)) H)
def wb:Sp:=fun vs H Q E=>zqr vs fun t vs=>zqn vs ( ∃k n a r hs d,si H t k n a r hs d/\sj k n a r hs d/\∀H',a8 H H'->Q (.int (fR k n a r hs d:Nat)) H')
def vV (aI:Addr):Sp:=fun vs H Q E=>zqr vs fun t vs=>zqn vs ( ∃k n a r hs f,si H t k n a r hs f/\(cD k n a r hs f=true->∀H',a8 H H'->Q (.int (ip k n a r hs f:Nat)) H')/\(cD k n a r hs f=false->∀H' d,a8 H H'->H' d=some (.xd [("what",.ref t)])->E (.ref aI) (some d) H'))
noncomputable def sgc (c:Nat):Str:=if c<94 then⟨#[sgl.getD c 0]⟩ else "\n"
noncomputable def oJ (b:Nat):List Str:=[sgc (b / 2097152 % 128),sgc (b / 16384 % 128),sgc (b / 128 % 128),sgc (b % 128)]
noncomputable def BJ (b:Nat):Str:=if b / 9223372036854775808<5 then kinds.getD (b / 9223372036854775808) "" else ""
noncomputable def MY (b:Nat):Int:=(b / 144115188075855872 % 64:Nat)
noncomputable def MZ (b:Nat):Int:=(b / 2251799813685248 % 64:Nat)
noncomputable def RQ (b:Nat):Int:=(b / 70368744177664 % 32:Nat)
noncomputable def hbit (b:Nat) (s:Int):Bool:=decide (b / 2147483648 / 2 ^ (s-1).toNat % 2=1)
noncomputable def HV (b:Nat):List Int:=Held.ones.filter (hbit b)
noncomputable def MX (b:Nat):Str:=Txt.slice (Txt.join "" (oJ b)) none (some ((b / 268435456 % 8:Nat):Int))
theorem uN {x:Nat}:Builtin.bitAnd (x:Int) ((2 ^ k-1:Nat):Int)=((x % 2 ^ k:Nat):Int):=by
 rw[BitI.Lf,Nat.and_two_pow_sub_one_eq_mod]
theorem UM {x:Nat}:Builtin.bitAnd (x:Int) 63=((x % 64:Nat):Int):=uN (k:=6)
theorem ago {x:Nat}:Builtin.bitAnd (x:Int) 31=((x % 32:Nat):Int):=uN (k:=5)
theorem akF {x:Nat}:Builtin.bitAnd (x:Int) 7=((x % 8:Nat):Int):=uN (k:=3)
theorem YG {x:Nat}:Builtin.bitAnd (x:Int) 127=((x % 128:Nat):Int):=uN (k:=7)
theorem akG {x:Nat}:Builtin.bitAnd (x:Int) 1=((x % 2:Nat):Int):=uN (k:=1)
theorem MO (b:Nat):((oJ b).map (·.length)).sum=4:=by
 have e:∀c,(sgc c).length=1:=fun c=>by unfold sgc;split<;>rfl
 unfold oJ;simp[e]
theorem HX (b:Nat):(Txt.join "" (oJ b)).length=4:=by
 have e:∀c,∃x,sgc c=⟨#[x]⟩:=fun c=>by unfold sgc;split;exact⟨_,rfl⟩;exact⟨10,rfl⟩
 unfold oJ;obtain⟨m,e1⟩:=e _;obtain⟨j,d⟩:=e _;obtain⟨u,i⟩:=e _;obtain⟨v,f⟩:=e _;rw[e1,d,i,f];rfl
theorem RS (b:Nat):(HV b).length<=15:=Nat.le_trans (List.length_filter_le _ _) (by decide)
noncomputable def tO (f:Nat):Bool:=cD (BJ (f / 256)) (MY (f / 256)) (MZ (f / 256)) (RQ (f / 256)) (HV (f / 256)) (MX (f / 256))&&decide (ip (BJ (f / 256)) (MY (f / 256)) (MZ (f / 256)) (RQ (f / 256)) (HV (f / 256)) (MX (f / 256))=f)
def Qh (H:Hp) (t:Addr) (b:Nat):Prop:=si H t (BJ b) (MY b) (MZ b) (RQ b) (HV b) (MX b)
def sS:Sp:=fun vs H Q E=>zqi vs fun f vs=>zqn vs (Q (.bl (decide (0<=f/\f<18889465931478580854784))) H)
def vW:Sp:=fun vs H Q E=>zqi vs fun c vs=>zqn vs (0<=c/\Q (.str (sgc c.toNat)) H)
def sP:Sp:=fun vs H Q E=>zqi vs fun b vs=>zqn vs (0<=b/\∀H',a8 H H'->Q (.str (Txt.join "" (oJ b.toNat))) H')
def vX:Sp:=fun vs H Q E=>zqi vs fun c vs=>zqn vs (0<=c/\Q (.str (if c.toNat<5 then kinds.getD c.toNat "" else "")) H)
def wa:Sp:=fun vs H Q E=>zqi vs fun b vs=>zqn vs (0<=b/\∀h H',a8 H H'->H' h=some (.tup ((Held.ones.filter fun s=>decide (b.toNat / 2 ^ (s-1).toNat % 2=1)).map V.int))->Q (.ref h) H')
def l9:Sp:=fun vs H Q E=>zqi vs fun b vs=>zqn vs (0<=b/\∀t H',a8 H H'->Qh H' t b.toNat->Q (.ref t) H')
def FC (aN aR aI:Addr):Sp:=fun vs H Q E=>zqi vs fun f vs=>zqn vs ((¬(0<=f/\f<18889465931478580854784)->∀H' d,a8 H H'->H' d=some (.xd [("frame",.int f)])->E (.ref aN) (some d) H')/\(0<=f/\f<18889465931478580854784->Rem.R f.toNat≠0->∀H' d,a8 H H'->H' d=some (.xd [("frame",.int f)])->E (.ref aR) (some d) H')/\(0<=f/\f<18889465931478580854784->Rem.R f.toNat=0->tO f.toNat=false->∀H' d,a8 H H'->H' d=some (.xd [("what",.int f)])->E (.ref aI) (some d) H')/\(0<=f/\f<18889465931478580854784->Rem.R f.toNat=0->tO f.toNat=true->∀t H',a8 H H'->Qh H' t (f.toNat / 256)->Q (.ref t) H'))
theorem L6 (h:a<=b):(2:Nat) ^ b=2 ^ a*2 ^ (b-a):=by rw[<-Nat.pow_add];congr 1;lia
theorem Fj:∀{hs:List Int} {l:Nat},Held.dZ (l:Int) hs=true->(∃m,fQ hs=m*2 ^ l)/\∀s:Nat,l<s->(((s:Int)∈hs)↔fQ hs / 2 ^ (s-1) % 2=1)
 | [],l,_=>⟨⟨0,by simp[fQ]⟩,fun s _=>by simp[fQ]⟩
 |x::xs,l,h=>by
  unfold Held.dZ at h;rw[Bool.and_eq_true,Bool.and_eq_true,decide_eq_true_eq,decide_eq_true_eq] at h;obtain⟨⟨h1,C⟩,u⟩:=h;obtain⟨j,rfl⟩:∃j:Nat,x=((j+1:Nat):Int):=⟨(x-1).toNat,by lia⟩;obtain⟨⟨m,hm⟩,v⟩:=Fj (hs:=xs) (l:=j+1) u;have e:fQ (((j+1:Nat):Int)::xs)=2 ^ j+m*2 ^ (j+1):=by
   rw[<-hm];unfold fQ;rw[List.map_cons,List.sum_cons];congr 2;lia
  have E:l<=j:=by lia
  have big:∀y∈xs,((j+1:Nat):Int)<y:=fun y z=>by
   have:=(Held.uS.mp u).2 y z;lia
  have i:(2:Nat) ^ (j+1)=2*2 ^ j:=by lia
  refine⟨⟨2 ^ (j-l)+m*2 ^ (j+1-l),?_⟩,fun s hs=>?_⟩
  ·rw[e,Nat.add_mul,<-Nat.pow_add,Nat.mul_assoc,<-Nat.pow_add];congr 2
   ·simp_all
   ·congr 1;lia
  ·rw[e];rcases Nat.lt_trichotomy s (j+1) with c|c|c
   ·have ev:(2 ^ j+m*2 ^ (j+1)) / 2 ^ (s-1) % 2=0:=by
     have e1:(2:Nat) ^ j=2 ^ (s-1)*(2*2 ^ (j-s)):=by
      rw[show(2:Nat)*2 ^ (j-s)=2 ^ (j-s+1) by rw[Nat.pow_succ];lia,<-Nat.pow_add];congr 1;lia
     have f:2 ^ j+m*2 ^ (j+1)=2 ^ (s-1)*(2*(2 ^ (j-s)+m*(2*2 ^ (j-s)))):=by
      rw[i,e1];generalize(2:Nat) ^ (s-1)=A;generalize(2:Nat) ^ (j-s)=B;rw[Nat.mul_add,Nat.mul_add];congr 1;rw[<-Nat.mul_assoc m,Nat.mul_comm (m*2),Nat.mul_assoc A,Nat.mul_comm m 2];simp only[Nat.mul_assoc,Nat.mul_comm,Nat.mul_left_comm]
     rw[f,Nat.mul_div_cancel_left _ (Nat.two_pow_pos _),Nat.mul_mod_right]
    constructor
    ·intro d;rcases List.mem_cons.mp d with q|q
     ·lia
     ·have:=big _ q;lia
    ·intro q;lia
   ·subst c;have f:(2 ^ j+m*2 ^ (j+1)) / 2 ^ (j+1-1) % 2=1:=by
     rw[i,show j+1-1=j by lia,show 2 ^ j+m*(2*2 ^ j)=(1+2*m)*2 ^ j by rw[Nat.add_mul,Nat.one_mul];simp only[Nat.mul_assoc,Nat.mul_comm,Nat.mul_left_comm],Nat.mul_div_cancel _ (Nat.two_pow_pos _)];lia
    exact⟨fun _=>f,fun _=>by simp⟩
   ·have f:(2 ^ j+m*2 ^ (j+1)) / 2 ^ (s-1)=fQ xs / 2 ^ (s-1):=by
     rw[hm,L6 (show j+1<=s-1 by lia),<-Nat.div_div_eq_div_mul,<-Nat.div_div_eq_div_mul,Nat.mul_div_cancel _ (Nat.two_pow_pos _)];congr 1;rw[Nat.add_mul_div_right _ _ (Nat.two_pow_pos _),Nat.div_eq_of_lt (by rw[i];have:=Nat.two_pow_pos j;lia),Nat.zero_add]
    rw[f,<-v s (by lia)];constructor
    ·intro d;rcases List.mem_cons.mp d with q|q
     ·lia
     ·exact q
    ·intro q;exact List.mem_cons_of_mem _ q
theorem Lc (hi:i<15):(X*32768+h) / 2 ^ i % 2=h / 2 ^ i % 2:=by
 have e:X*32768=2 ^ i*(2*(X*2 ^ (14-i))):=by
  have:(32768)=2 ^ i*(2*2 ^ (14-i)):=by
   rw[show(2)*2 ^ (14-i)=2 ^ (14-i+1) by lia,<-Nat.pow_add,show i+(14-i+1)=15 by lia]
  rw[this];simp only[Nat.mul_left_comm]
 rw[e,Nat.add_comm,Nat.add_mul_div_left _ _ (Nat.two_pow_pos _),Nat.add_mul_mod_self_left]
theorem MF (h:Held.dZ 0 hs=true):(Held.ones.filter fun s=>decide ((X*32768+fQ hs) / 2 ^ (s-1).toNat % 2=1))=hs:=by
 obtain⟨h1,i⟩:=Held.uS.mp h;have f:=(Fj (l:=0) (‹_›)).2;refine Held.CI (Held.HF.filter _) h1 fun z=>?_;rw[List.mem_filter,Held.Ou,decide_eq_true_eq];constructor
 ·rintro⟨d,q⟩;obtain⟨s,rfl⟩:∃s:Nat,z=(s):=⟨z.toNat,by lia⟩;rw[f s (by lia)];rw[show((s:Int)-1).toNat=s-1 by lia] at q;rw[Lc (by lia)] at q;exact q
 ·intro d;have j:=i z d;refine⟨‹_›,?_⟩;obtain⟨s,rfl⟩:∃s:Nat,z=(s):=⟨z.toNat,by lia⟩;rw[show((s:Int)-1).toNat=s-1 by lia,Lc (by lia)];exact(f s (by lia)).mp d
theorem Cm (h:c∈sgl):sgc (sgn c)=⟨#[c]⟩:=by
 obtain⟨_,f,d⟩:=o4 h;unfold sgc;rw[if_pos f,List.getD_eq_getElem?_getD,d];rfl
theorem afi:Txt.join "" [⟨#[a]⟩,⟨#[b]⟩,⟨#[c]⟩,⟨#[d]⟩]=⟨#[a,b,c,d]⟩:=rfl
theorem Nu {n:Nat} (h:n<=z.length):Txt.slice z none (some (n:Int))=⟨(z.cps.toList.take n).toArray⟩:=by
 have hl:z.cps.toList.length=z.length:=rfl;have e:=StrLaws.sliceText_to (x:=z) (j:=(n)) ⟨by lia,by lia⟩;exact e
theorem KJ (p:sj k n a r hs sg):BJ (fR k n a r hs sg)=k/\MY (fR k n a r hs sg)=n/\MZ (fR k n a r hs sg)=a/\RQ (fR k n a r hs sg)=r/\HV (fR k n a r hs sg)=hs/\MX (fR k n a r hs sg)=sg:=by
 have pb:=p.parts;have v:=Gr p.hk;obtain⟨i,u⟩:=p.pad;obtain⟨c1,f,j,d,hc⟩:∃c1 f j d,vh sg= [c1,f,j,d]:=by
  match h:vh sg,u with
  | [c1,f,j,d],_=>exact⟨c1,f,j,d,rfl⟩
 have m1:=i c1 (by simp_all);have x:=i f (by simp_all);have y:=i j (by simp_all);have z:=i d (by simp_all);have s1:=(o4 m1).2.1;have s2:=(o4 x).2.1;have s3:=(o4 y).2.1;have U:=(o4 z).2.1;have es:Lu sg=((sgn c1*128+sgn f)*128+sgn j)*128+sgn d:=by
  unfold Lu;rw[hc];simp[Eg]
 have hb:fR k n a r hs sg=(((((kidx k*64+n.toNat)*64+a.toNat)*32+r.toNat)*32768+fQ hs)*8+sg.length)*268435456+Lu sg:=rfl;have n0:=p.n0;have a0:=p.a0;have r0:=p.r0;obtain⟨b1,Y,Z,P,J,X,O⟩:=pb;have m:=v.2;have hh:=p.hh;have hl:=p.hl;have G:kinds.getD (kidx k) "" = k:=by rw[List.getD_eq_getElem?_getD,v.1.1];rfl
 generalize fR k n a r hs sg=B at*
 refine⟨?_,?_,?_,?_,?_,?_⟩
 ·unfold BJ;have:B / 9223372036854775808=kidx k:=by omega
  rw[this,if_pos m,G]
 ·unfold MY;omega
 ·unfold MZ;omega
 ·unfold RQ;omega
 ·unfold HV hbit;have:B / 2147483648=(((kidx k*64+n.toNat)*64+a.toNat)*32+r.toNat)*32768+fQ hs:=by omega
  rw[this];exact MF hh
 ·unfold MX oJ;have e1:B / 2097152 % 128=sgn c1:=by omega
  have I:B / 16384 % 128=sgn f:=by omega
  have E:B / 128 % 128=sgn j:=by omega
  have H:B % 128=sgn d:=by omega
  have F:B / 268435456 % 8=sg.length:=by omega
  rw[e1,I,E,H,F,Cm m1,Cm x,Cm y,Cm z,afi,Nu (by show sg.length<=4;exact hl)];have C:([c1,f,j,d]:List Nat).take sg.length=sg.cps.toList:=by
   rw[<-hc];unfold vh;have:sg.length=sg.cps.toList.length:=by simp[Str.length]
   rw[this,List.take_left]
  show(⟨(([c1,f,j,d]:List Nat).take sg.length).toArray⟩:Str)=sg;rw[C]
theorem MI (h:cD k n a r hs sg=true):tO (ip k n a r hs sg)=true/\ip k n a r hs sg / 256=fR k n a r hs sg:=by
 have e:ip k n a r hs sg / 256=fR k n a r hs sg:=by
  rw[Fm];have:=Rem.JT (fR k n a r hs sg*256);lia
 refine⟨?_,e⟩;unfold tO;rw[e];obtain⟨h1,d,i,j,f,m⟩:=KJ (C4 h);rw[h1,d,i,j,f,m,h,Bool.true_and,decide_eq_true rfl]
theorem qg:eV v l h=true↔l<=v/\v<=h:=by
 unfold eV;rw[Bool.and_eq_true,decide_eq_true_eq,decide_eq_true_eq]
theorem Gx (c:l<=v/\v<=h):eV v l h=true:=qg.mpr c
theorem Gy (c: ¬(l<=v/\v<=h)):eV v l h=false:=by
 cases e:eV v l h
 ·rfl
 ·exact absurd (qg.mp e) c
noncomputable def n8 (r l:Int):Int:=if r=1 then 2+l / 2 else 2*r+l-1
noncomputable def pH (o t g:Int):Int:=if n8 o g<n8 t g then n8 t g else n8 o g
def good (r o t g f l:Int):Prop:=(2<=r/\r<=64)/\((1<=o/\o<=16)/\(1<=t/\t<=16))/\(1<=g/\g<=32)/\(2<=l/\l<=64)/\(2<=f/\f<=l)
def FD:Sp:=fun vs H Q E=>zqi vs fun r vs=>zqi vs fun l vs=>zqn vs (Q (.int (n8 r l)) H)
def qy:Sp:=fun vs H Q E=>zqr vs fun p vs=>zqn vs ( ∃o t,H p=some (.tup [.int o,.int t])/\∀H',a8 H H'->Q (.bl (decide ((1<=o/\o<=16)/\(1<=t/\t<=16)))) H')
def qv:Sp:=fun vs H Q E=>zqi vs fun f vs=>zqi vs fun l vs=>zqn vs (Q (.bl (decide ((2<=l/\l<=64)/\2<=f/\f<=l))) H)
def f7 (aP:Addr):Sp:=fun vs H Q E=>zqr vs fun e vs=>zqi vs fun l vs=>zqn vs (H e=some (.ext (uU e aP none))/\∀d,H d=none->Q .non (upd (upd H d (.xd [("least",.int l)])) e (.ext (uU e aP (some d)))))
def iT (bj aT aP:Addr):Sp:=fun vs H Q E=>zqr vs fun x vs=>zqi vs fun r vs=>zqr vs fun p vs=>zqi vs fun g vs=>zqi vs fun f vs=>zqi vs fun l vs=>zqn vs ( ∃o t dx,H p=some (.tup [.int o,.int t])/\H x=some (.ins bj dx [])/\(¬good r o t g f l->∀H',a8 H H'->E (.ref aT) none H')/\(good r o t g f l->r<pH o t g->∀H' d,a8 H H'->H' d=some (.xd [("least",.int (pH o t g))])->E (.ref aP) (some d) H')/\(good r o t g f l->¬r<pH o t g->∀H',lH x H H'->H' x=some (.ins bj dx (jN (.int r) (.ref p) (.int g) (.int f) (.int l)))->Q .non H'))
def iW (ai:Addr):Sp:=fun vs H Q E=>zqr vs fun p vs=>zqi vs fun m vs=>zqn vs ( ∃dx,H p=some (.ins ai dx [])/\Q .non (upd H p (.ins ai dx (a9 (.int m) (.int (MeterM.mn 2 m)) (.int m) (.int 0)))))
def iV (ai:Addr):Sp:=fun vs H Q E=>zqr vs fun p vs=>zqn vs ( ∃dx m w k c,H p=some (.ins ai dx (a9 (.int m) (.int w) (.int k) (.int c)))/\Q .non (upd H p (.ins ai dx (a9 (.int m) (.int (MeterM.k1 m k (w,c)).1) (.int k) (.int (MeterM.k1 m k (w,c)).2)))))
def nU (ai:Addr):Sp:=fun vs H Q E=>zqr vs fun p vs=>zqi vs fun n vs=>zqn vs ((0<=n/\n<1000)/\∃dx m w k c,H p=some (.ins ai dx (a9 (.int m) (.int w) (.int k) (.int c)))/\Q .non (upd H p (.ins ai dx (a9 (.int m) (.int (MeterM.kn m k n.toNat (w,c)).1) (.int k) (.int (MeterM.kn m k n.toNat (w,c)).2)))))
def pC (ai:Addr):Sp:=fun vs H Q E=>zqr vs fun p vs=>zqn vs ( ∃dx m w k c,H p=some (.ins ai dx (a9 (.int m) (.int w) (.int k) (.int c)))/\Q (.int (MeterM.hf w)) H)
def kh (ai:Addr):Sp:=fun vs H Q E=>zqr vs fun p vs=>zqn vs ( ∃dx m w k c,H p=some (.ins ai dx (a9 (.int m) (.int w) (.int k) (.int c)))/\Q .non (upd H p (.ins ai dx (a9 (.int m) (.int 1) (.int (MeterM.hf w)) (.int 0)))))
def kj (ai:Addr):Sp:=fun vs H Q E=>zqr vs fun p vs=>zqn vs ( ∃dx m w k c,H p=some (.ins ai dx (a9 (.int m) (.int w) (.int k) (.int c)))/\Q .non (upd H p (.ins ai dx (a9 (.int m) (.int (MeterM.hf w)) (.int (MeterM.hf w)) (.int 0)))))
structure Wb (a A b B m:Int):Prop where
 m0:0<=m
 m1:m<=1000000
 a0:0<=a
 A0:0<A
 b0:0<=b
 B0:0<B
 a1:Bd 1000 a
 A1:Bd 1000 A
 b1:Bd 1000 b
 B1:Bd 1000 B
def Fx (av:Addr) (H:Hp) (p dx:Addr) (L w a A b B:Int):Prop:= ∃d f,H p=some (.ins av dx (bE (.int L) (.ref d) (.ref f) (.int w)))/\H d=some (.tup [.int a,.int A])/\H f=some (.tup [.int b,.int B])
noncomputable abbrev nsp:=WaysM.nsp
noncomputable abbrev nsm:=WaysM.nsm
noncomputable def lw (a A b B:Int):Int:=-(-(a*B+4*b*A) / (A*B))
noncomputable def wt (L a A b B:Int):Int:=if 2<(if lw a A b B<L then lw a A b B else L) then(if lw a A b B<L then lw a A b B else L) else 2
theorem Wb.mB (W:Wb a A b B m):Bd 20 m:=Bd.of W.m0 (by have:=W.m1;lia)
theorem Wb.afe (W:Wb a A b B m):0<=3*a+m*A/\0<4*A:=by
 have:=Int.mul_nonneg W.m0 (Int.le_of_lt W.A0);have:=W.a0;have:=W.A0;lia
theorem Wb.afd (W:Wb a A b B m):0<=3*b*A+((a-m*A).natAbs:Int)*B/\0<4*(A*B):=by
 have d:=Int.mul_pos W.A0 W.B0;have:=Int.mul_nonneg (Int.mul_nonneg (show(0)<=3 by decide) W.b0) (Int.le_of_lt W.A0);have:=Int.mul_nonneg (Int.natCast_nonneg (a-m*A).natAbs) (Int.le_of_lt W.B0);lia
theorem Wb.akt (W:Wb a A b B m):0<=(nsm a A m).1/\0<(nsm a A m).2/\Bd 2000 (nsm a A m).1/\Bd 2000 (nsm a A m).2:=by
 obtain⟨s,d⟩:=WaysM.qc W.afe.1 W.afe.2;have h1:=(((Bd.c (k:=3) (by decide)).mul W.a1).up (show 2+1000<=1020 by decide)).add (W.mB.mul W.A1);exact⟨d.t0,d.b0,(h1.le d.t0 d.tl).up (by decide),(Bd.le ((Bd.c (n:=3) (by decide)).mul W.A1) (Int.le_of_lt d.b0) d.bl).up (by decide)⟩
theorem Wb.aks (W:Wb a A b B m):0<=(nsp a A b B m).1/\0<(nsp a A b B m).2/\Bd 3000 (nsp a A b B m).1/\Bd 3000 (nsp a A b B m).2:=by
 obtain⟨s,f⟩:=WaysM.qc W.afd.1 W.afd.2;have d:=((W.a1.up (show 1000<=1020 by decide)).sub (W.mB.mul W.A1)).abs;have h1:=((((Bd.c (k:=3) (by decide)).mul W.b1).mul W.A1).up (show 2+1000+1000<=2021 by decide)).add (d.mul W.B1);exact⟨f.t0,f.b0,(h1.le f.t0 f.tl).up (by decide),(Bd.le ((Bd.c (n:=3) (by decide)).mul (W.A1.mul W.B1)) (Int.le_of_lt f.b0) f.bl).up (by decide)⟩
theorem Wb.of (h:WaysM.St n P S D a A b B) (hn:n<=440) (h0:0<=m) (h1:m<=1000000):Wb a A b B m:=by
 have e:(4) ^ n=((2 ^ (2*n):Nat):Int):=by rw[WaysM.yx];simp
 have d:Bd 881 P:=by rw[h.p,e];exact Bd.c (Nat.pow_lt_pow_right (by decide) (by lia))
 have f:=Bd.le ((Bd.c (n:=20) (by decide)).mul d) h.s0 h.s1;have hD:=Bd.le ((Bd.c (n:=21) (by decide)).mul d) h.d0 h.d1;exact⟨h0,h1,h.a0,h.A0,h.b0,h.B0,(f.le h.a0 h.a1).up (by decide),(d.le (Int.le_of_lt h.A0) h.A1).up (by decide),(hD.le h.b0 h.b1).up (by decide),(Bd.le ((Bd.c (n:=2) (by decide)).mul d) (Int.le_of_lt h.B0) h.B1).up (by decide)⟩
def y4:Sp:=fun vs H Q E=>zqi vs fun t vs=>zqi vs fun b vs=>zqn vs ((0<=t/\0<b/\Bd 8000 b)/\∀p,H p=none->Q (.ref p) (upd H p (.tup [.int (WaysM.low t b).1,.int (WaysM.low t b).2])))
def j9 (av:Addr):Sp:=fun vs H Q E=>zqr vs fun p vs=>zqi vs fun f vs=>zqi vs fun l vs=>zqn vs ( ∃dx,H p=some (.ins av dx [])/\Q .non (upd H p (.ins av dx (bE (.int l) .non .non (.int f)))))
def fU (av:Addr):Sp:=fun vs H Q E=>zqr vs fun p vs=>zqi vs fun m vs=>zqn vs ( ∃dx L w a A b B,Wb a A b B m/\Fx av H p dx L w a A b B/\∀q,H q=none->Q (.ref q) (upd H q (.tup [.int (nsp a A b B m).1,.int (nsp a A b B m).2])))
def fV (av:Addr):Sp:=fun vs H Q E=>zqr vs fun p vs=>zqi vs fun m vs=>zqn vs ( ∃dx L s d w a A,(0<=m/\m<=1000000/\0<=a/\0<A/\Bd 1000 A)/\H p=some (.ins av dx (bE (.int L) (.ref d) s (.int w)))/\H d=some (.tup [.int a,.int A])/\∀q,H q=none->Q (.ref q) (upd H q (.tup [.int (nsm a A m).1,.int (nsm a A m).2])))
def gN (av:Addr):Sp:=fun vs H Q E=>zqr vs fun p vs=>zqn vs ( ∃dx L w a A b B,(0<A/\0<B/\Bd 2000 a/\Bd 2000 A/\Bd 3000 b/\Bd 3000 B)/\Fx av H p dx L w a A b B/\Q (.int (lw a A b B)) H)
def fw (av:Addr):Sp:=fun vs H Q E=>zqr vs fun p vs=>zqi vs fun m vs=>zqn vs ((0<=m/\m<=1000000)/\((∃dx L w,H p=some (.ins av dx (bE (.int L) .non .non (.int w)))/\∀H',lH p H H'->Fx av H' p dx L (wt L m 1 (WaysM.low m 2).1 (WaysM.low m 2).2) m 1 (WaysM.low m 2).1 (WaysM.low m 2).2->Q .non H')\/(∃dx L w a A b B,Wb a A b B m/\Fx av H p dx L w a A b B/\∀H',lH p H H'->Fx av H' p dx L (wt L (nsm a A m).1 (nsm a A m).2 (nsp a A b B m).1 (nsp a A b B m).2) (nsm a A m).1 (nsm a A m).2 (nsp a A b B m).1 (nsp a A b B m).2->Q .non H')))
def mf (av:Addr):Sp:=fun vs H Q E=>zqr vs fun p vs=>zqn vs ( ∃dx L s sp w,H p=some (.ins av dx (bE (.int L) s sp (.int w)))/\Q .non (upd H p (.ins av dx (bE (.int L) s sp (.int (if L<2*w then L else 2*w))))))
noncomputable abbrev Wg:=Option (Int×Int×Int×Int)
def WS (C:Addr) (H:Hp) (p dx:Addr) (L w:Int) (g:Wg) (k:Nat):Prop:=2<=L/\(2<=w/\w<=L)/\((k=0/\g=none/\H p=some (.ins C dx (bE (V.int L) V.non V.non (V.int w))))\/∃n P S D a A b B,g=some (a,A,b,B)/\n+1=k/\WaysM.St n P S D a A b B/\Fx C H p dx L w a A b B)
noncomputable def mgs (g:Wg) (m:Int):Wg:=match g with
 |none=>some (m,1,(WaysM.low m 2).1,(WaysM.low m 2).2)
 |some (a,A,b,B)=>some ((nsm a A m).1,(nsm a A m).2,(nsp a A b B m).1,(nsp a A b B m).2)
noncomputable def mws (L:Int) (g:Wg):Int:=match g with
 |none=>2
 |some (a,A,b,B)=>wt L a A b B
theorem SM (h:2<=L):2<=wt L a A b B/\wt L a A b B<=L:=by
 unfold wt
 (lia)<;>lia
theorem WS.meas (h:WS C H p dx L w g k) (hk:k<=440) (m0:0<=m) (m1:m<=1000000) (q:∀H',lH p H H'->WS C H' p dx L (mws L (mgs g m)) (mgs g m) (k+1)->Q .non H'):fw C [.ref p,.int m] H Q E:=by
 obtain⟨d,hw,⟨h1,rfl,hi⟩|⟨n,P,S,D,a,A,b,B,rfl,h1,j,u⟩⟩:=h
 ·exact⟨⟨m0,m1⟩,.inl ⟨dx,L,w,hi,fun H' i f=>q H' i ⟨d,SM d,.inr ⟨0,_,_,_,_,_,_,_,rfl,by lia,WaysM.St.first m0 m1,f⟩⟩⟩⟩
 ·exact⟨⟨m0,m1⟩,.inr ⟨dx,L,w,a,A,b,B,Wb.of j (by lia) m0 m1,u,fun H' i f=>q H' i ⟨d,SM d,.inr ⟨_,_,_,_,_,_,_,_,rfl,by lia,j.step m0 m1,f⟩⟩⟩⟩
theorem WS.ins (h:WS C H p dx L w g k):∃s sp,H p=some (.ins C dx (bE (V.int L) s sp (V.int w))):=by
 obtain⟨_,_,⟨_,_,hi⟩|⟨n,P,S,D,a,A,b,B,_,_,_,⟨f,i,d,_⟩⟩⟩:=h
 ·exact⟨_,_,hi⟩
 ·exact⟨_,_,d⟩
theorem WS.keep (h:WS C H p dx L w g k) (hp:∀o,H p=some o->H' p=some o) (ht:∀t l,H t=some (.tup l)->H' t=some (.tup l)):WS C H' p dx L w g k:=by
 obtain⟨h0,h1,⟨a1,d,j⟩|⟨n,P,S,D,a,A,b,B,b0,b1,m,⟨i,x,u,f,v⟩⟩⟩:=h
 ·exact⟨h0,h1,.inl ⟨a1,d,hp _ j⟩⟩
 ·exact⟨h0,h1,.inr ⟨n,P,S,D,a,A,b,B,b0,b1,m,⟨i,x,hp _ u,ht _ _ f,ht _ _ v⟩⟩⟩
def MS (C:Addr) (H:Hp) (p dx:Addr) (mo wi kn co:Int):Prop:=H p=some (.ins C dx (a9 (.int mo) (.int wi) (.int kn) (.int co)))/\MeterM.YK mo (wi,co)
structure Ad where
 dx:Addr
 pw:Addr
 pm:Addr
 pt:Addr
 pk:Addr
 pf:Addr
 pa:Addr
 dw:Addr
 dm:Addr
structure Sd where
 R:Int
 b:Int
 t:Int
 e:Int
 clk:V
 hur:Bool
 T:List V
 Kn:List (Key×V)
 Fi:List (Key×V)
 Ag:List (Key×V)
 L:Int
 w:Int
 k:Nat
 wi:Int
 g:Wg
 mo:Int
 kn:Int
 co:Int
structure bX (CS CW CM:Addr) (H:Hp) (x:Addr) (A:Ad) (z:Sd):Prop where
 hx:H x=some (.ins CS A.dx (aM (.int z.R) (.ref A.pw) (.ref A.pm) (.ref A.pt) (.int z.b) (.int z.t) (.int z.e) z.clk (.bl z.hur) (.ref A.pk) (.ref A.pf) (.ref A.pa)))
 ht:H A.pt=some (.lst z.T)
 hk:H A.pk=some (.dK z.Kn)
 hf:H A.pf=some (.dK z.Fi)
 ha:H A.pa=some (.dK z.Ag)
 ws:WS CW H A.pw A.dw z.L z.w z.g z.k
 ms:MS CM H A.pm A.dm z.mo z.wi z.kn z.co
 kf:A.pk≠A.pf
 ka:A.pk≠A.pa
 fa:A.pf≠A.pa
 xw:x≠A.pw
 xm:x≠A.pm
 wm:A.pw≠A.pm
theorem bX.same (h:bX CS CW CM H x A z) (e:a8 H H'):bX CS CW CM H' x A z:=by
 obtain⟨e1,hi⟩:=h.ms;exact⟨e _ _ h.hx,e _ _ h.ht,e _ _ h.hk,e _ _ h.hf,e _ _ h.ha,h.ws.keep (fun o q=>e _ _ q) (fun t l q=>e _ _ q),⟨e _ _ e1,hi⟩,h.kf,h.ka,h.fa,h.xw,h.xm,h.wm⟩
theorem bX.put (h:bX CS CW CM H x A z) (b t e:Int) (c:V) (u:Bool):bX CS CW CM (upd H x (.ins CS A.dx (aM (.int z.R) (.ref A.pw) (.ref A.pm) (.ref A.pt) (.int b) (.int t) (.int e) c (.bl u) (.ref A.pk) (.ref A.pf) (.ref A.pa)))) x A {z with b:=b,t:=t,e:=e,clk:=c,hur:=u}:=by
 obtain⟨e1,hi⟩:=h.ms;refine⟨ar,by rw[ak (bS h.ht h.hx (by simp))];exact h.ht,by rw[ak (bS h.hk h.hx (by simp))];exact h.hk,by rw[ak (bS h.hf h.hx (by simp))];exact h.hf,by rw[ak (bS h.ha h.hx (by simp))];exact h.ha,
  h.ws.keep (fun o q=>by rw[ak h.xw.symm];exact q) (fun t l q=>by rw[ak (bS q h.hx (by simp))];exact q),⟨by rw[ak h.xm.symm];exact e1,hi⟩,h.kf,h.ka,h.fa,h.xw,h.xm,h.wm⟩
theorem bX.row {q:Addr} (h:bX CS CW CM H x A z) (F:H q=some o) (T:List V) (Kn Fi:List (Key×V)) (n1:∀C d l,o≠ .ins C d l) (E:∀l,o≠ .tup l) (m:upd H q u A.pt=some (.lst T)) (i:upd H q u A.pk=some (.dK Kn)) (v:upd H q u A.pf=some (.dK Fi)) (j:q≠A.pa):bX CS CW CM (upd H q u) x A {z with T:=T,Kn:=Kn,Fi:=Fi}:=by
 obtain⟨e1,hi⟩:=h.ms;have f:∀p C d l,H p=some (.ins C d l)->p≠q:=fun p C d l e c=>by simp_all
 obtain⟨s,sp,ew⟩:=h.ws.ins;exact⟨by rw[ak (f _ _ _ _ h.hx)];exact h.hx,m,i,v,by rw[ak j.symm];exact h.ha,h.ws.keep (fun y e=>by rw[ak (f _ _ _ _ ew)];exact e) (fun t l e=>by rw[ak (fun c=>by simp_all)];exact e),⟨by rw[ak (f _ _ _ _ e1)];exact e1,hi⟩,h.kf,h.ka,h.fa,h.xw,h.xm,h.wm⟩
def AX (x:Addr) (A:Ad) (H H':Hp):Prop:= ∀b u,H b=some u->b≠x->b≠A.pw->b≠A.pm->b≠A.pt->b≠A.pk->b≠A.pf->H' b=some u
theorem AX.of (h:a8 H H'):AX x A H H':=fun b u e _ _ _ _ _ _=>h b u e
theorem AX.trans (h:AX x A H H') (v:AX x A H' H''):AX x A H H'':=fun b u e a1 d j m i f=>v b u (h b u e a1 d j m i f) a1 d j m i f
theorem bX.nw (h:bX CS CW CM H x A z) (e:H b=some o) (n:∀C d l,o≠ .ins C d l):b≠x/\b≠A.pw/\b≠A.pm:=by
 obtain⟨s,sp,ew⟩:=h.ws.ins;obtain⟨em,_⟩:=h.ms;exact⟨bS e h.hx (n _ _ _),bS e ew (n _ _ _),bS e em (n _ _ _)⟩
theorem bX.ways (h:bX CS CW CM H x A z) (d:lH A.pw H H') (hw:WS CW H' A.pw A.dw z.L w g k):bX CS CW CM H' x A {z with w:=w,g:=g,k:=k}:=by
 obtain⟨em,hi⟩:=h.ms;exact⟨d _ _ h.hx h.xw,d _ _ h.ht (h.nw h.ht (by simp)).2.1,d _ _ h.hk (h.nw h.hk (by simp)).2.1,d _ _ h.hf (h.nw h.hf (by simp)).2.1,d _ _ h.ha (h.nw h.ha (by simp)).2.1,hw,⟨d _ _ em h.wm.symm,hi⟩,h.kf,h.ka,h.fa,h.xw,h.xm,h.wm⟩
theorem bX.meter {kn:Int} (h:bX CS CW CM H x A z) (d:lH A.pm H H') (hm:MS CM H' A.pm A.dm z.mo wi kn co):bX CS CW CM H' x A {z with wi:=wi,kn:=kn,co:=co}:=by
 obtain⟨em,hi⟩:=h.ms;exact⟨d _ _ h.hx h.xm,d _ _ h.ht (h.nw h.ht (by simp)).2.2,d _ _ h.hk (h.nw h.hk (by simp)).2.2,d _ _ h.hf (h.nw h.hf (by simp)).2.2,d _ _ h.ha (h.nw h.ha (by simp)).2.2,h.ws.keep (fun o e=>d _ _ e h.wm) (fun t l e=>d _ _ e (bS e em (by simp))),hm,h.kf,h.ka,h.fa,h.xw,h.xm,h.wm⟩
theorem AX.tup (f:AX x A H H') (h:bX CS CW CM H x A z) (e:H t=some (.tup l)):H' t=some (.tup l):=by
 obtain⟨a1,d,i⟩:=h.nw e (by simp);exact f t _ e a1 d i (bS e h.ht (by simp)) (bS e h.hk (by simp)) (bS e h.hf (by simp))
theorem AX.lst (f:AX x A H H') (h:bX CS CW CM H x A z) (e:H t=some (.lst l)) (n:t≠A.pt):H' t=some (.lst l):=by
 obtain⟨a1,d,i⟩:=h.nw e (by simp);exact f t _ e a1 d i n (bS e h.hk (by simp)) (bS e h.hf (by simp))
theorem AX.none {d j i x p:Addr} {H H':Hp} {A:Ad} {z:Sd} (f:AX x A H H') (h:bX d j i H' x A z) (e:H' p=none):H p=none:=by
 obtain⟨s,sp,ew⟩:=h.ws.ins;obtain⟨em,_⟩:=h.ms;cases q:H p with
 |none=>rfl
 |some u=>
  have nn:∀{b:Addr} {o:HO},H' b=some o->p≠b:=fun{b o} m c=>by simp_all
  rw[f p u q (nn h.hx) (nn ew) (nn em) (nn h.ht) (nn h.hk) (nn h.hf)] at e;cases e
theorem Cz (e:a8 H H') (h:H' p=none):H p=none:=by
 cases q:H p with
 |none=>rfl
 |some o=>rw[e _ _ q] at h;cases h
noncomputable def knw (D:List (Key×V)) (j:Int):Bool:=(bH D (ik j)).isSome
noncomputable def kab (z:Sd):Nat:=((List.range (z.t-(z.b+1)).toNat).filter fun j:Nat=>knw z.Kn (z.b+1+(j:Int))).length
theorem V3:kab z<=(z.t-(z.b+1)).toNat:=by
 exact Nat.le_trans (List.length_filter_le _ _) (by simp_all)
theorem RV {z:Sd} {N:Nat} (h:N=(z.t-(z.b+1)).toNat):(List.map (fun v=>v) (List.filter (fun v=>match v with|V.int i=>knw z.Kn i|_=>false) (oN (z.b+1) N))).length=kab z:=by
 subst h;unfold oN kab;rw[List.map_id',List.filter_map,List.length_map];rfl
noncomputable def putAll (D:List (Key×V)) (d:List Int):List (Key×V):=d.foldl (fun D n=>putK D (ik n) (.bl true)) D
noncomputable def frs (D:List (Key×V)) (d:List Int):List Int:=d.filter fun n=>!knw D n
theorem Yc {D:List (Key×V)} {d:List Int}:List.map (fun v=>v) (List.filter (fun v=>match v with|V.int i=>!knw D i|_=>false) (d.map V.int))=(frs D d).map V.int:=by
 rw[List.map_id',List.filter_map];rfl
theorem qY:(putAll D ps).length<=D.length+ps.length:=by
 induction ps generalizing D with
 |nil=>exact Nat.le_refl _
 |cons a t d=>
  have h1:=d (D:=putK D (ik a) (.bl true));have f:=o5 D (ik a) (.bl true);show(putAll _ t).length<=_;simp only[List.length_cons];lia
theorem putAll_snoc:putAll D (ps++ [n])=putK (putAll D ps) (ik n) (.bl true):=by
 unfold putAll;rw[List.foldl_append];rfl
noncomputable def irg (b:Int) (n:Nat):List Int:=(List.range n).map fun j:Nat=>b+(j:Int)
theorem XI:oN b n=(irg b n).map V.int:=by
 unfold oN irg;rw[List.map_map];rfl
noncomputable def hld (z:Sd) (hs:List Int):List Int:=(hs.filter fun h=>decide (z.b+h<z.t)).map fun h=>z.b+h
theorem XJ {z:Sd} {hs:List Int}:List.map (fun v=>match v with|V.int i=>V.int (z.b+i)|v=>v) (List.filter (fun v=>match v with|V.int i=>decide (z.b+i<z.t)|_=>false) (hs.map V.int))=(hld z hs).map V.int:=by
 unfold hld;rw[List.filter_map,List.map_map,List.map_map];rfl
theorem Gv:(hld z hs).length<=hs.length:=by
 unfold hld;rw[List.length_map];exact List.length_filter_le _ _
def Eb (x:Addr) (A:Ad) (H H':Hp):Prop:= ∀b u,H b=some u->b≠x->b≠A.pw->b≠A.pm->b≠A.pt->b≠A.pk->b≠A.pf->b≠A.pa->H' b=some u
theorem AX.seven (h:AX x A H H'):Eb x A H H':=fun b u e a1 d j m i f _=>h b u e a1 d j m i f
theorem Eb.trans (h:Eb x A H H') (y:Eb x A H' H''):Eb x A H H'':=fun b u e a1 f m v j i d=>y b u (h b u e a1 f m v j i d) a1 f m v j i d
theorem bX.agR (h:bX CS CW CM H x A z) (Ag:List (Key×V)):bX CS CW CM (upd H A.pa (.dK Ag)) x A {z with Ag:=Ag}:=by
 obtain⟨e1,hi⟩:=h.ms;have f:∀{p C d:Addr} {l:List _},H p=some (.ins C d l)->p≠A.pa:=fun e=>bS e h.ha (by simp);obtain⟨s,sp,ew⟩:=h.ws.ins;exact⟨by rw[ak (f h.hx)];exact h.hx,by rw[ak (bS h.ht h.ha (by simp))];exact h.ht,by rw[ak h.ka];exact h.hk,by rw[ak h.fa];exact h.hf,ar,h.ws.keep (fun i e=>by rw[ak (f ew)];exact e) (fun t l e=>by rw[ak (bS e h.ha (by simp))];exact e),⟨by rw[ak (f e1)];exact e1,hi⟩,h.kf,h.ka,h.fa,h.xw,h.xm,h.wm⟩
theorem Eb.none {d j i x p:Addr} {H H':Hp} {A:Ad} {z:Sd} (f:Eb x A H H') (h:bX d j i H' x A z) (e:H' p=none):H p=none:=by
 obtain⟨s,sp,ew⟩:=h.ws.ins;obtain⟨em,_⟩:=h.ms;cases q:H p with
 |none=>rfl
 |some u=>
  have nn:∀{b:Addr} {o:HO},H' b=some o->p≠b:=fun{b o} m c=>by simp_all
  rw[f p u q (nn h.hx) (nn ew) (nn em) (nn h.ht) (nn h.hk) (nn h.hf) (nn h.ha)] at e;cases e
def Clk (c:V) (n:Int) (r:Bool):Prop:=(c = .non/\r=false)\/∃i,c = .int i/\r=decide (i<=n)
structure Bz (z:Sd):Prop where
 b0:0<=z.b
 bt:z.b<=z.t
 t1:z.t<=900
def pB (aa av ai:Addr):Sp:=fun vs H Q E=>zqr vs fun x vs=>zqv vs fun th vs=>zqn vs ( ∃A z,bX aa av ai H x A z/\z.T.length<1000/\∀H',lH A.pt H H'->bX aa av ai H' x A {z with T:=z.T++ [th]}->Q .non H')
def nT (aa av ai:Addr):Sp:=fun vs H Q E=>zqr vs fun x vs=>zqn vs ( ∃A z,bX aa av ai H x A z/\Q (.int z.T.length) H)
def mj (aa av ai:Addr):Sp:=fun vs H Q E=>zqr vs fun x vs=>zqi vs fun p vs=>zqn vs ( ∃A z v,bX aa av ai H x A z/\j4 z.T p=some v/\Q v H)
def cU (aa av ai:Addr):Sp:=fun vs H Q E=>zqr vs fun x vs=>zqn vs ( ∃A z,bX aa av ai H x A z/\Bz z/\∀H',a8 H H'->Q (.int (kab z)) H')
def fW (aa av ai:Addr):Sp:=fun vs H Q E=>zqr vs fun x vs=>zqn vs ( ∃A z,bX aa av ai H x A z/\Bz z/\∀H',a8 H H'->Q (.int (z.t-z.b-kab z)) H')
def d7 (aa av ai:Addr):Sp:=fun vs H Q E=>zqr vs fun x vs=>zqn vs ( ∃A z,bX aa av ai H x A z/\Q (.bl (decide (z.t<z.T.length))) H)
def dJ (aa av ai:Addr):Sp:=fun vs H Q E=>zqr vs fun x vs=>zqn vs ( ∃A z,bX aa av ai H x A z/\Bz z/\∀H',a8 H H'->Q (.bl (decide (z.b<z.t) && !z.hur&&decide ((2:Int)<=kab z))) H')
def eY (aa av ai:Addr):Sp:=fun vs H Q E=>zqr vs fun x vs=>zqn vs ( ∃A z,bX aa av ai H x A z/\Bz z/\∀H',a8 H H'->Q (.bl (decide (z.t<z.T.length)&&decide (z.t<z.e)&&decide (z.t-z.b-kab z<z.wi))) H')
def d8 (aa av ai:Addr):Sp:=fun vs H Q E=>zqr vs fun x vs=>zqr vs fun l vs=>zqn vs ( ∃A z,∃d:List Int,bX aa av ai H x A z/\H l=some (.lst (d.map V.int))/\z.Kn.length<1000000/\d.length<=1000/\∀p H',H p=none->AX x A H H'->bX aa av ai H' x A {z with Kn:=putAll z.Kn (frs z.Kn d)}->H' p=some (.lst ((frs z.Kn d).map V.int))->Q (.ref p) H')
def fX (aa av ai:Addr):Sp:=fun vs H Q E=>zqr vs fun x vs=>zqi vs fun n vs=>zqn vs ( ∃A z,bX aa av ai H x A z/\∀H',lH x H H'->bX aa av ai H' x A {z with clk:= .int (n+z.w)}->Q .non H')
def fZ (aa av ai:Addr):Sp:=fun vs H Q E=>zqr vs fun x vs=>zqi vs fun st vs=>zqn vs ( ∃A z,bX aa av ai H x A z/\Bz z/\(0<=st/\st<=z.t-z.b)/\z.Kn.length<1000000/\∀fs p H',fs=frs z.Kn (irg z.b st.toNat)->H p=none->AX x A H H'->bX aa av ai H' x A {z with b:=z.b+st,Kn:=putAll z.Kn fs}->H' p=some (.lst (fs.map V.int))->Q (.ref p) H')
def fY (aa av ai:Addr):Sp:=fun vs H Q E=>zqr vs fun x vs=>zqr vs fun t vs=>zqn vs ( ∃A z,∃hs:List Int,bX aa av ai H x A z/\H t=some (.tup (hs.map V.int))/\hs.length<=1000/\z.Kn.length<1000000/\∀fs p H',fs=frs z.Kn (hld z hs)->H p=none->AX x A H H'->bX aa av ai H' x A {z with Kn:=putAll z.Kn fs}->H' p=some (.lst (fs.map V.int))->Q (.ref p) H')
def gQ (aa av ai:Addr):Sp:=fun vs H Q E=>zqr vs fun x vs=>zqi vs fun n vs=>zqn vs ( ∃A z,bX aa av ai H x A z/\z.Ag.length<1000000/\∀p H',H p=none->Eb x A H H'->bX aa av ai H' x A {z with clk:= .int (n+z.w),hur:=true,Ag:=putK z.Ag (ik z.b) (.bl true)}->H' p=some (.tup [.str "again",.int z.b])->Q (.ref p) H')
def dM (aa av ai:Addr):Sp:=fun vs H Q E=>zqr vs fun x vs=>zqi vs fun n vs=>zqn vs ( ∃A z r,bX aa av ai H x A z/\Clk z.clk n r/\Q (.bl r) H)
def j_ (aa av ai:Addr):Sp:=fun vs H Q E=>zqr vs fun x vs=>zqi vs fun n vs=>zqn vs ( ∃A z,bX aa av ai H x A z/\z.Fi.length<1000000/\∀p H',H p=none->AX x A H H'->bX aa av ai H' x A {z with clk:=if z.b=z.t then .int (n+z.w) else z.clk,t:=z.t+1,Fi:=putK z.Fi (ik z.t) (.int n)}->H' p=some (.tup [.str "new",.int z.t])->Q (.ref p) H')
noncomputable def w2 (z:Sd):Int:=if z.L<2*z.w then z.L else 2*z.w
theorem WS.ran (h:WS C H p dx L w g k):∃s sp,H p=some (.ins C dx (bE (V.int L) s sp (V.int w)))/\WS C (upd H p (.ins C dx (bE (V.int L) s sp (V.int (if L<2*w then L else 2*w))))) p dx L (if L<2*w then L else 2*w) g k:=by
 obtain⟨h0,h1,⟨a1,j,u⟩|⟨n,P,S,D,a,A,b,B,b0,b1,v,⟨m,x,d,f,i⟩⟩⟩:=h
 ·exact⟨_,_,u,h0,by split<;>lia,.inl ⟨a1,j,ar⟩⟩
 ·exact⟨_,_,d,h0,by split<;>lia,.inr ⟨n,P,S,D,a,A,b,B,b0,b1,v,⟨m,x,ar,by rw[ak (bS f d (by simp))];exact f,by rw[ak (bS i d (by simp))];exact i⟩⟩⟩
noncomputable def C6 (c:V) (n:Int):Bool:=match c with
 | .int i=>decide (i<=n)
 |_=>false
noncomputable def JA (z:Sd):Bool:=decide (z.b<z.t) && !z.hur&&decide ((2:Int)<=kab z)
noncomputable def cH (z:Sd):Bool:=decide (z.t<z.T.length)&&decide (z.t<z.e)&&decide (z.t-z.b-kab z<z.wi)
noncomputable def Uv (z:Sd) (n:Int):Sd:={z with w:=w2 z,wi:=1,kn:=MeterM.hf z.wi,co:=0,clk:= .int (n+w2 z),hur:=true,Ag:=putK z.Ag (ik z.b) (.bl true)}
noncomputable def afx (z:Sd) (n:Int):Sd:={z with wi:=MeterM.hf z.wi,kn:=MeterM.hf z.wi,co:=0,clk:= .int (n+z.w),hur:=true,Ag:=putK z.Ag (ik z.b) (.bl true)}
noncomputable def RL (z:Sd) (n:Int):Sd:={z with clk:=if z.b=z.t then .int (n+z.w) else z.clk,t:=z.t+1,Fi:=putK z.Fi (ik z.t) (.int n)}
noncomputable def SE (z:Sd) (n:Int):Sd:={z with w:=w2 z,clk:= .int (n+w2 z)}
noncomputable def U8 (z:Sd) (n:Int):Sd:={z with clk:= .int (n+z.w)}
def AsX (z d:Sd) (n:Int) (v:V) (H H':Hp):Prop:=(z.clk = .non/\d=U8 z n/\v = .non)\/(∃i,z.clk = .int i/\n<i/\d=z/\v = .non)\/(∃i,z.clk = .int i/\i<=n/\d=SE z n/\∃p,v = .ref p/\H p=none/\H' p=some (.tup [.str "ask",.non]))
def GoX (z d:Sd) (n:Int) (v:V) (H H':Hp):Prop:=
 (z.b<z.t/\C6 z.clk n=true/\d=Uv z n/\∃p,v = .ref p/\H p=none/\H' p=some (.tup [.str "again",.int z.b]))\/
 (
  (z.b<z.t->C6 z.clk n=false)/\((JA z=true/\d=afx z n/\∃p,v = .ref p/\H p=none/\H' p=some (.tup [.str "again",.int z.b]))\/
  (
   JA z=false/\((cH z=true/\d=RL z n/\∃p,v = .ref p/\H p=none/\H' p=some (.tup [.str "new",.int z.t]))\/
   (cH z=false/\((z.t<z.T.length/\z.b=z.t/\AsX z d n v H H')\/(¬(z.t<z.T.length/\z.b=z.t)/\d=z/\v = .non)))))))
theorem AsX.fr (h:AsX z z' n v H H') (f:∀p,H p=none->H0 p=none):AsX z z' n v H0 H':=by
 rcases h with h|h|⟨i,h1,d,m,p,u,j,x⟩
 ·exact .inl h
 ·exact .inr (.inl h)
 ·exact .inr (.inr ⟨i,h1,d,m,p,u,f p j,x⟩)
def dN (aa av ai:Addr):Sp:=fun vs H Q E=>zqr vs fun x vs=>zqi vs fun n vs=>zqn vs ( ∃A z,bX aa av ai H x A z/\(z.clk = .non\/∃i,z.clk = .int i)/\∀v H' d,Eb x A H H'->bX aa av ai H' x A d->AsX z d n v H H'->Q v H')
def qI (aa av ai:Addr):Sp:=fun vs H Q E=>zqr vs fun x vs=>zqi vs fun n vs=>zqn vs ( ∃A z,bX aa av ai H x A z/\Bz z/\(z.clk = .non\/∃i,z.clk = .int i)/\z.Ag.length<1000000/\z.Fi.length<1000000/\∀v H' d,Eb x A H H'->bX aa av ai H' x A d->GoX z d n v H H'->Q v H')
noncomputable def cnt (D:List (Key×V)) (t:Nat):Nat:=((List.range t).filter fun j:Nat=>knw D (j:Int)).length
theorem Yy:cnt D t<=t:=by
 exact Nat.le_trans (List.length_filter_le _ _) (by simp_all)
theorem DX:cnt D (t+1)=cnt D t+if knw D (t:Int) then 1 else 0:=by
 unfold cnt;rw[List.range_succ,List.filter_append];rw[List.filter_cons];split<;>simp
theorem Gq:knw (putK D (ik a) v) b=(decide (b=a)||knw D b):=by
 unfold knw;rw[xR];by_cases c:b=a
 ·simp_all
 ·simp_all
theorem K9 (h:knw D a=false) (h0:0<=a):∀{t:Nat},cnt (putK D (ik a) v) t=cnt D t+if a<(t:Int) then 1 else 0
 |0=>by show 0=0+_;rw[if_neg (by lia)]
 |t+1=>by
  rw[DX,DX,K9 h h0,Gq];by_cases c:(t)=a
  ·subst c;rw[h];simp;lia
  ·lia
theorem yP {t:Nat}:∀{fs:List Int} {D:List (Key×V)},fs.Nodup->(∀a∈fs,knw D a=false/\0<=a/\a<(t:Int))->cnt (putAll D fs) t=cnt D t+fs.length
 | [],_,_,_=>rfl
 |a::l,D,hn,h=>by
  obtain⟨h1,f,j⟩:=h a (List.mem_cons_self ..);obtain⟨n1,i⟩:=List.nodup_cons.mp hn;show cnt (putAll _ l) t=_;rw[yP i (fun b d=>?_),K9 h1 f,if_pos j,List.length_cons]
  ·lia
  ·obtain⟨k1,k2,k3⟩:=h b (List.mem_cons_of_mem _ d);have:b≠a:=fun e=>n1 (by simp_all);exact⟨by rw[Gq,k1];simp[this],k2,k3⟩
theorem Fg:(irg b n).Nodup:=by
 unfold irg;unfold List.Nodup;rw[List.pairwise_map];exact(List.nodup_range).imp fun h e=>h (by lia)
theorem KP (h:a∈irg b n):b<=a/\a<b+n:=by
 obtain⟨j,d,rfl⟩:=List.mem_map.mp h;have:=List.mem_range.mp d;lia
theorem Fh (h:hs.Nodup):(hld z hs).Nodup:=by
 unfold hld;unfold List.Nodup;rw[List.pairwise_map];exact(List.Pairwise.filter _ h).imp fun h e=>h (by lia)
theorem KQ (h:a∈hld z hs):a<z.t/\∃k∈hs,a=z.b+k:=by
 obtain⟨k,hk,rfl⟩:=List.mem_map.mp h;obtain⟨m1,d⟩:=List.mem_filter.mp hk;exact⟨by simpa using d,k,m1,rfl⟩
theorem Cy (h:a∈frs D ps):a∈ps/\knw D a=false:=by
 obtain⟨m1,d⟩:=List.mem_filter.mp h;exact⟨m1,by simp_all⟩
def Tq (z:Sd) (tn:Int):Prop:= ∀j:Int,0<=j->j<z.t->∃f,bH z.Fi (ik j)=some (.int f)/\0<=tn-f/\tn-f<=1000000
noncomputable def far' (z:Sd) (nu:Int):Int:=(nu-z.b) % z.R
noncomputable def yM (z:Sd) (nu:Int):List Int:=frs z.Kn (irg z.b (far' z nu).toNat)
noncomputable def nK (z:Sd) (nu:Int):Sd:={z with b:=z.b+far' z nu,Kn:=putAll z.Kn (yM z nu)}
noncomputable def xO (z:Sd) (nu:Int) (hs:List Int):List Int:=frs (nK z nu).Kn (hld (nK z nu) hs)
noncomputable def fsh (z:Sd) (nu:Int) (hs:List Int):List Int:=yM z nu++xO z nu hs
noncomputable def Sl (z:Sd) (p:Int):Int:=match bH z.Fi (ik p) with
 |some (.int f)=>f
 |_=>0
noncomputable abbrev Ws:=Int×Wg×Nat
noncomputable def MW (z:Sd) (tn:Int) (s:Ws) (p:Int):Ws:=if knw z.Ag p then s else(mws z.L (mgs s.2.1 (tn-Sl z p)),mgs s.2.1 (tn-Sl z p),s.2.2+1)
noncomputable def mall (z:Sd) (tn:Int) (fs:List Int):Ws:=fs.foldl (MW z tn) (z.w,z.g,z.k)
theorem Mn:mall z tn (fs++ [c])=MW z tn (mall z tn fs) c:=by unfold mall;rw[List.foldl_append];rfl
noncomputable def hrd (z:Sd) (nu d:Int) (hs:List Int) (tn:Int):Sd:=
 ⟨z.R,z.b+far' z nu,z.t,if z.e<z.b+far' z nu+d then z.b+far' z nu+d else z.e,if 0<far' z nu then(if z.b+far' z nu<z.t then .int (tn+(mall z tn (fsh z nu hs)).1) else .non) else z.clk,if 0<far' z nu then false else z.hur,z.T,putAll (nK z nu).Kn (xO z nu hs),z.Fi,z.Ag,z.L,(mall z tn (fsh z nu hs)).1,(mall z tn (fsh z nu hs)).2.2,(MeterM.kn z.mo z.kn (fsh z nu hs).length (z.wi,z.co)).1,(mall z tn (fsh z nu hs)).2.1,z.mo,z.kn,(MeterM.kn z.mo z.kn (fsh z nu hs).length (z.wi,z.co)).2⟩
def ml (aa av ai:Addr):Sp:=fun vs H Q E=>zqr vs fun x vs=>zqi vs fun nu vs=>zqi vs fun rm vs=>zqr vs fun hd vs=>zqi vs fun tn vs=>zqn vs ( ∃A z,∃hs:List Int,bX aa av ai H x A z/\Bz z/\0<z.R/\H hd=some (.tup (hs.map V.int))/\hs.length<=100/\hs.Nodup/\(∀k∈hs,0<=k)/\Tq z tn/\z.Kn.length<900000/\z.t<=430/\z.k<=cnt z.Kn z.t.toNat/\∀p H',H p=none->Eb x A H H'->((z.t-z.b<far' z nu/\a8 H H'/\H' p=some (.lst []))\/(far' z nu<=z.t-z.b/\bX aa av ai H' x A (hrd z nu rm hs tn)/\H' p=some (.lst ((fsh z nu hs).map V.int))))->Q (.ref p) H')
theorem dE (b:lH x H H') (n:x≠p) (h:H' p=none):H p=none:=by
 cases q:H p with
 |none=>rfl
 |some o=>rw[b _ _ q n.symm] at h;cases h
def gS (aa av ai:Addr):Sp:=fun vs H Q E=>zqr vs fun x vs=>zqi vs fun r vs=>zqi vs fun f vs=>zqi vs fun l vs=>zqi vs fun m vs=>zqn vs ((2<=f/\f<=l/\1<=m)/\∃dx,H x=some (.ins aa dx [])/\∀A H',lH x H H'->(∀b,b∈[A.pw,A.pm,A.pt,A.pk,A.pf,A.pa]->H b=none)->bX aa av ai H' x A ⟨r,0,0,1,.non,false,[],[],[],[],l,f,0,MeterM.mn 2 m,none,m,m,0⟩->Q .non H')
structure Tk where
 R:Int
 M:Int
 g:Int
 o:Int
 D:List (Key×V)
structure lZ (C:Addr) (H:Hp) (x dx pk:Addr) (z:Tk):Prop where
 hx:H x=some (.ins C dx (bV (.int z.R) (.int z.M) (.int z.g) (.int z.o) (.ref pk)))
 hD:H pk=some (.dK z.D)
theorem lZ.n1 (h:lZ C H x dx pk z):pk≠x:=bS h.hD h.hx (by simp)
theorem lZ.same (h:lZ C H x dx pk z) (e:a8 H H'):lZ C H' x dx pk z:=⟨e _ _ h.hx,e _ _ h.hD⟩
theorem lZ.put (h:lZ C H x dx pk z) (R M g o:Int):lZ C (upd H x (.ins C dx (bV (.int R) (.int M) (.int g) (.int o) (.ref pk)))) x dx pk ⟨R,M,g,o,z.D⟩:=⟨ar,by rw[ak h.n1];exact h.hD⟩
def Lh (x pk:Addr) (H H':Hp):Prop:= ∀b u,H b=some u->b≠x->b≠pk->H' b=some u
noncomputable def vals (D:List (Key×V)) (g:Int) (n:Nat):List V:=(List.range n).map fun j:Nat=>(bH D (ik (g+(j:Int)))).getD .non
theorem yY {n:Nat} (h:bH D (ik (g+n))=some v):vals D g (n+1)=vals D g n++ [v]:=by
 simp[vals,List.range_succ,h]
def Run (D:List (Key×V)) (g:Int) (n:Nat):Prop:=(∀j:Nat,j<n->(bH D (ik (g+j))).isSome=true)/\bH D (ik (g+n))=none
theorem Li {j:Key}:bH (t7 kvs k) j=if j=k then none else bH kvs j:=by
 unfold bH t7;by_cases c:j=k
 ·simp_all
 ·rw[if_neg c];congr 1;rw[List.find?_filter];congr 1;funext a;by_cases d:a.1=j
  ·simp_all
  ·simp[d]
noncomputable def A9 (D:List (Key×V)) (g:Int) (n:Nat):List Int:=((List.range n).filter fun j:Nat=>(bH D (ik (g+(1+(j:Int))))).isSome).map (fun j:Nat=>1+(j:Int))
theorem held_eq {D:List (Key×V)} {g:Int} {n:Nat}:List.map (fun v=>v) (List.filter (fun v=>match v with|V.int i=>(bH D (ik (g+i))).isSome|_=>false) (oN 1 n))=(A9 D g n).map V.int:=by
 unfold oN A9;rw[List.filter_map,List.map_map,List.map_map];rfl
def CG:Sp:=fun vs H Q E=>zqi vs fun r vs=>zqi vs fun a vs=>zqi vs fun b vs=>zqn vs (0<r/\Q (.int ((b-a) % r)) H)
def iU (ax:Addr):Sp:=fun vs H Q E=>zqr vs fun x vs=>zqi vs fun r vs=>zqi vs fun m vs=>zqn vs ( ∃dx,H x=some (.ins ax dx [])/\∀pk H',H pk=none->lH x H H'->lZ ax H' x dx pk ⟨r,m,0,0,[]⟩->Q .non H')
def gO (ax:Addr):Sp:=fun vs H Q E=>zqr vs fun x vs=>zqn vs ( ∃dx pk z,lZ ax H x dx pk z/\Q (.int (z.o+z.M-z.g)) H)
def dy (ax:Addr):Sp:=fun vs H Q E=>zqr vs fun x vs=>zqn vs ( ∃dx pk z B,lZ ax H x dx pk z/\(∀i,(bH z.D (ik i)).isSome=true->i<B)/\B<=z.g+1000/\∀n p H',Run z.D z.g n->H p=none->Lh x pk H H'->lZ ax H' x dx pk {z with g:=z.g+n}->H' p=some (.lst (vals z.D z.g n))->Q (.ref p) H')
def pz (ax:Addr):Sp:=fun vs H Q E=>zqr vs fun x vs=>zqi vs fun m vs=>zqr vs fun th vs=>zqn vs ( ∃dx pk z B,lZ ax H x dx pk z/\0<z.R/\(∀i,(bH z.D (ik i)).isSome=true->i<B)/\B<=z.g+1000/\z.o+z.M<=B/\z.D.length<1000/\((z.o+z.M-z.g<=(m-z.g) % z.R/\∀p l H',a8 H H'->H p=none->H l=none->H' p=some (.tup [.non,.ref l])->H' l=some (.lst [])->Q (.ref p) H')\/((m-z.g) % z.R<z.o+z.M-z.g/\∀d,d=(if(bH z.D (ik (z.g+(m-z.g) % z.R))).isSome then z.D else putK z.D (ik (z.g+(m-z.g) % z.R)) (.ref th))->∀n p l H',Run d z.g n->H p=none->H l=none->p≠l->Lh x pk H H'->lZ ax H' x dx pk ⟨z.R,z.M,z.g+n,z.o,d⟩->H' l=some (.lst (vals d z.g n))->H' p=some (.tup [.int (z.g+(m-z.g) % z.R),.ref l])->Q (.ref p) H')))
def mi (ax:Addr):Sp:=fun vs H Q E=>zqr vs fun x vs=>zqn vs ( ∃dx pk z,lZ ax H x dx pk z/\0<z.R/\(0<=z.o+z.M-z.g/\z.o+z.M-z.g<=1000)/\∀p t hs H',a8 H H'->hs=A9 z.D z.g (z.o+z.M-z.g-1).toNat->H p=none->H t=none->H' t=some (.tup (hs.map V.int))->H' p=some (.tup [.int (z.g % z.R),.int (z.o+z.M-z.g),.ref t])->Q (.ref p) H')
def pA (ax:Addr):Sp:=fun vs H Q E=>zqr vs fun x vs=>zqi vs fun m vs=>zqn vs ( ∃dx pk z,lZ ax H x dx pk z/\(0<=m/\m<=1000/\0<=z.o/\z.o<=z.g/\z.g<=10000)/\(∀i,z.o<=i->i<z.g->(bH z.D (ik i)).isSome=true)/\∀n p d H',n=((if z.g<z.o+m then z.g else z.o+m)-z.o).toNat->H p=none->(∀i,bH d (ik i)=if z.o<=i/\i<z.o+n then none else bH z.D (ik i))->d.Sublist z.D->Lh x pk H H'->lZ ax H' x dx pk ⟨z.R,z.M,z.g,z.o+n,d⟩->H' p=some (.lst (vals z.D z.o n))->Q (.ref p) H')
noncomputable def tbl (ay ae az aB af ag ah:Addr):List (Addr×Str):=[(ay,"shut"),(ae,"calling"),(az,"open"),(aB,"left"),(af,"leaving"),(ag,"waiting"),(ah,"closing")]
def j5 (d:List (Addr×Str)) (H:Hp) (x:Addr) (nm:Str):Prop:= ∃C dx,H x=some (.ins C dx [])/\(C,nm)∈d
noncomputable def akD:List (Str×Str×Str):=[("shut","begin","calling"),("shut","begun","open"),("calling","end","leaving"),("calling","begun","open"),("open","end","leaving"),("open","ended","left"),("left","end","closing"),("leaving","ended","closing"),("leaving","answered","waiting"),("waiting","ended","shut"),("closing","answered","shut")]
noncomputable def fP (nm w:Str):Option Str:=match akD.find? (fun t=>decide (t.1=nm)&&decide (t.2.1=w)) with
 |some t=>some t.2.2
 |none=>if w = "begin" \/w = "end" then none else some nm
noncomputable def RP (nm:Str):Bool:=decide (nm = "calling")||decide (nm = "open")||decide (nm = "left")
theorem dropxl (S:a8 H H1) (he:H1 e=none) (hd:upd H1 e o d=none):a8 H (o6 (upd (upd (upd H1 e o) d (.xd l)) e (.ext (uU e C (some d)))) e)/\o6 (upd (upd (upd H1 e o) d (.xd l)) e (.ext (uU e C (some d)))) e d=some (.xd l):=by
 have nd:d≠e:=fun z=>by rw[z,ar] at hd;cases hd
 refine⟨fun b u f=>?_,?_⟩
 ·have h1:=S b u f;have nb:=aG h1 he;rw[gE nb,ak nb,ak (fun z=>?_),ak nb];exact h1;rw[z] at h1;rw[ak nd] at hd;rw[h1] at hd;cases hd
 ·rw[gE nd,ak nd,ar]
def gT (aK:Addr):Sp:=fun vs H Q E=>zqr vs fun e vs=>zqv vs fun v vs=>zqv vs fun u vs=>zqn vs (H e=some (.ext (uU e aK none))/\∀d,H d=none->Q .non (upd (upd H d (.xd [("state",v),("wish",u)])) e (.ext (uU e aK (some d)))))
def xU:Sp:=fun vs H Q E=>zqr vs fun x vs=>zqn vs (Q (.str "shut") H)
def sy:Sp:=fun vs H Q E=>zqr vs fun x vs=>zqn vs (Q (.str "calling") H)
def xV:Sp:=fun vs H Q E=>zqr vs fun x vs=>zqn vs (Q (.str "open") H)
def xW:Sp:=fun vs H Q E=>zqr vs fun x vs=>zqn vs (Q (.str "left") H)
def su:Sp:=fun vs H Q E=>zqr vs fun x vs=>zqn vs (Q (.str "leaving") H)
def sk:Sp:=fun vs H Q E=>zqr vs fun x vs=>zqn vs (Q (.str "waiting") H)
def sv:Sp:=fun vs H Q E=>zqr vs fun x vs=>zqn vs (Q (.str "closing") H)
def nR (ay ae az aB af ag ah:Addr):Sp:=fun vs H Q E=>zqr vs fun x vs=>zqn vs ( ∀y H',a8 H H'->j5 (tbl ay ae az aB af ag ah) H' y "calling" ->Q (.ref y) H')
def m8 (ay ae az aB af ag ah:Addr):Sp:=fun vs H Q E=>zqr vs fun x vs=>zqn vs ( ∀y H',a8 H H'->j5 (tbl ay ae az aB af ag ah) H' y "leaving" ->Q (.ref y) H')
def pY (ay ae az aB af ag ah:Addr):Sp:=fun vs H Q E=>zqr vs fun x vs=>zqn vs ( ∀y H',a8 H H'->j5 (tbl ay ae az aB af ag ah) H' y "leaving" ->Q (.ref y) H')
def pZ (ay ae az aB af ag ah:Addr):Sp:=fun vs H Q E=>zqr vs fun x vs=>zqn vs ( ∀y H',a8 H H'->j5 (tbl ay ae az aB af ag ah) H' y "closing" ->Q (.ref y) H')
def vI (ay ae az aB af ag ah:Addr):Sp:=fun vs H Q E=>zqr vs fun x vs=>zqn vs ( ∀y H',a8 H H'->j5 (tbl ay ae az aB af ag ah) H' y "open" ->Q (.ref y) H')
def p8 (ay ae az aB af ag ah:Addr):Sp:=fun vs H Q E=>zqr vs fun x vs=>zqn vs ( ∀y H',a8 H H'->j5 (tbl ay ae az aB af ag ah) H' y "open" ->Q (.ref y) H')
def vJ (ay ae az aB af ag ah:Addr):Sp:=fun vs H Q E=>zqr vs fun x vs=>zqn vs ( ∀y H',a8 H H'->j5 (tbl ay ae az aB af ag ah) H' y "left" ->Q (.ref y) H')
def p7 (ay ae az aB af ag ah:Addr):Sp:=fun vs H Q E=>zqr vs fun x vs=>zqn vs ( ∀y H',a8 H H'->j5 (tbl ay ae az aB af ag ah) H' y "closing" ->Q (.ref y) H')
def pW (ay ae az aB af ag ah:Addr):Sp:=fun vs H Q E=>zqr vs fun x vs=>zqn vs ( ∀y H',a8 H H'->j5 (tbl ay ae az aB af ag ah) H' y "shut" ->Q (.ref y) H')
def mZ (ay ae az aB af ag ah:Addr):Sp:=fun vs H Q E=>zqr vs fun x vs=>zqn vs ( ∀y H',a8 H H'->j5 (tbl ay ae az aB af ag ah) H' y "waiting" ->Q (.ref y) H')
def m7 (ay ae az aB af ag ah:Addr):Sp:=fun vs H Q E=>zqr vs fun x vs=>zqn vs ( ∀y H',a8 H H'->j5 (tbl ay ae az aB af ag ah) H' y "shut" ->Q (.ref y) H')
def sU:Sp:=fun vs H Q E=>zqr vs fun x vs=>zqn vs (Q (.ref x) H)
def sT:Sp:=fun vs H Q E=>zqr vs fun x vs=>zqn vs (Q (.ref x) H)
def oV:Sp:=fun vs H Q E=>zqr vs fun x vs=>zqn vs (Q (.ref x) H)
def mY (aK ay ae az aB af ag ah:Addr):Sp:=fun vs H Q E=>zqr vs fun x vs=>zqn vs ( ∃nm,j5 (tbl ay ae az aB af ag ah) H x nm/\∀H' d,a8 H H'->H' d=some (.xd [("state",.str nm),("wish",.str "begin")])->E (.ref aK) (some d) H')
def oU (aK ay ae az aB af ag ah:Addr):Sp:=fun vs H Q E=>zqr vs fun x vs=>zqn vs ( ∃nm,j5 (tbl ay ae az aB af ag ah) H x nm/\∀H' d,a8 H H'->H' d=some (.xd [("state",.str nm),("wish",.str "end")])->E (.ref aK) (some d) H')
def nV:Sp:=fun vs H Q E=>zqr vs fun x vs=>zqn vs (Q (.bl true) H)
def so:Sp:=fun vs H Q E=>zqr vs fun x vs=>zqn vs (Q (.bl true) H)
def sr:Sp:=fun vs H Q E=>zqr vs fun x vs=>zqn vs (Q (.bl true) H)
def pX:Sp:=fun vs H Q E=>zqr vs fun x vs=>zqn vs (Q (.bl false) H)
def y6 (ay ae az aB af ag ah:Addr):Sp:=fun vs H Q E=>match vs with
 | [.ref x]=> ∃nm,j5 (tbl ay ae az aB af ag ah) H x nm/\Q (.str nm) H
 |_=>False
def qG (ay ae az aB af ag ah:Addr):Sp:=fun vs H Q E=>match vs with
 | [.ref x]=> ∃nm,j5 (tbl ay ae az aB af ag ah) H x nm/\Q (.bl (RP nm)) H
 |_=>False
def mh (aK ay ae az aB af ag ah:Addr):Sp:=fun vs H Q E=>match vs with
 | [.ref x]=> ∃nm,j5 (tbl ay ae az aB af ag ah) H x nm/\(∀nx,fP nm "begin" = some nx->∀y H',a8 H H'->j5 (tbl ay ae az aB af ag ah) H' y nx->Q (.ref y) H')/\(fP nm "begin" = none->∀H' d,a8 H H'->H' d=some (.xd [("state",.str nm),("wish",.str "begin")])->E (.ref aK) (some d) H')
 |_=>False
def pj (aK ay ae az aB af ag ah:Addr):Sp:=fun vs H Q E=>match vs with
 | [.ref x]=> ∃nm,j5 (tbl ay ae az aB af ag ah) H x nm/\(∀nx,fP nm "end" = some nx->∀y H',a8 H H'->j5 (tbl ay ae az aB af ag ah) H' y nx->Q (.ref y) H')/\(fP nm "end" = none->∀H' d,a8 H H'->H' d=some (.xd [("state",.str nm),("wish",.str "end")])->E (.ref aK) (some d) H')
 |_=>False
def wd (ay ae az aB af ag ah:Addr):Sp:=fun vs H Q E=>match vs with
 | [.ref x]=> ∃nm,j5 (tbl ay ae az aB af ag ah) H x nm/\(∀nx,fP nm "begun" = some nx->∀y H',a8 H H'->j5 (tbl ay ae az aB af ag ah) H' y nx->Q (.ref y) H')
 |_=>False
def qH (ay ae az aB af ag ah:Addr):Sp:=fun vs H Q E=>match vs with
 | [.ref x]=> ∃nm,j5 (tbl ay ae az aB af ag ah) H x nm/\(∀nx,fP nm "ended" = some nx->∀y H',a8 H H'->j5 (tbl ay ae az aB af ag ah) H' y nx->Q (.ref y) H')
 |_=>False
def pq (ay ae az aB af ag ah:Addr):Sp:=fun vs H Q E=>match vs with
 | [.ref x]=> ∃nm,j5 (tbl ay ae az aB af ag ah) H x nm/\(∀nx,fP nm "answered" = some nx->∀y H',a8 H H'->j5 (tbl ay ae az aB af ag ah) H' y nx->Q (.ref y) H')
 |_=>False
def Kp (S:List Addr) (H H':Hp):Prop:= ∀b o,H b=some o->b ∉ S->H' b=some o
theorem Kp.refl:Kp S H H:=fun _ _ h _=>h
theorem Kp.of (h:a8 H H'):Kp S H H':=fun b o e _=>h b o e
theorem Kp.trans (h:Kp S H H1) (d:Kp S H1 H2):Kp S H H2:=fun b o e n=>d b o (h b o e n) n
theorem Kp.more (h:Kp S H H') (i:∀b∈S,b∈S'):Kp S' H H':=fun b o e n=>h b o e fun m=>n (i b m)
theorem Kp.one {p:Addr} {H:Hp} {o:HO}:Kp [p] H (upd H p o):=fun b u e n=>by rw[ak (fun z=>n (by simp_all))];exact e
theorem tG {l:List Addr} {j:Nat} (h:l.Nodup) (hi:l[i]?=some a) (f:l[j]?=some b) (n:i≠j):a≠b:=fun e=>by
 obtain⟨h1,e1⟩:=List.getElem?_eq_some_iff.mp hi;obtain⟨d,m⟩:=List.getElem?_eq_some_iff.mp f;rcases Nat.lt_trichotomy i j with q|q|q
 ·exact List.pairwise_iff_getElem.mp h i j h1 d q (by simp_all)
 ·exact n q
 ·exact List.pairwise_iff_getElem.mp h j i d h1 q (by simp_all)
def JW (o:HO):Prop:=(∃l,o = .tup l)\/(∃C d,o = .ins C d [])\/∃u v,o = .frz u v
theorem Kp.upd (m:p∈S):Kp S H (L2.upd H p o):=fun b u e n=>by rw[ak (fun z=>n (by simp_all))];exact e
theorem Kp.but (h:lH p H H') (m:p∈S):Kp S H H':=fun b u e n=>h b u e fun z=>n (by simp_all)
theorem lH.fr7 (h:lH A.pt H H'):Eb x A H H':=fun b u e _ _ _ n _ _ _=>h b u e n
theorem R6: ¬JW (.lst l):=fun q=>by rcases q with⟨l,q⟩|⟨C,d,q⟩|⟨u,v,q⟩<;>cases q
structure HAd where
 dx:Addr
 tk:Addr
 dt:Addr
 kd:Addr
 sd:Addr
 S:Ad
 st:Addr
 pe:Addr
structure Hn where
 side:Int
 R:Int
 tk:Tk
 sd:Sd
 nm:Str
 due:Bool
 ends : List Int
noncomputable def foot (x:Addr) (A:HAd):List Addr:=[x,A.tk,A.kd,A.sd,A.S.pw,A.S.pm,A.S.pt,A.S.pk,A.S.pf,A.S.pa,A.pe]
structure bL (CH CT CS CW CM:Addr) (tb:List (Addr×Str)) (H:Hp) (x:Addr) (A:HAd) (z:Hn):Prop where
 hx:H x=some (.ins CH A.dx (aX (.int z.side) (.int z.R) (.ref A.tk) (.ref A.sd) (.ref A.st) (.bl z.due) (.ref A.pe)))
 tk:lZ CT H A.tk A.dt A.kd z.tk
 sd:bX CS CW CM H A.sd A.S z.sd
 st:j5 tb H A.st z.nm
 he:H A.pe=some (.lst (z.ends.map V.int))
 nd:(foot x A).Nodup
section
theorem Eb.kp (h:Eb x A H H'):Kp [x,A.pw,A.pm,A.pt,A.pk,A.pf,A.pa] H H':=fun b o e n=>by
 simp only[List.mem_cons,List.not_mem_nil,or_false,not_or] at n;exact h b o e n.1 n.2.1 n.2.2.1 n.2.2.2.1 n.2.2.2.2.1 n.2.2.2.2.2.1 n.2.2.2.2.2.2
theorem Lh.kp (h:Lh x p H H'):Kp [x,p] H H':=fun b o e n=>by
 simp only[List.mem_cons,List.not_mem_nil,or_false,not_or] at n;exact h b o e n.1 n.2
theorem bX.kp (h:bX CS CW CM H x A z) (k:Kp S H H') (d:∀b∈[x,A.pw,A.pm,A.pt,A.pk,A.pf,A.pa],b ∉ S) (tp:∀t l,H t=some (.tup l)->t ∉ S):bX CS CW CM H' x A z:=by
 obtain⟨e1,hi⟩:=h.ms;exact⟨k _ _ h.hx (d _ (by simp)),k _ _ h.ht (d _ (by simp)),k _ _ h.hk (d _ (by simp)),k _ _ h.hf (d _ (by simp)),k _ _ h.ha (d _ (by simp)),h.ws.keep (fun o q=>k _ _ q (d _ (by simp))) (fun t l q=>k _ _ q (tp t l q)),⟨k _ _ e1 (d _ (by simp)),hi⟩,h.kf,h.ka,h.fa,h.xw,h.xm,h.wm⟩
theorem bL.imm (h:bL CH CT CS CW CM tb H x A z) (e:H b=some o) (i:JW o):b ∉ foot x A:=by
 obtain⟨e1,_⟩:=h.sd.ms;obtain⟨s,sp,j⟩:=h.sd.ws.ins;intro m;simp only[foot,List.mem_cons,List.not_mem_nil,or_false] at m;have key:∀{p:Addr} {u:HO},H p=some u->¬JW u->b≠p:=fun{p u} q n c=>by
  simp_all
 have f:∀{C d:Addr} {l:List _},l≠[]->¬JW (.ins C d l):=fun n q=>by
  rcases q with⟨l,q⟩|⟨C,d,q⟩|⟨u,v,q⟩
  ·cases q
  ·simp_all
  ·cases q
 have nl:∀{l:List V},¬JW (.lst l):=fun q=>by rcases q with⟨l,q⟩|⟨C,d,q⟩|⟨u,v,q⟩<;>cases q
 have nk:∀{l:List _},¬JW (.dK l):=fun q=>by rcases q with⟨l,q⟩|⟨C,d,q⟩|⟨u,v,q⟩<;>cases q
 rcases m with m|m|m|m|m|m|m|m|m|m|m
 ·exact key h.hx (f (by simp[aX])) m
 ·exact key h.tk.hx (f (by simp[bV])) m
 ·exact key h.tk.hD nk m
 ·exact key h.sd.hx (f (by simp[aM])) m
 ·exact key j (f (by simp[bE])) m
 ·exact key e1 (f (by simp[a9])) m
 ·exact key h.sd.ht nl m
 ·exact key h.sd.hk nk m
 ·exact key h.sd.hf nk m
 ·exact key h.sd.ha nk m
 ·exact key h.he nl m
theorem bL.live (h:bL CH CT CS CW CM tb H x A z) (m:b∈foot x A):∃u,H b=some u:=by
 obtain⟨e1,_⟩:=h.sd.ms;obtain⟨s,sp,d⟩:=h.sd.ws.ins;simp only[foot,List.mem_cons,List.not_mem_nil,or_false] at m;rcases m with m|m|m|m|m|m|m|m|m|m|m<;>rw[m]
 ·exact⟨_,h.hx⟩
 ·exact⟨_,h.tk.hx⟩
 ·exact⟨_,h.tk.hD⟩
 ·exact⟨_,h.sd.hx⟩
 ·exact⟨_,d⟩
 ·exact⟨_,e1⟩
 ·exact⟨_,h.sd.ht⟩
 ·exact⟨_,h.sd.hk⟩
 ·exact⟨_,h.sd.hf⟩
 ·exact⟨_,h.sd.ha⟩
 ·exact⟨_,h.he⟩
theorem bL.fresh (h:bL CH CT CS CW CM tb H x A z) (e:H b=none):b ∉ foot x A:=fun m=>by
 obtain⟨u,q⟩:=h.live m;rw[e] at q;cases q
theorem bL.kp (h:bL CH CT CS CW CM tb H x A z) (k:Kp S H H') (d:∀b∈foot x A,b ∉ S) (im:∀b o,H b=some o->JW o->b ∉ S):bL CH CT CS CW CM tb H' x A z:=by
 obtain⟨C,dd,e,hm⟩:=h.st;simp only[foot,List.mem_cons,List.not_mem_nil,or_false] at d;exact⟨k _ _ h.hx (d _ (by simp)),⟨k _ _ h.tk.hx (d _ (by simp)),k _ _ h.tk.hD (d _ (by simp))⟩,h.sd.kp k (fun b f=>d _ (by grind)) (fun t l q=>im _ _ q (.inl ⟨l,rfl⟩)),
  ⟨C,dd,k _ _ e (im _ _ e (.inr (.inl ⟨C,dd,rfl⟩))),hm⟩,k _ _ h.he (d _ (by simp)),h.nd⟩
theorem bL.same (h:bL CH CT CS CW CM tb H x A z) (s:a8 H H'):bL CH CT CS CW CM tb H' x A z:=h.kp (Kp.of s) (fun _ _=>List.not_mem_nil) (fun _ _ _ _=>List.not_mem_nil)
theorem bL.sender (h:bL CH CT CS CW CM tb H x A z) (f:Eb A.sd A.S H H') (s:bX CS CW CM H' A.sd A.S d):bL CH CT CS CW CM tb H' x A {z with sd:=d}:=by
 have nd:=h.nd;have k:=f.kp;obtain⟨C,dd,e,hm⟩:=h.st;have im:=h.imm e (.inr (.inl ⟨C,dd,rfl⟩));have sub:∀{b:Addr},b ∉ foot x A->b ∉ [A.sd,A.S.pw,A.S.pm,A.S.pt,A.S.pk,A.S.pf,A.S.pa]:=fun n m=>n (by simp only[foot,List.mem_cons,List.not_mem_nil,or_false] at m⊢;rcases m with q|q|q|q|q|q|q<;>subst q<;>simp)
 have out:∀{i:Nat} {b:Addr},(foot x A)[i]?=some b->(i<3\/i=10)->b ∉ [A.sd,A.S.pw,A.S.pm,A.S.pt,A.S.pk,A.S.pf,A.S.pa]:=fun{i b} hi hh m=>by
  simp only[List.mem_cons,List.not_mem_nil,or_false] at m;rcases m with q|q|q|q|q|q|q
  ·exact tG nd hi (j:=3) rfl (by lia) q
  ·exact tG nd hi (j:=4) rfl (by lia) q
  ·exact tG nd hi (j:=5) rfl (by lia) q
  ·exact tG nd hi (j:=6) rfl (by lia) q
  ·exact tG nd hi (j:=7) rfl (by lia) q
  ·exact tG nd hi (j:=8) rfl (by lia) q
  ·exact tG nd hi (j:=9) rfl (by lia) q
 exact⟨k _ _ h.hx (out (i:=0) rfl (by lia)),⟨k _ _ h.tk.hx (out (i:=1) rfl (by lia)),k _ _ h.tk.hD (out (i:=2) rfl (by lia))⟩,s,⟨C,dd,k _ _ e (sub im),hm⟩,k _ _ h.he (out (i:=10) rfl (by lia)),nd⟩
theorem bL.taker (h:bL CH CT CS CW CM tb H x A z) (f:Lh A.tk A.kd H H') (s:lZ CT H' A.tk A.dt A.kd u):bL CH CT CS CW CM tb H' x A {z with tk:=u}:=by
 have nd:=h.nd;have k:=f.kp;obtain⟨C,dd,e,hm⟩:=h.st;have sub:∀{b:Addr},b ∉ foot x A->b ∉ [A.tk,A.kd]:=fun n m=>n (by simp only[foot,List.mem_cons,List.not_mem_nil,or_false] at m⊢;rcases m with q|q<;>subst q<;>simp)
 have out:∀{i:Nat} {b:Addr},(foot x A)[i]?=some b->i≠1->i≠2->b ∉ [A.tk,A.kd]:=fun{i b} hi h1 j m=>by
  simp only[List.mem_cons,List.not_mem_nil,or_false] at m;rcases m with q|q
  ·exact tG nd hi rfl h1 q
  ·exact tG nd hi rfl j q
 refine⟨k _ _ h.hx (out (i:=0) rfl (by lia) (by lia)),s,h.sd.kp k (fun b d=>?_) (fun t l q=>sub (h.imm q (.inl ⟨l,rfl⟩))),⟨C,dd,k _ _ e (sub (h.imm e (.inr (.inl ⟨C,dd,rfl⟩)))),hm⟩,k _ _ h.he (out (i:=10) rfl (by lia) (by lia)),nd⟩;simp only[List.mem_cons,List.not_mem_nil,or_false] at d;rcases d with q|q|q|q|q|q|q<;>subst q
 ·exact out (i:=3) rfl (by lia) (by lia)
 ·exact out (i:=4) rfl (by lia) (by lia)
 ·exact out (i:=5) rfl (by lia) (by lia)
 ·exact out (i:=6) rfl (by lia) (by lia)
 ·exact out (i:=7) rfl (by lia) (by lia)
 ·exact out (i:=8) rfl (by lia) (by lia)
 ·exact out (i:=9) rfl (by lia) (by lia)
theorem bL.own (h:bL CH CT CS CW CM tb H x A z) (hs:j5 tb H s nm) (due:Bool):bL CH CT CS CW CM tb (upd H x (.ins CH A.dx (aX (.int z.side) (.int z.R) (.ref A.tk) (.ref A.sd) (.ref s) (.bl due) (.ref A.pe)))) x {A with st:=s} {z with nm:=nm,due:=due}:=by
 have nd:=h.nd;have out:∀{i:Nat} {b:Addr},(foot x A)[i]?=some b->i≠0->b ∉ [x]:=fun{i b} hi h1 m=>tG nd hi rfl h1 (List.mem_singleton.mp m);have sub:∀{b:Addr},b ∉ foot x A->b ∉ [x]:=fun n m=>n (by rw[List.mem_singleton.mp m];simp[foot]);have k:Kp _ H (upd H x (.ins CH A.dx (aX (.int z.side) (.int z.R) (.ref A.tk) (.ref A.sd) (.ref s) (.bl due) (.ref A.pe)))):=Kp.one;obtain⟨C,dd,e,hm⟩:=hs;refine⟨ar,⟨k _ _ h.tk.hx (out (i:=1) rfl (by lia)),k _ _ h.tk.hD (out (i:=2) rfl (by lia))⟩,h.sd.kp k (fun b d=>?_) (fun t l q=>sub (h.imm q (.inl ⟨l,rfl⟩))),⟨C,dd,k _ _ e (sub (h.imm e (.inr (.inl ⟨C,dd,rfl⟩)))),hm⟩,k _ _ h.he (out (i:=10) rfl (by lia)),nd⟩;simp only[List.mem_cons,List.not_mem_nil,or_false] at d;rcases d with q|q|q|q|q|q|q<;>subst q
 ·exact out (i:=3) rfl (by lia)
 ·exact out (i:=4) rfl (by lia)
 ·exact out (i:=5) rfl (by lia)
 ·exact out (i:=6) rfl (by lia)
 ·exact out (i:=7) rfl (by lia)
 ·exact out (i:=8) rfl (by lia)
 ·exact out (i:=9) rfl (by lia)
theorem bL.ends (h:bL CH CT CS CW CM tb H x A z):bL CH CT CS CW CM tb (upd H A.pe (.lst (l.map V.int))) x A {z with ends:=l}:=by
 have nd:=h.nd;have out:∀{i:Nat} {b:Addr},(foot x A)[i]?=some b->i≠10->b ∉ [A.pe]:=fun{i b} hi h1 m=>tG nd hi rfl h1 (List.mem_singleton.mp m);have sub:∀{b:Addr},b ∉ foot x A->b ∉ [A.pe]:=fun n m=>n (by rw[List.mem_singleton.mp m];simp[foot]);have k:Kp _ H (upd H A.pe (.lst (l.map V.int))):=Kp.one;obtain⟨C,dd,e,hm⟩:=h.st;refine⟨k _ _ h.hx (out (i:=0) rfl (by lia)),⟨k _ _ h.tk.hx (out (i:=1) rfl (by lia)),k _ _ h.tk.hD (out (i:=2) rfl (by lia))⟩,h.sd.kp k (fun b d=>?_) (fun t l q=>sub (h.imm q (.inl ⟨l,rfl⟩))),⟨C,dd,k _ _ e (sub (h.imm e (.inr (.inl ⟨C,dd,rfl⟩)))),hm⟩,ar,nd⟩;simp only[List.mem_cons,List.not_mem_nil,or_false] at d;rcases d with q|q|q|q|q|q|q<;>subst q
 ·exact out (i:=3) rfl (by lia)
 ·exact out (i:=4) rfl (by lia)
 ·exact out (i:=5) rfl (by lia)
 ·exact out (i:=6) rfl (by lia)
 ·exact out (i:=7) rfl (by lia)
 ·exact out (i:=8) rfl (by lia)
 ·exact out (i:=9) rfl (by lia)
end
theorem rg {R:α->β->Prop}:∀{xs:List α} {d:List β},Paired R xs d->xs.length=d.length
 |_,_,.nil=>rfl
 |_,_,.cons _ t=>by simp[rg t]
theorem jk {R:α->β->Prop}:∀{xs:List α} {d:List β},Paired R xs d->(∀x y,R x y->R' x y)->Paired R' xs d
 |_,_,.nil,_=> .nil
 |_,_,.cons r t,h=> .cons (h _ _ r) (jk t h)
theorem C3 {R:α->β->Prop}:∀{xs:List α} {i:List β} {f:List α} {d:List β},Paired R xs i->Paired R f d->Paired R (xs++f) (i++d)
 |_,_,_,_,.nil,q=>q
 |_,_,_,_,.cons r t,q=> .cons r (C3 t q)
theorem Kv {R:α->γ->Prop}:∀{xs:List α} {d:List β},Paired (fun x y=>R x (f y)) xs d->Paired R xs (d.map f)
 |_,_,.nil=> .nil
 |_,_,.cons r t=> .cons r (Kv t)
theorem N_ {R:α->β->Prop}:∀{xs:List α} {d:List β} {i:Nat} {x:α},Paired R xs d->xs[i]?=some x->∃y,d[i]?=some y/\R x y
 |_,_,_,_,.nil,e=>by trivial
 |_,_,0,_,.cons r _,e=>by simp_all
 |_,_,i+1,_,.cons _ t,e=>by simpa using N_ t (‹_›)
noncomputable def oS (z:Str):Bool:=decide (1<=z.length)&&decide (z.length<=60)&&(d9 z).all OZ
noncomputable def chunk (t:Str) (i:Nat):Str:=Txt.slice t (some ((4*i:Nat):Int)) (some ((4*i+4:Nat):Int))
noncomputable def chunks (t:Str):List Str:=(List.range ((t.length+3) / 4)).map (chunk t)
def ThV (H:Hp) (v:V) (k s:Str):Prop:= ∃p,v = .ref p/\H p=some (.tup [.str k,.str s])
noncomputable def yu (side R own other f l:Int):Hn:=⟨side,R,⟨R,own,0,0,[]⟩,⟨R,0,0,1,.non,false,[],[],[],[],l,f,0,MeterM.mn 2 other,none,other,other,0⟩,"shut",false,[]⟩
def Cj (d:Addr) (H:Hp) (x:Addr) (r o t g f l:Int):Prop:= ∃dx p,H x=some (.ins d dx (jN (.int r) (.ref p) (.int g) (.int f) (.int l)))/\H p=some (.tup [.int o,.int t])
theorem Cj.same (h:Cj CT H x r o t g f l) (s:a8 H H'):Cj CT H' x r o t g f l:=by
 obtain⟨dx,p,h1,d⟩:=h;exact⟨dx,p,s _ _ h1,s _ _ d⟩
def vY:Sp:=fun vs H Q E=>zqs vs fun z vs=>zqn vs (z.length<=1000/\∀H',a8 H H'->Q (.bl (oS z)) H')
def kq (aA ax aa av ai ay ae az aB af ag ah bj:Addr):Sp:=fun vs H Q E=>zqr vs fun x vs=>zqi vs fun side vs=>zqr vs fun tm vs=>zqn vs ( ∃dx r o t g f l,H x=some (.ins aA dx [])/\Cj bj H tm r o t g f l/\good r o t g f l/\(side=0\/side=1)/\∀A H',lH x H H'->(∀b,b∈(foot x A).tail->H b=none)->bL aA ax aa av ai (tbl ay ae az aB af ag ah) H' x A (yu side r (if side=0 then o else t) (if side=0 then t else o) f l)->Q .non H')
def qL (aA ax aa av ai ay ae az aB af ag ah:Addr):Sp:=fun vs H Q E=>zqr vs fun x vs=>zqn vs ( ∃A z,bL aA ax aa av ai (tbl ay ae az aB af ag ah) H x A z/\Q (.str z.nm) H)
def pD (aA ax aa av ai ay ae az aB af ag ah:Addr):Sp:=fun vs H Q E=>zqr vs fun x vs=>zqn vs ( ∃A z,bL aA ax aa av ai (tbl ay ae az aB af ag ah) H x A z/\Q (.bl (decide (z.sd.b=z.sd.t)&&decide (z.sd.t=z.sd.T.length) && !z.due)) H)
def pE (aA ax aa av ai ay ae az aB af ag ah aK:Addr) (K:W.Frag):Sp:=fun vs H Q E=>zqr vs fun x vs=>zqn vs ( ∃A z,bL aA ax aa av ai (tbl ay ae az aB af ag ah) H x A z/\z.sd.T.length<1000/\(∀nx,fP z.nm "begin" = some nx->∀a f H',(∀H,dX K H a [.str "begin",.str ""])->Kp (foot x A) H H'->bL aA ax aa av ai (tbl ay ae az aB af ag ah) H' x {A with st:=f} {z with nm:=nx,sd:={z.sd with T:=z.sd.T++ [.ref a]}}->Q .non H')/\(fP z.nm "begin" = none->∀H' d,a8 H H'->H' d=some (.xd [("state",.str z.nm),("wish",.str "begin")])->E (.ref aK) (some d) H'))
def sW (aA ax aa av ai ay ae az aB af ag ah aK:Addr) (K:W.Frag):Sp:=fun vs H Q E=>zqr vs fun x vs=>zqn vs ( ∃A z,bL aA ax aa av ai (tbl ay ae az aB af ag ah) H x A z/\z.sd.T.length<1000/\z.ends.length<1000/\(∀nx,fP z.nm "end" = some nx->∀a f H',(∀H,dX K H a [.str "end",.str ""])->Kp (foot x A) H H'->bL aA ax aa av ai (tbl ay ae az aB af ag ah) H' x {A with st:=f} {z with nm:=nx,ends:=z.ends++ [(z.sd.T.length:Int)],sd:={z.sd with T:=z.sd.T++ [.ref a]}}->Q .non H')/\(fP z.nm "end" = none->∀H' d,a8 H H'->H' d=some (.xd [("state",.str z.nm),("wish",.str "end")])->E (.ref aK) (some d) H'))
def sV (aA ax aa av ai ay ae az aB af ag ah aK aZ:Addr):Sp:=fun vs H Q E=>zqr vs fun x vs=>zqs vs fun t vs=>zqn vs ( ∃A z,bL aA ax aa av ai (tbl ay ae az aB af ag ah) H x A z/\z.sd.T.length<=980/\t.length<=1000/\(oS t=false->∀H',a8 H H'->E (.ref aZ) none H')/\(oS t=true->RP z.nm=false->∀H' d,a8 H H'->H' d=some (.xd [("state",.str z.nm),("wish",.str "put")])->E (.ref aK) (some d) H')/\(oS t=true->RP z.nm=true->∀vs H',Kp (foot x A) H H'->bL aA ax aa av ai (tbl ay ae az aB af ag ah) H' x A {z with sd:={z.sd with T:=z.sd.T++vs}}->Paired (fun v s=>ThV H' v "signs" s) vs (chunks t)->Q .non H'))
noncomputable abbrev Th:=Str×Str
def Bc (K:W.Frag) (H:Hp) (v:V) (t:Th):Prop:= ∃p,v = .ref p/\dX K H p [.str t.1,.str t.2]
theorem Bc.keep (h:Bc K H v t) (k:∀p o,H p=some o->JW o->H' p=some o):Bc K H' v t:=by
 obtain⟨p,rfl,h⟩:=h;refine⟨p,rfl,?_⟩;rcases h with(h|⟨o,h⟩)|h
 ·exact .inl (.inl (k _ _ h (.inl ⟨_,rfl⟩)))
 ·exact .inl (.inr ⟨o,k _ _ h (.inr (.inr ⟨_,_,rfl⟩))⟩)
 ·exact .inr h
def yU (H H':Hp):Prop:= ∀p o,H p=some o->JW o->H' p=some o
theorem yU.of (s:a8 H H'):yU H H':=fun p o e _=>s p o e
theorem yU.trans (a:yU H H1) (b:yU H1 H2):yU H H2:=fun p o e i=>b p o (a p o e i) i
structure iR where
 side:Int
 R:Int
 M:Int
 g:Int
 o:Int
 D:Int->Option Th
 s:Sd
 T:List Th
 nm:Str
 due:Bool
 ends : List Int
structure c8 (K:W.Frag) (H:Hp) (z:Hn) (a:iR):Prop where
 side:z.side=a.side
 R:z.R=a.R
 tR:z.tk.R=a.R
 tM:z.tk.M=a.M
 g:z.tk.g=a.g
 o:z.tk.o=a.o
 dn:∀i:Int,bH z.tk.D (ik i)=none->a.D i=none
 ds:∀(i:Int) v,bH z.tk.D (ik i)=some v->∃t,a.D i=some t/\Bc K H v t
 dk:(z.tk.D.map Prod.fst).Nodup
 db:∀k∈z.tk.D.map Prod.fst,∃i:Int,k=ik i/\a.o<=i/\i<a.o+a.M
 s:∃vs,z.sd={a.s with T:=vs}/\Paired (Bc K H) vs a.T/\a.s.T.length=vs.length
 nm:z.nm=a.nm
 due:z.due=a.due
 ends : z.ends = a.ends
theorem c8.keep (h:c8 K H z a) (k:yU H H'):c8 K H' z a:=by
 obtain⟨vs,e1,d,f⟩:=h.s;exact{h with ds:=fun i v e=>by {obtain⟨t,t1,t2⟩:=h.ds i v e;exact⟨t,t1,t2.keep k⟩},s:=⟨vs,e1,jk d fun _ _ q=>q.keep k,f⟩}
theorem Jz (h:ik i=ik j):i=j:=by injection h
theorem c8.len (h:c8 K H z a) (hm:0<=a.M):(z.tk.D.length:Int)<=a.M:=by
 have hn:=h.dk;have j:=h.db;have key:∀(n:Nat) (l:List _),l.Nodup->(∀k∈l,∃i:Int,k=ik i/\a.o<=i/\i<a.o+n)->l.length<=n:=by
  intro n
  induction n with
  |zero=>
   intro l _ h;cases l with
   |nil=>trivial
   |cons k l=>obtain⟨i,_,h1,d⟩:=h k (List.mem_cons_self ..);lia
  |succ n f=>
   intro l hl h;have d:=f (l.filter fun k=>!decide (k=ik (a.o+n))) (List.Nodup.sublist List.filter_sublist hl) (fun k hk=>by
    grind)
   have m:l.length<=(l.filter fun k=>!decide (k=ik (a.o+n))).length+1:=by
    clear h d f
    induction l with
    |nil=>simp_all
    |cons k l f=>
     obtain⟨n1,u⟩:=List.nodup_cons.mp hl;by_cases e:k=ik (a.o+n)
     ·have:(l.filter fun k=>!decide (k=ik (a.o+n)))=l:=List.filter_eq_self.mpr fun b j=>by
       lia
      rw[List.filter_cons,if_neg (by simp[e]),this];simp
     ·simp_all
   lia
 have:=key a.M.toNat _ hn (fun k hk=>by
  obtain⟨i,e,h1,d⟩:=j k hk;exact⟨i,e,h1,by lia⟩)
 rw[List.length_map] at this;lia
def HM (m u j i d:Addr) (f:List (Addr×Str)) (K:W.Frag) (H:Hp) (x:Addr) (A:HAd) (a:iR):Prop:= ∃z,bL m u j i d f H x A z/\c8 K H z a
theorem HM.same (h:HM CH CT CS CW CM tb K H x A a) (s:a8 H H'):HM CH CT CS CW CM tb K H' x A a:=by
 obtain⟨z,h1,d⟩:=h;exact⟨z,h1.same s,d.keep (yU.of s)⟩
noncomputable def bQ (a:iR) (ts:List Th):iR:={a with T:=a.T++ts,s:={a.s with T:=a.s.T++ts.map fun _=>V.non}}
noncomputable def cN (a:iR) (m:Int):Nat:=((if a.g<a.o+m then a.g else a.o+m)-a.o).toNat
noncomputable def Hu (a:iR) (m:Int):List Th:=(List.range (cN a m)).map fun j:Nat=>(a.D (a.o+(j:Int))).getD (Str.ofString "",Str.ofString "")
noncomputable def p_ (a:iR) (m:Int):iR:={a with o:=a.o+(cN a m:Int),D:=fun i=>if a.o<=i/\i<a.o+(cN a m:Int) then none else a.D i,due:=a.due||(decide (a.o+a.M-a.g<=0)&&decide (0<a.o+(cN a m:Int)+a.M-a.g))}
noncomputable def fT (a:iR) (k:Str):iR:=
 if k = "begin" then{(if a.nm = "shut" then bQ a [(Str.ofString "begin",Str.ofString "")] else a) with nm:=(fP a.nm "begun").getD a.nm}
 else if k = "end" then{a with nm:=(fP a.nm "ended").getD a.nm} else a
theorem M8 {k:Key} (h:k∈D.map Prod.fst):(bH D k).isSome=true:=by
 obtain⟨e,he,rfl⟩:=List.mem_map.mp h;unfold bH;rw[Option.isSome_map,List.find?_isSome];exact⟨e,he,by simp⟩
theorem c8.read {due:Bool} (h:c8 K H z a) (x:n=cN a m) (hD:∀i:Int,bH j (ik i)=if a.o<=i/\i<a.o+n then none else bH z.tk.D (ik i)) (C:j.Sublist z.tk.D) (y:due=(p_ a m).due):c8 K H {z with tk:=⟨z.tk.R,z.tk.M,z.tk.g,z.tk.o+n,j⟩,due:=due} (p_ a m):=by
 subst x;have u:(j.map Prod.fst).Sublist _:=C.map _;refine⟨h.side,h.R,h.tR,h.tM,h.g,by show z.tk.o+_=a.o+_;rw[h.o],fun i e=>?_,fun i v e=>?_,List.Nodup.sublist u h.dk,fun k hk=>?_,h.s,h.nm,y,h.ends⟩
 ·have d:=e;rw[hD] at d;show(if a.o<=i/\i<a.o+(cN a m) then none else a.D i)=none;split
  ·rfl
  ·rename_i c;rw[if_neg c] at d;exact h.dn i d
 ·have d:=e;rw[hD] at d;show∃t,(if a.o<=i/\i<a.o+(cN a m) then none else a.D i)=some t/\_;split at d
  ·cases d
  ·rename_i c;rw[if_neg c];exact h.ds i v d
 ·have f:=hk;obtain⟨i,rfl,E,i2⟩:=h.db k (u.subset f);have:=M8 f;rw[hD] at this;refine⟨i,rfl,?_,?_⟩
  ·show a.o+_<=i;split at this
   ·trivial
   ·lia
  ·show i<a.o+_+a.M;lia
theorem c8.vals {K:W.Frag} {H:Hp} {z:Hn} {a:iR} (h:c8 K H z a):∀(n:Nat) (o:Int),(∀i,o<=i->i<o+n->(a.D i).isSome=true)->Paired (Bc K H) (vals z.tk.D o n) ((List.range n).map fun j:Nat=>(a.D (o+(j:Int))).getD (Str.ofString "",Str.ofString ""))
 |0,_,_=> .nil
 |n+1,o,hs=>by
  have k:=h.vals n o (fun i h1 d=>hs i h1 (by lia));have h1:=hs (o+n) (by lia) (by lia);cases e:bH _ (ik _) with
  |none=>rw[h.dn _ e] at h1;cases h1
  |some v=>
   obtain⟨t,t1,t2⟩:=h.ds _ v e;rw[yY e,List.range_succ,List.map_append];refine C3 k (.cons ?_ .nil);show Bc K H v ((a.D _).getD _);rw[t1];exact t2
theorem wQ {w:Str} (h:w≠ "begin") (d:w≠ "end"):fP nm w=some ((fP nm w).getD nm):=by
 unfold fP;split
 ·rfl
 ·simp_all
theorem c8.name {nm:Str} (h:c8 K H z a):c8 K H {z with nm:=nm} {a with nm:=nm}:={h with nm:=rfl}
theorem c8.Vi (h:c8 K H z a) (f:Bc K H v t):c8 K H {z with sd:={z.sd with T:=z.sd.T++ [v]}} (bQ a [t]):=by
 obtain⟨vs,e1,d,i⟩:=h.s;refine{h with s:=⟨_,?_,C3 d (.cons f .nil),?_⟩}
 ·rw[e1];rfl
 ·show(a.s.T++ [V.non]).length=_;rw[List.length_append,List.length_append,i];rfl
def qK (aA ax aa av ai ay ae az aB af ag ah:Addr) (K:W.Frag):Sp:=fun vs H Q E=>zqr vs fun x vs=>zqi vs fun m vs=>zqn vs ( ∃A a,HM aA ax aa av ai (tbl ay ae az aB af ag ah) K H x A a/\(0<=m/\m<=1000/\0<=a.o/\a.o<=a.g/\a.g<=10000)/\(∀i,a.o<=i->i<a.g->(a.D i).isSome=true)/\∀p vs H',H p=none->Kp (foot x A) H H'->HM aA ax aa av ai (tbl ay ae az aB af ag ah) K H' x A (p_ a m)->H' p=some (.lst vs)->Paired (Bc K H') vs (Hu a m)->Q (.ref p) H')
def km (aA ax aa av ai ay ae az aB af ag ah:Addr) (K:W.Frag):Sp:=fun vs H Q E=>zqr vs fun x vs=>zqs vs fun k vs=>zqn vs ( ∃A a,HM aA ax aa av ai (tbl ay ae az aB af ag ah) K H x A a/\a.T.length<990/\∀d H',Kp (foot x A) H H'->HM aA ax aa av ai (tbl ay ae az aB af ag ah) K H' x {A with st:=d} (fT a k)->Q .non H')
theorem Hr (h:H p=none):a8 H (upd H p o):=fun b u e=>by rw[ak (fun z=>by simp_all)];exact e
noncomputable def runN (D:Int->Option Th):Nat->Int->Nat
 |0,_=>0
 |k+1,g=>if(D g).isSome then runN D k (g+1)+1 else 0
theorem FR:∀(k n:Nat) (g:Int),(∀j:Nat,j<n->(D (g+j)).isSome=true)->D (g+n)=none->n<=k->runN D k g=n
 |0,n,g,_,_,h=>by unfold runN;lia
 |k+1,0,g,_,h2,_=>by
  unfold runN;rw[if_neg (by simp_all)]
 |k+1,n+1,g,h1,h2,h=>by
  unfold runN;rw[if_pos (by have:=h1 0 (by lia);rwa [show g+((0:Nat))=g by lia] at this)];rw[FR k n _ (fun j d=>by grind) (by lia) (by lia)]
theorem Kf:∀(k:Nat) (g:Int),runN D k g<=k
 |0,_=>by unfold runN;lia
 |k+1,g=>by
  unfold runN;have:=Kf (D:=D) k (g+1);split<;>lia
noncomputable def uY (a:iR) (m:Int):Int:=a.g+(m-a.g) % a.R
noncomputable def vU (a:iR) (m:Int) (t:Th):Int->Option Th:=fun j=>if j=uY a m then(if(a.D j).isSome then a.D j else some t) else a.D j
noncomputable def y2 (a:iR) (m:Int) (t:Th):Nat:=runN (vU a m t) a.M.toNat a.g
noncomputable def Ed (a:iR) (m:Int) (t:Th):List Th:=(List.range (y2 a m t)).map fun j:Nat=>(vU a m t (a.g+(j:Int))).getD (Str.ofString "",Str.ofString "")
noncomputable def Hi (a:iR):List Th->iR:=List.foldl (fun a u=>fT a u.1) a
noncomputable def y3 (a:iR) (m:Int) (t:Th):iR:=if a.o+a.M-a.g<=(m-a.g) % a.R then a else Hi {a with g:=a.g+(y2 a m t:Int),D:=vU a m t} (Ed a m t)
noncomputable def Hb (a:iR) (m:Int):List V:=if a.o+a.M-a.g<=(m-a.g) % a.R then[.str (Str.ofString "old"),.non] else[.str (Str.ofString "filed"),.int (uY a m)]
theorem G5 {k:Key} (h:(bH D k).isSome=true):k∈D.map Prod.fst:=by
 unfold bH at h;rw[Option.isSome_map,List.find?_isSome] at h;obtain⟨e,he,hk⟩:=h;exact List.mem_map.mpr ⟨e,he,by simp_all⟩
theorem MC (h:c8 K H z a) (O:Bc K H v t) (m0:0<=a.M) (og:a.o<=a.g) (J:0<a.R) (lt:(m-a.g) % a.R<a.o+a.M-a.g) (C:f=if(bH z.tk.D (ik (uY a m))).isSome then z.tk.D else putK z.tk.D (ik (uY a m)) v) (y:Run f a.g n):c8 K H {z with tk:=⟨z.tk.R,z.tk.M,z.tk.g+n,z.tk.o,f⟩} {a with g:=a.g+(y2 a m t:Int),D:=vU a m t}/\n=y2 a m t/\Paired (Bc K H) (vals f a.g n) (Ed a m t):=by
 have U:0<=(m-a.g) % a.R:=Int.emod_nonneg _ (by lia);have P:a.o<=uY a m/\uY a m<a.o+a.M:=by unfold uY;lia
 have d:∀j:Int,(bH f (ik j)=none->vU a m t j=none)/\(∀u,bH f (ik j)=some u->∃t',vU a m t j=some t'/\Bc K H u t'):=fun j=>by
  unfold vU;rw[C];cases e:bH z.tk.D (ik (uY a m)) with
  |some x=>
   rw[if_pos (show(some x).isSome=true from rfl)];by_cases c:j=uY a m
   ·subst c;obtain⟨t0,t1,t2⟩:=h.ds _ _ e;rw[if_pos rfl,if_pos (by simp_all)];exact⟨(fun z=>by simp_all),fun u i=>h.ds _ _ i⟩
   ·rw[if_neg c];exact⟨h.dn j,h.ds j⟩
  |none=>
   rw[if_neg (by decide),xR];by_cases c:j=uY a m
   ·rw[if_pos (by rw[c]),if_pos c,if_neg (by rw[c,h.dn _ e];decide)];exact⟨(fun z=>by cases z),fun u i=>by simp_all⟩
   ·rw[if_neg (fun z=>c (Jz z)),if_neg c];exact⟨h.dn j,h.ds j⟩
 have F:∀k∈f.map Prod.fst,∃j:Int,k=ik j/\a.o<=j/\j<a.o+a.M:=fun k hk=>by
  rw[C] at hk;cases e:bH z.tk.D (ik (uY a m)) with
  |some x=>rw[e,if_pos (show(some x).isSome=true from rfl)] at hk;exact h.db k hk
  |none=>
   rw[e,if_neg (by decide),HB v e,List.map_append,List.mem_append] at hk;rcases hk with hk|hk
   ·exact h.db k hk
   ·simp_all
 have kn:(f.map Prod.fst).Nodup:=by
  rw[C];cases e:bH z.tk.D (ik (uY a m)) with
  |some x=>rw[if_pos (show(some x).isSome=true from rfl)];exact h.dk
  |none=>rw[if_neg (by decide)];exact RN v h.dk e
 have E:n=y2 a m t:=by
  unfold y2;refine(FR _ _ _ (fun j G=>?_) ((d _).1 y.2) ?_).symm
  ·obtain⟨u,i⟩:=Option.isSome_iff_exists.mp (y.1 j G);obtain⟨t',e1,_⟩:=(d _).2 u i;rw[e1];rfl
  ·cases n with
   |zero=>simp_all
   |succ k=>
    obtain⟨j,e1,_,X⟩:=F _ (G5 (y.1 k (by lia)));have:=Jz e1;lia
 have R:c8 K H {z with tk:=⟨z.tk.R,z.tk.M,z.tk.g+n,z.tk.o,f⟩} {a with g:=a.g+(y2 a m t:Int),D:=vU a m t}:=⟨h.side,h.R,h.tR,h.tM,by show z.tk.g+_=a.g+_;rw[h.g,E],h.o,fun j=>(d j).1,fun j=>(d j).2,kn,F,h.s,h.nm,h.due,h.ends⟩;refine⟨R,E,?_⟩;have:=c8.vals R n a.g (fun j h1 I=>by
  obtain⟨k,rfl⟩:∃k:Nat,j=a.g+k:=⟨(j-a.g).toNat,by lia⟩;obtain⟨u,i⟩:=Option.isSome_iff_exists.mp (y.1 k (by lia));obtain⟨t',e1,_⟩:=(d _).2 u i;show(vU a m t _).isSome=true;rw[e1];rfl)
 unfold Ed;rw[<-E];exact this
theorem Nn (a:iR) (k:Str):(fT a k).T.length<=a.T.length+1:=by
 unfold fT;split
 ·show(if a.nm = "shut" then bQ a _ else a).T.length<=_;split
  ·show(a.T++ [_]).length<=_;rw[List.length_append];exact Nat.le_refl _
  ·lia
 ·split
  ·simp_all
  ·lia
theorem Hg:∀(ts:List Th) (a:iR),(Hi a ts).T.length<=a.T.length+ts.length
 | [],a=>Nat.le_refl _
 |t::ts,a=>by
  have h1:=Hg ts (fT a t.1);have d:=Nn a t.1;show(Hi (fT a _) ts).T.length<=_;rw[List.length_cons];lia
theorem Lr {ts:List Th} (h:ts[i]?=some t):Hi a (ts.take (i+1))=fT (Hi a (ts.take i)) t.1:=by
 unfold Hi;rw[List.take_add_one,h,List.foldl_append];rfl
def mm (aA ax aa av ai ay ae az aB af ag ah:Addr) (K:W.Frag):Sp:=fun vs H Q E=>zqr vs fun x vs=>zqi vs fun m vs=>zqr vs fun th vs=>zqn vs ( ∃A a t,HM aA ax aa av ai (tbl ay ae az aB af ag ah) K H x A a/\Bc K H (.ref th) t/\(0<a.R/\0<=a.M/\a.M<=16/\a.o<=a.g/\a.T.length<960)/\∀d r H',Kp (foot x A) H H'->HM aA ax aa av ai (tbl ay ae az aB af ag ah) K H' x {A with st:=d} (y3 a m t)->dX K H' r (Hb a m)->Q (.ref r) H')
noncomputable def nj (s:Sd) (nu d:Int) (hs:List Int) (tn:Int):Sd:=if s.t-s.b<far' s nu then s else hrd s nu d hs tn
noncomputable def GS (lo hi:Int) (d:List Int) (nm:Str):Str:=d.foldl (fun nm p=>if lo<=p/\p<hi then(fP nm "answered").getD nm else nm) nm
noncomputable def KR (a:iR) (nu d:Int) (hs:List Int) (tn:Int):iR:={a with s:=nj a.s nu d hs tn,nm:=GS a.s.b (nj a.s nu d hs tn).b a.ends a.nm}
structure G1 (s:Sd) (hs:List Int) (tn:Int):Prop where
 bz:Bz s
 r0:0<s.R
 hl:hs.length<=100
 hn:hs.Nodup
 hp:∀k∈hs,0<=k
 tq:Tq s tn
 kl:s.Kn.length<900000
 tm:s.t<=430
 kc:s.k<=cnt s.Kn s.t.toNat
theorem Sa:nj {s with T:=vs} nu d hs tn={nj s nu d hs tn with T:=vs}:=by
 unfold nj;show(if s.t-s.b<far' s nu then _ else _)=_;split
 ·rfl
 ·rfl
theorem Pq:(nj s nu rm hs tn).T=s.T:=by
 unfold nj;split<;>rfl
theorem c8.snd {nm:Str} (h:c8 K H z a) (d:Paired (Bc K H) vs a.T) (f:s2.T.length=vs.length):c8 K H {z with sd:={s2 with T:=vs},nm:=nm} {a with s:=s2,nm:=nm}:=
 {h with s:=⟨vs,rfl,d,f⟩,nm:=rfl}
theorem qr {d:List Int} (h:d[i]?=some p):GS lo hi (d.take (i+1)) nm=if lo<=p/\p<hi then(fP (GS lo hi (d.take i) nm) "answered").getD (GS lo hi (d.take i) nm) else GS lo hi (d.take i) nm:=by
 unfold GS;rw[List.take_add_one,h,List.foldl_append];rfl
def qM (aA ax aa av ai ay ae az aB af ag ah:Addr) (K:W.Frag):Sp:=fun vs H Q E=>zqr vs fun x vs=>zqr vs fun pc vs=>zqi vs fun tn vs=>zqn vs ( ∃A a kd n nu f hd i hs,HM aA ax aa av ai (tbl ay ae az aB af ag ah) K H x A a/\H pc=some (.tup [kd,n,.int nu,.int f,.ref hd,i])/\H hd=some (.tup (hs.map V.int))/\G1 a.s hs tn/\∀d H',Kp (foot x A) H H'->HM aA ax aa av ai (tbl ay ae az aB af ag ah) K H' x {A with st:=d} (KR a nu f hs tn)->Q .non H')
theorem c8.dued (h:c8 K H z a):c8 K H {z with due:=d} {a with due:=d}:={h with due:=rfl}
noncomputable def Gz (f:Int):Bool:=decide (0<=f/\f<18889465931478580854784)&&(decide (Rem.R f.toNat=0)&&tO f.toNat)
def l8 (aN aR aI:Addr):Sp:=fun vs H Q E=>zqi vs fun f vs=>zqn vs ((Gz f=false->∀H',a8 H H'->Q .non H')/\(Gz f=true->∀t H',a8 H H'->Qh H' t (f.toNat / 256)->Q (.ref t) H'))
noncomputable def sH (f:Int):Nat:=f.toNat / 256
noncomputable def gB (a:iR) (f:Int):Bool:=Gz f&&(decide (MY (sH f)<a.R)&&decide (MZ (sH f)<a.R))
noncomputable def vP (a:iR) (f tn:Int):iR:=KR a (MZ (sH f)) (RQ (sH f)) (HV (sH f)) tn
noncomputable def ql (a:iR) (f tn:Int):iR:=if gB a f then(if BJ (sH f) = "bare" then vP a f tn else if BJ (sH f) = "ask" then{vP a f tn with due:=true} else y3 {vP a f tn with due:=true} (MY (sH f)) (BJ (sH f),MX (sH f))) else a
noncomputable def DV (a:iR) (f tn:Int):List V:=if gB a f then(if BJ (sH f) = "bare" then[.str (Str.ofString "bare"),.non] else if BJ (sH f) = "ask" then[.str (Str.ofString "ask"),.non] else Hb {vP a f tn with due:=true} (MY (sH f))) else[.str (Str.ofString "spoilt"),.non]
def qN (aA ax aa av ai ay ae az aB af ag ah aN aR aI:Addr) (K:W.Frag):Sp:=fun vs H Q E=>zqr vs fun x vs=>zqi vs fun f vs=>zqi vs fun tn vs=>zqn vs ( ∃A a,HM aA ax aa av ai (tbl ay ae az aB af ag ah) K H x A a/\(gB a f=true->G1 a.s (HV (sH f)) tn)/\(0<a.R/\0<=a.M/\a.M<=16/\a.o<=a.g/\a.T.length<960)/\∀d r H',Kp (foot x A) H H'->HM aA ax aa av ai (tbl ay ae az aB af ag ah) K H' x {A with st:=d} (ql a f tn)->dX K H' r (DV a f tn)->Q (.ref r) H')
theorem Kw {R:α->β->Prop}:∀{xs:List α} {d:List β} {i:Nat} {y:β},Paired R xs d->d[i]?=some y->∃x,xs[i]?=some x/\R x y
 |_,_,_,_,.nil,e=>by trivial
 |_,_,0,_,.cons r _,e=>by simp_all
 |_,_,i+1,_,.cons _ t,e=>by simpa using Kw t (‹_›)
theorem Vm {R:α->β->Prop} (h:Paired R xs ys) (e:j4 ys i=some y):∃x,j4 xs i=some x/\R x y:=by
 have hl:=rg h;unfold j4 at e⊢;rw[hl];cases q:M5 _ i with
 |none=>simp_all
 |some j=>rw[q] at e;exact Kw h e
noncomputable def Cg (a:iR):List Int:=((List.range (a.o+a.M-a.g-1).toNat).filter fun j:Nat=>(a.D (a.g+(1+(j:Int)))).isSome).map (fun j:Nat=>1+(j:Int))
theorem c8.held (h:c8 K H z a):A9 z.tk.D z.tk.g (z.tk.o+z.tk.M-z.tk.g-1).toNat=Cg a:=by
 unfold A9 Cg;rw[h.g,h.o,h.tM];congr 1;congr 1;funext j;cases e:bH _ (ik _) with
 |none=>rw[h.dn _ e];rfl
 |some v=>obtain⟨t,t1,_⟩:=h.ds _ v e;rw[t1];rfl
def ko (aA ax aa av ai ay ae az aB af ag ah:Addr) (K:W.Frag):Sp:=fun vs H Q E=>zqr vs fun x vs=>zqs vs fun w vs=>zqv vs fun pl vs=>zqn vs ( ∃A a,HM aA ax aa av ai (tbl ay ae az aB af ag ah) K H x A a/\(0<a.R/\0<=a.o+a.M-a.g/\a.o+a.M-a.g<=1000)/\((pl = .non/\∀t H',a8 H H'->si H' t w 0 (a.g % a.R) (a.o+a.M-a.g) (Cg a) (Str.ofString "")->Q (.ref t) H')\/(∃p th,pl = .int p/\j4 a.T p=some th/\th.2.length<=1000/\∀t H',a8 H H'->si H' t th.1 (p % a.R) (a.g % a.R) (a.o+a.M-a.g) (Cg a) th.2->Q (.ref t) H')))
noncomputable def vN (s:Sd) (n:Int):Sd×Option (Str×Option Int):=
 if s.b<s.t/\C6 s.clk n=true then(Uv s n,some (Str.ofString "again",some s.b))
 else if JA s=true then(afx s n,some (Str.ofString "again",some s.b))
 else if cH s=true then(RL s n,some (Str.ofString "new",some s.t))
 else if s.t<s.T.length/\s.b=s.t then(match s.clk with
  | .int i=>if n<i then(s,none) else(SE s n,some (Str.ofString "ask",none))
  |_=>(U8 s n,none))
 else(s,none)
noncomputable def Vn:Option Int->V
 |none=> .non
 |some i=> .int i
theorem aga (h:GoX z z' n v H H'):z'=(vN z n).1/\(((vN z n).2=none/\v = .non)\/∃w pl p,(vN z n).2=some (w,pl)/\v = .ref p/\H p=none/\H' p=some (.tup [.str w,Vn pl])):=by
 unfold vN;rcases h with⟨h1,j,rfl,p,rfl,f,d⟩|⟨h1,h⟩
 ·rw[if_pos ⟨h1,j⟩];exact⟨rfl,.inr ⟨_,_,p,rfl,rfl,f,d⟩⟩
 ·rw[if_neg (fun c=>by simp_all)];rcases h with⟨j,rfl,p,rfl,f,d⟩|⟨j,h⟩
  ·rw[if_pos j];exact⟨rfl,.inr ⟨_,_,p,rfl,rfl,f,d⟩⟩
  ·rw[if_neg (by simp_all)];rcases h with⟨f,rfl,p,rfl,d,m⟩|⟨f,h⟩
   ·rw[if_pos f];exact⟨rfl,.inr ⟨_,_,p,rfl,rfl,d,m⟩⟩
   ·rw[if_neg (by simp_all)];rcases h with⟨d,m,h⟩|⟨d,rfl,rfl⟩
    ·rw[if_pos ⟨d,m⟩];rcases h with⟨c,rfl,rfl⟩|⟨i,c,x,rfl,rfl⟩|⟨i,c,x,rfl,p,rfl,u,y⟩
     ·rw[c];exact⟨rfl,.inl ⟨rfl,rfl⟩⟩
     ·simp_all
     ·rw[c];refine⟨?_,.inr ⟨_,none,p,?_,rfl,u,y⟩⟩
      ·show _=(if n<i then _ else _:Sd×Option _).1;rw[if_neg (by lia)]
      ·show(if n<i then _ else _:Sd×Option _).2=_;rw[if_neg (by lia)]
    ·rw[if_neg d];exact⟨rfl,.inl ⟨rfl,rfl⟩⟩
theorem agb (hl:s.T.length=vs.length):vN {s with T:=vs} n=({(vN s n).1 with T:=vs},(vN s n).2):=by
 have e1:cH {s with T:=vs}=cH s:=by show(decide (s.t<(vs.length:Int))&&_&&_)=_;rw[<-hl];rfl
 unfold vN;rw[e1];show(if s.b<s.t/\C6 s.clk n=true then _ else if JA s=true then _ else if cH s=true then _ else if s.t<(vs.length:Int)/\s.b=s.t then _ else _)=_;rw[<-hl];split
 ·rfl
 ·split
  ·rfl
  ·split
   ·rfl
   ·split
    ·cases e:s.clk with
     |int i=>
      by_cases c:n<i
      ·simp only[if_pos c,e]
      ·simp only[if_neg c];rfl
     |_=>rfl
    ·rfl
noncomputable def y7 (a:iR) (n:Int):Option (Str×Option Int):=match (vN a.s n).2 with
 |some q=>some q
 |none=>if a.due then some (Str.ofString "bare",none) else none
noncomputable def bG (a:iR) (n:Int):iR:={a with s:=(vN a.s n).1,due:=false}
noncomputable def En (a:iR) (w:Str):Option Int->Str×Str
 |none=>(w,Str.ofString "")
 |some p=>(j4 a.T p).getD (Str.ofString "",Str.ofString "")
noncomputable def Rj (a:iR):Option Int->Int
 |none=>0
 |some p=>p % a.R
noncomputable def Hj (a:iR) (w:Str) (pl:Option Int):Bool:=cD (En a w pl).1 (Rj a pl) (a.g % a.R) (a.o+a.M-a.g) (Cg a) (En a w pl).2
noncomputable def Nr (a:iR) (w:Str) (pl:Option Int):Nat:=ip (En a w pl).1 (Rj a pl) (a.g % a.R) (a.o+a.M-a.g) (Cg a) (En a w pl).2
structure GW (a:iR) (n:Int):Prop where
 bz:Bz a.s
 ck:a.s.clk = .non\/∃i,a.s.clk = .int i
 la:a.s.Ag.length<1000000
 lf:a.s.Fi.length<1000000
 r0:0<a.R
 m0:0<=a.o+a.M-a.g
 m1:a.o+a.M-a.g<=1000
 pb:∀w pl,y7 a n=some (w,pl)->Hj a w pl=true/\∀p,pl=some p->∃th,j4 a.T p=some th/\th.2.length<=1000
theorem c8.sent (h:c8 K H z a) (f:Paired (Bc K H) vs a.T) (i:s2.T.length=vs.length):c8 K H {z with sd:={s2 with T:=vs},due:=d} {a with s:=s2,due:=d}:=
 {h with s:=⟨vs,rfl,f,i⟩,due:=rfl}
theorem X9:(vN s n).1.T=s.T:=by
 unfold vN;split
 ·rfl
 ·split
  ·rfl
  ·split
   ·rfl
   ·split
    ·cases e:s.clk with
     |int i=>
      by_cases c:n<i
      ·simp_all
      ·simp only[if_neg c];rfl
     |_=>rfl
    ·rfl
def qJ (aA ax aa av ai ay ae az aB af ag ah aI:Addr) (K:W.Frag):Sp:=fun vs H Q E=>zqr vs fun x vs=>zqi vs fun n vs=>zqn vs ( ∃A a,HM aA ax aa av ai (tbl ay ae az aB af ag ah) K H x A a/\GW a n/\(y7 a n=none->∀H',Kp (foot x A) H H'->HM aA ax aa av ai (tbl ay ae az aB af ag ah) K H' x A (bG a n)->Q .non H')/\(∀w pl,y7 a n=some (w,pl)->∀r H',Kp (foot x A) H H'->HM aA ax aa av ai (tbl ay ae az aB af ag ah) K H' x A (bG a n)->H' r=some (.tup [.int (Nr a w pl:Nat),.str w,Vn pl])->Q (.ref r) H'))
def ma (K:W.Frag):Sp:=fun vs H Q E=>zqr vs fun a vs=>zqi vs fun k vs=>zqn vs ( ∃ns:List Int,cT K H a (ns.map V.int)/\0<=k/\∀n,Q (.int n) H)
def o_:Sp:=fun vs H Q E=>zqi vs fun c vs=>zqi vs fun k vs=>zqn vs (0<=k/\∀v,0<=v->v<2147483648->Q (.int v) H)
def wide (r o t g f l:Int):Prop:=good r o t g f l/\¬r<pH o t g
def o8 (bj:Addr):Sp:=fun vs H Q E=>zqi vs fun c vs=>zqi vs fun n vs=>zqn vs ( ∀x r o t g f l H',a8 H H'->Cj bj H' x r o t g f l->wide r o t g f l->Q (.ref x) H')
def qB:Sp:=fun vs H Q E=>zqi vs fun c vs=>zqi vs fun n vs=>zqn vs ((0<=n/\n<=100)/\∀z H',a8 H H'->(z.length:Int)=n->(∀c∈z.cps.toList,c∈sgl)->Q (.str z) H')
structure Hk (z z':Sd) (nu rm:Int) (hs:List Int):Prop where
 R:z'.R=z.R
 L:z'.L=z.L
 t:z'.t=z.t
 T:z'.T=z.T
 Fi:z'.Fi=z.Fi
 Ag:z'.Ag=z.Ag
 b:z'.b=z.b+far' z nu
 e:z'.e=if z.e<z.b+far' z nu+rm then z.b+far' z nu+rm else z.e
 Kn:z'.Kn=putAll (nK z nu).Kn (xO z nu hs)
 k:z'.k<=z.k+(yM z nu).length+(xO z nu hs).length
 ck:(z'.clk = .non\/∃i,z'.clk = .int i)
theorem Ov:∀{fs:List Int} {s:Ws},(fs.foldl (MW z tn) s).2.2<=s.2.2+fs.length
 | [],_=>Nat.le_refl _
 |a::l,s=>by
  have h1:=Ov (z:=z) (tn:=tn) (fs:=l) (s:=MW z tn s a);have d:(MW z tn s a).2.2<=s.2.2+1:=by
   unfold MW;split
   ·lia
   ·simp_all
  show((l.foldl _ (MW z tn s a)).2.2)<=_;rw[List.length_cons];lia
theorem afy (hc:z.clk = .non\/∃i,z.clk = .int i):Hk z (hrd z nu rm hs tn) nu rm hs:=by
 refine⟨rfl,rfl,rfl,rfl,rfl,rfl,rfl,rfl,rfl,?_,?_⟩
 ·have h1:(hrd z nu rm hs tn).k<=z.k+(fsh z nu hs).length:=Ov;have d:(fsh z nu hs).length=(yM z nu).length+(xO z nu hs).length:=List.length_append;lia
 ·show(if 0<far' z nu then(if z.b+far' z nu<z.t then V.int _ else .non) else z.clk) = .non\/∃i,(if 0<far' z nu then(if z.b+far' z nu<z.t then V.int _ else .non) else z.clk) = .int i;split
  ·split
   ·simp_all
   ·simp
  ·exact hc
structure Jw (z:Sd) (r tn:Int) (s:Nat):Prop where
 R:z.R=r
 r0:0<r
 B:Bz z
 te:z.t<=z.e
 tm:z.t<=z.T.length
 tl:z.T.length<=420
 k:z.k<=cnt z.Kn z.t.toNat
 kn:∀j:Int,z.t<=j->knw z.Kn j=false
 ck:z.clk = .non\/∃i,z.clk = .int i
 tq:∀j:Int,0<=j->j<z.t->∃f,bH z.Fi (ik j)=some (.int f)/\0<=f/\f<=tn
 UW:0<=tn
 UU:tn<=900000+20*s
 s1:z.Kn.length<=540*s
 s2:z.Fi.length<=s
 s3:z.Ag.length<=s
theorem Jw.turn (h:Jw z r tn s) (h0:0<=d) (h1:d<=20):Jw z r (tn+d) (s+1):=by
 have e1:=h.UW;have i:=h.UU;have v:=h.s1;have u:=h.s2;have m:=h.s3;exact⟨h.R,h.r0,h.B,h.te,h.tm,h.tl,h.k,h.kn,h.ck,fun j a b=>by
  obtain⟨f,q1,q2,q3⟩:=h.tq j a b;exact⟨f,q1,q2,by lia⟩,by lia,by lia,by lia,by lia,by lia⟩
theorem Jw.more (h:Jw z r tn s) (h1:s<=s'):Jw z r tn s':=by
 have d:=h.UU;have j:=h.s1;have i:=h.s2;have f:=h.s3;exact⟨h.R,h.r0,h.B,h.te,h.tm,h.tl,h.k,h.kn,h.ck,h.tq,h.UW,by lia,by lia,by lia,by lia⟩
theorem P6:cnt D t<=cnt D (t+1):=by rw[DX];lia
theorem Cv:∀{fs:List Int} {D:List (Key×V)},(∀a∈fs,a≠j)->knw (putAll D fs) j=knw D j
 | [],_,_=>rfl
 |a::l,D,h=>by
  show knw (putAll _ l) j=_;rw[Cv fun b d=>h b (List.mem_cons_of_mem _ d),Gq];have:=h a (List.mem_cons_self ..);simp[this.symm]
theorem Yh:(yM z nu).length<=(far' z nu).toNat:=by
 have h1:(yM z nu).length<=(irg _ _).length:=List.length_filter_le _ _;have d:(irg z.b (far' z nu).toNat).length=(far' z nu).toNat:=by unfold irg;rw[List.length_map,List.length_range]
 lia
theorem Yg:(xO z nu hs).length<=hs.length:=by
 have h1:(xO z nu hs).length<=(hld _ hs).length:=List.length_filter_le _ _;exact Nat.le_trans h1 Gv
theorem Jw.tqq (h:Jw z r tn s) (h1:s<=2000):Tq z tn:=fun j a b=>by
 obtain⟨f,q1,q2,q3⟩:=h.tq j a b;have:=h.UU;exact⟨f,q1,by lia,by lia⟩
theorem Jw.hrd (h:Jw z r tn s) (hl:hs.length<=100) (hn:hs.Nodup) (h0:∀k∈hs,0<=k) (hf:far' z nu<=z.t-z.b) (g:Hk z z' nu rm hs):Jw z' r tn (s+1):=by
 have r0:=h.r0;have eR:=h.R;have f:0<=far' z nu:=Int.emod_nonneg _ (by lia);have b0:=h.B.b0;have bt:=h.B.bt;have e1:=h.UU;have u:=h.s1;have x:=h.s2;have v:=h.s3;have y:=h.tl;have E:=h.tm;have l1:=Yh (z:=z) (nu:=nu);have l2:=Yg (z:=z) (nu:=nu) (hs:=hs);have m1:∀a∈yM z nu,knw z.Kn a=false/\0<=a/\a<(z.t.toNat:Int):=fun a ha=>by
  obtain⟨q1,q2⟩:=Cy ha;have:=KP q1;exact⟨q2,by lia,by lia⟩
 have d:∀a∈xO z nu hs,knw (nK z nu).Kn a=false/\0<=a/\a<(z.t.toNat:Int):=fun a ha=>by
  obtain⟨q1,q2⟩:=Cy ha;obtain⟨q3,k,q4,q5⟩:=KQ q1;have q6:=h0 k q4;have q7:a<z.t:=q3;have q8:a=z.b+far' z nu+k:=q5;exact⟨q2,by lia,by lia⟩
 have c1:cnt (nK z nu).Kn z.t.toNat=cnt z.Kn z.t.toNat+(yM z nu).length:=yP (Fg.filter _) m1;have m:cnt (putAll (nK z nu).Kn (xO z nu hs)) z.t.toNat=cnt (nK z nu).Kn z.t.toNat+(xO z nu hs).length:=yP ((Fh hn).filter _) d;have k1:(nK z nu).Kn.length<=z.Kn.length+(yM z nu).length:=qY;have k2:(putAll (nK z nu).Kn (xO z nu hs)).length<=(nK z nu).Kn.length+(xO z nu hs).length:=qY;have C:=g.k;have hk:=h.k;have te:=h.te;refine⟨g.R.trans h.R,h.r0,⟨by rw[g.b];lia,by rw[g.b,g.t];lia,by rw[g.t];exact h.B.t1⟩,by rw[g.t,g.e];split<;>lia,by rw[g.t,g.T];exact h.tm,by rw[g.T];exact h.tl,by rw[g.Kn,g.t,m,c1];lia,fun j i=>?_,g.ck,fun j a b=>by rw[g.Fi];exact h.tq j a (by rw[g.t] at b;exact b),h.UW,by lia,by rw[g.Kn];lia,by rw[g.Fi];lia,by rw[g.Ag];lia⟩
 rw[g.t] at i;rw[g.Kn,Cv fun a ha=>by have:=(d a ha).2.2;lia];show knw (putAll z.Kn (yM z nu)) j=false;rw[Cv fun a ha=>by have:=(m1 a ha).2.2;lia];exact h.kn j i
theorem Jw.Y2 (h:Jw z r tn s) (h1:z.T.length<=d.length) (f:d.length<=420):Jw {z with T:=d} r tn s:=by
 have e1:=h.tm;exact⟨h.R,h.r0,⟨h.B.b0,h.B.bt,h.B.t1⟩,h.te,by lia,f,h.k,h.kn,h.ck,h.tq,h.UW,h.UU,h.s1,h.s2,h.s3⟩
theorem Jw.new (h:Jw z r tn s) (c:cH z=true):Jw (RL z tn) r tn (s+1):=by
 unfold cH at c;simp only[Bool.and_eq_true,decide_eq_true_eq] at c;have e0:=h.B.b0;have e1:=h.UU;have v:=h.s1;have y:=h.s2;have x:=h.s3;have u:=h.B.bt;have C:=h.tl;have E:=h.tm;have m:(z.t+1).toNat=z.t.toNat+1:=by lia
 refine⟨h.R,h.r0,⟨h.B.b0,by show z.b<=z.t+1;lia,by show z.t+1<=900;lia⟩,by show z.t+1<=z.e;lia,by show z.t+1<=(z.T.length:Int);lia,h.tl,by show z.k<=cnt z.Kn (z.t+1).toNat;rw[m];exact Nat.le_trans h.k P6,fun j d=>h.kn j (by have:z.t+1<=j:=d;lia),?_,fun j a b=>?_,h.UW,by lia,by show z.Kn.length<=_;lia,by show(putK z.Fi (ik z.t) (.int tn)).length<=_;have:=o5 z.Fi (ik z.t) (.int tn);lia,by show z.Ag.length<=_;lia⟩
 ·show(if z.b=z.t then V.int (tn+z.w) else z.clk) = .non\/∃i,(if z.b=z.t then V.int (tn+z.w) else z.clk) = .int i;split
  ·simp_all
  ·exact h.ck
 ·show∃f,bH (putK z.Fi (ik z.t) (.int tn)) (ik j)=some (.int f)/\0<=f/\f<=tn;rw[xR];by_cases c:j=z.t
  ·subst c;rw[if_pos rfl];exact⟨tn,rfl,h.UW,Int.le_refl _⟩
  ·rw[if_neg (by simp_all)];exact h.tq j a (by have:j<z.t+1:=b;lia)
structure IG (s:Sd) (n:Int):Prop where
 bt:s.b<=s.t
 nk:∀j,s.b<=j->knw s.Kn j=false
 wi:1<=s.wi
 ck:s.b<s.t->∃c,s.clk = .int c/\n<c
 kc:s.clk = .non\/∃i,s.clk = .int i
theorem afh (h:∀j,s.b<=j->knw s.Kn j=false):kab s=0:=by
 unfold kab;rw[List.length_eq_zero_iff,List.filter_eq_nil_iff];intro j _;rw[h _ (by lia)];decide
noncomputable def D4 (s:Sd) (n:Int):Bool:=decide (s.t<s.T.length)&&decide (s.b=s.t)&&C6 s.clk n
noncomputable def qz (s:Sd) (n:Int):Sd:=if s.t<s.T.length/\s.b=s.t then(match s.clk with
 | .int _=>s
 |_=>U8 s n) else s
theorem JD (h:IG s n):vN s n=if cH s=true then(RL s n,some (Str.ofString "new",some s.t)) else if D4 s n=true then(SE s n,some (Str.ofString "ask",none)) else(qz s n,none):=by
 have hk:=afh h.nk;unfold vN;rw[if_neg,if_neg]
 ·by_cases c:cH s=true
  ·simp_all
  rw[if_neg c,if_neg c];unfold D4 qz;by_cases d:s.t<s.T.length/\s.b=s.t
  ·rw[if_pos d,if_pos d,decide_eq_true d.1,decide_eq_true d.2];rcases h.kc with e|⟨i,e⟩
   ·rw[e];rfl
   ·rw[e];show(if n<i then(s,none) else(SE s n,some _))=if decide _=true then _ else _;by_cases f:n<i
    ·simp_all
    ·simp_all
  ·rw[if_neg d,if_neg d,if_neg];intro z;rw[Bool.and_eq_true,Bool.and_eq_true,decide_eq_true_eq,decide_eq_true_eq] at z;exact d z.1
 ·unfold JA;rw[hk];simp
 ·rintro⟨c1,d⟩;obtain⟨c,e,l⟩:=h.ck c1;rw[e] at d;simp only[C6,decide_eq_true_eq] at d;lia
structure Gs (s s':Sd) (n:Int):Prop where
 b:s'.b=s.b
 Kn:s'.Kn=s.Kn
 e:s'.e=s.e
 T:s'.T=s.T
 R:s'.R=s.R
 L:s'.L=s.L
 t:s'.t=s.t+(if cH s then 1 else 0)
 ck:s.b=s.t->cH s=true->s'.clk = .int (n+s.w)
 wc:s.w<=s.L->(∀c,s.clk = .int c->c<=n+s.L)->∀c,s'.clk = .int c->c<=n+s.L
 id:cH s=false->D4 s n=false->s.t<s.T.length->s.b=s.t->∃c,s'.clk = .int c/\((s.clk = .int c/\n<c)\/c=n+s.w)
 jw:∀r q,Jw s r n q->Jw s' r n (q+1)
theorem Jw.ask (h:Jw z r tn s):Jw {z with w:=d,clk:= .int c} r tn (s+1):=by
 have h:=h.more (Nat.le_succ s);exact⟨h.R,h.r0,⟨h.B.b0,h.B.bt,h.B.t1⟩,h.te,h.tm,h.tl,h.k,h.kn,.inr ⟨_,rfl⟩,h.tq,h.UW,h.UU,h.s1,h.s2,h.s3⟩
theorem Dl (h:IG s n):Gs s (vN s n).1 n:=by
 rw[JD h];by_cases c:cH s=true
 ·rw[if_pos c];refine⟨rfl,rfl,rfl,rfl,rfl,rfl,by rw[c];rfl,fun e _=>by show(if s.b=s.t then _ else _)=_;rw[if_pos e],fun u w2 d hd=>?_,fun z=>(by simp_all),fun r q j=>j.new c⟩;have f:(if s.b=s.t then V.int _ else s.clk) = .int d:=hd;split at f
  ·injection f with f;lia
  ·exact w2 d f
 ·rw[if_neg c];rw[Bool.not_eq_true] at c;by_cases v:D4 s n=true
  ·rw[if_pos v];refine⟨rfl,rfl,rfl,rfl,rfl,rfl,by rw[c];simp;rfl,fun _ z=>(by simp_all),fun u C d hd=>?_,fun _ z=>(by simp_all),fun r q j=>j.ask⟩;have f:=hd;injection f with f;unfold w2 at f;split at f<;>lia
  ·rw[if_neg v];unfold qz;by_cases m:s.t<s.T.length/\s.b=s.t
   ·rw[if_pos m];rcases h.kc with e|⟨i,e⟩
    ·rw[e];refine⟨rfl,rfl,rfl,rfl,rfl,rfl,by rw[c];simp;rfl,fun _ z=>(rfl),fun u w2 d hd=>?_,fun _ _ _ _=>⟨_,rfl,.inr rfl⟩,fun r q j=>j.ask⟩;have f:=hd;injection f with f;lia
    ·rw[e];refine⟨rfl,rfl,rfl,rfl,rfl,rfl,by simp_all,fun _ z=>(by simp_all),fun u w2=>((w2)),fun _ z _ _=>⟨i,e,.inl ⟨e,?_⟩⟩,fun r q j=>j.more (Nat.le_succ _)⟩;unfold D4 at z;rw[decide_eq_true m.1,decide_eq_true m.2,e] at z;simp only[C6,Bool.true_and,decide_eq_false_iff_not] at z;lia
   ·rw[if_neg m];exact⟨rfl,rfl,rfl,rfl,rfl,rfl,by simp_all,fun _ z=>(by simp_all),fun u w2=>w2,fun _ _ x y=>absurd ⟨x,y⟩ m,fun r q j=>j.more (Nat.le_succ _)⟩
theorem R_ (d:2<=s.R) (lo:s.b<=G) (hi:G<=s.b+1) (gt:G<=s.t) (nk:∀j,s.b<=j->knw s.Kn j=false):far' s (G % s.R)=G-s.b/\nj s (G % s.R) M [] n=hrd s (G % s.R) M [] n/\(∀j,G<=j->knw (hrd s (G % s.R) M [] n).Kn j=false):=by
 have hf:far' s (G % s.R)=G-s.b:=by
  unfold far';rw[Int.sub_emod,Int.emod_emod_of_dvd _ (Int.dvd_refl _),<-Int.sub_emod];exact Int.emod_eq_of_lt (by lia) (by lia)
 refine⟨hf,?_,fun j f=>?_⟩
 ·unfold nj;rw[if_neg (by lia)]
 ·show knw (putAll _ (yM s _)) j=false;rw[Cv]
  ·grind
  ·intro a ha;obtain⟨k,hk,rfl⟩:=List.mem_map.mp (List.mem_filter.mp ha).1;rw[List.mem_range] at hk;lia
theorem U_ {R:Int}:(g % R-g) % R=0:=by
 simp_all
theorem QJ (u:b.g<b.o+b.M) (og:b.o<=b.g) (hD:∀i,b.g<=i->b.D i=none):Hb b (b.g % b.R)= [.str (Str.ofString "filed"),.int b.g]/\y3 b (b.g % b.R) th=fT {b with g:=b.g+1,D:=fun j=>if j=b.g then some th else b.D j} th.1:=by
 have e0:(b.g % b.R-b.g) % b.R=0:=U_;have ei:uY b (b.g % b.R)=b.g:=by unfold uY;rw[e0];lia
 have d:vU b (b.g % b.R) th=fun j=>if j=b.g then some th else b.D j:=by
  funext j;unfold vU;by_cases c:j=b.g
  ·simp_all
  ·simp_all
 have f:y2 b (b.g % b.R) th=1:=by
  unfold y2;rw[d];obtain⟨k,hk⟩:∃k,b.M.toNat=k+1:=⟨b.M.toNat-1,by lia⟩;rw[hk];refine FR _ _ _ (fun j v=>?_) ?_ (by lia)
  ·simp_all
  ·grind
 have m:Ed b (b.g % b.R) th= [th]:=by
  unfold Ed;rw[f,d];simp
 constructor
 ·unfold Hb;rw[if_neg (by lia),ei]
 ·unfold y3;rw[if_neg (by lia),f,d,m];rfl
theorem KW {f:Int} (h:cD k n a r hs d=true) (e:f=(ip k n a r hs d:Nat)):Gz f=true/\BJ (sH f)=k/\MY (sH f)=n/\MZ (sH f)=a/\RQ (sH f)=r/\HV (sH f)=hs/\MX (sH f)=d:=by
 subst e;obtain⟨h1,j⟩:=MI h;have hp:=C4 h;have hl:=hp.Py;have i:sH ((ip k n a r hs d:Nat):Int)=fR k n a r hs d:=by
  unfold sH;rw[Int.toNat_natCast,j]
 rw[i];refine⟨?_,KJ hp⟩;unfold Gz;rw[Int.toNat_natCast,Pz,h1,Bool.and_true,decide_eq_true (rfl:(0:Nat)=0),Bool.and_true,decide_eq_true_eq];lia
noncomputable abbrev Yw:=Option (Int×Str×Option Int)
noncomputable def BK (y:Yw):Bool:=match y with
 |some (_,_,some _)=>true
 |_=>false
def Be (t:Th):Prop:=t.1≠ "bare" /\t.1≠ "ask" /\t.2.length<=4/\∀n a r,0<=n->n<64->0<=a->a<64->0<=r->r<=16->cD t.1 n a r [] t.2=true
structure Qu (a:iR):Prop where
 r2:2<=a.R
 r64:a.R<=64
 m1:1<=a.M
 VP:a.M<=16
 sR:a.s.R=a.R
 tl:a.s.T.length=a.T.length
 gt:∀t∈a.T,Be t
noncomputable def XF (y:Yw):Bool:=match y with
 |some (_,w,_)=>!decide (w = "bare")
 |none=>false
def UN (a:iR) (y:Yw):Prop:= ∀f w p,y=some (f,w,p)->∃k d nn,cD k nn (a.g % a.R) (a.o+a.M-a.g) [] d=true/\f=(ip k nn (a.g % a.R) (a.o+a.M-a.g) [] d:Nat)/\(((w=Str.ofString "bare" \/w=Str.ofString "ask")/\p=none/\k=w/\nn=0)\/(w=Str.ofString "new" /\p=some (a.s.t-1)/\nn=(a.s.t-1) % a.R/\1<=a.s.t/\j4 a.T (a.s.t-1)=some (k,d)/\k≠ "bare" /\k≠ "ask"))
structure Dir (a b:iR) (y:Yw) (u:Bool) (n:Int):Prop where
 o0:0<=b.o
 og:b.o<=b.g
 gm:b.g<=b.o+b.M
 dn:∀i,b.D i=if b.o<=i/\i<b.g then j4 a.T i else none
 tg:a.s.t=b.g+(if BK y then 1 else 0)
 lo:a.s.b<=b.g
 hi:b.g<=a.s.b+1
 un:u=false->a.s.b=b.g
 nk:∀j,a.s.b<=j->knw a.s.Kn j=false
 ee:a.s.e<=b.o+b.M
 ck:a.s.b=b.g->a.s.b<a.s.t->∃c,a.s.clk = .int c/\n+2<=c
 wc:∀c,a.s.clk = .int c->c<=n+a.s.L
structure Qm (a a1 c:iR) (y:Yw) (n:Int):Prop where
 b:a1.s.b=c.g
 t:a1.s.t=a.s.t
 nk:∀j,a1.s.b<=j->knw a1.s.Kn j=false
 ee:a1.s.e<=c.o+c.M
 L:a1.s.L=a.s.L
 ck:a1.s.b<a1.s.t->∃d,a1.s.clk = .int d/\n+2<=d
 wc:∀d,a1.s.clk = .int d->d<=n+1+a1.s.L
 ks:a.s.b=c.g->a1.s.clk=a.s.clk
 o:a1.o=a.o
 g:a1.g=a.g+(if BK y then 1 else 0)
 gm:a1.g<=a.o+a.M
 D:∀j,a1.D j=if a.o<=j/\j<a1.g then j4 c.T j else none
 due:XF y=true->a1.due=true
 R:a1.R=a.R
 M:a1.M=a.M
 T:∃ts,(∀t∈ts,Be t)/\ts.length<=1/\a1.T=a.T++ts/\a1.s.T.length=a.s.T.length+ts.length
 jw:∀r tn q,Jw a.s r tn q->a1.s.T.length<=420->Jw a1.s r tn (q+1)
 es:a1.ends=a.ends
theorem Dk:Be (Str.ofString "begin",Str.ofString ""):=by
 refine⟨by trivial,by trivial,by trivial,fun n a r n0 n1 a0 a1 r0 d=>?_⟩;unfold cD;rw[show D_ _ _=true by trivial,show D_ _ _=false by trivial,show Held.dZ 0 []=true by trivial,show qO _ _=true by trivial];simp[eV];lia
theorem YW:(fT a k).s={a.s with T:=(fT a k).s.T}/\(fT a k).o=a.o/\(fT a k).g=a.g/\(fT a k).D=a.D/\(fT a k).due=a.due/\(fT a k).R=a.R/\(fT a k).M=a.M/\∃ts,(∀t∈ts,Be t)/\ts.length<=1/\(fT a k).T=a.T++ts/\(fT a k).s.T.length=a.s.T.length+ts.length:=by
 unfold fT;split
 ·split
  ·refine⟨rfl,rfl,rfl,rfl,rfl,rfl,rfl,_,fun t ht=>?_,by simp,rfl,?_⟩
   ·rw[List.mem_singleton.mp ht];exact Dk
   ·show(a.s.T++_).length=_;simp
  ·simp_all
 ·split
  ·simp_all
  ·simp_all
theorem YX:(fT a k).ends=a.ends:=by
 unfold fT;split
 ·split<;>rfl
 ·split<;>rfl
noncomputable def E3 (w:Str):Option Int->List V
 |none=>[.str w,.non]
 |some q=>[.str (Str.ofString "filed"),.int q]
theorem Sw (ca:Qu a) (eR:a.R=b.R) (d1:Dir a b y' y.isSome n) (u:Dir b a y v n) (yo:UN b y) (te:b.s.t<=b.s.e) (P:y=some (f,w,p)):
  gB a f=true/\DV a f (n+1)=E3 w p/\HV (sH f)= []/\(2<=(ql a f (n+1)).s.w/\(ql a f (n+1)).s.w<=(ql a f (n+1)).s.L->Qm a (ql a f (n+1)) b y n):=by
 obtain⟨k,d,nn,h1,h2,h3⟩:=yo f w p P;obtain⟨f0,f1,f2,f3,f4,U,f6⟩:=KW h1 h2;have r2:=ca.r2;have gR:=Int.emod_lt_of_pos b.g (show 0<b.R by lia);have hn:nn<a.R:=by
  rcases h3 with⟨_,_,_,e⟩|⟨_,_,e,_⟩
  ·lia
  ·rw[e,<-eR];exact Int.emod_lt_of_pos _ (by lia)
 have hok:gB a f=true:=by
  unfold gB;rw[f0,f2,f3,Bool.true_and,decide_eq_true hn,decide_eq_true (show b.g % b.R<a.R by lia)];rfl
 have gt:b.g<=a.s.t:=by have:=d1.tg;split at this<;>lia
 obtain⟨g1,g2,g3⟩:=R_ (s:=a.s) (G:=b.g) (M:=b.o+b.M-b.g) (n:=n+1) (by rw[ca.sR];exact r2) d1.lo d1.hi gt d1.nk;have I:vP a f (n+1)={a with s:=hrd a.s (b.g % a.s.R) (b.o+b.M-b.g) [] (n+1),nm:=(vP a f (n+1)).nm}:=by
  unfold vP KR;rw[f3,f4,U,<-eR,<-ca.sR,g2]
 generalize(vP a f (n+1)).nm=nm at I;have C:(hrd a.s (b.g % a.s.R) (b.o+b.M-b.g) [] (n+1)).b=b.g:=by
  show a.s.b+far' a.s (b.g % a.s.R)=b.g;rw[g1];lia
 have ee:(hrd a.s (b.g % a.s.R) (b.o+b.M-b.g) [] (n+1)).e<=b.o+b.M:=by
  show(if a.s.e<a.s.b+far' a.s (b.g % a.s.R)+(b.o+b.M-b.g) then a.s.b+far' a.s (b.g % a.s.R)+(b.o+b.M-b.g) else a.s.e)<=_;rw[g1];have:=d1.ee;split<;>lia
 have H:(hrd a.s (b.g % a.s.R) (b.o+b.M-b.g) [] (n+1)).clk=if 0<b.g-a.s.b then(if b.g<a.s.t then V.int (n+1+(hrd a.s (b.g % a.s.R) (b.o+b.M-b.g) [] (n+1)).w) else .non) else a.s.clk:=by
  show(if 0<far' a.s (b.g % a.s.R) then(if a.s.b+far' a.s (b.g % a.s.R)<a.s.t then V.int (n+1+(hrd a.s (b.g % a.s.R) (b.o+b.M-b.g) [] (n+1)).w) else .non) else a.s.clk)=_;rw[g1,show a.s.b+(b.g-a.s.b)=b.g by lia]
 have eL:(hrd a.s (b.g % a.s.R) (b.o+b.M-b.g) [] (n+1)).L=a.s.L:=rfl;have m:∀r tn q,Jw a.s r tn q->Jw (hrd a.s (b.g % a.s.R) (b.o+b.M-b.g) [] (n+1)) r tn (q+1):=fun r tn q j=>j.hrd (hs:=[]) (by simp) List.nodup_nil (fun k hk=>absurd hk List.not_mem_nil) (by simp_all) (afy j.ck);have O:(hrd a.s (b.g % a.s.R) (b.o+b.M-b.g) [] (n+1)).t=a.s.t:=rfl;have Y:(hrd a.s (b.g % a.s.R) (b.o+b.M-b.g) [] (n+1)).T=a.s.T:=rfl;unfold ql;unfold DV;rw[if_pos hok];rw[if_pos hok];rw[I];generalize hrd a.s (b.g % a.s.R) (b.o+b.M-b.g) [] (n+1)=s1 at*
 have c1:2<=s1.w->s1.b<s1.t->∃c,s1.clk = .int c/\n+2<=c:=fun hx hl=>by
  rw[C,O] at hl;rw[H];by_cases c0:0<b.g-a.s.b
  ·grind
  ·rw[if_neg c0];exact d1.ck (by have:=d1.lo;lia) (by have:=d1.lo;lia)
 have X:s1.w<=s1.L->∀c,s1.clk = .int c->c<=n+1+s1.L:=fun hx c hc=>by
  rw[H] at hc;split at hc
  ·lia
  ·have:=d1.wc c hc;lia
 have c3:a.s.b=b.g->s1.clk=a.s.clk:=fun e=>by simp_all
 have e4:∀D1:Int->Option Th,(∀j,D1 j=a.D j)->BK y=false->∀j,D1 j=if a.o<=j/\j<a.g then j4 b.T j else none:=fun D1 h _ j=>by rw[h,u.dn]
 rcases h3 with⟨w0,E,k1,n1⟩|⟨J,E,n1,t1,at1,k1,k2⟩
 ·have x:BK y=false:=by rw[P,E];rfl
  rcases w0 with J|J
  ·rw[f1,k1,J,if_pos (show Str.ofString "bare" = "bare" from rfl)];rw[if_pos (show Str.ofString "bare" = "bare" from rfl),E];refine⟨hok,rfl,U,fun hw=>⟨C,O,fun j m=>g3 j (by rw[<-C];exact m),ee,eL,fun hl=>c1 hw.1 hl,X hw.2,c3,rfl,by rw[x];simp,u.gm,e4 a.D (fun _=>rfl) x,fun h=>(by rw[P,J] at h;exact absurd (show(!decide (Str.ofString "bare" = "bare"))=true from h) (by decide+kernel)),rfl,rfl,⟨[],fun t ht=>absurd ht List.not_mem_nil,by simp,by simp,by show s1.T.length=_;rw[Y];simp⟩,fun r tn q j _=>m r tn q j,rfl⟩⟩
  ·rw[f1,k1,J,if_neg (show Str.ofString "ask" ≠ "bare" by decide+kernel),if_pos (show Str.ofString "ask" = "ask" from rfl)];rw[if_neg (show Str.ofString "ask" ≠ "bare" by decide+kernel),if_pos (show Str.ofString "ask" = "ask" from rfl),E];refine⟨hok,rfl,U,fun hw=>⟨C,O,fun j m=>g3 j (by rw[<-C];exact m),ee,eL,fun hl=>c1 hw.1 hl,X hw.2,c3,rfl,by rw[x];simp,u.gm,e4 a.D (fun _=>rfl) x,fun _=>rfl,rfl,rfl,⟨[],fun t ht=>absurd ht List.not_mem_nil,by simp,by simp,by show s1.T.length=_;rw[Y];simp⟩,fun r tn q j _=>m r tn q j,rfl⟩⟩
 ·have x:BK y=true:=by rw[P,E];rfl
  have tg:=u.tg;rw[x,if_pos rfl] at tg;have en:nn=a.g % a.R:=by rw[n1,<-eR];congr 1;lia
  have gM:a.g<a.o+a.M:=by have:=u.ee;lia
  rw[f1,if_neg k1,if_neg k2,f2,f6,en];rw[if_neg k1,if_neg k2];show gB a f=true/\Hb {a with s:=s1,nm:=nm,due:=true} (a.g % a.R)=E3 w p/\HV (sH f)= []/\(2<=(y3 {a with s:=s1,nm:=nm,due:=true} (a.g % a.R) (k,d)).s.w/\(y3 {a with s:=s1,nm:=nm,due:=true} (a.g % a.R) (k,d)).s.w<=(y3 {a with s:=s1,nm:=nm,due:=true} (a.g % a.R) (k,d)).s.L->Qm a (y3 {a with s:=s1,nm:=nm,due:=true} (a.g % a.R) (k,d)) b y n);obtain⟨t2,t3⟩:=QJ (b:={a with s:=s1,nm:=nm,due:=true}) (th:=(k,d)) gM u.og (fun i hi=>by show a.D i=none;rw[u.dn,if_neg (by have:a.g<=i:=hi;lia)]);obtain⟨s2,s3,s4,s5,s6,s7,s8,ts,s9,s10,Z,F⟩:=YW (a:={a with s:=s1,nm:=nm,due:=true,g:=a.g+1,D:=fun j=>if j=a.g then some (k,d) else a.D j}) (k:=k);have t4:y3 {a with s:=s1,nm:=nm,due:=true} (a.g % a.R) (k,d)=fT {a with s:=s1,nm:=nm,due:=true,g:=a.g+1,D:=fun j=>if j=a.g then some (k,d) else a.D j} k:=t3;rw[t4];have ze:(fT {a with s:=s1,nm:=nm,due:=true,g:=a.g+1,D:=fun j=>if j=a.g then some (k,d) else a.D j} k).ends=a.ends:=YX;generalize fT {a with s:=s1,nm:=nm,due:=true,g:=a.g+1,D:=fun j=>if j=a.g then some (k,d) else a.D j} k=z at*
  have zb:z.s.b=b.g:=by rw[s2];exact C
  have zt:z.s.t=a.s.t:=by rw[s2];exact O
  refine⟨hok,?_,U,fun hw=>⟨zb,zt,fun j m=>?_,?_,?_,fun hl=>?_,?_,fun e=>?_,s3,by rw[s4,x,if_pos rfl],by rw[s4];show a.g+1<=_;lia,fun j=>?_,fun _=>s6,s7,s8,⟨ts,s9,s10,Z,?_⟩,fun r tn q j hl=>?_,ze⟩⟩
  ·rw[E];show Hb _ _= [V.str (Str.ofString "filed"),V.int (b.s.t-1)];rw[show b.s.t-1=a.g by lia];exact t2
  ·rw[s2];exact g3 j (by rw[<-zb];exact m)
  ·rw[s2];exact ee
  ·rw[s2];exact eL
  ·rw[s2] at hl hw⊢;exact c1 hw.1 hl
  ·rw[s2] at hw⊢;exact X hw.2
  ·rw[s2];exact c3 e
  ·rw[s5,s4];show(if j=a.g then some (k,d) else a.D j)=if a.o<=j/\j<a.g+1 then _ else _;have:=u.og;by_cases c:j=a.g
   ·rw[if_pos c,if_pos (by lia),<-at1];congr 1;lia
   ·rw[if_neg c,u.dn];by_cases c':a.o<=j/\j<a.g
    ·rw[if_pos c',if_pos (by lia)]
    ·rw[if_neg c',if_neg (by lia)]
  ·rw[F];show s1.T.length+_=_;rw[Y]
  ·rw[s2] at hl⊢;exact(m r tn q j).Y2 (by show s1.T.length<=_;rw[F];exact Nat.le_add_right _ _) hl
theorem MP (d1:Dir a b y' (none:Yw).isSome n) (d:Dir b a none v n):Qm a a b none n:=by
 have e:=d1.un rfl;exact⟨e,rfl,d1.nk,d1.ee,rfl,fun h=>d1.ck e h,fun c hc=>by have:=d1.wc c hc;lia,fun _=>rfl,rfl,by simp[BK],d.gm,d.dn,fun h=>(by cases h),rfl,rfl,⟨[],fun t ht=>absurd ht List.not_mem_nil,by simp,by simp,rfl⟩,fun r tn q j _=>j.more (Nat.le_succ _),rfl⟩
def Ea (a d:iR):Prop:= ∃nm es ts,(∀t∈ts,Be t)/\ts.length<=15/\es.length<=a.ends.length+1/\d={a with nm:=nm,ends:=es,T:=a.T++ts,s:={a.s with T:=a.s.T++ts.map fun _=>V.non}}
def Rd (z u:iR):Prop:=u=z\/∃m:Int,1<=m/\m<=60/\u=p_ z m
structure Pre (a u c:iR) (y:Yw) (n:Int):Prop where
 b:u.s.b=c.g
 t:u.s.t=a.s.t
 nk:∀j,u.s.b<=j->knw u.s.Kn j=false
 ee:u.s.e<=c.o+c.M
 L:u.s.L=a.s.L
 ck:u.s.b<u.s.t->∃d,u.s.clk = .int d/\n+2<=d
 wc:∀d,u.s.clk = .int d->d<=n+1+u.s.L
 ks:a.s.b=c.g->u.s.clk=a.s.clk
 ao:a.o<=u.o
 og:u.o<=u.g
 g:u.g=a.g+(if BK y then 1 else 0)
 gm:u.g<=u.o+u.M
 D:∀j,u.D j=if u.o<=j/\j<u.g then j4 c.T j else none
 due:XF y=true->u.due=true
 R:u.R=a.R
 M:u.M=a.M
theorem Ea.same (w:Ea a a'):a'.s.b=a.s.b/\a'.s.t=a.s.t/\a'.s.Kn=a.s.Kn/\a'.s.e=a.s.e/\a'.s.L=a.s.L/\a'.s.clk=a.s.clk/\a'.o=a.o/\a'.g=a.g/\a'.D=a.D/\a'.due=a.due/\a'.R=a.R/\a'.M=a.M:=by
 obtain⟨nm,es,ts,_,_,_,rfl⟩:=w;exact⟨rfl,rfl,rfl,rfl,rfl,rfl,rfl,rfl,rfl,rfl,rfl,rfl⟩
theorem CU (h:z.o<=z.g) (hm:0<=m):z.o+(cN z m:Int)<=z.g/\(cN z m:Int)<=m/\(z.o<z.g->1<=m->1<=cN z m):=by
 unfold cN;split<;>lia
theorem Qm.pre (h:Qm a a1 c y n) (w:Ea a1 z) (r:Rd z u) (og:a.o<=a.g):Pre a u c y n:=by
 obtain⟨v,w2,O,P,x,d,J,I,E,f,i,H⟩:=w.same;have hg:=h.g;have F:=h.gm;have G:=h.o;have X:=h.M;have C:z.o<=z.g:=by lia
 have base:Pre a z c y n:=⟨by rw[v];exact h.b,by rw[w2];exact h.t,by rw[v,O];exact h.nk,by rw[P];exact h.ee,by rw[x];exact h.L,by rw[v,w2,d];exact h.ck,by rw[d,x];exact h.wc,fun e=>by rw[d];exact h.ks e,by simp_all,C,by simp_all,by simp_all,fun j=>by rw[E,h.D,J,I,G],fun e=>by rw[f];exact h.due e,by rw[i];exact h.R,by simp_all⟩;rcases r with rfl|⟨m,m1,U,rfl⟩
 ·exact base
 ·obtain⟨k1,k2,_⟩:=CU (m:=m) C (by lia);refine{base with ao:=?_,og:=k1,gm:=?_,D:=fun j=>?_,due:=fun e=>?_}
  ·show a.o<=z.o+(cN z m:Int);have:=base.ao;lia
  ·show z.g<=z.o+(cN z m:Int)+z.M;have:=base.gm;lia
  ·show(if z.o<=j/\j<z.o+(cN z m:Int) then none else z.D j)=if z.o+(cN z m:Int)<=j/\j<z.g then _ else _;rw[base.D];by_cases c1:z.o<=j/\j<z.o+(cN z m:Int)
   ·lia
   ·lia
  ·show(z.due||_)=true;rw[base.due e];rfl
theorem Pre.rdy (h:Pre a u c y n) (bt:u.s.b<=u.s.t) (wi:1<=u.s.wi) (kc:u.s.clk = .non\/∃i,u.s.clk = .int i):IG u.s (n+1):=
 ⟨bt,h.nk,wi,fun q=>by obtain⟨d,e,l⟩:=h.ck q;exact⟨d,e,by lia⟩,kc⟩
theorem J_ (h:IG a.s n):y7 a n=if cH a.s=true then some (Str.ofString "new",some a.s.t) else if D4 a.s n=true then some (Str.ofString "ask",none) else if a.due then some (Str.ofString "bare",none) else none:=by
 unfold y7;rw[JD h];by_cases c:cH a.s=true
 ·simp_all
 ·by_cases d:D4 a.s n=true
  ·simp_all
  ·simp_all
noncomputable def cy (a:iR) (n:Int):Yw:=(y7 a n).map fun q=>((Nr a q.1 q.2:Nat),q.1,q.2)
theorem GR (h:∀j,a.g<=j->a.D j=none):Cg a= []:=by
 unfold Cg;rw[List.map_eq_nil_iff,List.filter_eq_nil_iff];intro j _;rw[h _ (by lia)];decide
theorem MH (hw:w=Str.ofString "bare" \/w=Str.ofString "ask") (a0:0<=a) (a1:a<64) (r0:0<=r) (i:r<=16):cD w 0 a r [] (Str.ofString "")=true:=by
 have h1:D_ (.str w) xM=true:=by rcases hw with rfl|rfl<;>decide+kernel
 have d:D_ (.str w) [.str "bare",.str "ask"]=true:=by rcases hw with rfl|rfl<;>decide+kernel
 have f:qO w (Str.ofString "")=true:=by rcases hw with rfl|rfl<;>decide+kernel
 unfold cD;rw[h1,d,show Held.dZ 0 []=true by rfl,f];simp[eV];lia
theorem D3 {l:List α} {i:Int} (h0:0<=i) (h1:i<l.length):∃x,j4 l i=some x/\x∈l:=by
 obtain⟨k,rfl⟩:∃k:Nat,i=k:=⟨i.toNat,by lia⟩;have hk:k<l.length:=by lia
 exact⟨_,qp (List.getElem?_eq_getElem hk),List.getElem_mem hk⟩
theorem QV (ca:Qu a) (h:IG a.s n) (t0:0<=a.s.t) (og:a.o<=a.g) (gm:a.g<=a.o+a.M) (hD:∀j,a.g<=j->a.D j=none):(∀w pl,y7 a n=some (w,pl)->Hj a w pl=true/\∀p,pl=some p->∃th,j4 a.T p=some th/\th.2.length<=1000)/\UN (bG a n) (cy a n):=by
 have d:=Int.emod_nonneg a.g (show a.R≠0 by have:=ca.r2;lia);have z:=Int.emod_lt_of_pos a.g (show 0<a.R by have:=ca.r2;lia);have:=ca.r64;have:=ca.VP;have e1:=J_ h;have key:∀w pl,y7 a n=some (w,pl)->Hj a w pl=true/\(((w=Str.ofString "bare" \/w=Str.ofString "ask")/\pl=none)\/(w=Str.ofString "new" /\pl=some a.s.t/\cH a.s=true/\∃th,j4 a.T a.s.t=some th/\Be th)):=by
  intro w pl hw;have bk:∀w,(w=Str.ofString _\/w=Str.ofString _)->Hj a w none=true:=fun w hw=>by
   unfold Hj En Rj;rw[GR hD];exact MH hw d (by lia) (by lia) (by lia)
  rw[e1] at hw;split at hw
  ·rename_i c;injection hw with hw;injection hw with h1 C;subst h1 C;have y:=c;unfold cH at y;simp only[Bool.and_eq_true,decide_eq_true_eq] at y;obtain⟨th,ht,hm⟩:=D3 (l:=a.T) t0 (by have:=ca.tl;lia);have gt:=ca.gt th hm;refine⟨?_,.inr ⟨rfl,rfl,c,th,ht,gt⟩⟩;unfold Hj En Rj;simp only[ht];rw[GR hD];exact gt.2.2.2 _ _ _ (Int.emod_nonneg _ (by lia)) (by have:=Int.emod_lt_of_pos a.s.t (show 0<a.R by lia);lia) d (by lia) (by lia) (by lia)
  ·grind
 refine⟨fun w pl hw=>⟨(key w pl hw).1,fun p hp=>?_⟩,fun f w p F=>?_⟩
 ·rcases(key w pl hw).2 with⟨_,e⟩|⟨_,e,_,th,ht,gt⟩
  ·simp_all
  ·rw[hp] at e;injection e with e;subst e;exact⟨th,ht,by have:=gt.2.2.1;lia⟩
 ·obtain⟨⟨J,I⟩,H,e⟩:=Option.map_eq_some_iff.mp F;injection e with i m;injection m with m x;simp only at i m x;subst m x;obtain⟨v,hc⟩:=key _ _ H;unfold Hj at v;unfold Nr at i;rw[GR hD] at v i;refine⟨_,_,_,v,i.symm,?_⟩;rcases hc with⟨c1,u⟩|⟨c1,u,E,th,ht,gt⟩
  ·rw[u];exact .inl ⟨c1,rfl,rfl,rfl⟩
  ·rw[c1,u];have G:(bG a n).s.t=a.s.t+1:=by
    have:=(Dl h).t;rw[E] at this;exact this
   rw[G,show a.s.t+1-1=a.s.t by lia];refine .inr ⟨rfl,rfl,rfl,by lia,?_,?_,?_⟩
   ·show j4 a.T a.s.t=_;unfold En;simp only[ht,Option.getD_some]
   ·unfold En;simp only[ht];exact gt.1
   ·unfold En;simp only[ht];exact gt.2.1
theorem xY (h:IG a.s n):BK (cy a n)=cH a.s/\((cy a n).isSome=false->a.due=false/\cH a.s=false/\D4 a.s n=false):=by
 unfold cy;rw[J_ h];by_cases c:cH a.s=true
 ·rw[c];exact⟨rfl,fun e=>by cases e⟩
 ·rw[Bool.not_eq_true] at c;rw[c];by_cases d:D4 a.s n=true
  ·rw[if_pos d];exact⟨rfl,fun e=>by cases e⟩
  ·rw[if_neg d];rw[Bool.not_eq_true] at d;cases hd:a.due
   ·exact⟨rfl,fun _=>⟨rfl,rfl,d⟩⟩
   ·exact⟨rfl,fun e=>by cases e⟩
theorem R3 (k:UN a y) (h:BK y=true):XF y=true:=by
 cases e:y with
 |none=>rw[e] at h;cases h
 |some t=>
  obtain⟨f,w,p⟩:=t;obtain⟨_,_,_,_,_,d⟩:=k f w p e;rcases d with⟨_,d,_⟩|⟨d,_⟩
  ·rw[e,d] at h;cases h
  ·rw[d];show(!decide (Str.ofString "new" = "bare"))=true;decide+kernel
theorem Le {ts:List Th} (h0:0<=i) (h:i<l.length):j4 (l++ts) i=j4 l i:=by
 obtain⟨x,e,_⟩:=D3 h0 h;rw[e];obtain⟨k,rfl⟩:∃k:Nat,i=k:=⟨i.toNat,by lia⟩;have:(l++ts)[k]?=l[k]?:=List.getElem?_append_left (by lia);refine qp (this.trans ?_);unfold j4 M5 at e;rw[if_pos h] at e;exact e
theorem Ip (d:Dir a b y u n) (pa:Pre a ua b yb n) (pb:Pre b ub a y n) (z:IG ua.s (n+1)) (I:IG ub.s (n+1)) (w2:2<=ua.s.w/\ua.s.w<=ua.s.L) (G:UN a y) (b0:0<=a.s.b) (tl:a.s.t<=a.T.length) (x:∃ts,ua.T=a.T++ts) (P:ub.M=b.M):Dir (bG ua (n+1)) (bG ub (n+1)) (cy ua (n+1)) (cy ub (n+1)).isSome (n+1):=by
 have g:=Dl z;obtain⟨n1,_⟩:=xY z;obtain⟨_,J⟩:=xY I;have m:=pb.g;have tg:=d.tg;have f:(bG ua _).s.b=b.g:=g.b.trans pa.b;have ao:=pb.ao;have o0:=d.o0;refine⟨by show 0<=ub.o;lia,pb.og,pb.gm,fun i=>?_,?_,by rw[f];show b.g<=ub.g;rw[m];split<;>lia,by rw[f];show ub.g<=b.g+1;rw[m];split<;>lia,fun O=>?_,fun j C=>?_,?_,fun h1 E=>?_,fun c hc=>?_⟩
 ·show ub.D i=if ub.o<=i/\i<ub.g then j4 ua.T i else none;rw[pb.D];obtain⟨ts,x⟩:=x;by_cases c:ub.o<=i/\i<ub.g
  ·rw[if_pos c,if_pos c,x,Le (by lia) (by lia)]
  ·rw[if_neg c,if_neg c]
 ·show(vN ua.s (n+1)).1.t=ub.g+_;rw[g.t,n1,pa.t,m];lia
 ·have:=J O;rw[f];show b.g=ub.g;rw[m];cases c:BK y
  ·simp
  ·rw[pb.due (R3 G c)] at this;cases this.1
 ·have e1:(bG ua (n+1)).s.Kn=ua.s.Kn:=g.Kn;rw[e1];rw[f,<-pa.b] at C;exact pa.nk j C
 ·have e1:(bG ua (n+1)).s.e=ua.s.e:=g.e;rw[e1];show ua.s.e<=ub.o+ub.M;have:=pa.ee;lia
 ·rw[f] at h1;have H:b.g=ub.g:=h1;have F:BK y=false:=by
   lia
  rw[F] at tg;simp only[Bool.false_eq_true,if_false,Int.add_zero] at tg;have bt:ua.s.b=ua.s.t:=by rw[pa.b,pa.t];lia
  have v:(vN ua.s (n+1)).1.b<(vN ua.s (n+1)).1.t:=E;rw[g.b,g.t] at v;cases c:cH ua.s
  ·simp_all
  ·exact⟨n+1+ua.s.w,g.ck bt c,by lia⟩
 ·have:=g.wc w2.2 pa.wc c hc;have e1:(bG ua (n+1)).s.L=ua.s.L:=g.L;rw[e1];exact this
def l7 (H:Hp) (l:Addr) (y:Yw):Prop:=(y=none/\H l=some (.lst []))\/∃f w p r,y=some (f,w,p)/\H l=some (.lst [.ref r])/\H r=some (.tup [.int f,.str w,Vn p])
noncomputable def DW (a:iR) (y:Yw) (n:Int):iR:=match y with
 |some (f,_,_)=>ql a f n
 |none=>a
def qD (aA ax aa av ai ay ae az aB af ag ah aN aR aI:Addr) (K:W.Frag):Sp:=fun vs H Q E=>zqr vs fun x vs=>zqi vs fun n vs=>zqr vs fun l vs=>zqn vs ( ∃A a y,HM aA ax aa av ai (tbl ay ae az aB af ag ah) K H x A a/\l7 H l y/\l ∉ foot x A/\(∀f w p,y=some (f,w,p)->(gB a f=true->G1 a.s (HV (sH f)) n)/\DV a f n=E3 w p/\(w≠ "bare" ->(ql a f n).due=true))/\(0<a.R/\0<=a.M/\a.M<=16/\a.o<=a.g/\a.T.length<960)/\∀d H',Kp (foot x A) H H'->HM aA ax aa av ai (tbl ay ae az aB af ag ah) K H' x {A with st:=d} (DW a y n)->Q (.bl true) H')
def nQ (aA ax aa av ai ay ae az aB af ag ah:Addr) (K:W.Frag):Sp:=fun vs H Q E=>zqr vs fun x vs=>zqn vs ( ∃A a,HM aA ax aa av ai (tbl ay ae az aB af ag ah) K H x A a/\a.T.length<=1000/\∀p vs H',a8 H H'->H' p=some (.lst vs)->Paired (Bc K H') vs a.T->Q (.ref p) H')
def qA (aA ax aa av ai ay ae az aB af ag ah aK aZ:Addr) (K:W.Frag):Sp:=fun vs H Q E=>zqr vs fun x vs=>zqi vs fun c vs=>zqn vs ( ∃A a,HM aA ax aa av ai (tbl ay ae az aB af ag ah) K H x A a/\a.T.length<=900/\a.ends.length<=900/\∀d f v H',Kp (foot x A) H H'->HM aA ax aa av ai (tbl ay ae az aB af ag ah) K H' x {A with st:=d} f->Ea a f->Q v H')
def o9 (aA ax aa av ai ay ae az aB af ag ah:Addr) (K:W.Frag):Sp:=fun vs H Q E=>zqr vs fun ph vs=>zqi vs fun sd vs=>zqi vs fun m vs=>zqi vs fun n vs=>zqn vs ( ∃f d x y A B a b,H ph=some (.lst [.ref f,.ref d])/\((sd=0/\x=f/\y=d)\/(sd=1/\x=d/\y=f))/\HM aA ax aa av ai (tbl ay ae az aB af ag ah) K H x A a/\HM aA ax aa av ai (tbl ay ae az aB af ag ah) K H y B b/\ph ∉ foot x A/\(1<=m/\m<=60)/\(0<=a.o/\a.o<=a.g/\a.g<=b.T.length/\b.T.length<=1000)/\(∀i,a.o<=i->i<a.g->a.D i=j4 b.T i)/\∀H',Kp (foot x A) H H'->HM aA ax aa av ai (tbl ay ae az aB af ag ah) K H' x A (p_ a m)->Q (.bl true) H')
def Rm (a b:iR) (M:Int):Prop:=0<=b.o/\b.o<=b.g/\b.g<=a.s.t/\a.s.t<=a.s.e/\a.s.b<=b.g/\a.s.e<=b.o+M
def qC (aA ax aa av ai ay ae az aB af ag ah bj:Addr) (K:W.Frag):Sp:=fun vs H Q E=>zqr vs fun ph vs=>zqr vs fun tm vs=>zqn vs ( ∃i d A0 A1 a0 a1 r o t g f l,H ph=some (.lst [.ref i,.ref d])/\HM aA ax aa av ai (tbl ay ae az aB af ag ah) K H i A0 a0/\HM aA ax aa av ai (tbl ay ae az aB af ag ah) K H d A1 a1/\Cj bj H tm r o t g f l/\Rm a0 a1 t/\Rm a1 a0 o/\Q (.bl true) H)
def qE (aA ax aa av ai ay ae az aB af ag ah:Addr) (K:W.Frag):Sp:=fun vs H Q E=>zqr vs fun x vs=>zqi vs fun i vs=>zqr vs fun l vs=>zqn vs ( ∃A a y,HM aA ax aa av ai (tbl ay ae az aB af ag ah) K H x A a/\l7 H l y/\∀H',a8 H H'->Q (.int (if y.isSome=true\/a.s.b<a.s.t\/a.s.t=a.s.T.length then 0 else i+1)) H')
set_option backward.eqns.nonrecursive true
theorem HM.kp (h:HM CH CT CS CW CM tb K H x A a) (k:Kp S H H') (d:∀b∈foot x A,b ∉ S) (im:∀b o,H b=some o->JW o->b ∉ S):HM CH CT CS CW CM tb K H' x A a:=by
 obtain⟨z,h1,f⟩:=h;exact⟨z,h1.kp k d im,f.keep fun p o e i=>k p o e (im p o e i)⟩
theorem HM.wait (h:HM CH CT CS CW CM tb K H x A a):(2<=a.s.w/\a.s.w<=a.s.L)/\1<=a.s.wi:=by
 obtain⟨z,h1,d⟩:=h;obtain⟨vs,e,_⟩:=d.s;have hw:=h1.sd.ws.2.1;obtain⟨_,hm⟩:=h1.sd.ms;rw[e] at hw hm;exact⟨hw,hm.1⟩
theorem Jw.hear {q:Nat} (j:Jw s r tn q) (d:q<=1600):G1 s [] tn:=
 ⟨j.B,by rw[j.R];exact j.r0,by simp,List.nodup_nil,fun k hk=>absurd hk List.not_mem_nil,j.tqq (by lia),by have:=j.s1;lia,by have:=j.tm;have:=j.tl;lia,j.k⟩
theorem Jw.send {q:Nat} (j:Jw a.s r n q) (d:q<=1600) (ca:Qu a) (rd:IG a.s n) (og:a.o<=a.g) (gm:a.g<=a.o+a.M) (hD:∀i,a.g<=i->a.D i=none):GW a n/\UN (bG a n) (cy a n):=by
 have hp:=QV ca rd (by have:=j.B.b0;have:=j.B.bt;lia) og gm hD;have:=ca.VP;have:=ca.r2;have:=j.s2;have:=j.s3;exact⟨⟨j.B,j.ck,by lia,by lia,by lia,by lia,by lia,hp.1⟩,hp.2⟩
structure Bo (a0 a1:iR) (y0 y1:Yw) (n:Int) (q N:Nat):Prop where
 d0:Dir a0 a1 y0 y1.isSome n
 d1:Dir a1 a0 y1 y0.isSome n
 c0:Qu a0
 c1:Qu a1
 eR:a0.R=a1.R
 k0:UN a0 y0
 k1:UN a1 y1
 j0:Jw a0.s a0.R (n+1) q
 j1:Jw a1.s a1.R (n+1) q
 l0:a0.T.length<=N
 l1:a1.T.length<=N
 e0:a0.ends.length<=q
 e1:a1.ends.length<=q
theorem Bo.flip {q:Nat} (h:Bo a0 a1 y0 y1 n q N):Bo a1 a0 y1 y0 n q N:=⟨h.d1,h.d0,h.c1,h.c0,h.eR.symm,h.k1,h.k0,h.j1,h.j0,h.l1,h.l0,h.e1,h.e0⟩
theorem Bo.come {q:Nat} (h:Bo a0 a1 y0 y1 n q N):(2<=(DW a0 y1 (n+1)).s.w/\(DW a0 y1 (n+1)).s.w<=(DW a0 y1 (n+1)).s.L->Qm a0 (DW a0 y1 (n+1)) a1 y1 n)/\∀f w p,y1=some (f,w,p)->gB a0 f=true/\HV (sH f)= []/\DV a0 f (n+1)=E3 w p:=by
 cases d:y1 with
 |none=>
  have d0:=h.d0;have d1:=h.d1;rw[d] at d0 d1;exact⟨fun _=>MP d0 d1,fun f w p e=>by cases e⟩
 |some t=>
  obtain⟨f,w,p⟩:=t;obtain⟨c1,m,u,j⟩:=Sw h.c0 h.eR h.d0 h.d1 h.k1 h.j1.te d;rw[d] at j;refine⟨j,fun x z y e=>?_⟩;injection e with e;injection e with e1 i;injection i with i v;subst e1 i v;exact⟨c1,u,m⟩
theorem Ea.len (w:Ea a z):z.T.length<=a.T.length+15:=by
 obtain⟨nm,es,ts,_,w2,_,rfl⟩:=w;rw[List.length_append];lia
theorem Bo.mid {q:Nat} (h:Bo a0 a1 y0 y1 n q N) (c:Qm a0 b0 a1 y1 n) (w:Ea b0 z0) (r:Rd z0 u0) (hl:z0.T.length<=N') (F:N'<=420):Qu u0/\Jw u0.s a0.R (n+1) (q+1)/\u0.T=z0.T/\u0.ends.length<=a0.ends.length+1/\∃ts,u0.T=a0.T++ts:=by
 have key:Qu z0/\Jw z0.s a0.R (n+1) (q+1)/\z0.ends.length<=a0.ends.length+1/\∃ts,z0.T=a0.T++ts:=by
  obtain⟨nm,es,ts,z,w2,j,rfl⟩:=w;obtain⟨us,v,E,y,C⟩:=c.T;have f:=hl;rw[List.length_append] at f;have tl:=h.c0.tl;have e1:b0.T.length=a0.T.length+us.length:=by simp_all
  have i:=c.jw _ _ q h.j0 (by lia);have u:Jw {b0.s with T:=b0.s.T++ts.map fun _=>V.non} _ _ _:=i.Y2 (by simp_all) (by grind);refine⟨⟨by rw[c.R];exact h.c0.r2,by rw[c.R];exact h.c0.r64,by rw[c.M];exact h.c0.m1,by rw[c.M];exact h.c0.VP,by rw[c.R];exact i.R,?_,fun t ht=>?_⟩,u,by rw[c.es] at j;exact j,us++ts,?_⟩
  ·grind
  ·have d:t∈b0.T++ts:=ht;rw[y] at d;rcases List.mem_append.mp d with m|m
   ·rcases List.mem_append.mp m with m|m
    ·exact h.c0.gt t m
    ·exact v t m
   ·exact z t m
  ·simp_all
 obtain⟨k1,k2,k3,x⟩:=key;rcases r with rfl|⟨m,_,_,rfl⟩
 ·simp_all
 ·exact⟨⟨k1.r2,k1.r64,k1.m1,k1.VP,k1.sR,k1.tl,k1.gt⟩,k2,rfl,k3,x⟩
theorem Ny {q:Nat} (j:Jw a.s r n q) (rd:IG a.s n):Jw (bG a n).s r (n+1) (q+2):=((Dl rd).jw r q j).turn (by lia) (by lia)
theorem Kd (c:Qu a) (h:IG a.s n):Qu (bG a n):=by
 have g:=Dl h;exact⟨c.r2,c.r64,c.m1,c.VP,g.R.trans c.sR,by show(vN _ n).1.T.length=_;rw[g.T];exact c.tl,c.gt⟩
theorem Bo.next {q:Nat} (h:Bo a0 a1 y0 y1 n q N) (I:q<=1590) (y:N'<=420) (c0:Qm a0 b0 a1 y1 n) (c1:Qm a1 b1 a0 y0 n) (v:Ea b0 z0) (x:Ea b1 z1) (r0:Rd z0 u0) (j:Rd z1 u1) (n0:z0.T.length<=N') (n1:z1.T.length<=N') (u:(2<=u0.s.w/\u0.s.w<=u0.s.L)/\1<=u0.s.wi) (m:(2<=u1.s.w/\u1.s.w<=u1.s.L)/\1<=u1.s.wi):
  Bo (bG u0 (n+1)) (bG u1 (n+1)) (cy u0 (n+1)) (cy u1 (n+1)) (n+1) (q+3) N'/\(GW u0 (n+1)/\IG u0.s (n+1)/\Pre a0 u0 a1 y1 n)/\(GW u1 (n+1)/\IG u1.s (n+1)/\Pre a1 u1 a0 y0 n):=by
 have d:=c0.pre v r0 h.d1.og;have f:=c1.pre x j h.d0.og;obtain⟨m0,j0,t0,e0,z⟩:=h.mid c0 v r0 n0 y;obtain⟨m1,j1,t1,e1,C⟩:=h.flip.mid c1 x j n1 y;have d0:=d.rdy j0.B.bt u.2 j0.ck;have d1:=f.rdy j1.B.bt m.2 j1.ck;obtain⟨s0,k0⟩:=j0.send (by lia) m0 d0 d.og d.gm fun i hi=>by rw[d.D,if_neg (by lia)]
 obtain⟨s1,k1⟩:=j1.send (by lia) m1 d1 f.og f.gm fun i hi=>by rw[f.D,if_neg (by lia)]
 have f0:=h.e0;have f1:=h.e1;have G:=h.c0.tl;have E:=h.c1.tl;have H:=h.j0.tm;have F:=h.j1.tm;refine⟨⟨Ip h.d0 d f d0 d1 u.1 h.k0 h.j0.B.b0 (by lia) z f.M,Ip h.d1 f d d1 d0 m.1 h.k1 h.j1.B.b0 (by lia) C d.M,Kd m0 d0,Kd m1 d1,?_,k0,k1,?_,?_,by show u0.T.length<=_;rw[t0];exact n0,by show u1.T.length<=_;rw[t1];exact n1,by show u0.ends.length<=_;lia,by show u1.ends.length<=_;lia⟩,⟨s0,d0,d⟩,⟨s1,d1,f⟩⟩
 ·show u0.R=u1.R;rw[d.R,f.R];exact h.eR
 ·show Jw _ u0.R _ _;rw[d.R];exact Ny j0 d0
 ·show Jw _ u1.R _ _;rw[f.R];exact Ny j1 d1
def Qt (a:iR) (y:Yw) (n:Int) (m:Nat):Prop:=m=0\/(y=none/\a.s.b=a.s.t/\∃c,a.s.clk = .int c/\n<c/\(m:Int)+c<=n+1+a.s.L)
theorem Qt.le (h:Qt a y n m) (f:0<=a.s.L):(m:Int)<=a.s.L:=by
 rcases h with h|⟨_,_,c,_,h1,d⟩<;>lia
theorem X8 (h:IG s n) (c1:cH s=false) (d:D4 s n=false) (e:s.clk = .int i):(vN s n).1.clk = .int i:=by
 rw[JD h,c1,d,if_neg (by decide),if_neg (by decide)];unfold qz;split
 ·simp_all
 ·exact e
theorem Qt.next (h:Qt a y n m) (d:Dir a b y v n) (p:Pre a u b yb n) (r:IG u.s (n+1)) (w:2<=u.s.w/\u.s.w<=u.s.L) (hs:cy u (n+1)=none) (h1:(bG u (n+1)).s.b=(bG u (n+1)).s.t) (C:(bG u (n+1)).s.t<(bG u (n+1)).s.T.length):Qt (bG u (n+1)) (cy u (n+1)) (n+1) (m+1):=by
 have g:=Dl r;obtain⟨_,x,j⟩:=(xY r).2 (by simp_all);have gt:=g.t;rw[x] at gt;simp only[Bool.false_eq_true,if_false,Int.add_zero] at gt;have i:(vN _ _).1.b=(vN _ _).1.t:=h1;have f:(vN _ _).1.t<(vN _ _).1.T.length:=C;rw[g.b,gt] at i;rw[gt,g.T] at f;obtain⟨c,hc,hd⟩:=g.id x j f i;have G:(bG u _).s.L=u.s.L:=g.L;refine .inr ⟨hs,h1,?_⟩;rcases h with rfl|⟨k1,k2,c0,k3,F,k5⟩
 ·refine⟨c,hc,?_⟩;rcases hd with⟨e,l⟩|e
  ·have:=p.wc c e;lia
  ·lia
 ·have tg:=d.tg;rw[k1] at tg;have E:=by simpa [BK] using tg
  have z:=p.ks (by lia);rw[k3] at z;refine⟨c0,X8 r x j z,?_,?_⟩
  ·unfold D4 at j;rw[decide_eq_true f,decide_eq_true i,z] at j;simp only[C6,Bool.true_and,decide_eq_false_iff_not] at j;lia
  ·have:=p.L;lia
noncomputable def R9 (side R own other f l:Int):iR:=⟨side,R,own,0,0,fun _=>none,(yu side R own other f l).sd,[],"shut",false,[]⟩
theorem Bo.start (h:good r o t g f l):Bo (R9 0 r o t f l) (R9 1 r t o f l) none none (-1) 0 0:=by
 obtain⟨v,⟨x,ht⟩,_,_,_⟩:=h;have d:∀s u o t m t',1<=m->Dir (R9 s r o t f l) (R9 u r m t' f l) none false (-1):=fun s u o t m t' y=>
  ⟨Int.le_refl _,Int.le_refl _,by show(0)<=0+m;lia,fun i=>(if_neg (fun(q:(0)<=i/\i<0)=>by lia)).symm,rfl,Int.le_refl _,by show(0)<=0+1;lia,fun _=>rfl,fun _ _=>rfl,by show(1)<=0+m;lia,fun _ h=>by trivial,fun c hc=>by cases hc⟩
 have c:∀s o t,1<=o/\o<=16->Qu (R9 s r o t f l):=fun s o t h=>⟨v.1,v.2,h.1,h.2,rfl,rfl,fun t h=>absurd h List.not_mem_nil⟩;have j:∀s o t,Jw (R9 s r o t f l).s r (-1+1) 0:=fun s o t=>
  ⟨rfl,by lia,⟨Int.le_refl _,Int.le_refl _,by show(0)<=900;lia⟩,by show(0)<=1;lia,Int.le_refl _,Nat.zero_le _,Nat.zero_le _,fun _ _=>rfl,.inl rfl,fun j a b=>by have:j<0:=b;lia,by lia,by lia,Nat.zero_le _,Nat.zero_le _,Nat.zero_le _⟩
 exact⟨d _ _ _ _ _ _ ht.1,d _ _ _ _ _ _ x.1,c _ _ _ x,c _ _ _ ht,rfl,fun _ _ _ e=>by trivial,fun _ _ _ e=>by trivial,j _ _ _,j _ _ _,Nat.le_refl _,Nat.le_refl _,Nat.le_refl _,Nat.le_refl _⟩
theorem c8.new {s o:Int}:c8 K H (yu s r o t f l) (R9 s r o t f l):=
 ⟨rfl,rfl,rfl,rfl,rfl,rfl,fun _ _=>rfl,fun _ _ e=>by trivial,List.nodup_nil,fun _ h=>absurd h List.not_mem_nil,⟨[],rfl,.nil,rfl⟩,rfl,rfl,rfl⟩
theorem l7.kp (h:l7 H l y) (k:Kp S H H') (n:l ∉ S) (im:∀b o,H b=some o->JW o->b ∉ S):l7 H' l y:=by
 rcases h with⟨e,h⟩|⟨f,w,p,r,e,h1,d⟩
 ·exact .inl ⟨e,k _ _ h n⟩
 ·exact .inr ⟨f,w,p,r,e,k _ _ h1 n,k _ _ d (im _ _ d (.inl ⟨_,rfl⟩))⟩
theorem l7.same (h:l7 H l y) (s:a8 H H'):l7 H' l y:=h.kp (Kp.of s) List.not_mem_nil (fun _ _ _ _=>List.not_mem_nil)
theorem l7.dnl (h:l7 H l y):∃ds,Dn K H 2 (.ref l) (.l ds)/\(ds= []↔y=none):=by
 rcases h with⟨e,h⟩|⟨f,w,p,r,e,h1,d⟩
 ·exact⟨_,AE h .nil,by simp[e]⟩
 ·refine⟨_,AE h1 (.cons (Yq d (.cons JI (.cons DQ (.cons (?_:Dn K H 0 _ (match p with|none=> .non|some i=> .int i)) .nil)))) .nil),by simp[e]⟩
  cases p with
  |none=>exact .inl ⟨rfl,rfl⟩
  |some i=>exact JI
noncomputable def thD (t:Th):Dt:= .t [.str t.1,.str t.2]
theorem Bc.row:∀{vs:List V} {T:List Th},Paired (Bc K H) vs T->Paired (Dn K H 1) vs (T.map thD)
 |_,_,.nil=> .nil
 |_,_,.cons ⟨p,e,h⟩ t=> .cons (e▸ .inr (.inr ⟨p,_,_,rfl,rfl,h,.cons DQ (.cons DQ .nil)⟩)) (Bc.row t)
theorem Ku {R:α->β->Prop}:∀{xs:List α} {d:List β} (n:Nat),Paired R xs d->Paired R (xs.take n) (d.take n)
 |_,_,0,_=> .nil
 |_,_,_+1,.nil=> .nil
 |_,_,n+1,.cons h t=> .cons h (Ku n t)
theorem Kx {R:α->β->Prop}:∀{xs:List α} {d:List β} (n:Nat),Paired R xs d->Paired R (xs.drop n) (d.drop n)
 |_,_,0,h=>h
 |_,_,_+1,.nil=> .nil
 |_,_,n+1,.cons _ t=>Kx n t
theorem Yx {n:Nat} (h:i+n<=xs.length):DU xs (some (i:Int)) (some ((i+n:Nat):Int))=(xs.drop i).take n:=by
 unfold DU;rw[HT.Cn,HT.Cn,Nat.min_eq_left h,Nat.min_eq_left (by lia),Nat.add_sub_cancel_left]
theorem NI {a b:iR} {i:Nat} (f:a.o=i) (u:a.o+(cN a m:Int)<=a.g) (gl:a.g<=b.T.length) (hD:∀i,a.o<=i->i<a.g->a.D i=j4 b.T i):Hu a m=(b.T.drop i).take (cN a m):=by
 unfold Hu;apply List.ext_getElem?;intro j;rw[List.getElem?_map,List.getElem?_take,List.getElem?_drop];by_cases c:j<cN a m
 ·have d:i+j<b.T.length:=by lia
  rw[List.getElem?_range c,if_pos c,List.getElem?_eq_getElem d,Option.map_some,hD _ (by lia) (by lia),f,show(i)+(j)=((i+j:Nat):Int) by lia,qp (List.getElem?_eq_getElem d),Option.getD_some]
 ·rw[if_neg c,List.getElem?_eq_none (by simp_all)];rfl
theorem QP:(fT a k).due=a.due:=by
 unfold fT;split
 ·split<;>rfl
 ·split<;>rfl
theorem Hh:∀(ts:List Th) (a:iR),(Hi a ts).due=a.due
 | [],_=>rfl
 |t::ts,a=>(Hh ts _).trans QP
theorem QK:(y3 a m t).due=a.due:=by
 unfold y3;split
 ·rfl
 ·exact Hh _ _
theorem Ir (m:UN b y) (u:y=some (f,w,p)) (hw:w≠ "bare") (hok:gB a f=true):(ql a f n).due=true:=by
 obtain⟨k,v,nn,h1,d,j⟩:=m f w p u;obtain⟨_,f1,_⟩:=KW h1 d;unfold ql;rw[if_pos hok,f1];have i:k≠ "bare" :=by
  rcases j with⟨_,_,e,_⟩|⟨_,_,_,_,_,e,_⟩
  ·rw[e];exact hw
  ·exact e
 rw[if_neg i];split
 ·rfl
 ·exact QK
noncomputable def nk (u:iR) (n:Int) (m:Nat):Nat:=if(cy u n).isSome=true\/(bG u n).s.b<(bG u n).s.t\/(bG u n).s.t=(bG u n).s.T.length then 0 else m+1
theorem Qt.nk {a b u:iR} {y f:Yw} {v:Bool} {n r:Int} {m q:Nat} (h:Qt a y n m) (d:Dir a b y v n) (p:Pre a u b f n) (rd:IG u.s (n+1)) (w:2<=u.s.w/\u.s.w<=u.s.L) (j:Jw (bG u (n+1)).s r (n+2) q):Qt (bG u (n+1)) (cy u (n+1)) (n+1) (nk u (n+1) m):=by
 unfold K67.nk;split
 ·exact .inl rfl
 ·rename_i c;simp only[not_or] at c;have:=j.B.bt;have:=j.tm;exact h.next d p rd w (by simpa using c.1) (by lia) (by lia)
theorem Bo.rd {q:Nat} (h:Bo a0 a1 y0 y1 n q N) (c0:Qm a0 b0 a1 y1 n) (c1:Qm a1 b1 a0 y0 n) (d:Ea b0 z0) (i:Ea b1 z1) (n1:z1.T.length<=N') (j:N'<=420):(0<=z0.o/\z0.o<=z0.g/\z0.g<=z1.T.length/\z1.T.length<=1000)/\(∀k,z0.o<=k->k<z0.g->z0.D k=j4 z1.T k)/\z0.M=a0.M:=by
 have p:=c0.pre d (.inl rfl) h.d1.og;obtain⟨_,_,_,_,ts,f⟩:=h.flip.mid c1 i (.inl rfl) n1 j;have g:=p.g;have tg:=h.d1.tg;have tm:=h.j1.tm;have tl:=h.c1.tl;have o0:=h.d1.o0;have ao:=p.ao;have m:z1.T.length=a1.T.length+ts.length:=by simp_all
 refine⟨⟨by lia,p.og,by lia,by lia⟩,fun k k1 k2=>?_,p.M⟩;rw[p.D,if_pos ⟨k1,k2⟩,f,Le (by lia) (by lia)]
theorem NH (m1:1<=m) (d:1<=z.M) (h:z.g-z.o=z.M):(p_ z m).due=true:=by
 obtain⟨_,_,k⟩:=CU (z:=z) (m:=m) (by lia) (by lia);have:=k (by lia) m1;show(z.due||(decide _&&decide _))=true;rw[decide_eq_true (by lia),decide_eq_true (by lia)];simp
theorem Uo {m:Nat}:(if(cy u n).isSome=true\/(bG u n).s.b<(bG u n).s.t\/(bG u n).s.t=(bG u n).s.T.length then 0 else(m:Int)+1)=((nk u n m:Nat):Int):=by
 unfold nk;split
 ·rfl
 ·lia
theorem HM.imm (h:HM CH CT CS CW CM tb K H x A a):∀b o,H b=some o->JW o->b ∉ foot x A:=by
 obtain⟨z,h1,_⟩:=h;exact fun b o e i=>h1.imm e i
theorem Cj.kp (h:Cj CT H x r o t g f l) (k:Kp S H H') (n:x ∉ S) (im:∀b o,H b=some o->JW o->b ∉ S):Cj CT H' x r o t g f l:=by
 obtain⟨dx,p,h1,d⟩:=h;exact⟨dx,p,k _ _ h1 n,k _ _ d (im _ _ d (.inl ⟨_,rfl⟩))⟩
def MV (S:List Addr) (K:W.Frag) (H:Hp) (a:Addr) (xs:List V):Prop:=(a ∉ S/\cT K H a xs)\/∀H,cT K H a xs
theorem MV.sq (h:MV S K H a xs):cT K H a xs:=h.elim (fun h=>h.2) fun h=>h H
theorem MV.of (h:cT K H1 a xs) (d:cT K H a xs) (fr:∀b u,H1 b=some u->b ∉ S):MV S K H a xs:=by
 rcases h with(h|⟨o,h⟩)|h
 ·exact .inl ⟨fr _ _ h,d⟩
 ·exact .inl ⟨fr _ _ h,d⟩
 ·exact .inr fun _=> .inr h
theorem MV.kp (h:MV S K H a xs) (k:Kp S' H H') (m:∀b∈S',b∈S):MV S K H' a xs:=by
 rcases h with⟨n,h⟩|h
 ·refine .inl ⟨n,?_⟩;rcases h with(h|⟨o,h⟩)|h
  ·exact .inl (.inl (k _ _ h fun e=>n (m _ e)))
  ·exact .inl (.inr ⟨o,k _ _ h fun e=>n (m _ e)⟩)
  ·exact .inr h
 ·exact .inr h
theorem agj {ns:List Int}:∃ms:List Int,DU (ns.map V.int) (some 2) (some 22)=ms.map V.int/\ms.length<=20:=by
 refine⟨_,P2,?_⟩;rw[List.length_take];have h1:HT.qW _ ns.length _=min 22 ns.length:=HT.Cn _ _ 22;have d:HT.qW _ 0 _=min 2 ns.length:=HT.Cn _ _ 2;rw[show(some (22))=some ((22:Nat):Int) from rfl,show(some (2))=some ((2:Nat):Int) from rfl,h1,d];lia
theorem UT {P:α->Prop} (e:l= [x,y]) (hx:c % 2=0->P x) (d:c % 2=1->P y):∃z,j4 l (c % 2)=some z/\P z:=by
 subst e;rcases(show c % 2=0\/c % 2=1 by lia) with e|e<;>rw[e]
 ·exact⟨x,rfl,hx e⟩
 ·exact⟨y,rfl,d e⟩
noncomputable def fst {α:Type} (i:Nat) (p q:α):α:=match i with
 |0=>p
 |_=>q
noncomputable def snd {α:Type} (i:Nat) (p q:α):α:=match i with
 |0=>p
 |1=>p
 |_=>q
theorem MV.mono (h:MV S K H a xs) (m:a ∉ S->(∃u,H a=some u)->a ∉ S'):MV S' K H a xs:=by
 rcases h with⟨n,h⟩|h
 ·rcases h with(e|⟨o,e⟩)|e
  ·exact .inl ⟨m n ⟨_,e⟩,.inl (.inl e)⟩
  ·exact .inl ⟨m n ⟨_,e⟩,.inl (.inr ⟨o,e⟩)⟩
  ·exact .inr fun _=> .inr e
 ·exact .inr h
structure Al (CH CT CS CW CM CX:Addr) (tb:List (Addr×Str)) (K:W.Frag) (a tm:Addr) (ns:List Int) (x0 x1 ph pi:Addr) (r o t g f l:Int) (pw v0 v1:Addr) (H:Hp) (A0 A1:HAd) (b0 b1:iR) (y0 y1:Yw) (i0 i1:Int):Prop where
 h0:HM CH CT CS CW CM tb K H x0 A0 b0
 h1:HM CH CT CS CW CM tb K H x1 A1 b1
 nd:(foot x0 A0++(foot x1 A1++ [ph,pi,v0,v1])).Nodup
 eh:H ph=some (.lst [.ref x0,.ref x1])
 ei:H pi=some (.lst [.int i0,.int i1])
 t0:l7 H v0 y0
 t1:l7 H v1 y1
 ew:H pw=some (.lst [.ref v0,.ref v1])
 nw:pw ∉ foot x0 A0++(foot x1 A1++ [ph,pi,v0,v1])
 Q:MV (foot x0 A0++(foot x1 A1++ [ph,pi,v0,v1])) K H a (ns.map V.int)
 n:tm ∉ foot x0 A0++(foot x1 A1++ [ph,pi,v0,v1])
 t:Cj CX H tm r o t g f l
theorem l7.imm (h:l7 H l y):∃xs,H l=some (.lst xs):=by
 rcases h with⟨_,h⟩|⟨_,_,_,_,_,h,_⟩<;>exact⟨_,h⟩
theorem Gp {H:Hp} {l:Addr} {xs:List V} (h:H l=some (.lst xs)):∀b o,H b=some o->JW o->b ∉ [l]:=fun b o e i m=>by
 rw[List.mem_singleton] at m;subst m;rw[h] at e;cases e;exact R6 i
section
variable {t:Int}
theorem Al.kp (h:Al CH CT CS CW CM CX tb K a tm ns x0 x1 ph pi r o t g f l pw v0 v1 H A0 A1 b0 b1 y0 y1 i0 i1) (k:Kp S' H H') (m:∀b∈S',b∈foot x0 A0++(foot x1 A1++ [ph,pi,v0,v1])) (im:∀b o,H b=some o->JW o->b ∉ S'):H' pw=some (.lst [.ref v0,.ref v1])/\MV (foot x0 A0++(foot x1 A1++ [ph,pi,v0,v1])) K H' a (ns.map V.int)/\Cj CX H' tm r o t g f l:=
 ⟨k _ _ h.ew fun z=>h.nw (m _ z),h.Q.kp k m,h.t.kp k (fun z=>h.n (m _ z)) im⟩
theorem Al.same (h:Al CH CT CS CW CM CX tb K a tm ns x0 x1 ph pi r o t g f l pw v0 v1 H A0 A1 b0 b1 y0 y1 i0 i1) (s:a8 H H'):Al CH CT CS CW CM CX tb K a tm ns x0 x1 ph pi r o t g f l pw v0 v1 H' A0 A1 b0 b1 y0 y1 i0 i1:=by
 obtain⟨k1,k2,k3⟩:=h.kp (Kp.of s) (fun _ m=>absurd m List.not_mem_nil) (fun _ _ _ _=>List.not_mem_nil);exact⟨h.h0.same s,h.h1.same s,h.nd,s _ _ h.eh,s _ _ h.ei,h.t0.same s,h.t1.same s,k1,h.nw,k2,h.n,k3⟩
theorem Al.yu {st:Addr} (h:Al x y v C z CX u K a tm ns i G U pi r o t g f l pw X I H A0 A1 b0 b1 O F P E) (k:Kp (foot i A0) H H') (q:HM x y v C z u K H' i {A0 with st:=st} Y):Al x y v C z CX u K a tm ns i G U pi r o t g f l pw X I H' {A0 with st:=st} A1 Y b1 O F P E:=by
 obtain⟨k1,k2,k3⟩:=h.kp k (fun _ m=>List.mem_append_left _ m) h.h0.imm;obtain⟨_,_,J⟩:=List.nodup_append.mp h.nd;have d:=fun b j hm=>J b hm b j rfl;exact⟨q,h.h1.kp k (fun b j=>d b (List.mem_append_left _ j)) h.h0.imm,h.nd,k _ _ h.eh (d _ (by simp)),k _ _ h.ei (d _ (by simp)),h.t0.kp k (d _ (by simp)) h.h0.imm,h.t1.kp k (d _ (by simp)) h.h0.imm,k1,h.nw,k2,h.n,k3⟩
theorem Al.Ic {st:Addr} (h:Al x y v C z CX u K a tm ns P i U pi r o t g f l pw Z G H A0 A1 b0 b1 J F O E) (k:Kp (foot i A1) H H') (q:HM x y v C z u K H' i {A1 with st:=st} b'):Al x y v C z CX u K a tm ns P i U pi r o t g f l pw Z G H' A0 {A1 with st:=st} b0 b' J F O E:=by
 obtain⟨k1,k2,k3⟩:=h.kp k (fun _ m=>List.mem_append_right _ (List.mem_append_left _ m)) h.h1.imm;obtain⟨_,Y,I⟩:=List.nodup_append.mp h.nd;obtain⟨_,_,X⟩:=List.nodup_append.mp Y;have d:=fun b j hm=>X b hm b j rfl;exact⟨h.h0.kp k (fun b j hm=>I b j b (List.mem_append_left _ hm) rfl) h.h1.imm,q,h.nd,k _ _ h.eh (d _ (by simp)),k _ _ h.ei (d _ (by simp)),h.t0.kp k (d _ (by simp)) h.h1.imm,h.t1.kp k (d _ (by simp)) h.h1.imm,k1,h.nw,k2,h.n,k3⟩
theorem Al.apart (h:Al CH CT CS CW CM CX tb K a tm ns x0 x1 ph pi r o t g f l pw v0 v1 H A0 A1 b0 b1 y0 y1 i0 i1):(∀c∈[ph,pi,v0,v1],(∀b∈foot x0 A0,b ∉ [c])/\∀b∈foot x1 A1,b ∉ [c])/\((ph≠pi/\ph≠v0/\ph≠v1)/\(pi≠v0/\pi≠v1)/\v0≠v1):=by
 obtain⟨_,v,j⟩:=List.nodup_append.mp h.nd;obtain⟨_,d,u⟩:=List.nodup_append.mp v;simp only[List.nodup_cons,List.mem_cons,List.not_mem_nil,or_false,not_or] at d;refine⟨fun c hc=>⟨fun b i m=>j b i c (List.mem_append_right _ hc) (List.mem_singleton.mp m),fun b i m=>u b i c hc (List.mem_singleton.mp m)⟩,d.1,d.2.1,d.2.2.1⟩
theorem Al.agU (h:Al CH CT CS CW CM CX tb K a tm ns x0 x1 ph pi r o t g f l pw v0 v1 H A0 A1 b0 b1 y0 y1 i0 i1) (k:Kp [v0] H H') (q:l7 H' v0 y'):Al CH CT CS CW CM CX tb K a tm ns x0 x1 ph pi r o t g f l pw v0 v1 H' A0 A1 b0 b1 y' y1 i0 i1:=by
 obtain⟨xs,e⟩:=h.t0.imm;have im:=Gp e;obtain⟨d,⟨_,d1,_⟩,⟨j,_⟩,i⟩:=h.apart;obtain⟨k1,k2,k3⟩:=h.kp k (fun _ m=>by simp_all) im;exact⟨h.h0.kp k (d v0 (by simp)).1 im,h.h1.kp k (d v0 (by simp)).2 im,h.nd,k _ _ h.eh (by simp_all),k _ _ h.ei (by simp_all),q,h.t1.kp k (by simpa using i.symm) im,k1,h.nw,k2,h.n,k3⟩
theorem Al.Vi (h:Al CH CT CS CW CM CX tb K a tm ns x0 x1 ph pi r o t g f l pw v0 v1 H A0 A1 b0 b1 y0 y1 i0 i1) (k:Kp [v1] H H') (q:l7 H' v1 y'):Al CH CT CS CW CM CX tb K a tm ns x0 x1 ph pi r o t g f l pw v0 v1 H' A0 A1 b0 b1 y0 y' i0 i1:=by
 obtain⟨xs,e⟩:=h.t1.imm;have im:=Gp e;obtain⟨d,⟨_,_,d1⟩,⟨_,i⟩,j⟩:=h.apart;obtain⟨k1,k2,k3⟩:=h.kp k (fun _ m=>by simp_all) im;exact⟨h.h0.kp k (d v1 (by simp)).1 im,h.h1.kp k (d v1 (by simp)).2 im,h.nd,k _ _ h.eh (by simp_all),k _ _ h.ei (by simp_all),h.t0.kp k (by simp_all) im,q,k1,h.nw,k2,h.n,k3⟩
theorem Al.idle (h:Al CH CT CS CW CM CX tb K a tm ns x0 x1 ph pi r o t g f l pw v0 v1 H A0 A1 b0 b1 y0 y1 i0 i1):Al CH CT CS CW CM CX tb K a tm ns x0 x1 ph pi r o t g f l pw v0 v1 (upd H pi (.lst [.int j0,.int j1])) A0 A1 b0 b1 y0 y1 j0 j1:=by
 have k:Kp _ H (upd H pi (.lst [.int j0,.int j1])):=Kp.one;have im:=Gp h.ei;obtain⟨d,⟨d1,_⟩,⟨i,j⟩,_⟩:=h.apart;obtain⟨k1,k2,k3⟩:=h.kp k (fun _ m=>by simp_all) im;exact⟨h.h0.kp k (d pi (by simp)).1 im,h.h1.kp k (d pi (by simp)).2 im,h.nd,k _ _ h.eh (by simp_all),ar,h.t0.kp k (by simpa using i.symm) im,h.t1.kp k (by simpa using j.symm) im,k1,h.nw,k2,h.n,k3⟩
theorem Al.live (h:Al CH CT CS CW CM CX tb K a tm ns x0 x1 ph pi r o t g f l pw v0 v1 H A0 A1 b0 b1 y0 y1 i0 i1):∀b∈foot x0 A0++(foot x1 A1++ [ph,pi,v0,v1]),∃u,H b=some u:=by
 intro b d;obtain⟨v,i,_⟩:=h.h0;obtain⟨x,j,_⟩:=h.h1;obtain⟨_,e0⟩:=h.t0.imm;obtain⟨_,e1⟩:=h.t1.imm;rcases List.mem_append.mp d with m|m
 ·exact i.live m
 rcases List.mem_append.mp m with m|m
 ·exact j.live m
 simp only[List.mem_cons,List.not_mem_nil,or_false] at m;rcases m with m|m|m|m<;>rw[m]
 ·exact⟨_,h.eh⟩
 ·exact⟨_,h.ei⟩
 ·exact⟨_,e0⟩
 ·exact⟨_,e1⟩
theorem Al.ways (h:Al CH CT CS CW CM CX tb K a tm ns x0 x1 ph pi r o t g f l pw v0 v1 H A0 A1 b0 b1 y0 y1 i0 i1) (n0:H w0=none) (n1:upd H w0 (.lst []) w1=none) (v:upd (upd H w0 (.lst [])) w1 (.lst []) qw=none):Al CH CT CS CW CM CX tb K a tm ns x0 x1 ph pi r o t g f l qw w0 w1 (upd (upd (upd H w0 (.lst [])) w1 (.lst [])) qw (.lst [.ref w0,.ref w1])) A0 A1 b0 b1 none none i0 i1:=by
 have s1:=aJ (o:= .lst []) n0;have s2:=aJ (o:= .lst []) n1;have s3:=aJ (o:=HO.lst [V.ref w0,V.ref w1]) v;have e0:=ar (H:=H) (a:=w0) (o:= .lst []);have e1:=ar (H:=upd H w0 (.lst [])) (a:=w1) (o:= .lst []);have S:=(s1.trans s2).trans s3;have live:=h.live;have out:∀{b:Addr} {I:Hp},a8 H I->I b=none->∀c,(∃u,H c=some u)->c≠b:=fun s e c ⟨u,x⟩ z=>by
  rw[<-z,s _ _ x] at e;cases e
 have C:w1≠w0:=fun e=>by simp_all
 have E:qw≠w0:=fun e=>by rw[e,s2 _ _ e0] at v;cases v
 have F:qw≠w1:=fun e=>by simp_all
 have o0:=out (a8.refl _) n0;have j:=out s1 n1;have o2:=out (s1.trans s2) v;obtain⟨m1,O,y⟩:=List.nodup_append.mp h.nd;obtain⟨P,X,U⟩:=List.nodup_append.mp O;obtain⟨_,⟨d,_⟩,_⟩:=h.apart;have l0:∀b∈foot x0 A0,∃u,H b=some u:=fun b i=>live b (List.mem_append_left _ i);have l1:∀b∈foot x1 A1,∃u,H b=some u:=fun b i=>live b (List.mem_append_right _ (List.mem_append_left _ i));have G:∀b,b ∉ foot x0 A0++(foot x1 A1++ [ph,pi,v0,v1])->b≠w0->b≠w1->b ∉ foot x0 A0++(foot x1 A1++ [ph,pi,w0,w1]):=fun b n q0 q1 m=>by
  simp_all
 obtain⟨_,_,J,_⟩:=id h.t;refine⟨((h.h0.same s1).same s2).same s3,((h.h1.same s1).same s2).same s3,?_,S _ _ h.eh,S _ _ h.ei,.inl ⟨rfl,s3 _ _ (s2 _ _ e0)⟩,.inl ⟨rfl,s3 _ _ e1⟩,ar,?_,?_,G _ h.n (o0 _ ⟨_,J⟩) (j _ ⟨_,J⟩),h.t.same S⟩
 ·refine List.nodup_append.mpr ⟨m1,List.nodup_append.mpr ⟨P,?_,fun b i c hc e=>?_⟩,fun b i c hc e=>?_⟩
  ·simp only[List.nodup_cons,List.mem_cons,List.not_mem_nil,or_false,not_or,List.nodup_nil,and_true,not_false_eq_true];exact⟨⟨d,o0 _ ⟨_,h.eh⟩,j _ ⟨_,h.eh⟩⟩,⟨o0 _ ⟨_,h.ei⟩,j _ ⟨_,h.ei⟩⟩,C.symm⟩
  ·grind
  ·subst e;simp only[List.mem_append,List.mem_cons,List.not_mem_nil,or_false] at hc;rcases hc with q|q|q|q|q
   ·exact y b i b (List.mem_append_left _ q) rfl
   ·exact y b i ph (by simp) q
   ·exact y b i pi (by simp) q
   ·exact o0 _ (l0 b i) q
   ·exact j _ (l0 b i) q
 ·intro m;simp only[List.mem_append,List.mem_cons,List.not_mem_nil,or_false] at m;rcases m with m|m|m|m|m|m
  ·exact o2 _ (l0 _ m) rfl
  ·exact o2 _ (l1 _ m) rfl
  ·exact o2 _ ⟨_,h.eh⟩ m.symm
  ·exact o2 _ ⟨_,h.ei⟩ m.symm
  ·exact E m
  ·exact F m
 ·exact(h.Q.mono (S':=foot x0 A0++(foot x1 A1++ [ph,pi,w0,w1])) fun n x=>G _ n (o0 _ x) (j _ x)).kp (S':=[]) (Kp.of S) (fun _ m=>absurd m List.not_mem_nil)
theorem Al.start (h0:HM CH CT CS CW CM tb K H x0 A0 b0) (h1:HM CH CT CS CW CM tb K H x1 A1 b1) (nd:(foot x0 A0++(foot x1 A1++ [ph])).Nodup) (eh:H ph=some (.lst [.ref x0,.ref x1])) (n0:H v0=none) (n1:upd H v0 (.lst []) v1=none) (E:upd (upd H v0 (.lst [])) v1 (.lst []) pw=none) (j:upd (upd (upd H v0 (.lst [])) v1 (.lst [])) pw (.lst [.ref v0,.ref v1]) pi=none) (x:a8 H1 H) (fr:∀b u,H1 b=some u->b ∉ foot x0 A0++(foot x1 A1++ [ph])) (Z:cT K H1 a (ns.map V.int)) (hT:Cj CX H1 tm r o t g f l):Al CH CT CS CW CM CX tb K a tm ns x0 x1 ph pi r o t g f l pw v0 v1 (upd (upd (upd (upd H v0 (.lst [])) v1 (.lst [])) pw (.lst [.ref v0,.ref v1])) pi (.lst [.int 0,.int 0])) A0 A1 b0 b1 none none 0 0:=by
 have s1:=aJ (o:= .lst []) n0;have s2:=aJ (o:= .lst []) n1;have s3:=aJ (o:=HO.lst [V.ref v0,V.ref v1]) E;have i:=aJ (o:=HO.lst [V.int 0,V.int 0]) j;have e0:=ar (H:=H) (a:=v0) (o:= .lst []);have e1:=ar (H:=upd H v0 (.lst [])) (a:=v1) (o:= .lst []);have e2:=ar (H:=upd (upd H v0 (.lst [])) v1 (.lst [])) (a:=pw) (o:=HO.lst [V.ref v0,V.ref v1]);have S:=((s1.trans s2).trans s3).trans i;have out:∀{b:Addr} {Y:Hp},a8 H Y->Y b=none->∀c,(∃u,H c=some u)->c≠b:=fun s e c ⟨u,hu⟩ z=>by
  rw[<-z,s _ _ hu] at e;cases e
 have G:v1≠v0:=fun e=>by simp_all
 have J:pw≠v0:=fun e=>by rw[e,s2 _ _ e0] at E;cases E
 have O:pw≠v1:=fun e=>by simp_all
 have I:pi≠v0:=fun e=>by rw[e,s3 _ _ (s2 _ _ e0)] at j;cases j
 have F:pi≠v1:=fun e=>by rw[e,s3 _ _ e1] at j;cases j
 have P:pw≠pi:=fun e=>by simp_all
 have o0:=out (a8.refl _) n0;have y:=out s1 n1;have o2:=out (s1.trans s2) E;have C:=out ((s1.trans s2).trans s3) j;obtain⟨m1,m2,X⟩:=List.nodup_append.mp nd;obtain⟨m4,_,m6⟩:=List.nodup_append.mp m2;obtain⟨z0,g0,_⟩:=id h0;obtain⟨z1,g1,_⟩:=id h1;have l0:∀b∈foot x0 A0,∃u,H b=some u:=fun b d=>g0.live d;have l1:∀b∈foot x1 A1,∃u,H b=some u:=fun b d=>g1.live d;have U:∀b,b ∉ foot x0 A0++(foot x1 A1++ [ph])->b≠pi->b≠v0->b≠v1->b ∉ foot x0 A0++(foot x1 A1++ [ph,pi,v0,v1]):=fun b n q q0 q1 m=>by
  simp_all
 have v:∀b u,H1 b=some u->b ∉ foot x0 A0++(foot x1 A1++ [ph,pi,v0,v1]):=fun b u e=>U b (fr b u e) (C b ⟨u,x b u e⟩) (o0 b ⟨u,x b u e⟩) (y b ⟨u,x b u e⟩);obtain⟨_,_,et,_⟩:=id hT;refine⟨(((h0.same s1).same s2).same s3).same i,(((h1.same s1).same s2).same s3).same i,?_,S _ _ eh,ar,.inl ⟨rfl,i _ _ (s3 _ _ (s2 _ _ e0))⟩,.inl ⟨rfl,i _ _ (s3 _ _ e1)⟩,i _ _ e2,?_,MV.of Z (sZ (x.trans S) Z) v,v _ _ et,hT.same (x.trans S)⟩
 ·refine List.nodup_append.mpr ⟨m1,List.nodup_append.mpr ⟨m4,?_,fun b d c hc e=>?_⟩,fun b d c hc e=>?_⟩
  ·simp only[List.nodup_cons,List.mem_cons,List.not_mem_nil,or_false,not_or,List.nodup_nil,and_true,not_false_eq_true];exact⟨⟨C _ ⟨_,eh⟩,o0 _ ⟨_,eh⟩,y _ ⟨_,eh⟩⟩,⟨I,F⟩,G.symm⟩
  ·subst e;simp only[List.mem_cons,List.not_mem_nil,or_false] at hc;rcases hc with q|q|q|q
   ·exact m6 b d ph (by simp) q
   ·exact C _ (l1 b d) q
   ·exact o0 _ (l1 b d) q
   ·exact y _ (l1 b d) q
  ·subst e;simp only[List.mem_append,List.mem_cons,List.not_mem_nil,or_false] at hc;rcases hc with q|q|q|q|q
   ·exact X b d b (List.mem_append_left _ q) rfl
   ·exact X b d ph (by simp) q
   ·exact C _ (l0 b d) q
   ·exact o0 _ (l0 b d) q
   ·exact y _ (l0 b d) q
 ·exact U pw (fun m=>by
   grind) P J O
end
local macro_rules | `(tactic| exists $es,*) => do
  let l := ("zqr zqi zqs zqv zqn U0 SO IF tUn Hc tC He qf UZ Nb QM AZ tB U1 YV tOr E4 xT Ee YT IS SS SR tIf Ni tSl J6 SQ Q6 Vf Va agd LW LV LM LL Q3 Q4 Q2 LG LI Jd Vc Vb QN YU QF QD HA NK NY NZ Ng Lm Ll Lk Ln IQ IP LA Lz Ly JM N7 NJ Hw FV LD UY U3 tTC JE Pu Yb IU Nt Option.join_some agz Qp Yv Yk L2.start List.map_cons List.map_nil List.length_cons List.length_nil List.replicate_zero List.replicate_succ List.append_nil List.nil_append List.cons_append List.getElem?_cons_zero List.getElem?_cons_succ List.set_cons_zero List.set_cons_succ decide_eq_true_eq Bool.not_eq_true' decide_eq_false_iff_not if_true if_false Bool.false_eq_true true_and and_true Bool.not_false Int.reduceLT Int.reduceLE Int.reducePow Int.reduceToNat Int.reduceAdd Int.reduceSub Int.reduceMul Int.reduceNeg Nat.reducePow Nat.reduceLT Nat.reduceLeDiff true_or or_true Int.reduceEq and_self Nat.reduceAdd Nat.reduceSub reduceCtorEq not_true_eq_false not_false_eq_true v_ vZ qx sQ qu f_ gP f9 l_ j8 wb vV sS vW sP vX wa l9 FC FD qy qv f7 iT iW iV nU pC kh kj y4 j9 fU fV gN fw mf pB nT mj cU fW d7 dJ eY d8 fX fZ fY gQ dM j_ dN qI ml gS CG iU gO dy pz mi pA gT y6 qG mh pj wd qH pq vY kq qL pD pE sW sV qK km mm qM l8 qN ko qJ ma o_ o8 qB qD nQ qA o9 qC qE J7 NC SU Nd Nf N2 LC LU Q1 Yl ar QC L2.Yi DM DL DI DH DG DF GF GD yH vF yI t6 vC yF tY yG tZ Aw vD vE EF EE ED EC EB EA Ik Ij vx xb xa Ae wZ wY Ac vw rD rE sI w_ Ca B_ B9 B8 B7 B6 BZ BY BX BW BV BU BS BR BQ BP BO BN Av Au Ar Aq EH EG xu xt vA tS xx yE xv vB oo om oR pL xp yC xo vy oj qh yD xq xr rJ rH pK lU rF pJ oP oO qi BM rG sL vz oQ DE DC DB DA Dz Dy GC GB yA yz Ap Ao yB Ak Aj sJ Am oi xj An EV EU ET ES ER EO EN EM EL EK EJ EI Im Il Az yK xE yL rM rL yJ rK Cd Ay DO DN Cc Cf Ce xD vG Cb vH Ax Dx Dw Dv Du Ds Dr GA yy xc xf tQ Nk N4 Yt Yu LS agh ND LQ agg Nj NX XH LR Yp YS Nc tHn tHt YE YF NA SN LF Jb Mq J8 YR tH0 afv afw Nl U2 J5 Fz NB Hz NP N3 NO MJ Sj Hy I_ Hx LN NU NT RY RX uM vQ UL UK agn agm LK LJ Oy Ox LO Q5 OW OX Yj LH".splitOn " ").toArray.map fun n => (⟨Lean.mkIdent n.toName⟩ : Lean.TSyntax `term)
  let l := l ++ es.getElems
  `(tactic| simp only[$[$l:term],*])
local macro_rules | `(tactic| exists 9) => `(tactic| exists true_and)
section
variable {P:Program} {w:World} {K:W.Frag} {mg:Str->Option Value} {base:Heap}
variable (T:Txt K mg)
set_option hygiene false in
local macro_rules | `(tactic| exists 8) => `(tactic| ((repeat ((first|refine zqre h ?_|refine zqie h ?_|refine zqse h ?_|refine zqve h ?_);clear h vs;intro _ vs h));refine zqne h ?_;clear h vs;intro h))
set_option hygiene false in
local macro_rules | `(tactic| exists 0, $a, $b, $d:ident) => `(tactic| (refine($a).fn ($b).1 ($b).2 (fun vs H Q E h => ?_) fun f cdv A outer s H vs Q E HR h => ?_; (unfold $d at h; exists 8; rfl); unfold $d at h; exists 8))
set_option hygiene false in
local macro_rules | `(tactic| exists 1, $a, $b, $d:ident) => `(tactic| (refine($a).fnX ($b).1 ($b).2 (fun vs H Q E h => ?_) fun f cdv A outer s H vs Q E HR h => ?_; (unfold $d at h; exists 8; rfl); unfold $d at h; exists 8))
include T in theorem dQ:FA P w K mg base "is_from" 1 ["value","low","high"] v_:=by
 exists 0,T.AK,IY,v_;rename_i v l d;refine⟨_,(aq (aH (di (aY (nM K rfl) (by rfl) T.cC cS (c9 (pv 0) (A5 rfl T.Qf YB))) (di (Jg (aY (nM K rfl) (by rfl) T.cC cS (c9 (pv 0) (A5 rfl T.JR Sz)))) (nY (C5 tE tE (pv 1) (pv 0) (pv 2))))))),?_⟩;exists 9;unfold eV at h;by_cases c:l<=v
 ·rw[if_pos c];simpa only[c,decide_true,Bool.true_and] using h
 ·rw[if_neg c];simpa only[c,decide_false,Bool.false_and] using h
include T in theorem Jn:FA P w K mg base "is_held" 2 ["held"] vZ:=by
 exists 0,T.AJ,qQ,vZ;rename_i hh;refine⟨_,(aj (bD (dO (nC (aY (nM K rfl) (by rfl) T.cC cS (c9 (pv 0) (A5 rfl T.sf uL))))) (aq (aH cW)) aU)
 (aj (aO 1 qQ.1.nd au)
 (aj (gn PassesOwn.never rfl (dq K rfl (pv 0)) (bu 2 qQ.1.nd) (aj (bD (dO (nC (br (dQ T) HR (dz (pv 2) (c9 (a_ K (pv 1) au) (cg rfl T.o7)))))) (aq (aH cW)) aU)
 (aq (aO 1 qQ.1.nd (pv 2)))))
 (aq (aH cW))))),?_⟩
 obtain⟨hs,d,hl,q⟩:=h;exists 9;refine Gu d ⟨true,rfl,?_⟩;rw[if_neg (by decide)];refine Yd (dX.of d) (fun i σ H'=>H'=H/\∃l j,Held.dZ 0 hs=Held.dZ l (hs.drop i)/\σ= [some (.ref hh),some (.int l),j]) ⟨rfl,0,none,by rw[List.drop_zero],rfl⟩ (fun i σ H' _ hp=>by rw[hp.1];exact dX.of d) (fun i x σ H' hx hp=>?_) (fun σ H' hp=>?_)
 ·obtain⟨rfl,l,j,e,rfl⟩:=hp;obtain⟨c,rfl,hc⟩:=tK hx;have f:Held.dZ 0 hs=(eV c (l+1) 15&&Held.dZ c (hs.drop (i+1))):=Held.JB hc e;exists 9;refine Nm (fun z=>?_) (fun z=>?_)
  ·rw[f,z,Bool.false_and] at q;exact q
  ·rw[z,Bool.true_and] at f;exact⟨c,_,f,rfl⟩
 ·obtain⟨rfl,l,j,e,rfl⟩:=hp;rw[List.length_map,List.drop_length] at e;exists 9;rw[e] at q;exact q
include T in theorem F4:FA P w K mg base "are_signs" 1 ["kind","signs"] qx:=by
 exists 0,T.t_,FH,qx;rename_i k d;refine⟨_,(aj (bD (wB K HR (pv 0) bR) (aq (aH (dP (nE K rfl HR.units) (pv 1) bR))) aU)
 (aj (bD (PW.pt (pw_or (dO (nC (aY (nM K rfl) (by rfl) T.cC cS (c9 (pv 1) (A5 rfl T.Ld Qb))))) (pw_or1 (dO (HC tE tE au (aY (lE K rfl) (by rfl) T.lY iM (cX (pv 1))) (cg rfl T.fO)))))) (aq (aH cW)) aU)
 (aq (aH (aY (AQ K rfl rfl) (by rfl) T.Iw JQ (cX (jm (N:=(["sign"]:List Str)) (nv:=1) (ix:=[]) rfl (qk (by kernel_rfl)) (dq K rfl (pv 1)) (fun _ _ _ _ _=>(bu 0 (show((["sign"]:List Str)).Nodup by decide))) (fun _ _ _ _ _=>qZ) (fun _ _ _ _ _=>(Ct (F2 K rfl) (pv 0) (cg rfl T.r_) (lK rfl)))))))))),?_⟩
 obtain⟨hl,q⟩:=h;exists 9;unfold qO at q;split
 ·rename_i c;rw[if_neg c] at q;exact q _ (a8.refl _)
 ·rename_i c;rw[if_pos (Decidable.not_not.mp c)] at q;refine⟨bq hl,?_⟩;split
  ·rename_i c1;split
   ·rename_i j;have:decide (d.length<=4)=false:=decide_eq_false (by lia);simp only[this,Bool.and_false,Bool.false_and] at q;exact q _ (a8.refl _)
   ·rename_i j;have e1:decide (1<=d.length)=true:=decide_eq_true (by lia);have v:decide (d.length<=4)=true:=decide_eq_true (by lia);simp only[e1,v,Bool.true_and] at q;refine P5 (p:=fun _=>true) (f:=fun x=> .bl (OZ x)) (bq hl) (fun x _ Q h=>h) (fun x hx _ Q h=>?_) ?_
    ·obtain⟨n,_,rfl⟩:=List.mem_map.mp hx;exists 9;exact h
    ·have m:((d9 d).filter fun _=>true)=d9 d:=List.filter_eq_self.mpr fun _ _=>rfl;have u:(d9 d).length=d.length:=by simp[d9,Str.length]
     rw[m];refine⟨bq (by rw[List.length_map,u];exact hl),fun l i=>⟨(d9 d).map OZ,cT.of ?_,?_⟩⟩
     ·rw[ar,List.map_map];rfl
     ·rw[List.all_map];exact q _ (aJ i)
  ·rename_i c1;have e1:decide (1<=d.length)=false:=decide_eq_false (by lia);simp only[e1,Bool.false_and] at q;exact q _ (a8.refl _)
include T in theorem A6:FA P w K mg base "is_piece" 3 ["thing"] sQ:=by
 exists 0,T.xG,A2,sQ;rename_i t;refine⟨_,(aj (bD (PW.pt (pw_or (dO (nC (aY (nM K rfl) (by rfl) T.cC cS (c9 (pv 0) (A5 rfl T.sf uL))))) (pw_or1 (wB K HR (aY (lE K rfl) (by rfl) T.lY iM (cX (pv 0))) au)))) (aq (aH cW)) aU)
 (aj (aO 1 A2.1.nd (cK K (pv 0) au))
 (aq (aH (di (Ct (F2 K rfl) (pv 1) (lR K rfl rfl T.uW) (lK rfl)) (di (br (dQ T) HR (dz (cK K (pv 0) au) (c9 au (lS (Cq (F2 K rfl) (pv 1) (lR K rfl rfl T.rZ) (lK rfl)) au (cg rfl T.lP))))) (di (br (dQ T) HR (dz (cK K (pv 0) au) (c9 au (cg rfl T.lP)))) (di (br (dQ T) HR (dz (cK K (pv 0) au) (c9 au (cg rfl T.iL)))) (di (br (Jn T) HR (cX (cK K (pv 0) au))) (nY (br (F4 T) HR (c9 (pv 1) (cK K (pv 0) au))))))))))))),?_⟩
 obtain⟨k,n,a,r,hs,C,⟨hh,d,x,hl,y⟩,q⟩:=h;have i:cD k n a r hs C=false->Q (V.bl false) H:=fun e=>by
  have:=q _ (a8.refl _);rwa [e] at this
 exists 9;refine Gu d ⟨true,rfl,?_⟩;rw[if_neg (by decide)];refine⟨_,.inr (dX.of d),?_⟩;rw[if_neg (fun z=>z rfl)];refine dS (dX.of d) rfl ?_;intro a1 u _;refine⟨_,.inr (u _),rfl,rfl,?_⟩;have e0:D_ (.str k) xM=D_ (.str k) [.str "bare",.str "signs",.str "begin",.str "end",.str "ask"]:=rfl;refine sN (fun c0=>i ?_) (fun c0=>?_)
 ·simp only[cD,e0,c0,Bool.false_and]
 refine dS (dX.of d) rfl ?_;intro F v _;refine⟨_,.inr (v _),rfl,rfl,?_⟩;split<;>rename_i c<;>(
  refine sN (fun c1=>i ?_) (fun c1=>?_)
  ·simp only[cD,e0,c0,c,c1,if_true,if_false,ite_true,ite_false,Bool.true_and,Bool.false_and,Bool.false_eq_true]
  refine dS (dX.of d) rfl ?_;refine sN (fun f=>i ?_) (fun f=>?_)
  ·simp only[cD,e0,c0,c,c1,f,if_true,if_false,ite_true,ite_false,Bool.true_and,Bool.false_and,Bool.false_eq_true]
  refine dS (dX.of d) rfl ?_;refine sN (fun j=>i ?_) (fun j=>?_)
  ·simp only[cD,e0,c0,c,c1,f,j,if_true,if_false,ite_true,ite_false,Bool.true_and,Bool.false_and,Bool.false_eq_true]
  refine dS (dX.of d) rfl ?_;refine⟨hs,x,hl,?_⟩;refine sN (fun m=>i ?_) (fun m=>?_)
  ·simp only[cD,e0,c0,c,c1,f,j,m,if_true,if_false,ite_true,ite_false,Bool.true_and,Bool.false_and,Bool.false_eq_true]
  refine dS (dX.of d) rfl ?_;refine⟨y,fun H' E=>?_⟩;have:=q H' E;simp only[cD,e0,c0,c,c1,f,j,m,if_true,if_false,ite_true,ite_false,Bool.true_and,Bool.false_eq_true] at this;exact this)
include T in theorem yi:FA P w K mg base "remainder" 1 ["bits"] qu:=by
 exists 0,T.t8,qP,qu;rename_i n;refine⟨_,(aj (aO 1 qP.1.nd (pv 0))
 (aj (HD PassesOwn.never (bw sC (pv 1) (cg rfl T.lF)) (aq (aO 1 qP.1.nd (aL VC (pv 1) (aL jo (cg rfl T.AU) (aL dA (Jh K rfl (pv 1)) (cg rfl T.oK)))))))
 (aq (aH (pv 1))))),?_⟩
 exists 9;obtain⟨⟨h0,h1⟩,q⟩:=h;refine⟨fun m σ H'=>H'=H/\∃x:Nat,m=x/\(x:Int)<=n/\Rem.R x=Rem.R n.toNat/\σ= [some (.int n),some (.int x)],⟨n.toNat,rfl,n.toNat,rfl,by lia,rfl,by rw[Int.toNat_of_nonneg h0]⟩,?_⟩;rintro x σ H' ⟨rfl,E,rfl,hx,u,rfl⟩;exists 9;split
 ·rename_i c;obtain⟨k,hk,j,v,hl⟩:=BitI.NG (n:=x) (by lia);have z:x.log2<400:=(Nat.log2_lt (by lia)).mpr (by lia);refine⟨fun f d=>d=H'/\∃y:Nat,y<x/\Rem.R y=Rem.R n.toNat/\f= [some (.int n),some (.int y)],fun f d ⟨e,y,C,i,es⟩=>⟨y,C,e,y,rfl,by lia,i,es⟩,?_⟩;exists 9;rw[hk];refine⟨cshl (by lia) (by lia) (by lia) (by decide),x ^^^ (263*2 ^ k),j,by rw[v,u],?_⟩;have e:(263:Int)*2 ^ ((k:Int)).toNat=((263*2 ^ k:Nat):Int):=by simp
  rw[e,BitI.Qw]
 ·rename_i c;rw[<-u,Rem.GY (by lia)] at q;exact q
include T in theorem vp:MA P w K mg base aN "__init__" 1 ["self","frame"] (f_ aN):=by
 exists 0,T.iH,vd,f_;rename_i e l;refine⟨_,(aq (tw T.uP T.ft (pv 0) (pv 1))),?_⟩;obtain⟨he,q⟩:=h;exists he;exact⟨e,rfl,he,q⟩
include T in theorem wJ:MA P w K mg base aR "__init__" 1 ["self","frame"] (gP aR):=by
 exists 0,T.jS,wg,gP;rename_i e l;refine⟨_,(aq (tw T.xQ T.gG (pv 0) (pv 1))),?_⟩;obtain⟨he,q⟩:=h;exists he;exact⟨e,rfl,he,q⟩
include T in theorem nh:MA P w K mg base aI "__init__" 1 ["self","what"] (f9 aI):=by
 exists 0,T.iG,vc,f9;rename_i e l;refine⟨_,(aq (tw T.pT T.gI (pv 0) (pv 1))),?_⟩;obtain⟨he,q⟩:=h;exists he;exact⟨e,rfl,he,q⟩
include T in theorem Bx:FA P w K mg base "bits_of_held" 1 ["held"] l_:=by
 exists 0,T.ou,Bh,l_;rename_i hh;refine⟨_,(aq (aH (aY (MQ K rfl rfl) (by rfl) T.Qe YA (cX (jm (N:=(["step"]:List Str)) (nv:=1) (ix:=[]) rfl (qk (by kernel_rfl)) (dq K rfl (pv 0)) (fun _ _ _ _ _=>(bu 0 (show((["step"]:List Str)).Nodup by decide))) (fun _ _ _ _ _=>qZ) (fun _ _ _ _ _=>(aL jo au (aL dA (pv 0) au)))))))),?_⟩;obtain⟨hs,j,m,hl,q⟩:=h;exists 9;have hm:=(Held.uS.mp m).2;refine AN (p:=fun _=>true) (f:=fun v=>match v with | .int i=> .int (1*2 ^ (i-1).toNat)|_=> .non) (dX.of j) (bq (by rw[List.length_map];exact hl)) (fun x _ Q h=>h) (fun x hx _ Q h=>?_) ?_
 ·obtain⟨i,hi,rfl⟩:=List.mem_map.mp hx;have:=hm i hi;exists 9;exact⟨cshl (by lia) (by lia) (by decide) (by decide),h⟩
 ·have e:(((hs.map V.int).filter fun _=>true).map fun v=>match v with | .int i=>V.int (1*2 ^ (i-1).toNat)|_=> .non)=(hs.map fun i=>(1:Int)*2 ^ (i-1).toNat).map V.int:=by
   rw[List.filter_eq_self.mpr (by simp),List.map_map,List.map_map];rfl
  rw[e];refine⟨bq (by rw[List.length_map,List.length_map];exact hl),fun l d=>⟨_,cT.of ar,?_⟩⟩;rw[Fl];exact q _ (aJ d)
include T in theorem zK:FA P w K mg base "bits_of_signs" 1 ["signs"] j8:=by
 exists 0,T.mJ,fz,j8;rename_i d;refine⟨_,(aj (aO 1 fz.1.nd au)
 (aj (gn PassesOwn.never rfl (dq K rfl (FZ K rfl PySem.F.plainAttrs_str PySem.F.slot_str_ljust PySem.F.type_str_ljust Oq (pv 0) (cX (cg rfl T.fO)))) (bu 2 fz.1.nd) (aq (aO 1 fz.1.nd (aL vK (aL jo (pv 1) au) (FZ K rfl PySem.F.plainAttrs_str PySem.F.slot_str_index PySem.F.type_str_index Mi (cg rfl T.r_) (cX (pv 2)))))))
 (aq (aH (pv 1))))),?_⟩
 obtain⟨⟨hl,hm⟩,q⟩:=h;exists 9;obtain⟨f,m⟩:=aff hl;refine⟨by rw[m];exact bq (by decide),?_⟩;have pm:∀c∈vh d,c∈sgl:=fun c hc=>by
  unfold vh at hc;rcases List.mem_append.mp hc with h|h
  ·exact hm c h
  ·rw[(List.mem_replicate.mp h).2];exact Nq
 have sz:(RT d 4).cps.size=4:=m;refine Ye (fun i σ H'=>H'=H/\∃u,σ= [some (.str d),some (.int (Eg 0 ((vh d).take i):Nat)),u]) ⟨rfl,none,by simp[Eg]⟩ (fun i c σ H' hc hp=>?_) (fun σ H' hp=>?_)
 ·obtain⟨rfl,u,rfl⟩:=hp;have j:(vh d)[i]?=some c:=by rw[<-f,<-hc];simp
  have v:=pm c (List.mem_of_getElem? j);obtain⟨x,o2,_⟩:=o4 v;have z:i<4:=by have:=(Array.getElem?_eq_some_iff.mp hc).1;lia
  have b1:=Kb (cs:=(vh d).take i) fun c hc=>pm c (List.mem_of_mem_take hc);have y:(128:Nat) ^ ((vh d).take i).length<=128 ^ 4:=Nat.pow_le_pow_right (by decide) (by rw[List.length_take];lia);exists 9;have C:(128:Nat) ^ 4=268435456:=by decide
  refine⟨cshl (by decide) (by decide) (by lia) (by lia),sgn c,[],x,some (.str ⟨#[c]⟩),?_⟩;rw[Zg (by lia),List.take_add_one,j];show[some (V.str d),some (V.int _),some (V.str ⟨#[c]⟩)]= [some (V.str d),some (V.int ((Eg 0 ((vh d).take i++ [c]):Nat):Int)),some (V.str ⟨#[c]⟩)];rw[Lv]
 ·obtain⟨rfl,u,rfl⟩:=hp;exists 9;rw[sz,List.take_of_length_le (by rw[<-f];simp;lia)];exact q
include T in theorem Jp:FA P w K mg base "body_of" 2 ["piece"] wb:=by
 exists 0,T.AM,gU,wb;rename_i t;refine⟨_,(aj (aO 1 gU.1.nd (FZ K rfl PySem.F.plainAttrs_tuple PySem.F.slot_tuple_index PySem.F.type_tuple_index (Js K rfl) (lR K rfl rfl T.uW) (cX (cK K (pv 0) au))))
 (aE (aj (aO 1 gU.1.nd (aL vK (aL jo (pv 1) au) (cK K (pv 0) au)))
 (aE (aj (aO 1 gU.1.nd (aL vK (aL jo (pv 1) au) (cK K (pv 0) au)))
 (aE (aj (aO 1 gU.1.nd (aL vK (aL jo (pv 1) au) (cK K (pv 0) au)))
 (aE (aj (aO 1 gU.1.nd (aL vK (aL jo (pv 1) au) (br (Bx T) HR (cX (cK K (pv 0) au)))))
 (aE (aj (aO 1 gU.1.nd (aL vK (aL jo (pv 1) au) (aY (lE K rfl) (by rfl) T.lY iM (cX (cK K (pv 0) au)))))
 (aE (aq (aH (aL vK (aL jo (pv 1) au) (br (zK T) HR (cX (cK K (pv 0) au)))))))))))))))))),?_⟩
 obtain⟨k,n,a,r,hs,z,⟨hh,d,E,hl,I⟩,p,q⟩:=h;have pb:=p.parts;have pk:=Gr p.hk;obtain⟨j,rfl⟩:∃j:Nat,n=j:=⟨n.toNat,by have:=p.n0;lia⟩;obtain⟨i,rfl⟩:∃i:Nat,a=i:=⟨a.toNat,by have:=p.a0;lia⟩;obtain⟨m,rfl⟩:∃m:Nat,r=m:=⟨r.toNat,by have:=p.r0;lia⟩;have J:=pb.n;have G:=pb.a;have H:=pb.r;rw[Int.toNat_natCast] at J G H;unfold fR Lb at q;rw[Int.toNat_natCast,Int.toNat_natCast,Int.toNat_natCast] at q;simp only[Nat.reducePow] at q;have p4:=pb.h;have p5:=pb.len;have p6:=pb.s;have b1:=pk.2;generalize kidx k=ki at*
 generalize h_u1:aD _=u1;exists 9;intro tk htk u;refine⟨u _,dS (dX.of d) rfl ?_⟩;exists 9;refine⟨kinds,htk _,ki,pk.1,?_⟩;rw[<-h_u1,aD];generalize h_u2:aD _=u2;exists 9;refine⟨cshl (by decide) (by decide) (by lia) (by lia),dS (dX.of d) rfl ?_⟩;exists 9;rw[Zf (by lia)];have c1:ki*64+j<512:=by lia
 generalize ki*64+j=B1 at*
 rw[<-h_u2,aD];generalize h_u3:aD _=u3;exists 9;refine⟨cshl (by decide) (by decide) (by lia) (by lia),dS (dX.of d) rfl ?_⟩;exists 9;rw[Zf (by lia)];have X:B1*64+i<32768:=by lia
 generalize B1*64+i=v at*
 rw[<-h_u3,aD];generalize h_u4:aD _=Z;exists 9;refine⟨cshl (by decide) (by decide) (by lia) (by lia),dS (dX.of d) rfl ?_⟩;exists 9;rw[agV (by lia)];have Y:v*32+m<1048576:=by lia
 generalize v*32+m=C at*
 rw[<-h_u4,aD];generalize h_u5:aD _=u5;exists 9;refine⟨cshl (by decide) (by decide) (by lia) (by lia),dS (dX.of d) rfl ?_⟩;exists 9;refine⟨hs,E,p.hh,hl,fun H2 x=>?_⟩;rw[RA (by lia)];have U:C*32768+fQ hs<34359738368:=by lia
 generalize C*32768+fQ hs=y at*
 have f:=x _ _ d;rw[<-h_u5,aD];generalize h_u6:aD _=u6;exists 9;refine⟨cshl (by decide) (by decide) (by lia) (by lia),dS (dX.of f) rfl ?_⟩;exists 9;refine⟨bq I,?_⟩;rw[or8 (by lia)];have O:y*8+z.length<274877906944:=by lia
 generalize y*8+z.length=B5 at*
 rw[<-h_u6,aD];exists 9;refine⟨cshl (by decide) (by decide) (by lia) (by lia),dS (dX.of f) rfl ?_⟩;exists 9;refine⟨⟨p.hl,p.hs⟩,?_⟩;rw[agW (by lia)];exact q _ x
include T in theorem C_:FA P w K mg base "written" 4 ["piece"] (vV aI):=by
 exists 1,T.AF,CL,vV;rename_i t;refine⟨_,(aj (bD (PT.nox (dO (nC (br (A6 T) HR (cX (pv 0)))))) (aq (fb T.pT (nh T) T.rA HR (by decide) oX rfl rfl rfl (cX (pv 0)))) aU)
 (aE (aj (PS.nox (aO 1 CL.1.nd (aL jo (br (Jp T) HR (cX (pv 0))) (cg rfl T.nJ))))
 (aq (PS.nox (aH (aL vK (pv 1) (br (yi T) HR (cX (pv 1)))))))))),?_⟩
 obtain⟨k,n,a,r,hs,i,m,q1,q2⟩:=h;generalize h_u1:aD _=z;exists 9;refine⟨k,n,a,r,hs,i,m,fun E j=>?_⟩;cases c:cD k n a r hs i
 ·rw[if_pos rfl];intro e he
  first|refine⟨ar,fun d hd=>⟨_,ar,?_⟩⟩|refine fun d hd=>⟨_,rfl,?_⟩
  obtain⟨s1,s2⟩:=dropx (C:=aI) (f:="what") (v:= .ref t) j he hd;exact q2 c _ d s1 s2
 rw[if_neg (by decide)];have p:=C4 c;have pl:=p.parts.lt;have y:fR k n a r hs i<2 ^ 66:=pl;rw[<-h_u1,aD];exists 9;refine⟨k,n,a,r,hs,i,m.same j,p,fun x u=>?_⟩;have fin:=q1 c x (j.trans u);unfold ip at fin;generalize fR k n a r hs i=B at*
 refine⟨cshl (by decide) (by decide) (by lia) (by lia),⟨by lia,by lia⟩,?_⟩;rw[show((B:Int)*256).toNat=B*256 by lia,show(B:Int)*256=((B*256:Nat):Int) by lia,BitI.F0];exact fin
include T in theorem HH:FA P w K mg base "is_frame" 1 ["number"] sS:=by
 exists 0,T.xH,Ho,sS;rename_i f;refine⟨_,(aq (aH (di (dP C8 (pv 0) au) (nY (dP (nE K rfl HR.units) (aL mz (pv 0) (cg rfl T.se)) au))))),?_⟩;exists 9;by_cases c:0<=f
 ·rw[if_pos c];have e:decide (f / 18889465931478580854784=0)=decide (0<=f/\f<18889465931478580854784):=by
   rw[decide_eq_decide];lia
  rw[e];exact h
 ·rw[if_neg c];rw[decide_eq_false (by lia)] at h;exact h
include T in theorem Jk:FA P w K mg base "sign_of" 1 ["code"] vW:=by
 exists 0,T.AG,IV,vW;rename_i c;refine⟨_,(aq (aH (lS (bw m_ (pv 0) (aY (lE K rfl) (by rfl) T.lY iM (cX (cg rfl T.r_)))) (cK K (cg rfl T.r_) (pv 0)) (cg rfl T.AR)))),?_⟩;obtain⟨h0,q⟩:=h;exists 9;have d:mq.length=94:=by decide+kernel
 refine⟨by decide+kernel,?_⟩;unfold sgc at q;by_cases f:c<(94:Int)
 ·rw[if_pos (by show c<((mq.length:Nat):Int);rw[d];exact f)];rw[if_pos (by lia)] at q;obtain⟨j,rfl⟩:∃j:Nat,c=(j:Int):=⟨c.toNat,by lia⟩;rw[Int.toNat_natCast] at q;have i:j<sgl.length:=by rw[Kc];lia
  refine⟨sgl.getD j 0,by decide+kernel,?_,q⟩;have e:sgl[j]?=some (sgl.getD j 0):=by rw[List.getD_eq_getElem?_getD,List.getElem?_eq_getElem i];rfl
  exact qp e
 ·rw[if_neg (by show¬c<((mq.length:Nat):Int);rw[d];exact f)];rw[if_neg (by lia)] at q;exact q
include T in theorem HG:FA P w K mg base "signs_of" 2 ["bits"] sP:=by
 exists 0,T.xF,Hm,sP;rename_i b;refine⟨_,(aq (aH (FZ K rfl PySem.F.plainAttrs_str PySem.F.slot_str_join PySem.F.type_str_join (Ot K rfl) bR (cX (jm (N:=(["shift","bits"]:List Str)) (nv:=1) (ix:=[0]) rfl (qk (by kernel_rfl)) (dq K rfl (cJ (dz au (dz au (c9 au au))))) (fun _ _ _ _ _=>(bu 0 (show((["shift","bits"]:List Str)).Nodup by decide))) (fun _ _ _ _ _=>qZ) (fun _ _ _ _ _=>(br (Jk T) HR (cX (aL wH (aL mz (pv 1) (pv 0)) au))))))))),?_⟩;obtain⟨h0,q⟩:=h;obtain⟨b,rfl⟩:∃j:Nat,b=(j:Int):=⟨b.toNat,by lia⟩;rw[Int.toNat_natCast] at q;exists 9;intro p hp;have ht:=ar (H:=H) (a:=p) (o:= .tup [.int 21,.int 14,.int 7,.int 0]);have s1:=aJ (o:= .tup [.int 21,.int 14,.int 7,.int 0]) hp;generalize upd H p (.tup [.int 21,.int 14,.int 7,.int 0])=d at*
 refine AN (p:=fun _=>true) (f:=fun v=>match v with | .int i=> .str (sgc (b / 2 ^ i.toNat % 128))|_=> .non) (dX.of ht) (bq (by simp)) (fun x _ Q h=>h) (fun x hx _ Q h=>?_) ?_
 ·obtain⟨i,hi,rfl⟩:∃i:Nat,i<=21/\x = .int (i:Int):=by
   simp only[List.mem_cons,List.not_mem_nil,or_false] at hx;rcases hx with rfl|rfl|rfl|rfl
   ·exact⟨21,by decide,rfl⟩
   ·exact⟨14,by decide,rfl⟩
   ·exact⟨7,by decide,rfl⟩
   ·exact⟨0,by decide,rfl⟩
  exists 9;refine⟨by lia,?_⟩;have e:(b:Int) / 2 ^ (i:Int).toNat=((b / 2 ^ i:Nat):Int):=by simp
  rw[e,YG];refine⟨by lia,?_⟩;rw[Int.toNat_natCast];replace h:Q (.str (sgc (b / 2 ^ (i:Int).toNat % 128))) d:=h;rw[Int.toNat_natCast] at h;exact h
 ·have e:((([.int 21,.int 14,.int 7,.int 0]:List V).filter fun _=>true).map fun v=>match v with | .int i=>V.str (sgc (b / 2 ^ i.toNat % 128))|_=> .non)=(oJ b).map V.str:=by
   show[V.str (sgc (b / 2 ^ 21 % 128)),V.str (sgc (b / 2 ^ 14 % 128)),V.str (sgc (b / 2 ^ 7 % 128)),V.str (sgc (b / 2 ^ 0 % 128))]=_;unfold oJ;simp
  rw[e];refine⟨bq (by show 4<=1000;decide),fun l hl=>⟨oJ b,cT.of ar,?_,q _ (s1.trans (aJ hl))⟩⟩;rw[MO];show 4+4*0<=1000000;decide
include T in theorem Jl:FA P w K mg base "kind_of" 1 ["code"] vX:=by
 exists 0,T.AH,IW,vX;rename_i c;refine⟨_,(aq (aH (lS (bw m_ (pv 0) (aY (lE K rfl) (by rfl) T.lY iM (cX (lR K rfl rfl T.uW)))) (cK K (lR K rfl rfl T.uW) (pv 0)) (cg rfl T.AS)))),?_⟩;obtain⟨h0,q⟩:=h;exists 9;intro tk htk u;refine⟨_,.inr (htk _),?_⟩;by_cases m:c<(5:Int)
 ·rw[if_pos (show c<(([V.str "bare",V.str "signs",V.str "begin",V.str "end",V.str "ask"]:List V).length:Int) from m)];rw[if_pos (by lia)] at q;intro x f _;obtain⟨j,rfl⟩:∃j:Nat,c=(j:Int):=⟨c.toNat,by lia⟩;rw[Int.toNat_natCast] at q;have i:j<5:=by lia
  refine dS (f _) (v:= .str (kinds.getD j "")) ?_ q;have d:∀j:_root_.Fin 5,([V.str "bare",V.str "signs",V.str "begin",V.str "end",V.str "ask"]:List V)[j.val]?=some (.str (kinds.getD j.val "")):=fun j=>by
   obtain⟨j,i⟩:=j
   match j,i with
   |0,_=>rfl
   |1,_=>rfl
   |2,_=>rfl
   |3,_=>rfl
   |4,_=>rfl
  exact qp (d ⟨j,i⟩)
 ·rw[if_neg (show¬c<(([V.str "bare",V.str "signs",V.str "begin",V.str "end",V.str "ask"]:List V).length:Int) from m)];rw[if_neg (by lia)] at q;exact q
include T in theorem Jo:FA P w K mg base "held_of" 1 ["bits"] wa:=by
 exists 0,T.AL,IZ,wa;rename_i b;refine⟨_,(aq (aH (wF (Ba K rfl) (by rfl) T.sf uL (cX (jm (N:=(["step","bits"]:List Str)) (nv:=1) (ix:=[0]) rfl (qk (by kernel_rfl)) (uR rfl T.dv (c9 au (a_ K (cg rfl T.o7) au))) (fun _ _ _ _ _=>(bu 0 (show((["step","bits"]:List Str)).Nodup by decide))) (fun _ _ _ _ _=>(uQ (eg K HR (aL wH (aL mz (pv 1) (aL dA (pv 0) au)) au) au))) (fun _ _ _ _ _=>(pv 0))))))),?_⟩;obtain⟨h0,q⟩:=h;obtain⟨b,rfl⟩:∃j:Nat,b=(j:Int):=⟨b.toNat,by lia⟩;rw[Int.toNat_natCast] at q;exists 9;refine GJ (p:=fun v=>match v with | .int s=>decide (b / 2 ^ (s-1).toNat % 2=1)|_=>false) (f:=fun v=>v) (bq (by decide)) (fun i hi Q h=>?_) (fun i hi _ Q h=>?_) ?_
 ·exists 9;refine⟨by lia,?_⟩;have e:(b:Int) / 2 ^ ((1:Int)+(i:Int)-1).toNat=((b / 2 ^ i:Nat):Int):=by
   rw[show((1:Int)+(i:Int)-1).toNat=i by lia];simp
  rw[e,akG];replace h:Q (decide (b / 2 ^ ((1:Int)+(i:Int)-1).toNat % 2=1)) H:=h;rw[show((1:Int)+(i:Int)-1).toNat=i by lia] at h;have d:decide (((b / 2 ^ i % 2:Nat):Int)=1)=decide (b / 2 ^ i % 2=1):=by rw[decide_eq_decide];lia
  rw[d];exact h
 ·exists 9;exact h
 ·rw[Lx,Io];have lf:(Held.ones.filter fun s=>decide (b / 2 ^ (s-1).toNat % 2=1)).length<=15:=Nat.le_trans (List.length_filter_le _ _) (by decide);refine⟨bq (by rw[List.length_map];exact Nat.le_trans lf (by decide)),fun l hl=>⟨_,.inl ⟨cT.of ar,fun t ht=>q t _ ((aJ hl).trans (aJ ht)) ar⟩⟩⟩
include T in theorem Bw:FA P w K mg base "likely_piece" 3 ["body"] l9:=by
 exists 0,T.ot,Bg,l9;rename_i b;refine⟨_,(YJ.h (Kq (Vg (Vh (Bu ⟨(br (Jl T) HR (cX (aL mz (pv 0) au)))⟩ (Bu ⟨(aL wH (aL mz (pv 0) au) au)⟩ (Bu ⟨(aL wH (aL mz (pv 0) au) au)⟩ (Bu ⟨(aL wH (aL mz (pv 0) au) au)⟩ (Bu ⟨(br (Jo T) HR (cX (aL mz (pv 0) au)))⟩ (Bu ⟨(ye (QT K rfl) (br (HG T) HR (cX (pv 0))) Ri (rh (aL wH (aL mz (pv 0) au) au)))⟩ zE)))))))))),?_⟩;obtain⟨h0,q⟩:=h;obtain⟨b,rfl⟩:∃F:Nat,b=(F:Int):=⟨b.toNat,by lia⟩;rw[Int.toNat_natCast] at q;exists 9;refine⟨by lia,by lia,fun hh E z f=>⟨by lia,fun G i=>⟨by rw[Int.toNat_natCast,HX];exact bq (by decide),fun t ht=>?_⟩⟩⟩;have e:∀k:Nat,((b:Int) / (k:Int)).toNat=b / k:=fun k=>by rw[show(b:Int) / (k:Int)=((b / k:Nat):Int) by simp,Int.toNat_natCast]
 have d:∀k:Nat,(b:Int) / (k:Int)=((b / k:Nat):Int):=fun k=>by simp
 refine q t _ ((z.trans i).trans (aJ ht)) ⟨hh,?_,?_,Nat.le_trans (RS b) (by decide),?_⟩
 ·rw[ar];have a1:((b:Int) / 9223372036854775808).toNat=b / 9223372036854775808:=e 9223372036854775808;have j:(b:Int) / 144115188075855872=((b / 144115188075855872:Nat):Int):=d 144115188075855872;have v:(b:Int) / 2251799813685248=((b / 2251799813685248:Nat):Int):=d 2251799813685248;have y:(b:Int) / 70368744177664=((b / 70368744177664:Nat):Int):=d 70368744177664;have u:(b:Int) / 268435456=((b / 268435456:Nat):Int):=d 268435456;rw[a1,j,v,y,u,UM,UM,ago,akF,Int.toNat_natCast];rfl
 ·have m:((b:Int) / 2147483648).toNat=b / 2147483648:=e 2147483648;have C:∀x,x=b / 2147483648->(Held.ones.filter fun s=>decide (x / 2 ^ (s-1).toNat % 2=1))=HV b:=by rintro _ rfl;rfl
  replace f:E hh=some (.tup ((HV b).map V.int)):=f.trans (congrArg (fun l=>some (HO.tup (List.map V.int l))) (C _ m));exact cb (i _ _ f) ht
 ·unfold MX;have:=Txt.slice_le (Txt.join "" (oJ b)) none (some ((b / 268435456 % 8:Nat):Int));rw[HX] at this;lia
include T in theorem RH:FA P w K mg base "read" 5 ["frame"] (FC aN aR aI):=by
 exists 1,T.JJ,Ke,FC;rename_i u;refine⟨_,(aj (bD (PT.nox (dO (nC (br (HH T) HR (cX (pv 0)))))) (aq (fb T.uP (vp T) T.wW HR (by decide) oX rfl rfl rfl (cX (pv 0)))) aU)
 (aE (aj (bD (PT.nox (wB K HR (br (yi T) HR (cX (pv 0))) au)) (aq (fb T.xQ (wJ T) T.z7 HR (by decide) oX rfl rfl rfl (cX (pv 0)))) aU)
 (aE (aj (PS.nox (aO 1 Ke.1.nd (br (Bw T) HR (cX (aL mz (pv 0) (cg rfl T.nJ))))))
 (aE (aj (bD (PT.nox (PW.pt (pw_or (dO (nC (br (A6 T) HR (cX (pv 1))))) (pw_or1 (wB K HR (br (C_ T) HR (cX (pv 1))) (pv 0)))))) (aq (fb T.pT (nh T) T.rA HR (by decide) oX rfl rfl rfl (cX (pv 0)))) aU)
 (aE (aq (PS.nox (aH (pv 1)))))))))))),?_⟩
 obtain⟨q1,q2,q3,q4⟩:=h;generalize h_u1:aD _=Z;exists 9;by_cases c0:0<=u/\u<18889465931478580854784;rotate_left
 ·rw[if_pos c0];intro e he
  first|refine⟨ar,fun d hd=>⟨_,ar,?_⟩⟩|refine fun d hd=>⟨_,rfl,?_⟩
  obtain⟨s1,s2⟩:=dropx (C:=aN) (f:="frame") (v:= .int u) (a8.refl _) he hd;exact q1 c0 _ d s1 s2
 rw[if_neg (not_not_intro c0)];obtain⟨fr,rfl⟩:∃fr:Nat,u=(fr:Int):=⟨u.toNat,by lia⟩;rw[Int.toNat_natCast] at q2 q3 q4;have q2:=q2 c0;have q3:=q3 c0;have q4:=q4 c0;rw[<-h_u1,aD];generalize h_u2:aD _=u2;exists 9;refine⟨⟨by lia,by lia⟩,?_⟩;rw[Int.toNat_natCast];by_cases I:Rem.R fr=0;rotate_left
 ·rw[if_pos (by lia)];intro e he
  first|refine⟨ar,fun d hd=>⟨_,ar,?_⟩⟩|refine fun d hd=>⟨_,rfl,?_⟩
  obtain⟨s1,s2⟩:=dropx (C:=aR) (f:="frame") (v:= .int (fr:Int)) (a8.refl _) he hd;exact q2 I _ d s1 s2
 rw[if_neg (by lia)];have q3:=q3 I;have q4:=q4 I;rw[<-h_u2,aD];generalize h_u3:aD _=u3;exists 9;have X:((fr:Int) / 256).toNat=fr / 256:=by lia
 refine⟨by lia,fun t H1 U y=>?_⟩;rw[X] at y;rw[<-h_u3,aD];generalize h_u4:aD _=Y;exists 9;refine⟨_,_,_,_,_,_,y,fun O G=>?_⟩;have fail:tO fr=false->∀i,a8 H i->∀e,i e=none->upd i e (.ext (uU e aI none)) e=some (.ext (uU e aI none))/\∀d,upd i e (.ext (uU e aI none)) d=none->∃dx,upd (upd (upd i e (.ext (uU e aI none))) d (.xd [("what",.int (fr:Int))])) e (.ext (uU e aI (some d))) e=some (.ext (uU e aI dx))/\E (.ref aI) dx (o6 (upd (upd (upd i e (.ext (uU e aI none))) d (.xd [("what",.int (fr:Int))])) e (.ext (uU e aI (some d)))) e):=fun g i F e he=>by
  first|refine⟨ar,fun d hd=>⟨_,ar,?_⟩⟩|refine fun d hd=>⟨_,rfl,?_⟩
  obtain⟨s1,s2⟩:=dropx (C:=aI) (f:="what") (v:= .int (fr:Int)) F he hd;exact q3 g _ d s1 s2
 have m:=U.trans G;cases x:cD (BJ (fr / 256)) (MY (fr / 256)) (MZ (fr / 256)) (RQ (fr / 256)) (HV (fr / 256)) (MX (fr / 256))
 ·rw[if_pos rfl]
  first|exact fail (by unfold tO;rw[x,Bool.false_and]) O m|exact fun e he d hd=>by have z:=(fail (by unfold tO;rw[x,Bool.false_and]) O m e he).2 d hd;rw[ar] at z;exact z
 ·rw[if_neg (by decide)];refine⟨_,_,_,_,_,_,y.same G,fun _ i F=>?_,fun hh=>by rw[x] at hh;cases hh⟩;have j:=m.trans F;by_cases J:ip (BJ (fr / 256)) (MY (fr / 256)) (MZ (fr / 256)) (RQ (fr / 256)) (HV (fr / 256)) (MX (fr / 256))=fr
  ·rw[if_neg (by lia)];rw[<-h_u4,aD];exists 9;exact q4 (by unfold tO;rw[x,Bool.true_and,decide_eq_true J]) t i j ((y.same G).same F)
  ·rw[if_pos (by lia)]
   first|exact fail (by unfold tO;rw[decide_eq_false J,Bool.and_false]) i j|exact fun e he d hd=>by have z:=(fail (by unfold tO;rw[decide_eq_false J,Bool.and_false]) i j e he).2 d hd;rw[ar] at z;exact z
include T in theorem RI:FA P w K mg base "need" 1 ["room","lag"] FD:=by
 exists 0,T.JK,QW,FD;rename_i r l;refine⟨_,(aq (aH (lS (eg K HR (pv 0) au) (a_ K au (aL cB (pv 1) au)) (aL dA (a_ K (aL kN au (pv 0)) (pv 1)) au)))),?_⟩;exists 9;unfold n8 at h;split
 ·rename_i c;rw[if_pos c] at h;exact h
 ·rename_i c;rw[if_neg c] at h;exact h
include T in theorem F3:FA P w K mg base "are_waits" 2 ["first","longest"] qv:=by
 exists 0,T.t9,FG,qv;rename_i f l;refine⟨_,(aq (aH (di (br (dQ T) HR (dz (pv 1) (c9 (cg rfl T.dW) (cg rfl T.uI)))) (nY (br (dQ T) HR (dz (pv 0) (c9 (cg rfl T.dW) (pv 1)))))))),?_⟩;exists 9;by_cases c:2<=l/\l<=64
 ·rw[if_pos (Gx c)];have e:eV f 2 l=decide ((2<=l/\l<=64)/\2<=f/\f<=l):=by rw[Bool.eq_iff_iff,qg,decide_eq_true_eq];exact⟨fun k=>⟨c,k⟩,fun k=>k.2⟩
  rw[e];exact h
 ·rw[if_neg (by rw[Gy c];decide)];rw[decide_eq_false (fun k=>c k.1)] at h;exact h
include T in theorem vo:MA P w K mg base aP "__init__" 1 ["self","least"] (f7 aP):=by
 exists 0,T.iF,vb,f7;rename_i e l;refine⟨_,(aq (tw T.uO T.fq (pv 0) (pv 1))),?_⟩;obtain⟨he,q⟩:=h;exists he;exact⟨e,rfl,he,q⟩
include T in theorem F5:FA P w K mg base "are_rooms" 2 ["rooms"] qy:=by
 exists 0,T.ur,FI,qy;rename_i p;refine⟨_,(aq (aH (di (aY (AO K rfl) (by rfl) T.cC cS (c9 (pv 0) (A5 rfl T.sf uL))) (di (dP (nE K rfl HR.units) (aY (fN K rfl) (by rfl) T.lY iM (cX (pv 0))) au) (nY (aY (AQ K rfl rfl) (by rfl) T.Iw JQ (cX (jm (N:=(["room"]:List Str)) (nv:=1) (ix:=[]) rfl (qk (by kernel_rfl)) (dq K rfl (pv 0)) (fun _ _ _ _ _=>(bu 0 (show((["room"]:List Str)).Nodup by decide))) (fun _ _ _ _ _=>qZ) (fun _ _ _ _ _=>(br (dQ T) HR (dz (pv 0) (c9 au (cg rfl T.j2))))))))))))),?_⟩;obtain⟨o,t,hp,q⟩:=h;exists hp;refine AN (p:=fun _=>true) (f:=fun x=>match x with | .int i=> .bl (eV i 1 16)|_=> .non) (dX.of hp) (bq (by simp)) (fun x _ Q h=>h) (fun x hx _ Q h=>?_) ?_
 ·simp only[List.mem_cons,List.not_mem_nil,or_false] at hx;rcases hx with rfl|rfl<;>(exists 9;exact h)
 ·refine⟨bq (by simp),fun l hl=>⟨[eV o 1 16,eV t 1 16],cT.of ar,?_⟩⟩;have:=q _ (aJ (o:= .lst [.bl (eV o 1 16),.bl (eV t 1 16)]) hl);have e:([eV o 1 16,eV t 1 16].all id)=decide ((1<=o/\o<=16)/\1<=t/\t<=16):=by
   rw[Bool.eq_iff_iff,decide_eq_true_eq,<-qg,<-qg];simp
  rw[e];exact this
include T in theorem yj:MA P w K mg base bj "__init__" 3 ["self","ring","rooms","lag","first","longest"] (iT bj aT aP):=by
 exists 1,T.lA,oW,iT;rename_i x r p g f l;refine⟨_,(aj (bD (PT.nox (dO (PW.pt (pw_and (nC (br (dQ T) HR (dz (pv 1) (c9 au (cg rfl T.uK))))) (pw_and (nC (br (F5 T) HR (cX (pv 2)))) (pw_and1 (nC (br (dQ T) HR (dz (pv 3) (c9 au (cg rfl T.xK))))))))))) (aq (zG T.qt oX rfl rfl rfl)) aU)
 (aE (aj (bD (PT.nox (dO (nC (br (F3 T) HR (c9 (pv 4) (pv 5)))))) (aq (zG T.qt oX rfl rfl rfl)) aU)
 (aE (aj (PS.nox (aO 6 oW.1.nd (aY (Fs K rfl rfl) (by rfl) T.Bb AV (cX (jm (N:=(["room","lag"]:List Str)) (nv:=1) (ix:=[3]) rfl (qk (by kernel_rfl)) (dq K rfl (pv 2)) (fun _ _ _ _ _=>(bu 0 (show((["room","lag"]:List Str)).Nodup by decide))) (fun _ _ _ _ _=>qZ) (fun _ _ _ _ _=>(br (RI T) HR (c9 (pv 0) (pv 1)))))))))
 (aE (aj (bD (PT.nox (bw m_ (pv 1) (pv 6))) (aq (fb T.uO (vo T) T.wV HR (by decide) oX rfl rfl rfl (cX (pv 6)))) aU)
 (aE (aj (PS.nox (aQ (pv 0) (pv 1) T.c7 T.fH))
 (aj (PS.nox (aQ (pv 0) (pv 2) T.c7 T.dj))
 (aj (PS.nox (aQ (pv 0) (pv 3) T.c7 T.tI))
 (aj (PS.nox (aQ (pv 0) (pv 4) T.c7 T.lL))
 (aq (PS.nox (aQ (pv 0) (pv 5) T.c7 T.dY))))))))))))))),?_⟩
 obtain⟨o,t,dx,hp,hx,q1,q2,q3⟩:=h;generalize h_u1:aD _=u1;exists 9;by_cases c1:2<=r/\r<=64;rotate_left
 ·rw[if_neg (by rw[Gy c1];decide)];exact q1 (fun hg=>c1 hg.1) H (a8.refl _)
 rw[if_pos (Gx c1)];refine⟨o,t,hp,fun F j=>?_⟩;by_cases z:(1<=o/\o<=16)/\1<=t/\t<=16;rotate_left
 ·rw[if_neg z];exact q1 (fun hg=>z hg.2.1) F j
 rw[if_pos z];by_cases E:1<=g/\g<=32;rotate_left
 ·rw[if_pos (Gy E)];exact q1 (fun hg=>E hg.2.2.1) F j
 rw[if_neg (by rw[Gx E];decide)];rw[<-h_u1,aD];generalize h_u2:aD _=u2;exists 9;by_cases y:(2<=l/\l<=64)/\2<=f/\f<=l;rotate_left
 ·rw[if_pos y];exact q1 (fun hg=>y hg.2.2.2) F j
 rw[if_neg (not_not_intro y)];have hg:good r o t g f l:=⟨c1,z,E,y⟩;have J:=j _ _ hp;have G:=j _ _ hx;rw[<-h_u2,aD];generalize h_u3:aD _=u3;exists 9;refine AN (p:=fun _=>true) (f:=fun x=>match x with | .int i=> .int (n8 i g)|_=> .non) (dX.of J) (bq (by simp)) (fun x _ Q h=>h) (fun x hx _ Q h=>?_) ?_
 ·simp only[List.mem_cons,List.not_mem_nil,or_false] at hx;rcases hx with rfl|rfl<;>(exists 9;exact h)
 refine⟨bq (by simp),fun l1 m=>⟨[n8 o g,n8 t g],cT.of ar,by simp,fun M Y hle=>?_⟩⟩;have U:M=pH o t g:=by
  have h1:=hle (n8 o g) (by simp);have Z:=hle (n8 t g) (by simp);simp only[List.mem_cons,List.not_mem_nil,or_false] at Y;unfold pH;split<;>lia
 subst U;have O:a8 H _:=fun b u e=>aJ (o:= .lst ((([V.int o,V.int t]:List V).filter fun _=>true).map fun x=>match x with | .int i=> .int (n8 i g)|_=> .non)) m b u (j b u e)
 have R8:=cb (o:= .lst ((([V.int o,V.int t]:List V).filter fun _=>true).map fun x=>match x with | .int i=> .int (n8 i g)|_=> .non)) G m
 generalize upd F l1 (.lst ((([V.int o,V.int t]:List V).filter fun _=>true).map fun x=>match x with | .int i=> .int (n8 i g)|_=> .non))=H2 at*
 rw[<-h_u3,aD];generalize h_u4:aD _=u4;exists 9;by_cases v:r<pH o t g
 ·rw[if_pos v];intro e he d hd;refine⟨_,rfl,?_⟩;obtain⟨s1,s2⟩:=dropxl (C:=aP) (l:=[("least",.int (pH o t g))]) O he hd;exact q2 hg v _ d s1 s2
 rw[if_neg v];rw[<-h_u4,aD];exists R8;refine q3 hg v _ ?_ ar;exact fun b o X I=>by rw[ak I];exact O _ _ X
include T in theorem yn:MA P w K mg base ai "__init__" 1 ["self","most"] (iW ai):=by
 exists 0,T.lD,ya,iW;rename_i p m;refine⟨_,(aj (aQ (pv 0) (pv 1) T.bK T.nI)
 (aj (aQ (pv 0) (aY (qm rfl) (by rfl) T.D2 DZ (c9 au (pv 1))) T.bK T.bN)
 (aj (aQ (pv 0) (pv 1) T.bK T.dR)
 (aq (aQ (pv 0) au T.bK T.cv))))),?_⟩
 obtain⟨dx,hp,q⟩:=h;exists hp;exact q
include T in theorem ym:MA P w K mg base ai "know_one" 1 ["self"] (iV ai):=by
 exists 0,T.lC,x_,iV;rename_i p;refine⟨_,(aj (bD (eg K HR (aw (pv 0) T.bK T.bN) (aw (pv 0) T.bK T.nI)) (aq Kt) aU)
 (aj (bD (bw m_ (aw (pv 0) T.bK T.bN) (aw (pv 0) T.bK T.dR)) (aj (rf (pv 0) au T.bK T.bN rB)
 (aq Kt)) aU)
 (aj (rf (pv 0) au T.bK T.cv rB)
 (aq (bD (eg K HR (aw (pv 0) T.bK T.cv) (aw (pv 0) T.bK T.bN)) (aj (rf (pv 0) au T.bK T.bN rB)
 (aq (aQ (pv 0) au T.bK T.cv))) aU))))),?_⟩
 obtain⟨dx,m,w,k,c,hp,q⟩:=h;exists hp;unfold MeterM.k1 at q;split
 ·rename_i c1;rw[if_pos c1] at q;rw[M9 hp] at q;exact q
 ·rename_i c1;rw[if_neg c1] at q;split
  ·rename_i d;rw[if_pos d] at q;exact q
  ·rename_i d;rw[if_neg d] at q;split
   ·rename_i f;rw[if_pos f] at q;exact q
   ·rename_i f;rw[if_neg f] at q;exact q
include T in theorem Dd:MA P w K mg base ai "known" 2 ["self","many"] (nU ai):=by
 exists 0,T.pS,sY,nU;rename_i p n;refine⟨_,(aq (gn PassesOwn.never rfl (iO rfl T.dv (cX (pv 1))) (bu 2 sY.1.nd) (aq (bI (bO (pv 0) T.bK (ym T) HR))))),?_⟩;obtain⟨hn,dx,m,w,k,c,hp,q⟩:=h;exists 9;refine⟨by lia,?_⟩;refine tP (fun i σ H'=>H'=upd H p (.ins ai dx (a9 (.int m) (.int (MeterM.kn m k i (w,c)).1) (.int k) (.int (MeterM.kn m k i (w,c)).2)))/\∃f,σ= [some (.ref p),some (.int n),f]) ⟨by rw[MeterM.kn];exact(M9 hp).symm,none,rfl⟩ (fun i σ H' hi d=>?_) (fun σ H' d=>?_)
 ·obtain⟨rfl,f,rfl⟩:=d;exists 9;refine⟨dx,m,_,k,_,rfl,?_,_,rfl⟩;rfl
 ·obtain⟨rfl,f,rfl⟩:=d;exact q
include T in theorem vM:MA P w K mg base ai "half" 1 ["self"] (pC ai):=by
 exists 0,T.rW,Ek,pC;rename_i p;refine⟨_,(aq (aH (aY (qo rfl) (by rfl) T.Bb AV (c9 au (aL cB (aw (pv 0) T.bK T.bN) au))))),?_⟩;obtain⟨dx,m,w,k,c,hp,q⟩:=h;exists hp;exact q
include T in theorem zR:MA P w K mg base ai "ran_out" 2 ["self"] (kh ai):=by
 exists 0,T.mQ,zk,kh;rename_i p;refine⟨_,(aj (aQ (pv 0) (bO (pv 0) T.bK (vM T) HR) T.bK T.dR)
 (aj (aQ (pv 0) au T.bK T.bN)
 (aq (aQ (pv 0) au T.bK T.cv)))),?_⟩
 obtain⟨dx,m,w,k,c,hp,q⟩:=h;exists hp;exact⟨dx,m,w,k,c,rfl,q⟩
include T in theorem zS:MA P w K mg base ai "hurried" 2 ["self"] (kj ai):=by
 exists 0,T.mR,zp,kj;rename_i p;refine⟨_,(aj (aQ (pv 0) (bO (pv 0) T.bK (vM T) HR) T.bK T.dR)
 (aj (aQ (pv 0) (aw (pv 0) T.bK T.dR) T.bK T.bN)
 (aq (aQ (pv 0) au T.bK T.cv)))),?_⟩
 obtain⟨dx,m,w,k,c,hp,q⟩:=h;exists hp;exact⟨dx,m,w,k,c,rfl,q⟩
include T in theorem zJ:FA P w K mg base "lowest" 1 ["top","bottom"] y4:=by
 exists 0,T.DS,E7,y4;rename_i t b;refine⟨_,(aj (aO 2 E7.1.nd (aL wH (aL vK (pv 0) (pv 1)) (Og IJ (aL vK (pv 0) (pv 1)))))
 (aq (aH (cJ (c9 (aL C9 (pv 0) (pv 2)) (aL C9 (pv 1) (pv 2))))))),?_⟩
 obtain⟨⟨h0,h1,d⟩,q⟩:=h;exists 9;rw[WaysI.lowbit h0 h1];have hl:=WaysI.VS h0 h1;have hd:∀i,Qq i (WaysM.lb (t.toNat |||b.toNat):Nat):=fun i=>⟨hl.1,d.le (Int.le_of_lt hl.1) hl.2⟩;exact⟨hd _,hd _,q⟩
include T in theorem zM:MA P w K mg base av "__init__" 1 ["self","first","longest"] (j9 av):=by
 exists 0,T.mL,y_,j9;rename_i p f l;refine⟨_,(aj (aQ (pv 0) (pv 2) T.bJ T.fh)
 (aj (aQ (pv 0) cx T.bJ T.bC)
 (aj (aQ (pv 0) cx T.bJ T.b9)
 (aq (aQ (pv 0) (pv 1) T.bJ T.dI))))),?_⟩
 obtain⟨dx,hp,q⟩:=h;exists hp;exact q
include T in theorem vi:MA P w K mg base av "next_spread" 2 ["self","m"] (fU av):=by
 exists 0,T.iz,gc,fU;rename_i p m;refine⟨_,(aj (aO 2 gc.1.nd (aL oY (aS K (aw (pv 0) T.bJ T.bC) au) (aS K (aw (pv 0) T.bJ T.b9) au)))
 (aE (aj (aO 3 gc.1.nd (aY P_ (by rfl) T.Qg YC (cX (aL dA (aS K (aw (pv 0) T.bJ T.bC) au) (aL oY (pv 1) (aS K (aw (pv 0) T.bJ T.bC) au))))))
 (aE (aq (aH (br (zJ T) HR (c9 (a_ K (aL oY (aL kN au (aS K (aw (pv 0) T.bJ T.b9) au)) (aS K (aw (pv 0) T.bJ T.bC) au)) (aL oY (pv 3) (aS K (aw (pv 0) T.bJ T.b9) au))) (aL kN au (pv 2)))))))))),?_⟩
 obtain⟨dx,L,w,a,A,b,B,W,⟨x,v,hp,hs,i⟩,q⟩:=h;generalize h_u1:aD _=y;exists hp,hs,i;have j:=W.mB;have u:Bd 1002 (3*b):=Bd.mul (a:=2) (Bd.c (k:=3) (by decide)) W.b1;have f:=W.A1.mul W.B1;have d:=((W.a1.up (show 1000<=1020 by decide)).sub (j.mul W.A1)).abs;have C:=Int.mul_pos W.A0 W.B0;refine⟨wR W.A1 W.B1 (by decide) (by decide),?_⟩;rw[<-h_u1,aD];generalize h_u2:aD _=z;exists hp,hs,i;refine⟨wR j W.A1 (by decide) (by decide),_,rfl,?_⟩;rw[akI];rw[<-h_u2,aD];exists hp,hs,i;refine⟨wR u W.A1 (by decide) (by decide),wR d W.B1 (by decide) (by decide),⟨?_,by lia,((Bd.c (n:=3) (k:=4) (by decide)).mul f).up (by decide)⟩,q⟩;have:=Int.mul_nonneg (Int.mul_nonneg (show(0:Int)<=3 by decide) W.b0) (Int.le_of_lt W.A0);have:=Int.mul_nonneg (Int.natCast_nonneg (a-m*A).natAbs) (Int.le_of_lt W.B0);lia
include T in theorem vj:MA P w K mg base av "next_smooth" 2 ["self","m"] (fV av):=by
 exists 0,T.iA,uZ,fV;rename_i p m;refine⟨_,(aq (aH (br (zJ T) HR (c9 (a_ K (aL kN au (aS K (aw (pv 0) T.bJ T.bC) au)) (aL oY (pv 1) (aS K (aw (pv 0) T.bJ T.bC) au))) (aL kN au (aS K (aw (pv 0) T.bJ T.bC) au)))))),?_⟩;obtain⟨dx,L,s,d,w,a,A,⟨m0,m1,a0,A0,A1⟩,hp,hs,q⟩:=h;exists hp,hs;have:=Int.mul_nonneg m0 (Int.le_of_lt A0);exact⟨VN (by lia),⟨by lia,by lia,((Bd.c (n:=3) (k:=4) (by decide)).mul A1).up (by decide)⟩,q⟩
include T in theorem wI:MA P w K mg base av "least_wait" 1 ["self"] (gN av):=by
 exists 0,T.jQ,nW,gN;rename_i p;refine⟨_,(aj (aO 1 nW.1.nd (a_ K (aL oY (aS K (aw (pv 0) T.bJ T.bC) au) (aS K (aw (pv 0) T.bJ T.b9) au)) (aL oY (aL kN au (aS K (aw (pv 0) T.bJ T.b9) au)) (aS K (aw (pv 0) T.bJ T.bC) au))))
 (aE (aq (aH (Og IJ (aL C9 (Og IJ (pv 1)) (aL oY (aS K (aw (pv 0) T.bJ T.bC) au) (aS K (aw (pv 0) T.bJ T.b9) au)))))))),?_⟩
 obtain⟨dx,L,w,a,A,b,B,⟨A0,B0,a1,A1,b1,B1⟩,⟨f,j,hp,hs,d⟩,q⟩:=h;generalize h_u1:aD _=i;exists hp,hs,d;refine⟨wR a1 B1 (by decide) (by decide),wR ((Bd.c (n:=3) (k:=4) (by decide)).mul b1) A1 (by decide) (by decide),?_⟩;rw[<-h_u1,aD];exists hp,hs,d;exact⟨wR A1 B1 (by decide) (by decide),Ys (Int.mul_pos A0 B0) (A1.mul B1) (by decide),q⟩
include T in theorem zL:MA P w K mg base av "measured" 3 ["self","m"] (fw av):=by
 exists 0,T.mK,y9,fw;rename_i p m;refine⟨_,(aj (bD (bw oZ (aw (pv 0) T.bJ T.bC) cx) (aj (aQ (pv 0) (cJ (c9 (pv 1) au)) T.bJ T.bC)
 (aE (aq (aQ (pv 0) (br (zJ T) HR (c9 (pv 1) au)) T.bJ T.b9)))) (aj (aQ (pv 0) (bT (pv 0) T.bJ (vi T) HR (cX (pv 1))) T.bJ T.b9)
 (aE (aq (aQ (pv 0) (bT (pv 0) T.bJ (vj T) HR (cX (pv 1))) T.bJ T.bC)))))
 (aE (aq (aQ (pv 0) (aY (qo rfl) (by rfl) T.Bb AV (c9 (cg rfl T.jZ) (aY (qm rfl) (by rfl) T.D2 DZ (c9 (aw (pv 0) T.bJ T.fh) (bO (pv 0) T.bJ (wI T) HR))))) T.bJ T.dI)))),?_⟩
 obtain⟨hm,⟨dx,L,w,hp,q⟩|⟨dx,L,w,a,A,b,B,W,⟨C,U,hp,hs,O⟩,q⟩⟩:=h
 ·generalize h_u1:aD _=X;generalize h_u2:aD _=Y;generalize h_u3:aD _=Z;exists hp;intro z x;have n1:p≠z:=aG hp x;have e1:=cb (o:= .tup [V.int m,V.int 1]) hp x;exists e1;rw[<-h_u1,aD];exists 9;refine⟨⟨hm.1,Bd.up (a:=2) (Bd.c (k:=2) (by decide)) (by decide)⟩,fun E d=>?_⟩;have y:E≠p:=fresh_ne d;have v:z≠E:=fun e=>by rw[<-e,ak n1.symm,ar] at d;cases d
  have I:=cb (o:= .tup [V.int (WaysM.low m 2).1,V.int (WaysM.low m 2).2]) (ar (H:=upd H z (.tup [V.int m,V.int 1])) (a:=p) (o:= .ins av dx (bE (.int L) (.ref z) .non (.int w)))) d;exists I;rw[<-h_u3,aD];exists 9;obtain⟨s,F⟩:=WaysM.qc (t:=m) (b:=2) hm.1 (by decide);have l1:=F.t0;have l2:=F.b0;have l3:=F.tl;have l4:=F.bl;have J:Bd 20 m:=Bd.of hm.1 (by lia);refine⟨dx,L,w,m,1,(WaysM.low m 2).1,(WaysM.low m 2).2,⟨by decide,l2,J.up (by decide),Bd.up (a:=1) (Bd.c (k:=1) (by decide)) (by decide),(J.le l1 l3).up (by decide),(Bd.le (Bd.c (n:=2) (k:=2) (by decide)) (Int.le_of_lt l2) l4).up (by decide)⟩,⟨z,E,ar,?_,?_⟩,?_⟩
  ·rw[ak n1.symm,ak v,ak n1.symm,ar]
  ·rw[ak y,ar]
  ·refine q _ ?_ ⟨z,E,ar,?_,?_⟩
   ·intro b o u i;rw[ak i,ak,ak i,ak (aG u x)]
    ·exact u
    ·intro e;rw[e] at u;rw[ak y,ak v.symm] at d;rw[u] at d;cases d
   ·rw[ak n1.symm,ak v,ak n1.symm,ar]
   ·rw[ak y,ar]
 ·generalize h_u1:aD _=X;generalize h_u2:aD _=Y;generalize h_u3:aD _=Z;exists hp,hs,O;have n0:C≠p:=bS hs hp (by simp);refine⟨dx,L,w,a,A,b,B,W,⟨C,U,hp,hs,O⟩,fun q1 j=>?_⟩;have n1:p≠q1:=aG hp j;have n4:C≠q1:=aG hs j;have e1:=cb (o:= .tup [V.int (nsp a A b B m).1,V.int (nsp a A b B m).2]) hp j;exists e1;rw[<-h_u2,aD];exists 9;refine⟨dx,L,.ref q1,C,w,a,A,⟨hm.1,hm.2,W.a0,W.A0,W.A1⟩,rfl,by rw[ak n0,ak n4];exact hs,fun q2 f=>?_⟩;have y:q2≠p:=fresh_ne f;have v:q1≠q2:=fun e=>by rw[<-e,ak n1.symm,ar] at f;cases f
  have I:=cb (o:= .tup [V.int (nsm a A m).1,V.int (nsm a A m).2]) (ar (H:=upd H q1 (.tup [V.int (nsp a A b B m).1,V.int (nsp a A b B m).2])) (a:=p) (o:= .ins av dx (bE (.int L) (.ref C) (.ref q1) (.int w)))) f;exists I;rw[<-h_u3,aD];exists 9;have B1:=W.akt;have G:=W.aks;refine⟨dx,L,w,_,_,_,_,⟨B1.2.1,G.2.1,B1.2.2.1,B1.2.2.2,G.2.2.1,G.2.2.2⟩,⟨q2,q1,ar,?_,?_⟩,?_⟩
  ·rw[ak y,ar]
  ·rw[ak n1.symm,ak v,ak n1.symm,ar]
  ·refine q _ ?_ ⟨q2,q1,ar,?_,?_⟩
   ·intro b o u i;rw[ak i,ak,ak i,ak (aG u j)]
    ·exact u
    ·intro e;rw[e] at u;rw[ak y,ak v.symm] at f;rw[u] at f;cases f
   ·rw[ak y,ar]
   ·rw[ak n1.symm,ak v,ak n1.symm,ar]
include T in theorem sD:MA P w K mg base av "ran_out" 1 ["self"] (mf av):=by
 exists 0,T.ox,Bj,mf;rename_i p;refine⟨_,(aq (aQ (pv 0) (aY (qm rfl) (by rfl) T.D2 DZ (c9 (aL kN au (aw (pv 0) T.bJ T.dI)) (aw (pv 0) T.bJ T.fh))) T.bJ T.dI)),?_⟩;obtain⟨dx,L,s,sp,w,hp,q⟩:=h;exists hp;exact q
include T in theorem HI:FA P w K mg base "ahead" 1 ["ring","one","other"] CG:=by
 exists 0,T.GH,Nz,CG;rename_i r a b;refine⟨_,(aq (aH (aL b8 (aL dA (pv 2) (pv 1)) (pv 0)))),?_⟩;exists 9;exact h
include T in theorem lJ:MA P w K mg base aa "put" 1 ["self","thing"] (pB aa av ai):=by
 exists 0,T.rT,Ei,pB;rename_i x th;refine⟨_,(aq (bI (nZ K rfl (aw (pv 0) T.aC T.da) (pv 1)))),?_⟩;obtain⟨A,z,d,hl,q⟩:=h;exists d.hx,d.ht;refine⟨pV (cT.of d.ht),by rw[sizeLine_eq];lia,q _ lH.upd ?_⟩;exact d.row d.ht _ z.Kn z.Fi (by simp) (by simp) ar (by rw[ak (bS d.hk d.ht (by simp))];exact d.hk) (by rw[ak (bS d.hf d.ht (by simp))];exact d.hf) (bS d.ht d.ha (by simp))
include T in theorem fe:MA P w K mg base aa "many" 1 ["self"] (nT aa av ai):=by
 exists 0,T.pR,CQ,nT;rename_i x;refine⟨_,(aq (aH (aY (fN K rfl) (by rfl) T.lY iM (cX (aw (pv 0) T.aC T.da))))),?_⟩;obtain⟨A,z,d,q⟩:=h;exists d.hx,d.ht;exact q
include T in theorem sE:MA P w K mg base aa "thing" 1 ["self","place"] (mj aa av ai):=by
 exists 0,T.oA,Bl,mj;rename_i x p;refine⟨_,(aq (aH (aS K (aw (pv 0) T.aC T.da) (pv 1)))),?_⟩;obtain⟨A,z,v,d,f,q⟩:=h;exists d.hx,d.ht;exact⟨v,f,q⟩
include T in theorem fg:MA P w K mg base aa "known_above_base" 1 ["self"] (cU aa av ai):=by
 exists 0,T.c_,nX,cU;rename_i x;refine⟨_,(aq (aH (aY (fN K rfl) (by rfl) T.lY iM (cX (jm (N:=(["place","self"]:List Str)) (nv:=1) (ix:=[0]) rfl (qk (by kernel_rfl)) (uR rfl T.dv (c9 (a_ K (aw (pv 0) T.aC T.aW) au) (aw (pv 0) T.aC T.bh))) (fun _ _ _ _ _=>(bu 0 (show((["place","self"]:List Str)).Nodup by decide))) (fun _ _ _ _ _=>(uQ (zF (Oj HR.units (pv 0) (aw (pv 1) T.aC T.bY)) (lK rfl)))) (fun _ _ _ _ _=>(pv 0))))))),?_⟩;obtain⟨A,z,m,⟨b0,b1,C⟩,q⟩:=h;exists m.hx;refine⟨by lia,?_⟩;refine GJ (p:=fun v=>match v with | .int i=>knw z.Kn i|_=>false) (f:=fun v=>v) (bq (by lia)) ?_ ?_ ?_
 ·intro j y u d;exists m.hx,m.hk;exact d
 ·intro j y _ u d;exists 9;exact d
 have e:=RV (z:=z) rfl;have kl:=V3 (z:=z);refine⟨bq (by rw[e];lia),fun l hl=>?_⟩;rw[e];exact q _ (aJ hl)
include T in theorem vk:MA P w K mg base aa "under_way" 2 ["self"] (fW aa av ai):=by
 exists 0,T.iB,u9,fW;rename_i x;refine⟨_,(aq (aH (aL dA (aL dA (aw (pv 0) T.aC T.bh) (aw (pv 0) T.aC T.aW)) (bO (pv 0) T.aC (fg T) HR)))),?_⟩;obtain⟨A,z,d,f,q⟩:=h;exists d.hx;exact⟨A,z,d,f,fun H' i=>q H' i⟩
include T in theorem j6:MA P w K mg base aa "thing_waits" 2 ["self"] (d7 aa av ai):=by
 exists 0,T.fj,sG,d7;rename_i x;refine⟨_,(aq (aH (dP m_ (aw (pv 0) T.aC T.bh) (bO (pv 0) T.aC (fe T) HR)))),?_⟩;obtain⟨A,z,d,q⟩:=h;exists d.hx;exact⟨A,z,d,q⟩
include T in theorem rj:MA P w K mg base aa "hurry_is_due" 2 ["self"] (dJ aa av ai):=by
 exists 0,T.eF,qR,dJ;rename_i x;refine⟨_,(aq (aH (di (dP m_ (aw (pv 0) T.aC T.aW) (aw (pv 0) T.aC T.bh)) (di (Jg (aw (pv 0) T.aC T.bZ)) (nY (dP C8 (bO (pv 0) T.aC (fg T) HR) (cg rfl T.lG))))))),?_⟩;obtain⟨A,z,f,i,q⟩:=h;exists f.hx;by_cases c1:z.b<z.t
 ·rw[if_pos c1];cases d:z.hur
  ·rw[d] at q;refine⟨A,z,f,i,fun H' j=>?_⟩;have:=q H' j;simp only[decide_eq_true c1,Bool.true_and,Bool.not_false] at this;simpa using this
  ·rw[d] at q;have:=q H (a8.refl _);simpa [c1] using this
 ·rw[if_neg c1];have:=q H (a8.refl _);simpa [c1] using this
include T in theorem tF:MA P w K mg base aa "new_may_go" 3 ["self"] (eY aa av ai):=by
 exists 0,T.gA,sX,eY;rename_i x;refine⟨_,(aq (aH (di (bO (pv 0) T.aC (j6 T) HR) (di (dP m_ (aw (pv 0) T.aC T.bh) (aw (pv 0) T.aC T.cQ)) (nY (dP m_ (bO (pv 0) T.aC (vk T) HR) (aw (aw (pv 0) T.aC T.cZ) T.bK T.bN))))))),?_⟩;obtain⟨A,z,f,j,q⟩:=h;exists f.hx;refine⟨A,z,f,?_⟩;by_cases c1:z.t<z.T.length
 ·rw[if_pos c1];by_cases d:z.t<z.e
  ·rw[if_pos d];refine⟨A,z,f,j,fun H' i=>?_⟩;have S':=f.same i;obtain⟨em,hi⟩:=S'.ms;exists S'.hx,em;have:=q H' i;simpa [c1,d] using this
  ·rw[if_neg d];have:=q H (a8.refl _);simpa [c1,d] using this
 ·rw[if_neg c1];have:=q H (a8.refl _);simpa [c1] using this
include T in theorem j7:MA P w K mg base aa "newly_known" 1 ["self","places"] (d8 aa av ai):=by
 exists 0,T.fo,d_,d8;rename_i x l;refine⟨_,(aj (Kr (i:=2) (N:=(["place","self"]:List Str)) (nv:=1) (ix:=[0]) rfl d_.1.nd rfl rfl (qk (by kernel_rfl)) (dq K rfl (pv 1)) (fun _ _ _ _ _=>(bu 0 (show((["place","self"]:List Str)).Nodup by decide))) (fun _ _ _ _ _=>(uQ (zF (Ji HR.units (pv 0) (aw (pv 1) T.aC T.bY)) (lK rfl)))) (fun _ _ _ _ _=>(pv 0)))
 (aj (gn PassesOwn.never rfl (dq K rfl (pv 2)) (bu 3 d_.1.nd) (aq (FX HR.units (aw (pv 0) T.aC T.bY) (pv 3) cW)))
 (aq (aH (pv 2))))),?_⟩
 obtain⟨A,z,m,F,hl,hk,hpl,q⟩:=h;exists 9;refine Sx (xs:=m.map V.int) (p:=fun v=>match v with | .int i=>!knw z.Kn i|_=>false) (f:=fun v=>v) (cT.of hl) (bq (by rw[List.length_map];lia)) ?_ ?_ ?_
 ·intro y C Q' E;obtain⟨i,_,rfl⟩:=List.mem_map.mp C;exists F.hx,F.hk;exact E
 ·intro y C _ Q' E;exists 9;exact E
 rw[Yc];have U:(frs z.Kn m).length<=m.length:=List.length_filter_le _ _;refine⟨bq (by rw[List.length_map];lia),fun l1 j=>?_⟩;generalize frs z.Kn m=fs at*
 have Z:=F.same (aJ (o:= .lst (fs.map V.int)) j);have s1:=aJ (o:= .lst (fs.map V.int)) j;have k1:=ar (H:=H) (a:=l1) (o:= .lst (fs.map V.int));generalize upd H l1 (.lst (fs.map V.int))=H1 at*
 refine rC (xs:=fs.map V.int) (cT.of k1) (fun i σ H'=>H' l1=some (.lst (fs.map V.int))/\AX x A H H'/\bX aa av ai H' x A {z with Kn:=putAll z.Kn (fs.take i)}/\∃v,σ= [some (.ref x),some (.ref l),some (.ref l1),v]) ⟨k1,AX.of s1,Z,none,rfl⟩ (fun i σ H' _ hp=>cT.of hp.1) (fun i y σ H' C hp=>?_) (fun σ H' hp=>?_)
 ·obtain⟨h1,f1,d,v,rfl⟩:=hp;obtain⟨c,rfl,hc⟩:=tK C;have G:l1≠A.pk:=bS h1 d.hk (by simp);have hkl:(putAll z.Kn (fs.take i)).length<=z.Kn.length+(fs.take i).length:=qY;have htl:(fs.take i).length<=fs.length:=by rw[List.length_take];exact Nat.min_le_right _ _
  exists d.hx,d.hk;refine⟨by rw[sizeLine_eq];lia,by rw[ak G];exact h1,fun b u e a1 J X Y I O=>by rw[ak I];exact f1 b u e a1 J X Y I O,?_,_,rfl⟩;have et:putK (putAll z.Kn (fs.take i)) (ik c) (.bl true)=putAll z.Kn (fs.take (i+1)):=by
   rw[List.take_add_one,hc];exact putAll_snoc.symm
  rw[et];exact d.row d.hk z.T (putAll z.Kn (fs.take (i+1))) z.Fi (by simp) (by simp) (by rw[ak (bS d.ht d.hk (by simp))];exact d.ht) ar (by rw[ak d.kf.symm];exact d.hf) d.ka
 ·obtain⟨h1,f1,d,v,rfl⟩:=hp;rw[List.length_map,List.take_length] at d;exists 9;exact q l1 _ j f1 d h1
include T in theorem dr:MA P w K mg base aa "set_clock" 1 ["self","turn"] (fX aa av ai):=by
 exists 0,T.iC,u_,fX;rename_i x n;refine⟨_,(aq (aQ (pv 0) (a_ K (pv 1) (aw (aw (pv 0) T.aC T.cO) T.bJ T.dI)) T.aC T.cG)),?_⟩;obtain⟨A,z,d,q⟩:=h;obtain⟨s0,f,hw⟩:=d.ws.ins;exists d.hx,hw;exact q _ lH.upd (d.put _ _ _ _ _)
include T in theorem vn:MA P w K mg base aa "grow_base" 2 ["self","steps"] (fZ aa av ai):=by
 exists 0,T.iE,m9,fZ;rename_i x st;refine⟨_,(aj (aO 2 m9.1.nd (aw (pv 0) T.aC T.aW))
 (aj (rf (pv 0) (pv 1) T.aC T.aW rB)
 (aq (aH (bT (pv 0) T.aC (j7 T) HR (cX (wF (JO K rfl rfl) (by rfl) T.GO La (cX (Rr rfl T.dv (c9 (pv 2) (aw (pv 0) T.aC T.aW))))))))))),?_⟩
 obtain⟨A,z,y,⟨b0,b1,j⟩,F,hk,q⟩:=h;exists y.hx;refine⟨by lia,fun p hp=>⟨by lia,by lia,fun l hl=>?_⟩⟩;have O:=y.put (z.b+st) z.t z.e z.clk z.hur;have b1:lH x H (upd H x (HO.ins aa A.dx (aM (V.int z.R) (V.ref A.pw) (V.ref A.pm) (V.ref A.pt) (V.int (z.b+st)) (V.int z.t) (V.int z.e) z.clk (V.bl z.hur) (V.ref A.pk) (V.ref A.pf) (V.ref A.pa)))):=lH.upd;generalize upd H x (HO.ins aa A.dx (aM (V.int z.R) (V.ref A.pw) (V.ref A.pm) (V.ref A.pt) (V.int (z.b+st)) (V.int z.t) (V.int z.e) z.clk (V.bl z.hur) (V.ref A.pk) (V.ref A.pf) (V.ref A.pa)))=v at*
 have m:=(O.same (aJ (o:= .rng z.b (z.b+st)) hp)).same (aJ (o:= .lst (oN z.b (z.b+st-z.b).toNat)) hl);have j:lH x H (upd (upd v p (.rng z.b (z.b+st))) l (.lst (oN z.b (z.b+st-z.b).toNat))):=(b1.new hp).new hl;generalize upd (upd v p (.rng z.b (z.b+st))) l (.lst (oN z.b (z.b+st-z.b).toNat))=Z at*
 have U:(irg z.b st.toNat).length<=1000:=by unfold irg;rw[List.length_map,List.length_range];lia
 refine⟨A,_,irg z.b st.toNat,m,by rw[show z.b+st-z.b=st by lia,XI],hk,U,fun f Y d fr X i=>?_⟩;refine q _ f Y rfl ?_ (fun b u e a1 E G J I C=>fr b u (j b u e a1) a1 E G J I C) X i;cases e:H f with
 |none=>rfl
 |some u=>
  exfalso;by_cases c:f=x
  ·rw[c,m.hx] at d;cases d
  ·rw[j f u e c] at d;cases d
include T in theorem vm:MA P w K mg base aa "note_held" 2 ["self","held"] (fY aa av ai):=by
 exists 0,T.iD,va,fY;rename_i x t;refine⟨_,(aq (aH (bT (pv 0) T.aC (j7 T) HR (cX (jm (N:=(["step","self"]:List Str)) (nv:=1) (ix:=[0]) rfl (qk (by kernel_rfl)) (dq K rfl (pv 1)) (fun _ _ _ _ _=>(bu 0 (show((["step","self"]:List Str)).Nodup by decide))) (fun _ _ _ _ _=>(uQ (bw m_ (a_ K (aw (pv 1) T.aC T.aW) (pv 0)) (aw (pv 1) T.aC T.bh)))) (fun _ _ _ _ _=>(a_ K (aw (pv 1) T.aC T.aW) (pv 0)))))))),?_⟩;obtain⟨A,z,hs,j,ht,hl,hk,q⟩:=h;exists j.hx;refine AN (xs:=hs.map V.int) (p:=fun v=>match v with | .int i=>decide (z.b+i<z.t)|_=>false) (f:=fun v=>match v with | .int i=> .int (z.b+i)|v=>v) (dX.of ht) (bq (by rw[List.length_map];lia)) ?_ ?_ ?_
 ·intro y C U m;obtain⟨i,_,rfl⟩:=List.mem_map.mp C;exists j.hx;exact m
 ·intro y C _ U m;obtain⟨i,_,rfl⟩:=List.mem_map.mp C;exists j.hx;exact m
 rw[XJ];have X:=Gv (z:=z) (hs:=hs);refine⟨bq (by rw[List.length_map];lia),fun l d=>?_⟩;have O:=j.same (aJ (o:= .lst ((hld z hs).map V.int)) d);have s1:=aJ (o:= .lst ((hld z hs).map V.int)) d;refine⟨A,z,_,O,rfl,hk,by lia,fun p Z hp fr Y E=>q _ p Z rfl ?_ (fun b u e a1 F H J I G=>fr b u (s1 b u e) a1 F H J I G) Y E⟩;exact Cz s1 hp
include T in theorem n6:MA P w K mg base aa "go_again" 2 ["self","turn"] (gQ aa av ai):=by
 exists 0,T.jU,wk,gQ;rename_i x n;refine⟨_,(aj (bI (bT (pv 0) T.aC (dr T) HR (cX (pv 1))))
 (aj (aQ (pv 0) cW T.aC T.bZ)
 (aj (FX HR.units (aw (pv 0) T.aC T.cI) (aw (pv 0) T.aC T.aW) cW)
 (aq (aH (cJ (c9 bR (aw (pv 0) T.aC T.aW)))))))),?_⟩
 obtain⟨A,z,F,hl,q⟩:=h;exists F.hx;refine⟨A,z,F,fun O J d=>?_⟩;have f:A.pa≠x:=bS d.ha d.hx (by simp);exists d.hx,d.ha,ak f,ak f.symm;refine⟨by rw[sizeLine_eq];lia,fun p hp=>?_⟩;have I:=d.put z.b z.t z.e (.int (n+z.w)) true;have G:=I.agR (putK z.Ag (ik z.b) (.bl true));have E:Eb x A H (upd (upd O x (.ins aa A.dx (aM (.int z.R) (.ref A.pw) (.ref A.pm) (.ref A.pt) (.int z.b) (.int z.t) (.int z.e) (.int (n+z.w)) (.bl true) (.ref A.pk) (.ref A.pf) (.ref A.pa)))) A.pa (.dK (putK z.Ag (ik z.b) (.bl true)))):=fun b u e a1 j y C v m i=>by rw[ak i,ak a1];exact J b u e a1
 exact q p _ (E.none G hp) (fun b u e a1 j y C v m i=>cb (E b u e a1 j y C v m i) hp) (G.same (aJ hp)) ar
include T in theorem jr:MA P w K mg base aa "clock_is_out" 1 ["self","turn"] (dM aa av ai):=by
 exists 0,T.eG,qS,dM;rename_i x n;refine⟨_,(aq (aH (di (dP C7 (aw (pv 0) T.aC T.cG) cx) (nY (dP C8 (pv 1) (aw (pv 0) T.aC T.cG)))))),?_⟩;obtain⟨A,z,r,d,hc,q⟩:=h;have hx:=d.hx;rcases hc with⟨hc,rfl⟩|⟨c,hc,rfl⟩
 ·rw[hc] at hx;exists hx;exact q
 ·rw[hc] at hx;exists hx;exact q
include T in theorem zP:MA P w K mg base aa "go_new" 2 ["self","turn"] (j_ aa av ai):=by
 exists 0,T.mN,p9,j_;rename_i x n;refine⟨_,(aj (aO 2 p9.1.nd (aw (pv 0) T.aC T.bh))
 (q_ (bD (eg K HR (aw (pv 0) T.aC T.aW) (aw (pv 0) T.aC T.bh)) (aq (bI (bT (pv 0) T.aC (dr T) HR (cX (pv 1))))) aU)
 (aj (FX HR.units (aw (pv 0) T.aC T.cE) (pv 2) (pv 1))
 (aj (rf (pv 0) au T.aC T.bh rB)
 (aq (aH (cJ (c9 bR (pv 2))))))))),?_⟩
 obtain⟨A,z,f,hl,q⟩:=h;exists f.hx;refine⟨fun i H'=>lH x H H'/\bX aa av ai H' x A {z with clk:=if z.b=z.t then .int (n+z.w) else z.clk}/\i= [some (.ref x),some (.int n),some (.int z.t)],?_,?_⟩
 ·exists f.hx;by_cases c:z.b=z.t
  ·rw[if_pos c,if_pos c];exact⟨A,z,f,fun H' m S'=>⟨m,S'⟩⟩
  ·rw[if_neg c,if_neg c];exact⟨lH.refl,f⟩
 rintro i J ⟨m,d,rfl⟩;generalize(if z.b=z.t then V.int (n+z.w) else z.clk)=ck at*
 have v:A.pf≠x:=bS f.hf f.hx (by simp);exists d.hx,d.hf,ak v.symm;refine⟨by rw[sizeLine_eq];lia,fun p hp=>?_⟩;have I:=d.row (u:= .dK (putK z.Fi (ik z.t) (.int n))) d.hf z.T z.Kn (putK z.Fi (ik z.t) (.int n)) (by simp) (by simp) (by rw[ak (bS d.ht d.hf (by simp))];exact d.ht) (by rw[ak d.kf];exact d.hk) ar d.fa;have G:=I.put z.b (z.t+1) z.e ck z.hur;have fr:AX x A H (upd (upd J A.pf (.dK (putK z.Fi (ik z.t) (.int n)))) x (.ins aa A.dx (aM (.int z.R) (.ref A.pw) (.ref A.pm) (.ref A.pt) (.int z.b) (.int (z.t+1)) (.int z.e) ck (.bl z.hur) (.ref A.pk) (.ref A.pf) (.ref A.pa)))):=fun b u e a1 y E F C j=>by rw[ak a1,ak j];exact m b u e a1
 exact q p _ (fr.none G hp) (fun b u e a1 y E F C j=>cb (fr b u e a1 y E F C j) hp) (G.same (aJ hp)) ar
include T in theorem rk:MA P w K mg base aa "ask_for_room" 3 ["self","turn"] (dN aa av ai):=by
 exists 0,T.eI,qT,dN;rename_i x n;refine⟨_,(aj (bD (bw oZ (aw (pv 0) T.aC T.cG) cx) (aj (bI (bT (pv 0) T.aC (dr T) HR (cX (pv 1))))
 (aE (aq (aH cx)))) aU)
 (aE (aj (bD (dO (nC (bT (pv 0) T.aC (jr T) HR (cX (pv 1))))) (aq (aH cx)) aU)
 (aE (aj (bI (bO (aw (pv 0) T.aC T.cO) T.bJ (sD T) HR))
 (aE (aj (bI (bT (pv 0) T.aC (dr T) HR (cX (pv 1))))
 (aE (aq (aH (cJ (c9 bR cx)))))))))))),?_⟩
 obtain⟨A,z,d,hc,q⟩:=h;generalize h_u1:aD _=Y;generalize h_u2:aD _=Z;exists d.hx;by_cases c0:z.clk = .non
 ·rw[if_pos c0];refine⟨A,z,d,fun E v j=>?_⟩;rw[<-h_u1,aD];exists 9;exact q .non E _ (fun b u e a1 _ _ _ _ _ _=>v b u e a1) j (.inl ⟨c0,rfl,rfl⟩)
 rw[if_neg c0];obtain⟨i,hi⟩:∃i,z.clk = .int i:=hc.resolve_left c0;rw[<-h_u2,aD];generalize h_u3:aD _=u3;exists d.hx;refine⟨A,z,_,d,.inr ⟨i,hi,rfl⟩,?_⟩;by_cases c1:i<=n
 ·rw[if_neg (by simpa using c1)];rw[<-h_u3,aD];generalize h_u4:aD _=X;obtain⟨s0,f,ew,hw⟩:=d.ws.ran;exists d.hx,ew;refine⟨A.dw,z.L,s0,f,z.w,rfl,?_⟩;have j:=d.ways lH.upd hw;have b1:lH A.pw H (upd H A.pw (.ins av A.dw (bE (V.int z.L) s0 f (V.int (if z.L<2*z.w then z.L else 2*z.w))))):=lH.upd;generalize upd H A.pw (.ins av A.dw (bE (V.int z.L) s0 f (V.int (if z.L<2*z.w then z.L else 2*z.w))))=E at*
  rw[<-h_u4,aD];generalize h_u5:aD _=u5;exists j.hx;refine⟨A,_,j,fun U v y=>?_⟩;rw[<-h_u5,aD];exists 9;intro p hp;have C:Eb x A H U:=fun b u e a1 m _ _ _ _ _=>v b u (b1 b u e m) a1;exact q (.ref p) _ _ (fun b u e a1 m I J G F O=>cb (C b u e a1 m I J G F O) hp) (y.same (aJ hp)) (.inr (.inr ⟨i,hi,c1,rfl,p,rfl,C.none y hp,ar⟩))
 ·rw[if_pos (by simpa using c1)];exact q .non H z (fun b u e _ _ _ _ _ _ _=>e) d (.inr (.inl ⟨i,hi,by lia,rfl,rfl⟩))
include T in theorem Gd:MA P w K mg base aa "go" 4 ["self","turn"] (qI aa av ai):=by
 exists 0,T.uA,FK,qI;rename_i x n;refine⟨_,(aj (bD (PW.pt (pw_and (bw m_ (aw (pv 0) T.aC T.aW) (aw (pv 0) T.aC T.bh)) (pw_and1 (nC (bT (pv 0) T.aC (jr T) HR (cX (pv 1))))))) (aj (bI (bO (aw (pv 0) T.aC T.cO) T.bJ (sD T) HR))
 (aE (aj (bI (bO (aw (pv 0) T.aC T.cZ) T.bK (zR T) HR))
 (aE (aq (aH (bT (pv 0) T.aC (n6 T) HR (cX (pv 1))))))))) aU)
 (aE (aj (bD (nC (bO (pv 0) T.aC (rj T) HR)) (aj (bI (bO (aw (pv 0) T.aC T.cZ) T.bK (zS T) HR))
 (aE (aq (aH (bT (pv 0) T.aC (n6 T) HR (cX (pv 1))))))) aU)
 (aE (aj (bD (nC (bO (pv 0) T.aC (tF T) HR)) (aq (aH (bT (pv 0) T.aC (zP T) HR (cX (pv 1))))) aU)
 (aE (aj (bD (PW.pt (pw_and (nC (bO (pv 0) T.aC (j6 T) HR)) (pw_and1 (eg K HR (aw (pv 0) T.aC T.aW) (aw (pv 0) T.aC T.bh))))) (aq (aH (bT (pv 0) T.aC (rk T) HR (cX (pv 1))))) aU)
 (aq (aH cx))))))))),?_⟩
 obtain⟨A,z,J,hb,hc,Z,hFi,q⟩:=h;generalize h_ua:aD _=ua;generalize h_u1:aD _=u1;obtain⟨s0,G,ew,hw⟩:=J.ws.ran;exists J.hx,ew;have j:(z.b<z.t->C6 z.clk n=false)->u1 {nx:=fun _ H'=>Q .non H',rt:=Q} [some (.ref x),some (.int n)] H:=by
  intro E;rw[<-h_u1,aD];generalize h_ub:aD _=ub;generalize h_u2:aD _=u2;exists J.hx;refine⟨A,z,J,hb,fun I C=>?_⟩;have m:=J.same C;obtain⟨em,hi⟩:=m.ms;have ehd:JA z=(decide (z.b<z.t) && !z.hur&&decide ((2:Int)<=kab z)):=rfl;rw[<-ehd];cases hh:JA z
  ·rw[if_neg (by decide)];rw[<-h_u2,aD];generalize h_u3:aD _=u3;exists m.hx;refine⟨A,z,m,hb,fun U O=>?_⟩;have d:=m.same O;have y:Eb x A H U:=fun b u e _ _ _ _ _ _ _=>O _ _ (C _ _ e);have F:∀p,U p=none->H p=none:=fun p hp=>by
    cases e:H p with
    |none=>rfl
    |some u=>rw[O _ _ (C _ _ e)] at hp;cases hp
   have enm:cH z=(decide (z.t<z.T.length)&&decide (z.t<z.e)&&decide (z.t-z.b-kab z<z.wi)):=rfl;rw[<-enm];cases hn:cH z
   ·rw[if_neg (by decide)];rw[<-h_u3,aD];exists d.hx;refine⟨A,z,d,?_⟩;have qn: ¬(z.t<z.T.length/\z.b=z.t)->Q .non U:=fun Y=>q .non U z y d (.inr ⟨E,.inr ⟨hh,.inr ⟨hn,.inr ⟨Y,rfl,rfl⟩⟩⟩⟩);by_cases c1:z.t<z.T.length
    ·by_cases c2:z.b=z.t
     ·rw[if_pos c1,if_pos c2];exact⟨A,z,d,hc,fun v H' z' fr S' g=>q v H' z' (y.trans fr) S' (.inr ⟨E,.inr ⟨hh,.inr ⟨hn,.inl ⟨c1,c2,g.fr F⟩⟩⟩⟩)⟩
     ·rw[if_pos c1,if_neg c2];exact qn fun c=>c2 c.2
    ·rw[if_neg c1];exact qn fun c=>c1 c.1
   ·rw[if_pos rfl];exists d.hx;refine⟨A,z,d,hFi,fun p H3 hp fr S3 f=>?_⟩;exact q (.ref p) H3 _ (y.trans fr.seven) S3 (.inr ⟨E,.inr ⟨hh,.inl ⟨hn,rfl,p,rfl,F p hp,f⟩⟩⟩)
  ·rw[if_pos rfl];exists m.hx,em;refine⟨A.dm,z.mo,z.wi,z.kn,z.co,rfl,?_⟩;have X:1<=MeterM.hf z.wi/\MeterM.hf z.wi<=z.mo:=MeterM.afL hi.1 hi.2.1;have d:=m.meter (H':=upd I A.pm (.ins ai A.dm (a9 (.int z.mo) (.int (MeterM.hf z.wi)) (.int (MeterM.hf z.wi)) (.int 0)))) lH.upd ⟨ar,⟨X.1,X.2,Int.le_refl _,by show(0:Int)<MeterM.hf z.wi;lia⟩⟩;have y:Eb x A H (upd I A.pm (.ins ai A.dm (a9 (.int z.mo) (.int (MeterM.hf z.wi)) (.int (MeterM.hf z.wi)) (.int 0)))):=fun b u e _ _ a3 _ _ _ _=>by rw[ak a3];exact C b u e
   generalize upd I A.pm (.ins ai A.dm (a9 (.int z.mo) (.int (MeterM.hf z.wi)) (.int (MeterM.hf z.wi)) (.int 0)))=U at*
   rw[<-h_ub,aD];exists d.hx;refine⟨A,_,d,Z,fun p H3 hp fr S3 f=>?_⟩;exact q (.ref p) H3 _ (y.trans fr) S3 (.inr ⟨E,.inl ⟨hh,rfl,p,rfl,y.none d hp,f⟩⟩)
 by_cases c0:z.b<z.t
 ·rw[if_pos c0];have hr:Clk z.clk n (C6 z.clk n):=by
   rcases hc with h|⟨i,h⟩
   ·exact .inl ⟨h,by rw[h];rfl⟩
   ·exact .inr ⟨i,h,by rw[h];rfl⟩
  refine⟨A,z,_,J,hr,?_⟩;cases ho:C6 z.clk n
  ·rw[if_neg (by decide)];exact j fun _=>ho
  ·rw[if_pos rfl];refine⟨A.dw,z.L,s0,G,z.w,rfl,?_⟩;have m:=J.ways lH.upd hw;have b1:lH A.pw H (upd H A.pw (.ins av A.dw (bE (V.int z.L) s0 G (V.int (if z.L<2*z.w then z.L else 2*z.w))))):=lH.upd;generalize upd H A.pw (.ins av A.dw (bE (V.int z.L) s0 G (V.int (if z.L<2*z.w then z.L else 2*z.w))))=I at*
   obtain⟨em,hi⟩:=m.ms;rw[<-h_ua,aD];generalize h_ud:aD _=ud;exists m.hx,em;refine⟨A.dm,z.mo,z.wi,z.kn,z.co,rfl,?_⟩;have d:=m.meter (H':=upd I A.pm (.ins ai A.dm (a9 (.int z.mo) (.int 1) (.int (MeterM.hf z.wi)) (.int 0)))) lH.upd ⟨ar,⟨Int.le_refl _,Int.le_trans hi.1 hi.2.1,Int.le_refl _,by show(0:Int)<1;lia⟩⟩;have y:Eb x A H (upd I A.pm (.ins ai A.dm (a9 (.int z.mo) (.int 1) (.int (MeterM.hf z.wi)) (.int 0)))):=fun b u e _ a2 a3 _ _ _ _=>by rw[ak a3];exact b1 b u e a2
   generalize upd I A.pm (.ins ai A.dm (a9 (.int z.mo) (.int 1) (.int (MeterM.hf z.wi)) (.int 0)))=U at*
   rw[<-h_ud,aD];exists d.hx;refine⟨A,_,d,Z,fun p H3 hp fr S3 f=>?_⟩;exact q (.ref p) H3 _ (y.trans fr) S3 (.inl ⟨c0,ho,rfl,p,rfl,y.none d hp,f⟩)
 ·rw[if_neg c0];exact j fun c=>absurd c c0
include T in theorem BC:MA P w K mg base aa "heard" 4 ["self","number","room","held","turn"] (ml aa av ai):=by
 exists 0,T.oB,gJ,ml;rename_i x nu O hd tn;refine⟨_,(aj (aO 5 gJ.1.nd (br (HI T) HR (dz (aw (pv 0) T.aC T.lM) (c9 (aw (pv 0) T.aC T.aW) (pv 1)))))
 (aE (aj (bD (bw sC (pv 5) (aL dA (aw (pv 0) T.aC T.bh) (aw (pv 0) T.aC T.aW))) (aq (aH (jl jn))) aU)
 (aE (aj (aO 6 gJ.1.nd (a_ K (bT (pv 0) T.aC (vn T) HR (cX (pv 5))) (bT (pv 0) T.aC (vm T) HR (cX (pv 3)))))
 (aE (aj (aQ (pv 0) (aY (qo rfl) (by rfl) T.Bb AV (c9 (aw (pv 0) T.aC T.cQ) (a_ K (aw (pv 0) T.aC T.aW) (pv 2)))) T.aC T.cQ)
 (aE (aj (gn PassesOwn.never rfl (dq K rfl (pv 6)) (bu 7 gJ.1.nd) (aq (bD (zF (Ji HR.units (pv 7) (aw (pv 0) T.aC T.cI)) (lK rfl)) (aq (bI (bT (aw (pv 0) T.aC T.cO) T.bJ (zL T) HR (cX (aL dA (pv 4) (Oh HR.units (aw (pv 0) T.aC T.cE) (pv 7) (fun _ _=>rfl))))))) aU)))
 (aE (aj (bI (bT (aw (pv 0) T.aC T.cZ) T.bK (Dd T) HR (cX (aY (fN K rfl) (by rfl) T.lY iM (cX (pv 6))))))
 (aE (aj (bD (bw sC (pv 5) au) (aj (aQ (pv 0) (lS (bw m_ (aw (pv 0) T.aC T.aW) (aw (pv 0) T.aC T.bh)) (a_ K (pv 4) (aw (aw (pv 0) T.aC T.cO) T.bJ T.dI)) cx) T.aC T.cG)
 (aq (aQ (pv 0) cW T.aC T.bZ))) aU)
 (aq (aH (pv 6)))))))))))))))),?_⟩
 obtain⟨A,z,hs,hS,hb,hR,hhd,hsl,hnd,R9,hT,hkl,ht,hk,q⟩:=h;generalize h_u0:aD _=u0;exists hS.hx;refine⟨hR,?_⟩;rw[<-h_u0,aD];generalize h_u1:aD _=u1;exists hS.hx;have ef:(nu-z.b) % z.R=far' z nu:=rfl;rw[ef];have far0:0<=far' z nu:=Int.emod_nonneg _ (by lia);by_cases c0:z.t-z.b<far' z nu
 ·rw[if_pos c0];intro p hp;exact q p _ hp (fun b u e _ _ _ _ _ _ _=>cb e hp) (.inl ⟨c0,aJ hp,ar⟩)
 rw[if_neg c0];have b0:=hb.b0;have bt:=hb.bt;rw[<-h_u1,aD];generalize h_u2:aD _=u2;exists hS.hx;refine⟨A,z,hS,hb,⟨far0,by lia⟩,by lia,fun fs p H1 efs hp fr S1 l1=>?_⟩;obtain rfl:fs=yM z nu:=efs;replace S1:bX aa av ai H1 x A (nK z nu):=S1;have hd1:=fr.tup hS hhd;have npt:p≠A.pt:=fun c=>by rw[c,hS.ht] at hp;cases hp
 have fl1:(yM z nu).length<=430:=by
  have h1:(yM z nu).length<=(irg z.b (far' z nu).toNat).length:=List.length_filter_le _ _;have h2:(irg z.b (far' z nu).toNat).length=(far' z nu).toNat:=by unfold irg;rw[List.length_map,List.length_range]
  lia
 have kl1:(nK z nu).Kn.length<=z.Kn.length+(yM z nu).length:=qY;exists S1.hx;refine⟨A,_,hs,S1,hd1,by lia,by lia,fun fs2 p2 H2 efs2 hp2 fr2 S2 l2=>?_⟩;obtain rfl:fs2=xO z nu hs:=efs2;have l12:=fr2.lst S1 l1 npt;have fl2:(xO z nu hs).length<=100:=by
  have h1:(xO z nu hs).length<=(hld (nK z nu) hs).length:=List.length_filter_le _ _;have h2:=Gv (z:=nK z nu) (hs:=hs);lia
 refine D5 l12 l2 (bq (by rw[List.length_map,List.length_map];lia)) fun v hp3=>?_;have fr3:AX x A H H2:=fr.trans fr2;have Y:=fr3.none S2 hp3;have S3:=S2.same (aJ (o:= .lst ((yM z nu).map V.int++(xO z nu hs).map V.int)) hp3);have f3:AX x A H (upd H2 v (.lst ((yM z nu).map V.int++(xO z nu hs).map V.int))):=fun b u e a1 C F J I X=>cb (fr3 b u e a1 C F J I X) hp3;have l3:upd H2 v (.lst ((yM z nu).map V.int++(xO z nu hs).map V.int)) v=some (.lst ((yM z nu++xO z nu hs).map V.int)):=by rw[ar,List.map_append]
 generalize upd H2 v (.lst ((yM z nu).map V.int++(xO z nu hs).map V.int))=H3 at*
 rw[<-h_u2,aD];generalize h_u3:aD _=u3;exists S3.hx;have tN:((z.t.toNat:Nat):Int)=z.t:=by lia
 have i1:∀a∈yM z nu,knw z.Kn a=false/\0<=a/\a<((z.t.toNat:Nat):Int):=fun a ha=>by
  obtain⟨m1,m2⟩:=Cy ha;have:=KP m1;exact⟨m2,by lia,by lia⟩
 have i2:∀a∈xO z nu hs,knw (nK z nu).Kn a=false/\0<=a/\a<((z.t.toNat:Nat):Int):=fun a ha=>by
  obtain⟨m1,m2⟩:=Cy ha;obtain⟨h1,k,hk1,rfl⟩:=KQ m1;have h2:=R9 k hk1;have h3:(nK z nu).b=z.b+far' z nu:=rfl;have h4:(nK z nu).t=z.t:=rfl;exact⟨m2,by lia,by lia⟩
 have n1:(yM z nu).Nodup:=List.Pairwise.filter _ Fg;have n2:(xO z nu hs).Nodup:=List.Pairwise.filter _ (Fh hnd);have c1:=yP n1 i1;have c2:=yP n2 i2;have c3:=Yy (D:=putAll (nK z nu).Kn (xO z nu hs)) (t:=z.t.toNat);have tot:z.k+((yM z nu).length+(xO z nu hs).length)<=430:=by
  have e1:cnt (nK z nu).Kn z.t.toNat=cnt (putAll z.Kn (yM z nu)) z.t.toNat:=rfl;lia
 have hpl:∀a∈yM z nu++xO z nu hs,0<=a/\a<z.t:=fun a ha=>by
  rcases List.mem_append.mp ha with h|h
  ·have:=i1 a h;lia
  ·have:=i2 a h;lia
 have efl:(yM z nu++xO z nu hs).length=(yM z nu).length+(xO z nu hs).length:=List.length_append;clear c1 c2 c3 i1 i2 n1 n2;have S4:=S3.put (nK z nu).b (nK z nu).t (if(nK z nu).e<(nK z nu).b+O then(nK z nu).b+O else(nK z nu).e) (nK z nu).clk (nK z nu).hur;have n3x:v≠x:=bS l3 S3.hx (by simp);generalize hE:(if(nK z nu).e<(nK z nu).b+O then(nK z nu).b+O else(nK z nu).e)=e' at*
 have l4:upd H3 x (HO.ins aa A.dx (aM (V.int (nK z nu).R) (V.ref A.pw) (V.ref A.pm) (V.ref A.pt) (V.int (nK z nu).b) (V.int (nK z nu).t) (V.int e') (nK z nu).clk (V.bl (nK z nu).hur) (V.ref A.pk) (V.ref A.pf) (V.ref A.pa))) v=some (.lst ((yM z nu++xO z nu hs).map V.int)):=by rw[ak n3x];exact l3
 have f4:AX x A H (upd H3 x (HO.ins aa A.dx (aM (V.int (nK z nu).R) (V.ref A.pw) (V.ref A.pm) (V.ref A.pt) (V.int (nK z nu).b) (V.int (nK z nu).t) (V.int e') (nK z nu).clk (V.bl (nK z nu).hur) (V.ref A.pk) (V.ref A.pf) (V.ref A.pa)))):=fun b u e a1 C F J I X=>by rw[ak a1];exact f3 b u e a1 C F J I X
 generalize upd H3 x (HO.ins aa A.dx (aM (V.int (nK z nu).R) (V.ref A.pw) (V.ref A.pm) (V.ref A.pt) (V.int (nK z nu).b) (V.int (nK z nu).t) (V.int e') (nK z nu).clk (V.bl (nK z nu).hur) (V.ref A.pk) (V.ref A.pf) (V.ref A.pa)))=H4 at*
 obtain⟨d,j⟩:∃d:Sd,d=⟨z.R,z.b+far' z nu,z.t,e',z.clk,z.hur,z.T,putAll (nK z nu).Kn (xO z nu hs),z.Fi,z.Ag,z.L,z.w,z.k,z.wi,z.g,z.mo,z.kn,z.co⟩:=⟨_,rfl⟩;replace S4:bX aa av ai H4 x A d:=by rw[j];exact S4
 have e4F:d.Fi=z.Fi:=by rw[j]
 have e4k:d.k=z.k:=by rw[j]
 have e4A:d.Ag=z.Ag:=by rw[j]
 have e4L:d.L=z.L:=by rw[j]
 have e4w:d.w=z.w:=by rw[j]
 have e4g:d.g=z.g:=by rw[j]
 have U:d.mo=z.mo/\d.wi=z.wi/\d.kn=z.kn/\d.co=z.co:=by rw[j];exact⟨rfl,rfl,rfl,rfl⟩
 clear S3 S2 S1 l3 f3 l1 l12 l2;rw[<-h_u3,aD];generalize h_u4:aD _=u4;exists 9;generalize hfs:yM z nu++xO z nu hs=fs at*
 have kk:∀{i:Nat} {c:Int},fs[i]?=some c->mall z tn (fs.take (i+1))=MW z tn (mall z tn (fs.take i)) c:=fun{i c} hc=>by
  rw[List.take_add_one,hc];exact Mn
 have S40:bX aa av ai H4 x A {d with w:=z.w,g:=z.g,k:=z.k}:=by
  have e:({d with w:=z.w,g:=z.g,k:=z.k}:Sd)=d:=by rw[j]
  rw[e];exact S4
 refine rC (xs:=fs.map V.int) (cT.of l4) (fun i σ H'=> ∃v7,(mall z tn (fs.take i)).2.2<=z.k+i/\AX x A H H'/\H' v=some (.lst (fs.map V.int))/\bX aa av ai H' x A {d with w:=(mall z tn (fs.take i)).1,g:=(mall z tn (fs.take i)).2.1,k:=(mall z tn (fs.take i)).2.2}/\σ= [some (.ref x),some (.int nu),some (.int O),some (.ref hd),some (.int tn),some (.int (far' z nu)),some (.ref v),v7]) ⟨none,by show z.k<=z.k+0;lia,f4,l4,S40,rfl⟩ (fun i σ H' _ hp=>by obtain⟨_,_,_,hh,_⟩:=hp;exact cT.of hh) (fun i y σ H5 hy hp=>?_) (fun σ H5 hp=>?_)
 ·obtain⟨v7,kle,f5,l5,m,rfl⟩:=hp;obtain⟨c,rfl,hci⟩:=tK hy;have il:i<fs.length:=(List.getElem?_eq_some_iff.mp hci).1;obtain⟨c0',c1'⟩:=hpl c (List.mem_of_getElem? hci);obtain⟨f,hf,g0,g1⟩:=hT c c0' c1';obtain⟨s0,sp0,ew⟩:=m.ws.ins;have hf5:=m.hf;have ha5:=m.ha;have ff:Sl z c=f:=by unfold Sl;rw[hf]
  rw[kk hci];generalize mall z tn (fs.take i)=s at*
  exists m.hx,ha5,hf5,ew;cases ea:(bH d.Ag (ik c)).isSome
  ·have e1:MW z tn s c=(mws z.L (mgs s.2.1 (tn-f)),mgs s.2.1 (tn-f),s.2.2+1):=by
    unfold MW knw;rw[<-e4A,ea,ff];rfl
   rw[if_pos rfl,e1];refine⟨_,by rw[e4F];exact hf,?_⟩;exists 9;exact WS.meas (E:=E0) (Q:=fun _ H'=> ∃v7,s.2.2+1<=z.k+(i+1)/\AX x A H H'/\H' v=some (.lst (fs.map V.int))/\bX aa av ai H' x A {d with w:=mws z.L (mgs s.2.1 (tn-f)),g:=mgs s.2.1 (tn-f),k:=s.2.2+1}/\([some (.ref x),some (.int nu),some (.int O),some (.ref hd),some (.int tn),some (.int (far' z nu)),some (.ref v),some (.int c)]:St)= [some (.ref x),some (.int nu),some (.int O),some (.ref hd),some (.int tn),some (.int (far' z nu)),some (.ref v),v7]) m.ws (by show s.2.2<=440;lia) g0 g1 (fun H6 hB hw=>⟨_,by lia,fun b u e a1 C F J I X=>hB _ _ (f5 b u e a1 C F J I X) C,hB _ _ l5 (m.nw l5 (by simp)).2.1,by rw[<-e4L];exact m.ways hB hw,rfl⟩)
  ·have e1:MW z tn s c=s:=by
    unfold MW knw;rw[<-e4A,ea];rfl
   rw[if_neg (by decide),e1];exact⟨_,by lia,f5,l5,m,rfl⟩
 obtain⟨v7,kle,f5,l5,m,rfl⟩:=hp;rw[List.length_map,List.take_length] at m;obtain⟨em,hi⟩:=m.ms;rw[<-h_u4,aD];generalize h_u5:aD _=u5;exists m.hx,l5,em;refine⟨by rw[List.length_map];lia,A.dm,d.mo,d.wi,d.kn,d.co,rfl,?_⟩;have elen:((fs.map V.int).length:Int).toNat=fs.length:=by rw[List.length_map];lia
 rw[elen];have Z:MeterM.kn d.mo d.kn fs.length (d.wi,d.co)=MeterM.kn z.mo z.kn fs.length (z.wi,z.co):=by rw[U.1,U.2.1,U.2.2.1,U.2.2.2]
 rw[Z];generalize hst:MeterM.kn z.mo z.kn fs.length (z.wi,z.co)=st at*
 have hin:MeterM.YK d.mo st:=by rw[<-Z];exact MeterM.inb _ _ hi
 have S6:=m.meter (H':=upd H5 A.pm (.ins ai A.dm (a9 (.int d.mo) (.int st.1) (.int d.kn) (.int st.2)))) lH.upd ⟨ar,hin⟩;have l6:upd H5 A.pm (.ins ai A.dm (a9 (.int d.mo) (.int st.1) (.int d.kn) (.int st.2))) v=some (.lst (fs.map V.int)):=by rw[ak (m.nw l5 (by simp)).2.2];exact l5
 have f6:AX x A H (upd H5 A.pm (.ins ai A.dm (a9 (.int d.mo) (.int st.1) (.int d.kn) (.int st.2)))):=fun b u e a1 C F J I X=>by rw[ak F];exact f5 b u e a1 C F J I X
 generalize upd H5 A.pm (.ins ai A.dm (a9 (.int d.mo) (.int st.1) (.int d.kn) (.int st.2)))=H6 at*
 clear m S4 l5 f5 em;obtain⟨s0,sp0,ew⟩:=S6.ws.ins;have hE':e'=if z.e<z.b+far' z nu+O then z.b+far' z nu+O else z.e:=hE.symm;rw[<-h_u5,aD];exists S6.hx,ew;subst j;have G:fsh z nu hs=fs:=hfs;by_cases d0:0<far' z nu
 ·rw[if_pos d0];have fin:∀c:V,c=(if z.b+far' z nu<z.t then .int (tn+(mall z tn fs).1) else .non)->Q (.ref v) (upd H6 x (HO.ins aa A.dx (aM (V.int z.R) (V.ref A.pw) (V.ref A.pm) (V.ref A.pt) (V.int (z.b+far' z nu)) (V.int z.t) (V.int e') c (V.bl false) (V.ref A.pk) (V.ref A.pf) (V.ref A.pa)))):=fun c hcu=>by
   have S7:=S6.put (z.b+far' z nu) z.t e' c false;refine q v _ Y (fun b u e a1 C F J I X _=>by rw[ak a1];exact f6 b u e a1 C F J I X) (.inr ⟨by lia,?_,by rw[ak n3x,G];exact l6⟩);unfold hrd;rw[G,if_pos d0,if_pos d0,hst,<-hcu,<-hE'];exact S7
  by_cases d1:z.b+far' z nu<z.t
  ·rw[if_pos d1] at fin⊢;exact fin _ rfl
  ·rw[if_neg d1] at fin⊢;exact fin _ rfl
 ·rw[if_neg d0];refine q v _ Y f6.seven (.inr ⟨by lia,?_,by rw[G];exact l6⟩);unfold hrd;rw[G,if_neg d0,if_neg d0,hst,<-hE'];exact S6
include T in theorem wL:MA P w K mg base aa "__init__" 3 ["self","ring","first","longest","most"] (gS aa av ai):=by
 exists 0,T.jV,wo,gS;rename_i x r f l m;refine⟨_,(aj (aQ (pv 0) (pv 1) T.aC T.lM)
 (aj (aQ (pv 0) (wD T.bJ (zM T) HR (by decide) rfl (c9 (pv 2) (pv 3))) T.aC T.cO)
 (aE (aj (aQ (pv 0) (wD T.bK (yn T) HR (by decide) rfl (cX (pv 4))) T.aC T.cZ)
 (aE (aj (aQ (pv 0) (jl jn) T.aC T.da)
 (aj (aQ (pv 0) au T.aC T.aW)
 (aj (aQ (pv 0) au T.aC T.bh)
 (aj (aQ (pv 0) au T.aC T.cQ)
 (aj (aQ (pv 0) cx T.aC T.cG)
 (aj (aQ (pv 0) cW T.aC T.bZ)
 (aE (aj (aQ (pv 0) yf T.aC T.bY)
 (aE (aj (aQ (pv 0) yf T.aC T.cE)
 (aE (aq (aQ (pv 0) yf T.aC T.cI)))))))))))))))))),?_⟩
 obtain⟨hf,dx,hx,q⟩:=h;generalize h_u1:aD _=u1;exists hx;intro pw dw y Z new;refine⟨dw,rfl,?_⟩;have d:x≠pw:=(fresh_ne y).symm;have ndx:x≠dw:=(fresh_ne Z).symm;exists ak d,ak ndx;obtain⟨Y,e1⟩:∃Y,Y=upd (upd (upd (upd H x (.ins aa dx (iQ (.int r)))) dw (.own pw)) pw (.ins av dw (bE (.int l) .non .non (.int f)))) x (.ins aa dx (lX (.int r) (.ref pw))):=⟨_,rfl⟩;rw[<-e1];rw[ak d.symm] at y;rw[ak ndx.symm] at Z;have O:Y x=some (.ins aa dx (lX (.int r) (.ref pw))):=by rw[e1];exact ar
 have w1:Y pw=some (.ins av dw (bE (.int l) .non .non (.int f))):=by rw[e1,ak d.symm];exact ar
 have b1:lH x H Y:=fun b o e n=>by rw[e1,ak n,ak (aG e y),ak (aG e Z),ak n];exact e
 clear e1;rw[<-h_u1,aD];generalize h_u2:aD _=u2;exists 9;intro pm dm z ndm nem;refine⟨dm,rfl,?_⟩;have i:x≠pm:=aG O z;have ndx2:x≠dm:=aG O ndm;exists ak i,ak ndx2,O;obtain⟨J,e2⟩:∃J,J=upd (upd (upd Y dm (.own pm)) pm (.ins ai dm (a9 (.int m) (.int (MeterM.mn 2 m)) (.int m) (.int 0)))) x (.ins aa dx (lW (.int r) (.ref pw) (.ref pm))):=⟨_,rfl⟩;rw[<-e2];have R8:J x=some (.ins aa dx (lW (.int r) (.ref pw) (.ref pm))):=by rw[e2];exact ar
 have m2:J pm=some (.ins ai dm (a9 (.int m) (.int (MeterM.mn 2 m)) (.int m) (.int 0))):=by rw[e2,ak i.symm];exact ar
 have b2:lH x Y J:=fun b o e n=>by rw[e2,ak n,ak (aG e z),ak (aG e ndm)];exact e
 have nwm:pw≠pm:=aG w1 z;have w2:=b2 _ _ w1 d.symm;clear e2;rw[<-h_u2,aD];generalize h_u3:aD _=u3;exists 9;intro pt U;have j:x≠pt:=aG R8 U;exists ak j,R8;obtain⟨F,e3⟩:∃F,F=upd (upd J pt (.lst [])) x (.ins aa dx (lV (.int r) (.ref pw) (.ref pm) (.ref pt) (.int 0) (.int 0) (.int 1) .non (.bl false))):=⟨_,rfl⟩;rw[<-e3];have hx3:F x=some (.ins aa dx (lV (.int r) (.ref pw) (.ref pm) (.ref pt) (.int 0) (.int 0) (.int 1) .non (.bl false))):=by rw[e3];exact ar
 have t3:F pt=some (.lst []):=by rw[e3,ak j.symm];exact ar
 have b3:lH x J F:=fun b o e n=>by rw[e3,ak n,ak (aG e U)];exact e
 clear e3;rw[<-h_u3,aD];generalize h_u4:aD _=u4;exists 9;intro pk X;have v:x≠pk:=aG hx3 X;exists ak v,hx3;obtain⟨G,e4⟩:∃G,G=upd (upd F pk (.dK [])) x (.ins aa dx (jP (.int r) (.ref pw) (.ref pm) (.ref pt) (.int 0) (.int 0) (.int 1) .non (.bl false) (.ref pk))):=⟨_,rfl⟩;rw[<-e4];have hx4:G x=some (.ins aa dx (jP (.int r) (.ref pw) (.ref pm) (.ref pt) (.int 0) (.int 0) (.int 1) .non (.bl false) (.ref pk))):=by rw[e4];exact ar
 have k4:G pk=some (.dK []):=by rw[e4,ak v.symm];exact ar
 have b4:lH x F G:=fun b o e n=>by rw[e4,ak n,ak (aG e X)];exact e
 clear e4;rw[<-h_u4,aD];generalize h_u5:aD _=u5;exists 9;intro pf E;have C:x≠pf:=aG hx4 E;exists ak C,hx4;obtain⟨I,e5⟩:∃I,I=upd (upd G pf (.dK [])) x (.ins aa dx (jO (.int r) (.ref pw) (.ref pm) (.ref pt) (.int 0) (.int 0) (.int 1) .non (.bl false) (.ref pk) (.ref pf))):=⟨_,rfl⟩;rw[<-e5];have hx5:I x=some (.ins aa dx (jO (.int r) (.ref pw) (.ref pm) (.ref pt) (.int 0) (.int 0) (.int 1) .non (.bl false) (.ref pk) (.ref pf))):=by rw[e5];exact ar
 have f5:I pf=some (.dK []):=by rw[e5,ak C.symm];exact ar
 have b5:lH x G I:=fun b o e n=>by rw[e5,ak n,ak (aG e E)];exact e
 clear e5;rw[<-h_u5,aD];exists 9;intro pa u;have nax:x≠pa:=aG hx5 u;exists ak nax,hx5;have b6:lH x I (upd (upd I pa (.dK [])) x (.ins aa dx (aM (.int r) (.ref pw) (.ref pm) (.ref pt) (.int 0) (.int 0) (.int 1) .non (.bl false) (.ref pk) (.ref pf) (.ref pa)))):=fun b o e n=>by rw[ak n,ak (aG e u)];exact e
 have k5:=b5 _ _ k4 v.symm;have fr:∀b,b∈[pw,pm,pt,pk,pf,pa]->H b=none:=fun b hb=>by
  simp only[List.mem_cons,List.not_mem_nil,or_false] at hb;have B2:lH x H J:=fun b o e n=>b2 _ _ (b1 b o e n) n;have B3:lH x H F:=fun b o e n=>b3 _ _ (B2 b o e n) n;have B4:lH x H G:=fun b o e n=>b4 _ _ (B3 b o e n) n;have B5:lH x H I:=fun b o e n=>b5 _ _ (B4 b o e n) n;rcases hb with rfl|rfl|rfl|rfl|rfl|rfl
  ·exact y
  ·exact dE b1 i z
  ·exact dE B2 j U
  ·exact dE B3 v X
  ·exact dE B4 C E
  ·exact dE B5 nax u
 refine q ⟨dx,pw,pm,pt,pk,pf,pa,dw,dm⟩ _ (fun b o e n=>b6 _ _ (b5 _ _ (b4 _ _ (b3 _ _ (b2 _ _ (b1 b o e n) n) n) n) n) n) fr ⟨ar,b6 _ _ (b5 _ _ (b4 _ _ t3 j.symm) j.symm) j.symm,b6 _ _ k5 v.symm,b6 _ _ f5 C.symm,by rw[ak nax.symm];exact ar,⟨by show 2<=l;lia,by show 2<=f/\f<=l;lia,.inl ⟨rfl,rfl,b6 _ _ (b5 _ _ (b4 _ _ (b3 _ _ w2 d.symm) d.symm) d.symm) d.symm⟩⟩,⟨b6 _ _ (b5 _ _ (b4 _ _ (b3 _ _ m2 i.symm) i.symm) i.symm) i.symm,?_⟩,aG k4 E,aG k5 u,aG f5 u,d,i,nwm⟩;show 1<=MeterM.mn 2 m/\MeterM.mn 2 m<=m/\(0:Int)<=0/\(0:Int)<MeterM.mn 2 m;unfold MeterM.mn;split<;>lia
include T in theorem yk:MA P w K mg base ax "__init__" 1 ["self","ring","room"] (iU ax):=by
 exists 0,T.lB,x6,iU;rename_i x r m;refine⟨_,(aj (aQ (pv 0) (pv 1) T.ba T.js)
 (aj (aQ (pv 0) (pv 2) T.ba T.nG)
 (aj (aQ (pv 0) au T.ba T.bP)
 (aj (aQ (pv 0) au T.ba T.cu)
 (aq (aQ (pv 0) yf T.ba T.cL)))))),?_⟩
 obtain⟨dx,hx,q⟩:=h;exists hx;intro f h1;have n1:x≠f:=(fresh_ne h1).symm;exists ak n1;have k1:H f=none:=by rw[ak n1.symm] at h1;exact h1
 refine q f _ k1 ?_ ⟨ar,?_⟩
 ·intro b o i d;rw[ak d,ak (aG i k1),ak d];exact i
 ·rw[ak n1.symm,ar]
include T in theorem cY:MA P w K mg base ax "room_left" 1 ["self"] (gO ax):=by
 exists 0,T.jR,we,gO;rename_i x;refine⟨_,(aq (aH (aL dA (a_ K (aw (pv 0) T.ba T.cu) (aw (pv 0) T.ba T.nG)) (aw (pv 0) T.ba T.bP)))),?_⟩;obtain⟨dx,pk,z,d,q⟩:=h;exists d.hx;exact q
include T in theorem qa:MA P w K mg base ax "stand_in_order" 1 ["self"] (dy ax):=by
 exists 0,T.dU,iN,dy;rename_i x;refine⟨_,(aj (aO 1 iN.1.nd (jl jn))
 (aj (HD PassesOwn.never (zF (Oj HR.units (aw (pv 0) T.ba T.bP) (aw (pv 0) T.ba T.cL)) (lK rfl)) (aj (bI (nZ K rfl (pv 1) (Oh HR.units (aw (pv 0) T.ba T.cL) (aw (pv 0) T.ba T.bP) (fun _ _=>rfl))))
 (aq (rf (pv 0) au T.ba T.bP rB))))
 (aq (aH (pv 1))))),?_⟩
 obtain⟨dx,pk,z,B,E,J,X,q⟩:=h;exists 9;intro p hp;have f:p≠x:=(aG E.hx hp).symm;have F:p≠pk:=(aG E.hD hp).symm;have I:=E.same (aJ (o:= .lst []) hp);have l1:=ar (H:=H) (a:=p) (o:= .lst []);have O:Lh x pk H (upd H p (.lst [])):=fun b u e _ _=>cb e hp;generalize upd H p (.lst [])=Y at*
 refine⟨fun m σ H'=> ∃n:Nat,m=(B-(z.g+n)).toNat/\(∀j:Nat,j<n->(bH z.D (ik (z.g+j))).isSome=true)/\Lh x pk H H'/\lZ ax H' x dx pk {z with g:=z.g+n}/\H' p=some (.lst (vals z.D z.g n))/\σ= [some (.ref x),some (.ref p)],⟨_,0,rfl,fun j U=>by lia,O,by simpa using I,by simpa [vals] using l1,rfl⟩,?_⟩;rintro m σ H' ⟨n,rfl,hn,G,d,hl,rfl⟩;exists d.hx,d.hD,hl,ak f.symm;have hlen:(vals z.D z.g n).length=n:=by simp[vals]
 cases C:bH z.D (ik (z.g+n)) with
 |none=>
  rw[if_neg (by simp)];exact q n p H' ⟨hn,C⟩ hp G d hl
 |some v=>
  rw[if_pos (by simp)];have Z:=J _ (by rw[C];rfl);refine⟨fun y i=>i=upd (upd H' p (.lst (vals z.D z.g n++ [v]))) x (.ins ax dx (bV (.int z.R) (.int z.M) (.int (z.g+n+1)) (.int z.o) (.ref pk)))/\y= [some (.ref x),some (.ref p)],?_,?_⟩
  ·rintro y i ⟨rfl,rfl⟩;refine⟨(B-(z.g+(n+1:Nat))).toNat,by lia,n+1,rfl,?_,?_,⟨?_,?_⟩,?_,rfl⟩
   ·intro j U;by_cases c:j<n
    ·exact hn j c
    ·have:j=n:=by lia
     subst this;rw[C];rfl
   ·intro b u e k1 k2;rw[ak k1,ak (aG e hp)];exact G b u e k1 k2
   ·rw[ar];show some (HO.ins ax dx (bV _ _ (.int (z.g+n+1)) _ _))=some (HO.ins ax dx (bV _ _ (.int (z.g+((n+1:Nat):Int))) _ _));rw[show z.g+((n+1:Nat):Int)=z.g+n+1 by lia]
   ·rw[ak E.n1,ak F.symm];exact d.hD
   ·rw[ak f,ar,yY C]
  ·refine⟨pV (cT.of hl),v,rfl,?_⟩;exists d.hx,ak f.symm;rw[hlen,sizeLine_eq];lia
include T in theorem Et:MA P w K mg base ax "take" 2 ["self","number","thing"] (pz ax):=by
 exists 0,T.rQ,pF,pz;rename_i x m th;refine⟨_,(aj (aO 3 pF.1.nd (br (HI T) HR (dz (aw (pv 0) T.ba T.js) (c9 (aw (pv 0) T.ba T.bP) (pv 1)))))
 (aj (bD (bw C8 (pv 3) (bO (pv 0) T.ba (cY T) HR)) (aq (aH (cJ (c9 cx (jl jn))))) aU)
 (aj (aO 4 pF.1.nd (a_ K (aw (pv 0) T.ba T.bP) (pv 3)))
 (aj (bD (zF (Ji HR.units (pv 4) (aw (pv 0) T.ba T.cL)) (lK rfl)) (aq (FX HR.units (aw (pv 0) T.ba T.cL) (pv 4) (pv 2))) aU)
 (aq (aH (cJ (c9 (pv 4) (bO (pv 0) T.ba (qa T) HR))))))))),?_⟩
 obtain⟨dx,pk,z,B,j,Z,O,E,Y,hlen,q⟩:=h;exists j.hx;refine⟨Z,dx,pk,z,j,?_⟩;rcases q with⟨c,q⟩|⟨c,q⟩
 ·rw[if_pos c];intro l hl p hp;exact q p l _ (fun b o e=>cb (cb e hl) hp) (Cz (aJ hl) hp) hl ar (cb ar hp)
 ·rw[if_neg (by lia)];exists j.hD,j.hx;have d:∀{H':Hp} {p:Addr} {U:Tk},Lh x pk H H'->lZ ax H' x dx pk U->H' p=none->H p=none:=fun{H' p U} fr y hp=>by
   cases e:H p with
   |none=>rfl
   |some u=>
    have:=fr p u e (fun c=>by rw[c,y.hx] at hp;cases hp) (fun c=>by rw[c,y.hD] at hp;cases hp);rw[this] at hp;cases hp
  cases J:bH z.D (ik (z.g+(m-z.g) % z.R)) with
  |some v=>
   rw[if_neg (by simp)];refine⟨dx,pk,z,B,j,O,E,fun n l H' F hl fr y f p hp=>?_⟩;refine q z.D (by rw[J];rfl) n p l _ F (d fr y hp) hl (fun c=>by rw[c,f] at hp;cases hp) (fun b u e k1 k2=>cb (fr b u e k1 k2) hp) (y.same (aJ hp)) (cb f hp) ar
  |none=>
   rw[if_pos (by simp)];exists j.hD,ak j.n1.symm,j.hx;refine⟨by rw[sizeLine_eq];lia,?_⟩;have X:lZ ax (upd H pk (.dK (putK z.D (ik (z.g+(m-z.g) % z.R)) (.ref th)))) x dx pk {z with D:=putK z.D (ik (z.g+(m-z.g) % z.R)) (.ref th)}:=⟨by rw[ak j.n1.symm];exact j.hx,ar⟩;have G:∀i,(bH (putK z.D (ik (z.g+(m-z.g) % z.R)) (.ref th)) (ik i)).isSome=true->i<B:=fun i hi=>by
    rw[xR] at hi;split at hi
    ·rename_i ce;have:=Sum.inl.inj ce;lia
    ·exact O i hi
   refine⟨dx,pk,_,B,X,G,E,fun n l H' F hl fr y f p hp=>?_⟩;have C:Lh x pk H H':=fun b u e k1 k2=>fr b u (by rw[ak k2];exact e) k1 k2;have I:H l=none:=by
    rw[ak (fun c=>by rw[c,ar] at hl;cases hl)] at hl;exact hl
   exact q _ (by rw[J];rfl) n p l _ F (d C y hp) I (fun c=>by rw[c,f] at hp;cases hp) (fun b u e k1 k2=>cb (C b u e k1 k2) hp) (y.same (aJ hp)) (cb f hp) ar
include T in theorem BB:MA P w K mg base ax "answer" 2 ["self"] (mi ax):=by
 exists 0,T.oz,sA,mi;rename_i x;refine⟨_,(aj (Kr (i:=1) (N:=(["step","self"]:List Str)) (nv:=1) (ix:=[0]) rfl sA.1.nd rfl rfl (qk (by kernel_rfl)) (uR rfl T.dv (c9 au (bO (pv 0) T.ba (cY T) HR))) (fun _ _ _ _ _=>(bu 0 (show((["step","self"]:List Str)).Nodup by decide))) (fun _ _ _ _ _=>(uQ (zF (Oj HR.units (a_ K (aw (pv 1) T.ba T.bP) (pv 0)) (aw (pv 1) T.ba T.cL)) (lK rfl)))) (fun _ _ _ _ _=>(pv 0)))
 (aq (aH (cJ (dz (aL b8 (aw (pv 0) T.ba T.bP) (aw (pv 0) T.ba T.js)) (c9 (bO (pv 0) T.ba (cY T) HR) (wF (Ba K rfl) (by rfl) T.sf uL (cX (pv 1))))))))),?_⟩
 obtain⟨dx,pk,z,d,y,F,q⟩:=h;exists d.hx;refine⟨dx,pk,z,d,by lia,?_⟩;refine GJ (p:=fun v=>match v with | .int i=>(bH z.D (ik (z.g+i))).isSome|_=>false) (f:=fun v=>v) (bq (by lia)) ?_ ?_ ?_
 ·intro i hi C j;exists d.hx,d.hD;exact j
 ·intro i hi _ C j;exists 9;exact j
 rw[held_eq];have hlen:(A9 z.D z.g (z.o+z.M-z.g-1).toNat).length<=1000:=by
  unfold A9;rw[List.length_map];refine Nat.le_trans (List.length_filter_le _ _) ?_;rw[List.length_range];lia
 refine⟨bq (by rw[List.length_map];exact hlen),fun l hl=>?_⟩;generalize E:A9 z.D z.g (z.o+z.M-z.g-1).toNat=hs at*
 have u:=d.same (aJ (o:= .lst (hs.map V.int)) hl);have l1:=ar (H:=H) (a:=l) (o:= .lst (hs.map V.int));have m:=aJ (o:= .lst (hs.map V.int)) hl;generalize upd H l (.lst (hs.map V.int))=G at*
 exists u.hx;refine⟨y,dx,pk,z,u,_,.inl ⟨cT.of l1,fun t ht p hp=>?_⟩⟩;exact q p t hs _ (fun b o e=>cb (cb (m b o e) ht) hp) rfl (Cz (fun b o e=>cb (m b o e) ht) hp) (Cz m ht) (cb ar hp) ar
include T in theorem Eu:MA P w K mg base ax "read" 1 ["self","most"] (pA ax):=by
 exists 0,T.rR,pG,pA;rename_i x m;refine⟨_,(aj (aO 2 pG.1.nd (jl jn))
 (aj (gn PassesOwn.never rfl (uR rfl T.dv (c9 (aw (pv 0) T.ba T.cu) (aY (qm rfl) (by rfl) T.D2 DZ (c9 (a_ K (aw (pv 0) T.ba T.cu) (pv 1)) (aw (pv 0) T.ba T.bP))))) (bu 3 pG.1.nd) (aq (bI (nZ K rfl (pv 2) (Rx (aw (pv 0) T.ba T.cL) (pv 3))))))
 (aj (rf (pv 0) (aY (fN K rfl) (by rfl) T.lY iM (cX (pv 2))) T.ba T.cu rB)
 (aq (aH (pv 2)))))),?_⟩
 obtain⟨dx,pk,z,F,hb,O,q⟩:=h;exists F.hx;intro p hp;have G:p≠x:=(aG F.hx hp).symm;have E:p≠pk:=(aG F.hD hp).symm;have X:=F.same (aJ (o:= .lst []) hp);have l1:=ar (H:=H) (a:=p) (o:= .lst []);have F1:Lh x pk H (upd H p (.lst [])):=fun b u e _ _=>cb e hp;generalize upd H p (.lst [])=H1 at*
 exists X.hx;refine⟨by constructor<;>(try constructor)<;>(try constructor)<;>(try split)<;>lia,?_⟩
 generalize hN:((if z.g<z.o+m then z.g else z.o+m)-z.o).toNat=N at*
 have hN2:z.o+N<=z.g:=by split at hN<;>lia
 refine tP (fun i σ H'=>i<=N/\∃(f:List (Key×V)) (U:Option V),(∀k:Int,bH f (ik k)=if z.o<=k/\k<z.o+i then none else bH z.D (ik k))/\f.Sublist z.D/\Lh x pk H H'/\lZ ax H' x dx pk {z with D:=f}/\H' p=some (.lst (vals z.D z.o i))/\σ= [some (.ref x),some (.int m),some (.ref p),U])
  ⟨Nat.zero_le _,z.D,none,fun k=>by rw[if_neg (by lia)],List.Sublist.refl _,F1,X,by simpa [vals] using l1,rfl⟩ (fun i σ H' hi y=>?_) (fun σ H' y=>?_)
 ·obtain⟨J,f,U,j,C,I,d,hl,rfl⟩:=y;exists d.hx,d.hD,hl,ak E;obtain⟨v,Z⟩:=Option.isSome_iff_exists.mp (O (z.o+i) (by lia) (by lia));refine⟨pV (cT.of hl),v,by rw[j,if_neg (by lia)];exact Z,?_⟩;refine⟨by simp[vals];rw[sizeLine_eq];lia,by lia,t7 f (ik (z.o+i)),_,fun k=>?_,(show(t7 f (ik (z.o+i))).Sublist f from List.filter_sublist).trans C,?_,⟨?_,?_⟩,by rw[yY Z],rfl⟩
  ·rw[Li,j];by_cases c:k=z.o+i
   ·rw[if_pos (by rw[c]),if_pos (by lia)]
   ·rw[if_neg (by intro q;exact c (Sum.inl.inj q))];by_cases Y:z.o<=k/\k<z.o+i
    ·rw[if_pos Y,if_pos (by lia)]
    ·rw[if_neg Y,if_neg (by lia)]
  ·intro b u e k1 k2;rw[ak (aG e hp),ak k2];exact I b u e k1 k2
  ·rw[ak G.symm,ak F.n1.symm];exact d.hx
  ·rw[ak E.symm,ar]
 ·obtain⟨J,f,U,j,C,I,d,hl,rfl⟩:=y;exists d.hx,hl;have hlen:(vals z.D z.o N).length=N:=by simp[vals]
  rw[hlen];refine q N p f _ rfl hp j C ?_ (d.put z.R z.M z.g (z.o+N)) ?_
  ·intro b u e k1 k2;rw[ak k1];exact I b u e k1 k2
  ·rw[ak G];exact hl
include T in theorem hJ:MA P w K mg base aK "__init__" 1 ["self","state","wish"] (gT aK):=by
 exists 0,T.jW,wq,gT;rename_i e v u;refine⟨_,(aj (tw T.nN T.gH (pv 0) (pv 1))
 (aq (N9 T.nN T.iS (pv 0) (pv 2)))),?_⟩
 obtain⟨he,q⟩:=h;exists he;refine⟨e,rfl,he,fun d hd=>?_⟩;have nd:d≠e:=fun z=>by rw[z,he] at hd;cases hd
 refine⟨e,rfl,d,[(("state":Str),v)],ar,by rw[ak nd];exact ar,rfl,(show 1<1000 by decide),?_⟩;have i:upd (upd (upd H d (.xd [("state",v)])) e (.ext (uU e aK (some d)))) d (.xd ([(("state":Str),v)]++ [(("wish":Str),u)]))=upd (upd H d (.xd [("state",v),("wish",u)])) e (.ext (uU e aK (some d))):=by
  funext z;by_cases c1:z=d
  ·subst c1;rw[ar,ak nd,ar];rfl
  ·rw[ak c1];by_cases f:z=e
   ·subst f;rw[ar,ar]
   ·rw[ak f,ak c1,ak f,ak c1]
 rw[i];exact q d hd
include T in theorem Gb:MA P w K mg base ay "name" 1 ["self"] xU:=by
 exists 0,T.uz,FJ,xU;rename_i x;refine⟨_,(aq (aH bR)),?_⟩;exists 9;exact h
include T in theorem BI:MA P w K mg base ae "name" 1 ["self"] sy:=by
 exists 0,T.oI,Br,sy;rename_i x;refine⟨_,(aq (aH bR)),?_⟩;exists 9;exact h
include T in theorem Ge:MA P w K mg base az "name" 1 ["self"] xV:=by
 exists 0,T.uB,FL,xV;rename_i x;refine⟨_,(aq (aH bR)),?_⟩;exists 9;exact h
include T in theorem Gf:MA P w K mg base aB "name" 1 ["self"] xW:=by
 exists 0,T.uC,FN,xW;rename_i x;refine⟨_,(aq (aH bR)),?_⟩;exists 9;exact h
include T in theorem BF:MA P w K mg base af "name" 1 ["self"] su:=by
 exists 0,T.oF,Bp,su;rename_i x;refine⟨_,(aq (aH bR)),?_⟩;exists 9;exact h
include T in theorem By:MA P w K mg base ag "name" 1 ["self"] sk:=by
 exists 0,T.oy,Bk,sk;rename_i x;refine⟨_,(aq (aH bR)),?_⟩;exists 9;exact h
include T in theorem BH:MA P w K mg base ah "name" 1 ["self"] sv:=by
 exists 0,T.oH,Bq,sv;rename_i x;refine⟨_,(aq (aH bR)),?_⟩;exists 9;exact h
include T in theorem wK:MA P w K mg base ay "wish_begin" 1 ["self"] (nR ay ae az aB af ag ah):=by
 exists 0,T.jT,wj,nR;rename_i x;refine⟨_,(aq (aH (my T.d5 T.wO rfl))),?_⟩;exists 9;exact fun y dx d nd _=>h y _ (cV d nd) ⟨_,dx,ar,.tail _ (.head _)⟩
include T in theorem vv:MA P w K mg base ae "wish_end" 1 ["self"] (m8 ay ae az aB af ag ah):=by
 exists 0,T.iK,vg,m8;rename_i x;refine⟨_,(aq (aH (my T.dB T.rl rfl))),?_⟩;exists 9;exact fun y dx d nd _=>h y _ (cV d nd) ⟨_,dx,ar,.tail _ (.tail _ (.tail _ (.tail _ (.head _))))⟩
include T in theorem zQ:MA P w K mg base az "wish_end" 1 ["self"] (pY ay ae az aB af ag ah):=by
 exists 0,T.mO,zj,pY;rename_i x;refine⟨_,(aq (aH (my T.dB T.rl rfl))),?_⟩;exists 9;exact fun y dx d nd _=>h y _ (cV d nd) ⟨_,dx,ar,.tail _ (.tail _ (.tail _ (.tail _ (.head _))))⟩
include T in theorem zU:MA P w K mg base aB "wish_end" 1 ["self"] (pZ ay ae az aB af ag ah):=by
 exists 0,T.mS,zr,pZ;rename_i x;refine⟨_,(aq (aH (my T.dC T.rp rfl))),?_⟩;exists 9;exact fun y dx d nd _=>h y _ (cV d nd) ⟨_,dx,ar,.tail _ (.tail _ (.tail _ (.tail _ (.tail _ (.tail _ (.head _))))))⟩
include T in theorem Ew:MA P w K mg base ay "begun" 1 ["self"] (vI ay ae az aB af ag ah):=by
 exists 0,T.rS,Eh,vI;rename_i x;refine⟨_,(aq (aH (my T.n9 T.Cu rfl))),?_⟩;exists 9;exact fun y dx d nd _=>h y _ (cV d nd) ⟨_,dx,ar,.tail _ (.tail _ (.head _))⟩
include T in theorem zY:MA P w K mg base ae "begun" 1 ["self"] (p8 ay ae az aB af ag ah):=by
 exists 0,T.mX,zy,p8;rename_i x;refine⟨_,(aq (aH (my T.n9 T.Cu rfl))),?_⟩;exists 9;exact fun y dx d nd _=>h y _ (cV d nd) ⟨_,dx,ar,.tail _ (.tail _ (.head _))⟩
include T in theorem Ex:MA P w K mg base az "ended" 1 ["self"] (vJ ay ae az aB af ag ah):=by
 exists 0,T.rV,Ej,vJ;rename_i x;refine⟨_,(aq (aH (my T.pI T.Gn rfl))),?_⟩;exists 9;exact fun y dx d nd _=>h y _ (cV d nd) ⟨_,dx,ar,.tail _ (.tail _ (.tail _ (.head _)))⟩
include T in theorem zV:MA P w K mg base af "ended" 1 ["self"] (p7 ay ae az aB af ag ah):=by
 exists 0,T.mT,zu,p7;rename_i x;refine⟨_,(aq (aH (my T.dC T.rp rfl))),?_⟩;exists 9;exact fun y dx d nd _=>h y _ (cV d nd) ⟨_,dx,ar,.tail _ (.tail _ (.tail _ (.tail _ (.tail _ (.tail _ (.head _))))))⟩
include T in theorem zN:MA P w K mg base ag "ended" 1 ["self"] (pW ay ae az aB af ag ah):=by
 exists 0,T.mM,zc,pW;rename_i x;refine⟨_,(aq (aH (my T.mG T.yr rfl))),?_⟩;exists 9;exact fun y dx d nd _=>h y _ (cV d nd) ⟨_,dx,ar,.head _⟩
include T in theorem vq:MA P w K mg base af "answered" 1 ["self"] (mZ ay ae az aB af ag ah):=by
 exists 0,T.iI,ve,mZ;rename_i x;refine⟨_,(aq (aH (my T.d4 T.wN rfl))),?_⟩;exists 9;exact fun y dx d nd _=>h y _ (cV d nd) ⟨_,dx,ar,.tail _ (.tail _ (.tail _ (.tail _ (.tail _ (.head _)))))⟩
include T in theorem vt:MA P w K mg base ah "answered" 1 ["self"] (m7 ay ae az aB af ag ah):=by
 exists 0,T.iJ,vf,m7;rename_i x;refine⟨_,(aq (aH (my T.mG T.yr rfl))),?_⟩;exists 9;exact fun y dx d nd _=>h y _ (cV d nd) ⟨_,dx,ar,.head _⟩
include T in theorem fc {C:Addr} (F:MethAt K C "begun" "State.begun" (ic 53 4)):MA P w K mg base C "begun" 1 ["self"] sU:=by
 exists 0,F,CP,sU;rename_i x;refine⟨_,(aq (aH (pv 0))),?_⟩;exists 9;exact h
include T in theorem jq {C:Addr} (F:MethAt K C "ended" "State.ended" (ic 53 5)):MA P w K mg base C "ended" 1 ["self"] sT:=by
 exists 0,F,CO,sT;rename_i x;refine⟨_,(aq (aH (pv 0))),?_⟩;exists 9;exact h
include T in theorem dc {C:Addr} (F:MethAt K C "answered" "State.answered" (ic 53 6)):MA P w K mg base C "answered" 1 ["self"] oV:=by
 exists 0,F,x9,oV;rename_i x;refine⟨_,(aq (aH (pv 0))),?_⟩;exists 9;exact h
include T in theorem wM:MA P w K mg base ae "may_put" 1 ["self"] nV:=by
 exists 0,T.jX,wu,nV;rename_i x;refine⟨_,(aq (aH cW)),?_⟩;exists 9;exact h
include T in theorem BD:MA P w K mg base az "may_put" 1 ["self"] so:=by
 exists 0,T.oC,Bm,so;rename_i x;refine⟨_,(aq (aH cW)),?_⟩;exists 9;exact h
include T in theorem BE:MA P w K mg base aB "may_put" 1 ["self"] sr:=by
 exists 0,T.oE,Bn,sr;rename_i x;refine⟨_,(aq (aH cW)),?_⟩;exists 9;exact h
include T in theorem fG {C:Addr} (F:MethAt K C "may_put" "State.may_put" (ic 53 3)):MA P w K mg base C "may_put" 1 ["self"] pX:=by
 exists 0,F,zh,pX;rename_i x;refine⟨_,(aq (aH cW)),?_⟩;exists 9;exact h
theorem nP {ay ae az aB af ag ah:Addr} {C:Addr} {nm:Str} (h:(C,nm)∈tbl ay ae az aB af ag ah):(C=ay/\nm = "shut")\/(C=ae/\nm = "calling")\/(C=az/\nm = "open")\/(C=aB/\nm = "left")\/(C=af/\nm = "leaving")\/(C=ag/\nm = "waiting")\/(C=ah/\nm = "closing"):=by
 simpa [tbl] using h
theorem zO (T:Txt K mg):EX P w K mg base (IH P w) "name" 1 (y6 ay ae az aB af ag ah):=by
 intro x H Q E h;unfold y6 at h;split at h;rotate_left
 ·exact h.elim
 rename_i x e;obtain⟨nm,d,q⟩:=h;have f:=d;obtain⟨C,dx,hx,hm⟩:=d;injection e with e1 _;rcases nP hm with⟨rfl,rfl⟩|⟨rfl,rfl⟩|⟨rfl,rfl⟩|⟨rfl,rfl⟩|⟨rfl,rfl⟩|⟨rfl,rfl⟩|⟨rfl,rfl⟩
 ·exact⟨x,_,dx,_,_,_,_,e1,hx,rfl,by decide,T.mG.cl,Gb T,q⟩
 ·exact⟨x,_,dx,_,_,_,_,e1,hx,rfl,by decide,T.d5.cl,BI T,q⟩
 ·exact⟨x,_,dx,_,_,_,_,e1,hx,rfl,by decide,T.n9.cl,Ge T,q⟩
 ·exact⟨x,_,dx,_,_,_,_,e1,hx,rfl,by decide,T.pI.cl,Gf T,q⟩
 ·exact⟨x,_,dx,_,_,_,_,e1,hx,rfl,by decide,T.dB.cl,BF T,q⟩
 ·exact⟨x,_,dx,_,_,_,_,e1,hx,rfl,by decide,T.d4.cl,By T,q⟩
 ·exact⟨x,_,dx,_,_,_,_,e1,hx,rfl,by decide,T.dC.cl,BH T,q⟩
include T in theorem cq {C:Addr} (F:MethAt K C "wish_begin" "State.wish_begin" (ic 53 1)):MA P w K mg base C "wish_begin" 3 ["self"] (mY aK ay ae az aB af ag ah):=by
 exists 1,F,u7,mY;rename_i x;refine⟨_,(aq (fb T.nN (hJ T) T.qd HR (by decide) oX rfl rfl rfl (c9 (wC (pv 0) (zO T) HR (by decide)) bR))),?_⟩;obtain⟨nm,f,q⟩:=h;exists 9;refine⟨nm,f,fun e he d hd=>?_⟩;obtain⟨s1,s2⟩:=dropxl (C:=aK) (l:=[("state",.str nm),("wish",.str "begin")]) (a8.refl H) he hd;exact⟨_,rfl,q _ d s1 s2⟩
include T in theorem eP {C:Addr} (F:MethAt K C "wish_end" "State.wish_end" (ic 53 2)):MA P w K mg base C "wish_end" 3 ["self"] (oU aK ay ae az aB af ag ah):=by
 exists 1,F,x8,oU;rename_i x;refine⟨_,(aq (fb T.nN (hJ T) T.qd HR (by decide) oX rfl rfl rfl (c9 (wC (pv 0) (zO T) HR (by decide)) bR))),?_⟩;obtain⟨nm,f,q⟩:=h;exists 9;refine⟨nm,f,fun e he d hd=>?_⟩;obtain⟨s1,s2⟩:=dropxl (C:=aK) (l:=[("state",.str nm),("wish",.str "end")]) (a8.refl H) he hd;exact⟨_,rfl,q _ d s1 s2⟩
theorem BA (T:Txt K mg):EX P w K mg base (IH P w) "wish_begin" 3 (mh aK ay ae az aB af ag ah):=by
 intro x H Q E h;unfold mh at h;split at h;rotate_left
 ·exact h.elim
 rename_i x e;obtain⟨nm,f,q⟩:=h;have d:=f;obtain⟨C,dx,hx,hm⟩:=f;injection e with e1 _;rcases nP hm with⟨rfl,rfl⟩|⟨rfl,rfl⟩|⟨rfl,rfl⟩|⟨rfl,rfl⟩|⟨rfl,rfl⟩|⟨rfl,rfl⟩|⟨rfl,rfl⟩
 ·exact⟨x,_,dx,_,_,_,_,e1,hx,rfl,by decide,T.mG.cl,wK T,q.1 _ (by decide+kernel)⟩
 ·exact⟨x,_,dx,_,_,_,_,e1,hx,rfl,by decide,T.d5.cl,cq T T.eE,⟨_,d,q.2 (by decide+kernel)⟩⟩
 ·exact⟨x,_,dx,_,_,_,_,e1,hx,rfl,by decide,T.n9.cl,cq T T.ir,⟨_,d,q.2 (by decide+kernel)⟩⟩
 ·exact⟨x,_,dx,_,_,_,_,e1,hx,rfl,by decide,T.pI.cl,cq T T.iu,⟨_,d,q.2 (by decide+kernel)⟩⟩
 ·exact⟨x,_,dx,_,_,_,_,e1,hx,rfl,by decide,T.dB.cl,cq T T.eB,⟨_,d,q.2 (by decide+kernel)⟩⟩
 ·exact⟨x,_,dx,_,_,_,_,e1,hx,rfl,by decide,T.d4.cl,cq T T.eA,⟨_,d,q.2 (by decide+kernel)⟩⟩
 ·exact⟨x,_,dx,_,_,_,_,e1,hx,rfl,by decide,T.dC.cl,cq T T.eC,⟨_,d,q.2 (by decide+kernel)⟩⟩
theorem Er (T:Txt K mg):EX P w K mg base (IH P w) "wish_end" 3 (pj aK ay ae az aB af ag ah):=by
 intro x H Q E h;unfold pj at h;split at h;rotate_left
 ·exact h.elim
 rename_i x e;obtain⟨nm,f,q⟩:=h;have d:=f;obtain⟨C,dx,hx,hm⟩:=f;injection e with e1 _;rcases nP hm with⟨rfl,rfl⟩|⟨rfl,rfl⟩|⟨rfl,rfl⟩|⟨rfl,rfl⟩|⟨rfl,rfl⟩|⟨rfl,rfl⟩|⟨rfl,rfl⟩
 ·exact⟨x,_,dx,_,_,_,_,e1,hx,rfl,by decide,T.mG.cl,eP T T.lg,⟨_,d,q.2 (by decide+kernel)⟩⟩
 ·exact⟨x,_,dx,_,_,_,_,e1,hx,rfl,by decide,T.d5.cl,vv T,q.1 _ (by decide+kernel)⟩
 ·exact⟨x,_,dx,_,_,_,_,e1,hx,rfl,by decide,T.n9.cl,zQ T,q.1 _ (by decide+kernel)⟩
 ·exact⟨x,_,dx,_,_,_,_,e1,hx,rfl,by decide,T.pI.cl,zU T,q.1 _ (by decide+kernel)⟩
 ·exact⟨x,_,dx,_,_,_,_,e1,hx,rfl,by decide,T.dB.cl,eP T T.gx,⟨_,d,q.2 (by decide+kernel)⟩⟩
 ·exact⟨x,_,dx,_,_,_,_,e1,hx,rfl,by decide,T.d4.cl,eP T T.gv,⟨_,d,q.2 (by decide+kernel)⟩⟩
 ·exact⟨x,_,dx,_,_,_,_,e1,hx,rfl,by decide,T.dC.cl,eP T T.gy,⟨_,d,q.2 (by decide+kernel)⟩⟩
theorem Jr (T:Txt K mg):EX P w K mg base (IH P w) "begun" 1 (wd ay ae az aB af ag ah):=by
 intro x H Q E h;unfold wd at h;split at h;rotate_left
 ·exact h.elim
 rename_i x e;obtain⟨nm,f,q⟩:=h;have d:=f;obtain⟨C,dx,hx,hm⟩:=f;injection e with e1 _;rcases nP hm with⟨rfl,rfl⟩|⟨rfl,rfl⟩|⟨rfl,rfl⟩|⟨rfl,rfl⟩|⟨rfl,rfl⟩|⟨rfl,rfl⟩|⟨rfl,rfl⟩
 ·exact⟨x,_,dx,_,_,_,_,e1,hx,rfl,by decide,T.mG.cl,Ew T,q _ (by decide+kernel)⟩
 ·exact⟨x,_,dx,_,_,_,_,e1,hx,rfl,by decide,T.d5.cl,zY T,q _ (by decide+kernel)⟩
 ·exact⟨x,_,dx,_,_,_,_,e1,hx,rfl,by decide,T.n9.cl,fc T T.pN,q _ (by decide+kernel) _ _ (a8.refl _) d⟩
 ·exact⟨x,_,dx,_,_,_,_,e1,hx,rfl,by decide,T.pI.cl,fc T T.pP,q _ (by decide+kernel) _ _ (a8.refl _) d⟩
 ·exact⟨x,_,dx,_,_,_,_,e1,hx,rfl,by decide,T.dB.cl,fc T T.lr,q _ (by decide+kernel) _ _ (a8.refl _) d⟩
 ·exact⟨x,_,dx,_,_,_,_,e1,hx,rfl,by decide,T.d4.cl,fc T T.k_,q _ (by decide+kernel) _ _ (a8.refl _) d⟩
 ·exact⟨x,_,dx,_,_,_,_,e1,hx,rfl,by decide,T.dC.cl,fc T T.lx,q _ (by decide+kernel) _ _ (a8.refl _) d⟩
theorem Jq (T:Txt K mg):EX P w K mg base (IH P w) "ended" 1 (qH ay ae az aB af ag ah):=by
 intro x H Q E h;unfold qH at h;split at h;rotate_left
 ·exact h.elim
 rename_i x e;obtain⟨nm,f,q⟩:=h;have d:=f;obtain⟨C,dx,hx,hm⟩:=f;injection e with e1 _;rcases nP hm with⟨rfl,rfl⟩|⟨rfl,rfl⟩|⟨rfl,rfl⟩|⟨rfl,rfl⟩|⟨rfl,rfl⟩|⟨rfl,rfl⟩|⟨rfl,rfl⟩
 ·exact⟨x,_,dx,_,_,_,_,e1,hx,rfl,by decide,T.mG.cl,jq T T.pM,q _ (by decide+kernel) _ _ (a8.refl _) d⟩
 ·exact⟨x,_,dx,_,_,_,_,e1,hx,rfl,by decide,T.d5.cl,jq T T.ly,q _ (by decide+kernel) _ _ (a8.refl _) d⟩
 ·exact⟨x,_,dx,_,_,_,_,e1,hx,rfl,by decide,T.n9.cl,Ex T,q _ (by decide+kernel)⟩
 ·exact⟨x,_,dx,_,_,_,_,e1,hx,rfl,by decide,T.pI.cl,jq T T.pO,q _ (by decide+kernel) _ _ (a8.refl _) d⟩
 ·exact⟨x,_,dx,_,_,_,_,e1,hx,rfl,by decide,T.dB.cl,zV T,q _ (by decide+kernel)⟩
 ·exact⟨x,_,dx,_,_,_,_,e1,hx,rfl,by decide,T.d4.cl,zN T,q _ (by decide+kernel)⟩
 ·exact⟨x,_,dx,_,_,_,_,e1,hx,rfl,by decide,T.dC.cl,jq T T.lu,q _ (by decide+kernel) _ _ (a8.refl _) d⟩
theorem Es (T:Txt K mg):EX P w K mg base (IH P w) "answered" 1 (pq ay ae az aB af ag ah):=by
 intro x H Q E h;unfold pq at h;split at h;rotate_left
 ·exact h.elim
 rename_i x e;obtain⟨nm,f,q⟩:=h;have d:=f;obtain⟨C,dx,hx,hm⟩:=f;injection e with e1 _;rcases nP hm with⟨rfl,rfl⟩|⟨rfl,rfl⟩|⟨rfl,rfl⟩|⟨rfl,rfl⟩|⟨rfl,rfl⟩|⟨rfl,rfl⟩|⟨rfl,rfl⟩
 ·exact⟨x,_,dx,_,_,_,_,e1,hx,rfl,by decide,T.mG.cl,dc T T.lh,q _ (by decide+kernel) _ _ (a8.refl _) d⟩
 ·exact⟨x,_,dx,_,_,_,_,e1,hx,rfl,by decide,T.d5.cl,dc T T.gz,q _ (by decide+kernel) _ _ (a8.refl _) d⟩
 ·exact⟨x,_,dx,_,_,_,_,e1,hx,rfl,by decide,T.n9.cl,dc T T.lp,q _ (by decide+kernel) _ _ (a8.refl _) d⟩
 ·exact⟨x,_,dx,_,_,_,_,e1,hx,rfl,by decide,T.pI.cl,dc T T.lq,q _ (by decide+kernel) _ _ (a8.refl _) d⟩
 ·exact⟨x,_,dx,_,_,_,_,e1,hx,rfl,by decide,T.dB.cl,vq T,q _ (by decide+kernel)⟩
 ·exact⟨x,_,dx,_,_,_,_,e1,hx,rfl,by decide,T.d4.cl,dc T T.gw,q _ (by decide+kernel) _ _ (a8.refl _) d⟩
 ·exact⟨x,_,dx,_,_,_,_,e1,hx,rfl,by decide,T.dC.cl,vt T,q _ (by decide+kernel)⟩
theorem Ga (T:Txt K mg):EX P w K mg base (IH P w) "may_put" 1 (qG ay ae az aB af ag ah):=by
 intro x H Q E h;unfold qG at h;split at h;rotate_left
 ·exact h.elim
 rename_i x e;obtain⟨nm,d,q⟩:=h;have f:=d;obtain⟨C,dx,hx,hm⟩:=d;injection e with e1 _;rcases nP hm with⟨rfl,rfl⟩|⟨rfl,rfl⟩|⟨rfl,rfl⟩|⟨rfl,rfl⟩|⟨rfl,rfl⟩|⟨rfl,rfl⟩|⟨rfl,rfl⟩
 ·exact⟨x,_,dx,_,_,_,_,e1,hx,rfl,by decide,T.mG.cl,fG T T.mI,q⟩
 ·exact⟨x,_,dx,_,_,_,_,e1,hx,rfl,by decide,T.d5.cl,wM T,q⟩
 ·exact⟨x,_,dx,_,_,_,_,e1,hx,rfl,by decide,T.n9.cl,BD T,q⟩
 ·exact⟨x,_,dx,_,_,_,_,e1,hx,rfl,by decide,T.pI.cl,BE T,q⟩
 ·exact⟨x,_,dx,_,_,_,_,e1,hx,rfl,by decide,T.dB.cl,fG T T.iw,q⟩
 ·exact⟨x,_,dx,_,_,_,_,e1,hx,rfl,by decide,T.d4.cl,fG T T.iq,q⟩
 ·exact⟨x,_,dx,_,_,_,_,e1,hx,rfl,by decide,T.dC.cl,fG T T.iy,q⟩
include T in theorem Jm:FA P w K mg base "is_text" 1 ["text"] vY:=by
 exists 0,T.AI,IX,vY;rename_i z;refine⟨_,(aq (aH (di (aY (AO K rfl) (by rfl) T.cC cS (c9 (pv 0) (A5 rfl T.Ld Qb))) (di (C5 tE tE au (aY (fN K rfl) (by rfl) T.lY iM (cX (pv 0))) (cg rfl T.uJ)) (nY (aY (AQ K rfl rfl) (by rfl) T.Iw JQ (cX (jm (N:=(["sign"]:List Str)) (nv:=1) (ix:=[]) rfl (qk (by kernel_rfl)) (dq K rfl (pv 0)) (fun _ _ _ _ _=>(bu 0 (show((["sign"]:List Str)).Nodup by decide))) (fun _ _ _ _ _=>qZ) (fun _ _ _ _ _=>(Ct (F2 K rfl) (pv 0) (cg rfl T.r_) (lK rfl))))))))))),?_⟩;obtain⟨i,q⟩:=h;exists 9;refine⟨bq i,?_⟩;by_cases c1:1<=(z.length:Int);rotate_left
 ·rw[if_neg c1];have e:oS z=false:=by unfold oS;rw[decide_eq_false (by lia)];rfl
  rw[<-e];exact q H (a8.refl _)
 rw[if_pos c1];by_cases d:(z.length:Int)<=60;rotate_left
 ·rw[if_neg d];have e:oS z=false:=by unfold oS;rw[decide_eq_false (show¬z.length<=60 by lia),Bool.and_false];rfl
  rw[<-e];exact q H (a8.refl _)
 rw[if_pos d];refine P5 (p:=fun _=>true) (f:=fun x=> .bl (OZ x)) (by rw[sizeLine_eq];lia) (fun _ _ Q h=>h) (fun x hx _ Q u=>?_) ?_
 ·obtain⟨n,_,rfl⟩:=List.mem_map.mp hx;exists 9;exact u
 have j:(d9 z).length=z.length:=by simp[d9,Str.length]
 have e1:((d9 z).filter fun _=>true).map (fun x=>V.bl (OZ x))=((d9 z).map OZ).map V.bl:=by
  rw[List.filter_eq_self.mpr (fun _ _=>rfl),List.map_map];rfl
 rw[e1];refine⟨by rw[List.length_map,List.length_map,j,sizeLine_eq];lia,fun p hp=>⟨(d9 z).map OZ,cT.of ar,?_⟩⟩;have m:((d9 z).map OZ).all id=oS z:=by
  unfold oS;rw[decide_eq_true (show 1<=z.length by lia),decide_eq_true (show z.length<=60 by lia),List.all_map];rfl
 rw[m];exact q _ (aJ hp)
include T in theorem qb:MA P w K mg base aA "__init__" 5 ["self","side","terms"] (kq aA ax aa av ai ay ae az aB af ag ah bj):=by
 exists 0,T.mW,zw,kq;rename_i x side tm;refine⟨_,(aj (aQ (pv 0) (pv 1) T.aV T.tJ)
 (aj (aQ (pv 0) (aw (pv 2) T.c7 T.fH) T.aV T.iP)
 (aj (aQ (pv 0) (wD T.ba (yk T) HR (by decide) rfl (c9 (aw (pv 2) T.c7 T.fH) (aS K (aw (pv 2) T.c7 T.dj) (pv 1)))) T.aV T.cp)
 (aE (aj (aQ (pv 0) (wD T.aC (wL T) HR (by decide) rfl (dz (aw (pv 2) T.c7 T.fH) (dz (aw (pv 2) T.c7 T.lL) (c9 (aw (pv 2) T.c7 T.dY) (aS K (aw (pv 2) T.c7 T.dj) (aL dA au (pv 1))))))) T.aV T.bc)
 (aE (aj (aQ (pv 0) (my T.mG T.yr rfl) T.aV T.bM)
 (aj (aQ (pv 0) cW T.aV T.bW)
 (aq (aQ (pv 0) (jl jn) T.aV T.df)))))))))),?_⟩
 obtain⟨dx,r,o,t,g,f,l,hx,⟨dt,p,htm,hp⟩,hg,hs,q⟩:=h;have n1:tm≠x:=bS htm hx (by simp[jN]);have n2:p≠x:=bS hp hx (by simp);obtain⟨g1,⟨g2,g3⟩,g4,g5,g6⟩:=hg;have own:j4 [V.int o,V.int t] side=some (.int (if side=0 then o else t))/\j4 [V.int o,V.int t] (1-side)=some (.int (if side=0 then t else o)):=by
  rcases hs with rfl|rfl
  ·exact⟨by rw[if_pos rfl];exact uM,by rw[if_pos rfl];exact vQ⟩
  ·exact⟨by rw[if_neg (by decide)];exact vQ,by rw[if_neg (by decide)];exact uM⟩
 have ob:(1<=(if side=0 then o else t)/\(if side=0 then o else t)<=16)/\1<=(if side=0 then t else o):=by split<;>lia
 generalize(if side=0 then o else t)=mo at*
 generalize(if side=0 then t else o)=mt at*
 generalize h_u1:aD _=u1;exists hx,htm,ak n1,ak n2,hp,own.1;intro tk dk J ndk nek;refine⟨dk,rfl,fun kd H1 z b1 t1=>?_⟩;have y:x≠tk:=fresh_ne J |>.symm;have xdk:x≠dk:=fresh_ne ndk |>.symm;have x1:H1 x=some (.ins aA dx (qj (.int side) (.int r))):=b1 _ _ (by rw[ak y,ak xdk,ar]) y;have B1:∀b u,H b=some u->b≠x->H1 b=some u:=fun b u e n=>by
  have e1:upd H x (.ins aA dx (qj (.int side) (.int r))) b=some u:=by rw[ak n];exact e
  exact b1 _ _ (by rw[ak (aG e1 J),ak (aG e1 ndk)];exact e1) (aG e1 J)
 have ftk:H tk=none:=by rw[ak y.symm] at J;exact J
 have U:H kd=none/\kd≠x:=by
  have k1:kd≠tk:=fresh_ne z;rw[ak k1] at z;have k2:kd≠dk:=fresh_ne z;rw[ak k2] at z;have k3:kd≠x:=fresh_ne z;rw[ak k3] at z;exact⟨z,k3⟩
 clear b1 z;have Z:=B1 _ _ htm n1;have hp1:=B1 _ _ hp n2;exists x1;have X1:lH x H (upd H1 x (.ins aA dx (d6 (.int side) (.int r) (.ref tk)))):=fun b u e n=>by rw[ak n];exact B1 b u e n
 have x2:upd H1 x (.ins aA dx (d6 (.int side) (.int r) (.ref tk))) x=some (.ins aA dx (d6 (.int side) (.int r) (.ref tk))):=ar;have t2:lZ ax (upd H1 x (.ins aA dx (d6 (.int side) (.int r) (.ref tk)))) tk dk kd ⟨r,mo,0,0,[]⟩:=⟨by rw[ak y.symm];exact t1.hx,by rw[ak U.2];exact t1.hD⟩;have htm2:upd H1 x (.ins aA dx (d6 (.int side) (.int r) (.ref tk))) tm=some (.ins bj dt (jN (.int r) (.ref p) (.int g) (.int f) (.int l))):=by rw[ak n1];exact Z
 have hp2:upd H1 x (.ins aA dx (d6 (.int side) (.int r) (.ref tk))) p=some (.tup [.int o,.int t]):=by rw[ak n2];exact hp1
 generalize upd H1 x (.ins aA dx (d6 (.int side) (.int r) (.ref tk)))=H2 at*
 clear x1 t1 B1 Z hp1;rw[<-h_u1,aD];generalize h_u2:aD _=u2;exists htm2,hp2,own.2;intro sd ds O nds nes;refine⟨⟨by lia,by lia,by lia⟩,ds,rfl,fun S X b3 fr3 s3=>?_⟩;have Y:x≠sd:=aG x2 O;have B3:∀b u,H2 b=some u->X b=some u:=fun b u e=>b3 _ _ (by rw[ak (aG e O),ak (aG e nds)];exact e) (aG e O);have v:∀b,b∈[S.pw,S.pm,S.pt,S.pk,S.pf,S.pa]->H2 b=none/\b≠sd:=fun b F=>by
  have k0:=fr3 b F;have k1:b≠sd:=fresh_ne k0;rw[ak k1] at k0;have k2:b≠ds:=fresh_ne k0;rw[ak k2] at k0;exact⟨k0,k1⟩
 clear b3 fr3;have x3:=B3 _ _ x2;have t3:lZ ax X tk dk kd ⟨r,mo,0,0,[]⟩:=⟨B3 _ _ t2.hx,B3 _ _ t2.hD⟩;exists x3;have X3:lH x H (upd X x (.ins aA dx (dF (.int side) (.int r) (.ref tk) (.ref sd)))):=fun b u e n=>by rw[ak n];exact B3 _ _ (X1 b u e n)
 have x4:upd X x (.ins aA dx (dF (.int side) (.int r) (.ref tk) (.ref sd))) x=some (.ins aA dx (dF (.int side) (.int r) (.ref tk) (.ref sd))):=ar;have xS:∀b,b∈[S.pw,S.pm,S.pt,S.pk,S.pf,S.pa]->b≠x:=fun b F e=>by have:=(v b F).1;rw[e,x2] at this;cases this
 have k4:Kp [x] X (upd X x (.ins aA dx (dF (.int side) (.int r) (.ref tk) (.ref sd)))):=Kp.one;have s4:bX aa av ai (upd X x (.ins aA dx (dF (.int side) (.int r) (.ref tk) (.ref sd)))) sd S _:=s3.kp k4 (fun b F m=>by
  rw[List.mem_singleton] at m;rcases List.mem_cons.mp F with e|F
  ·exact Y (m.symm.trans e)
  ·exact xS b F m) (fun t l e m=>by rw[List.mem_singleton.mp m,x3] at e;cases e)
 have t4:lZ ax (upd X x (.ins aA dx (dF (.int side) (.int r) (.ref tk) (.ref sd)))) tk dk kd ⟨r,mo,0,0,[]⟩:=⟨by rw[ak y.symm];exact t3.hx,by rw[ak U.2];exact t3.hD⟩;generalize upd X x (.ins aA dx (dF (.int side) (.int r) (.ref tk) (.ref sd)))=H4 at*
 rw[<-h_u2,aD];exists 9;intro st dst nst ndst nest;have S5:a8 H4 _:=cV (C:=ay) (fs:=[]) nst ndst;have st5:j5 (tbl ay ae az aB af ag ah) (upd (upd H4 dst (.own st)) st (.ins ay dst [])) st "shut" :=⟨_,_,ar,.head _⟩;have x5:=S5 _ _ x4;have j:=s4.same S5;have t5:=t4.same S5;have X5:lH x H _:=fun b u e n=>S5 _ _ (X3 b u e n);generalize upd (upd H4 dst (.own st)) st (.ins ay dst [])=H5 at*
 exists x5;intro pe npe;have I:x≠pe:=(fresh_ne npe).symm;exists ak I;have G:H5 pe=none:=by rw[ak I.symm] at npe;exact npe
 have nod:(foot x ⟨dx,tk,dk,kd,sd,S,st,pe⟩).Nodup:=by
  have n_tk:tk≠x:=y.symm;have in2:∀{b:Addr} {u:HO},H2 b=some u->b ∉ [S.pw,S.pm,S.pt,S.pk,S.pf,S.pa]/\b≠sd:=fun{b u} e=>⟨(fun m=>by have:=(v b m).1;rw[e] at this;cases this),aG e O⟩;have i:∀{b:Addr} {u:HO},H5 b=some u->b≠pe:=fun e=>aG e G;obtain⟨em,_⟩:=j.ms;obtain⟨_,_,ew⟩:=j.ws.ins;have kx:=in2 x2;have kt:=in2 t2.hx;have kk:=in2 t2.hD;have E:sd ∉ [S.pw,S.pm,S.pt,S.pk,S.pf,S.pa]:=fun m=>(v sd m).2 rfl;have m1:S.pm≠S.pt:=bS em j.ht (by simp);have m2:S.pm≠S.pk:=bS em j.hk (by simp);have m3:S.pm≠S.pf:=bS em j.hf (by simp);have m4:S.pm≠S.pa:=bS em j.ha (by simp);have w1:S.pw≠S.pt:=bS ew j.ht (by simp);have w2:S.pw≠S.pk:=bS ew j.hk (by simp);have w3:S.pw≠S.pf:=bS ew j.hf (by simp);have w4:S.pw≠S.pa:=bS ew j.ha (by simp);have v1:S.pt≠S.pk:=bS j.ht j.hk (by simp);have v2:S.pt≠S.pf:=bS j.ht j.hf (by simp);have v3:S.pt≠S.pa:=bS j.ht j.ha (by simp);simp only[List.mem_cons,List.not_mem_nil,or_false,not_or] at kx kt kk E;simp only[foot,List.nodup_cons,List.mem_cons,List.not_mem_nil,or_false,not_or,List.nodup_nil,and_true,not_false_eq_true];have tkd:tk≠kd:=t2.n1.symm;exact⟨⟨y,U.2.symm,Y,kx.1.1,kx.1.2.1,kx.1.2.2.1,kx.1.2.2.2.1,kx.1.2.2.2.2.1,kx.1.2.2.2.2.2,I⟩,
   ⟨tkd,kt.2,kt.1.1,kt.1.2.1,kt.1.2.2.1,kt.1.2.2.2.1,kt.1.2.2.2.2.1,kt.1.2.2.2.2.2,i t5.hx⟩,
   ⟨kk.2,kk.1.1,kk.1.2.1,kk.1.2.2.1,kk.1.2.2.2.1,kk.1.2.2.2.2.1,kk.1.2.2.2.2.2,i t5.hD⟩,
   ⟨E.1,E.2.1,E.2.2.1,E.2.2.2.1,E.2.2.2.2.1,E.2.2.2.2.2,i j.hx⟩,
   ⟨j.wm,w1,w2,w3,w4,i ew⟩,⟨m1,m2,m3,m4,i em⟩,⟨v1,v2,v3,i j.ht⟩,⟨j.kf,j.ka,i j.hk⟩,⟨j.fa,i j.hf⟩,i j.ha⟩
 have kF:Kp [x] H5 (upd (upd (upd H5 x (.ins aA dx (uT (.int side) (.int r) (.ref tk) (.ref sd) (.ref st) (.bl false)))) pe (.lst [])) x (.ins aA dx (aX (.int side) (.int r) (.ref tk) (.ref sd) (.ref st) (.bl false) (.ref pe)))):=fun b u e n=>by
  rw[List.mem_singleton] at n;rw[ak n,ak (aG e G),ak n];exact e
 refine q ⟨dx,tk,dk,kd,sd,S,st,pe⟩ _ (fun b u e n=>kF b u (X5 b u e n) (fun m=>n (List.mem_singleton.mp m))) (fun b F=>?_) ⟨ar,⟨kF _ _ t5.hx (fun m=>y (List.mem_singleton.mp m).symm),kF _ _ t5.hD (fun m=>U.2 (List.mem_singleton.mp m))⟩,j.kp kF (fun b F m=>?_) (fun t l e m=>?_),?_,?_,nod⟩
 ·simp only[foot,List.tail_cons,List.mem_cons,List.not_mem_nil,or_false] at F;rcases F with e|e|e|e|e|e|e|e|e|e
  ·rw[e];exact ftk
  ·rw[e];exact U.1
  ·rw[e];exact dE X1 Y O
  ·rw[e];exact dE X1 (xS _ (by simp)).symm (v _ (by simp)).1
  ·rw[e];exact dE X1 (xS _ (by simp)).symm (v _ (by simp)).1
  ·rw[e];exact dE X1 (xS _ (by simp)).symm (v _ (by simp)).1
  ·rw[e];exact dE X1 (xS _ (by simp)).symm (v _ (by simp)).1
  ·rw[e];exact dE X1 (xS _ (by simp)).symm (v _ (by simp)).1
  ·rw[e];exact dE X1 (xS _ (by simp)).symm (v _ (by simp)).1
  ·rw[e];exact dE X5 I G
 ·rw[List.mem_singleton] at m;rcases List.mem_cons.mp F with e|F
  ·exact Y (m.symm.trans e)
  ·exact xS b F m
 ·rw[List.mem_singleton.mp m,x5] at e;cases e
 ·obtain⟨C,d,e,hm⟩:=st5;exact⟨C,d,kF _ _ e (fun m=>by have m':st=x:=List.mem_singleton.mp m;rw[m',x5] at e;injection e with e;injection e with _ _ e;simp[dF] at e),hm⟩
 ·rw[ak I.symm,ar];rfl
include T in theorem yp:MA P w K mg base aA "name" 2 ["self"] (qL aA ax aa av ai ay ae az aB af ag ah):=by
 exists 0,T.uF,FO,qL;rename_i x;refine⟨_,(aq (aH (wC (aw (pv 0) T.aV T.bM) (zO T) HR (by decide)))),?_⟩;obtain⟨A,z,d,q⟩:=h;exists d.hx;exact⟨_,d.st,q⟩
include T in theorem Ey:MA P w K mg base aA "quiet" 2 ["self"] (pD aA ax aa av ai ay ae az aB af ag ah):=by
 exists 0,T.rX,El,pD;rename_i x;refine⟨_,(aq (aH (di (C5 (nE K rfl HR.units) (nE K rfl HR.units) (aw (aw (pv 0) T.aV T.bc) T.aC T.aW) (aw (aw (pv 0) T.aV T.bc) T.aC T.bh) (bO (aw (pv 0) T.aV T.bc) T.aC (fe T) HR)) (nY (Jg (aw (pv 0) T.aV T.bW)))))),?_⟩;obtain⟨A,z,f,q⟩:=h;exists f.hx,f.sd.hx;by_cases c1:z.sd.b=z.sd.t
 ·rw[if_pos c1];refine⟨_,_,f.sd,?_⟩;rw[decide_eq_true c1,Bool.true_and] at q;by_cases d:z.sd.t=(z.sd.T.length:Int)
  ·rw[if_pos d];rw[decide_eq_true d,Bool.true_and] at q;exact q
  ·rw[if_neg d];rw[decide_eq_false d,Bool.false_and] at q;exact q
 ·rw[if_neg c1];rw[decide_eq_false c1,Bool.false_and,Bool.false_and] at q;exact q
include T in theorem Ez:MA P w K mg base aA "begin" 4 ["self"] (pE aA ax aa av ai ay ae az aB af ag ah aK K):=by
 exists 1,T.rY,Em,pE;rename_i x;refine⟨_,(aj (aQ (pv 0) (KA (aw (pv 0) T.aV T.bM) (BA T) HR (by decide) oX rfl) T.aV T.bM)
 (aq (PS.nox (bI (bT (aw (pv 0) T.aV T.bc) T.aC (lJ T) HR (cX (lR K rfl rfl T.CA))))))),?_⟩
 obtain⟨A,z,d,u,q1,q2⟩:=h;exists d.hx;refine⟨_,d.st,fun nx hn y j i s1=>?_,q2⟩;have h1:=d.same i;exists h1.hx;have f:=h1.own s1 z.due;have k2:Kp (foot x A) H (upd j x (.ins aA A.dx (aX (.int z.side) (.int z.R) (.ref A.tk) (.ref A.sd) (.ref y) (.bl z.due) (.ref A.pe)))):=(Kp.of i).trans (Kp.upd (by simp[foot]));generalize upd j x (.ins aA A.dx (aX (.int z.side) (.int z.R) (.ref A.tk) (.ref A.sd) (.ref y) (.bl z.due) (.ref A.pe)))=C at*
 exists f.sd.hx;exact fun a ha _=>⟨_,_,f.sd,u,fun v m s3=>q1 nx hn a y v ha (k2.trans (Kp.but m (by simp[foot]))) (f.sender (lH.fr7 m) s3)⟩
include T in theorem HK:MA P w K mg base aA "end" 4 ["self"] (sW aA ax aa av ai ay ae az aB af ag ah aK K):=by
 exists 1,T.xJ,Hq,sW;rename_i x;refine⟨_,(aj (aQ (pv 0) (KA (aw (pv 0) T.aV T.bM) (Er T) HR (by decide) oX rfl) T.aV T.bM)
 (aE (aj (PS.nox (bI (nZ K rfl (aw (pv 0) T.aV T.df) (bO (aw (pv 0) T.aV T.bc) T.aC (fe T) HR))))
 (aq (PS.nox (bI (bT (aw (pv 0) T.aV T.bc) T.aC (lJ T) HR (cX (lR K rfl rfl T.Qa))))))))),?_⟩
 obtain⟨A,z,j,F,he,q1,q2⟩:=h;generalize h_u1:aD _=G;exists j.hx;refine⟨_,j.st,fun nx hn y v u s1=>?_,q2⟩;have h1:=j.same u;exists h1.hx;have f:=h1.own s1 z.due;have k2:Kp (foot x A) H (upd v x (.ins aA A.dx (aX (.int z.side) (.int z.R) (.ref A.tk) (.ref A.sd) (.ref y) (.bl z.due) (.ref A.pe)))):=(Kp.of u).trans (Kp.upd (by simp[foot]));generalize upd v x (.ins aA A.dx (aX (.int z.side) (.int z.R) (.ref A.tk) (.ref A.sd) (.ref y) (.bl z.due) (.ref A.pe)))=i at*
 rw[<-h_u1,aD];exists f.hx,f.sd.hx;refine⟨pV (cT.of f.he),_,_,f.sd,_,f.he,by rw[List.length_map,sizeLine_eq];show z.ends.length<_;lia,?_⟩;have d:=f.ends (l:=z.ends++ [(z.sd.T.length:Int)]);rw[List.map_append] at d;show∃dx fs,upd i A.pe (.lst (z.ends.map V.int++ [V.int z.sd.T.length])) x=some (HO.ins aA dx fs)/\_;have k3:Kp (foot x A) H (upd i A.pe (.lst (z.ends.map V.int++ [V.int z.sd.T.length]))):=k2.trans (Kp.upd (by simp[foot]));replace d:bL aA ax aa av ai (tbl ay ae az aB af ag ah) (upd i A.pe (.lst (z.ends.map V.int++ [V.int z.sd.T.length]))) x {A with st:=y} {z with nm:=nx,ends:=z.ends++ [(z.sd.T.length:Int)]}:=d;generalize upd i A.pe (.lst (z.ends.map V.int++ [V.int z.sd.T.length]))=I at*
 exists d.hx,d.sd.hx;exact fun a ha _=>⟨_,_,d.sd,F,fun C m E=>q1 nx hn a y C ha (k3.trans (Kp.but m (by simp[foot]))) (d.sender (lH.fr7 m) E)⟩
include T in theorem HJ:MA P w K mg base aA "put" 3 ["self","text"] (sV aA ax aa av ai ay ae az aB af ag ah aK aZ):=by
 exists 1,T.xI,A3,sV;rename_i x t;refine⟨_,(aj (bD (PT.nox (dO (nC (br (Jm T) HR (cX (pv 1)))))) (aq (zG T.yX oX rfl rfl rfl)) aU)
 (aE (aj (bD (PT.nox (dO (nC (wC (aw (pv 0) T.aV T.bM) (Ga T) HR (by decide))))) (aq (fb T.nN (hJ T) T.qd HR (by decide) oX rfl rfl rfl (c9 (bO (pv 0) T.aV (yp T) HR) bR))) aU)
 (aE (aq (PS.nox (gn PassesOwn.never rfl (L8 rfl T.dv (dz au (c9 (aY (fN K rfl) (by rfl) T.lY iM (cX (pv 1))) (cg rfl T.fO)))) (bu 2 A3.1.nd) (aq (bI (bT (aw (pv 0) T.aV T.bc) T.aC (lJ T) HR (cX (cJ (c9 bR (ye (QT K rfl) (pv 1) (rh (pv 2)) (rh (a_ K (pv 2) (cg rfl T.fO))))))))))))))))),?_⟩
 obtain⟨A,z,G,hT,ht,q1,q2,q3⟩:=h;generalize h_u1:aD _=u1;exists 9;refine⟨ht,fun Y i=>?_⟩;cases e1:oS t
 ·rw[if_pos rfl];exact q1 e1 Y i
 rw[if_neg (by decide)];have h1:=G.same i;rw[<-h_u1,aD];generalize h_u2:aD _=u2;exists h1.hx;refine⟨_,h1.st,?_⟩;cases F:RP z.nm
 ·rw[if_pos rfl];refine⟨A,z,h1,fun e he d hd=>⟨_,rfl,?_⟩⟩;obtain⟨s1,s2⟩:=dropxl (C:=aK) (l:=[("state",.str z.nm),("wish",.str "put")]) i he hd;exact q2 e1 F _ d s1 s2
 rw[if_neg (by decide)];have Z:t.length<=60:=by
  unfold oS at e1;simp only[Bool.and_eq_true,decide_eq_true_eq] at e1;exact e1.1.2
 rw[<-h_u2,aD];exists 9;refine⟨bq ht,⟨by lia,by lia⟩,?_⟩;rw[show rcount 0 (t.length:Int) 4=(t.length+3) / 4 by unfold rcount Builtin.Range.rangeSize;rw[if_pos (by decide)];split<;>lia]
 refine Sn (fun k σ H'=>(∃E,σ= [some (.ref x),some (.str t),E])/\Kp (foot x A) H H'/\∃vs,bL aA ax aa av ai (tbl ay ae az aB af ag ah) H' x A {z with sd:={z.sd with T:=z.sd.T++vs}}/\Paired (fun v s=>ThV H' v "signs" s) vs ((List.range k).map (chunk t))) ⟨⟨_,rfl⟩,Kp.of i,[],by rw[List.append_nil];exact h1,.nil⟩ (fun k σ H' hk hp=>?_) (fun σ H' hp=>?_)
 ·obtain⟨⟨E,rfl⟩,m,vs,hh,f⟩:=hp;exists hh.hx,hh.sd.hx;refine⟨bq ht,fun p hp=>?_⟩;rw[show Txt.slice t (some (0+(k:Int)*4)) (some (0+(k:Int)*4+4))=chunk t k by unfold chunk;rw[show(0:Int)+(k:Int)*4=((4*k:Nat):Int) by lia];rfl];have j:=hh.same (aJ (o:= .tup [.str "signs",.str (chunk t k)]) hp);have s2:=aJ (o:= .tup [.str "signs",.str (chunk t k)]) hp;have u:=ar (H:=H') (a:=p) (o:= .tup [.str "signs",.str (chunk t k)]);generalize upd H' p (.tup [.str "signs",.str (chunk t k)])=H3 at*
  have lv:vs.length<=15:=by rw[rg f,List.length_map,List.length_range];lia
  refine⟨_,_,j.sd,by show(z.sd.T++vs).length<1000;rw[List.length_append];lia,fun O y X=>⟨⟨_,rfl⟩,(m.trans (Kp.of s2)).trans (Kp.but y (by simp[foot])),vs++ [.ref p],?_,?_⟩⟩
  ·have I:=j.sender (lH.fr7 y) X;rw[<-List.append_assoc];exact I
  ·rw[List.range_succ,List.map_append];have tup:∀{q:Addr} {l:List V},H3 q=some (.tup l)->O q=some (.tup l):=fun e=>y _ _ e (bS e j.sd.ht (by simp));refine C3 (jk f fun v s J=>?_) (.cons ⟨p,rfl,tup u⟩ .nil);obtain⟨q,rfl,U⟩:=J;exact⟨q,rfl,tup (s2 _ _ U)⟩
 ·obtain⟨⟨E,rfl⟩,m,vs,hh,f⟩:=hp;exact q3 e1 F vs H' m hh f
include T in theorem Gh:MA P w K mg base aA "read" 2 ["self","many"] (qK aA ax aa av ai ay ae az aB af ag ah K):=by
 exists 0,T.uE,qU,qK;rename_i x m;refine⟨_,(aj (aO 2 qU.1.nd (dP sC (bO (aw (pv 0) T.aV T.cp) T.ba (cY T) HR) au))
 (aE (aj (aO 3 qU.1.nd (bT (aw (pv 0) T.aV T.cp) T.ba (Eu T) HR (cX (pv 1))))
 (aE (aj (bD (PW.pt (pw_and (dO (nC (pv 2))) (pw_and1 (bw sC (bO (aw (pv 0) T.aV T.cp) T.ba (cY T) HR) au)))) (aq (aQ (pv 0) cW T.aV T.bW)) aU)
 (aE (aq (aH (pv 3))))))))),?_⟩
 obtain⟨A,a,⟨z,y,d⟩,⟨m0,m1,o0,og,g1⟩,hD,q⟩:=h;generalize h_u1:aD _=u1;exists y.hx,y.tk.hx;refine⟨_,_,_,y.tk,?_⟩;rw[<-h_u1,aD];generalize h_u2:aD _=u2;exists y.hx,y.tk.hx;have Y:∀i,z.tk.o<=i->i<z.tk.g->(bH z.tk.D (ik i)).isSome=true:=fun i h1 F=>by
  rw[d.o] at h1;rw[d.g] at F;cases e:bH z.tk.D (ik i) with
  |none=>have:=hD i h1 F;rw[d.dn i e] at this;cases this
  |some v=>rfl
 refine⟨_,_,_,y.tk,by rw[d.o,d.g];lia,Y,fun n p D' j en O X U f1 t1 e1=>?_⟩;have f:n=cN a m:=by rw[en,d.o,d.g];rfl
 have nle:a.o+n<=a.g:=by rw[f];unfold cN;split<;>lia
 have h1:=y.taker f1 t1;have k1:Kp (foot x A) H j:=(Lh.kp f1).more (fun b Z=>by simp only[List.mem_cons,List.not_mem_nil,or_false] at Z;rcases Z with e|e<;>subst e<;>simp[foot])
 have G:yU H j:=fun b u e i=>k1 _ _ e (y.imm e i);have C:∀i:Int,bH D' (ik i)=if a.o<=i/\i<a.o+n then none else bH z.tk.D (ik i):=fun i=>by rw[X i,d.o]
 have pv:Paired (Bc K j) (vals z.tk.D z.tk.o n) (Hu a m):=by
  have:=d.vals n a.o (fun i h1 F=>hD i h1 (by lia));rw[d.o];unfold Hu;rw[<-f];exact jk this fun _ _ q=>q.keep G
 have E:=d.keep G;rw[<-h_u2,aD];generalize h_u3:aD _=u3;by_cases c:0<a.o+a.M-a.g
 ·have e0:(p_ a m).due=z.due:=by
   show(a.due||(decide (a.o+a.M-a.g<=0)&&_))=_;rw[decide_eq_false (by lia),Bool.false_and,Bool.or_false,d.due]
  have fin:HM aA ax aa av ai (tbl ay ae az aB af ag ah) K j x A (p_ a m):=⟨_,h1,E.read f C U e0.symm⟩;rw[decide_eq_true (by rw[d.o,d.tM,d.g];exact c)];exists 9;rw[<-h_u3,aD];exists 9;exact q p _ j O k1 fin e1 pv
 ·rw[decide_eq_false (by rw[d.o,d.tM,d.g];exact c)];exists h1.hx,h1.tk.hx;refine⟨_,_,_,h1.tk,?_⟩;show if 0<z.tk.o+n+z.tk.M-z.tk.g then _ else _;rw[d.o,d.tM,d.g];by_cases J:0<a.o+n+a.M-a.g
  ·rw[if_pos J];have e0:(p_ a m).due=true:=by
    show(a.due||(decide (a.o+a.M-a.g<=0)&&decide (0<a.o+(cN a m:Int)+a.M-a.g)))=_;rw[decide_eq_true (by lia),<-f,decide_eq_true J,Bool.true_and,Bool.or_true]
   have F:=h1.own h1.st true;have k2:Kp (foot x A) H (upd j x (.ins aA A.dx (aX (.int z.side) (.int z.R) (.ref A.tk) (.ref A.sd) (.ref A.st) (.bl true) (.ref A.pe)))):=k1.trans (Kp.upd (by simp[foot]));have I:yU j (upd j x (.ins aA A.dx (aX (.int z.side) (.int z.R) (.ref A.tk) (.ref A.sd) (.ref A.st) (.bl true) (.ref A.pe)))):=fun b u e i=>Kp.upd (S:=foot x A) (by simp[foot]) _ _ e (h1.imm e i);have e2:upd j x (.ins aA A.dx (aX (.int z.side) (.int z.R) (.ref A.tk) (.ref A.sd) (.ref A.st) (.bl true) (.ref A.pe))) p=some (.lst (vals z.tk.D z.tk.o n)):=by rw[ak (bS e1 h1.hx (by simp))];exact e1
   have fin:HM aA ax aa av ai (tbl ay ae az aB af ag ah) K (upd j x (.ins aA A.dx (aX (.int z.side) (.int z.R) (.ref A.tk) (.ref A.sd) (.ref A.st) (.bl true) (.ref A.pe)))) x A (p_ a m):=⟨_,F,(E.keep I).read f C U e0.symm⟩;rw[<-h_u3,aD];exists 9;exact q p _ _ O k2 fin e2 (jk pv fun _ _ w=>w.keep I)
  ·rw[if_neg J];have e0:(p_ a m).due=z.due:=by
    show(a.due||(decide (a.o+a.M-a.g<=0)&&decide (0<a.o+(cN a m:Int)+a.M-a.g)))=_;rw[<-f,decide_eq_false J,Bool.and_false,Bool.or_false,d.due]
   have fin:HM aA ax aa av ai (tbl ay ae az aB af ag ah) K j x A (p_ a m):=⟨_,h1,E.read f C U e0.symm⟩;rw[<-h_u3,aD];exists 9;exact q p _ j O k1 fin e1 pv
include T in theorem zW:MA P w K mg base aA "stand_to" 4 ["self","kind"] (km aA ax aa av ai ay ae az aB af ag ah K):=by
 exists 0,T.mU,zv,km;rename_i x k;refine⟨_,(aj (bD (eg K HR (pv 1) bR) (aj (bD (eg K HR (bO (pv 0) T.aV (yp T) HR) bR) (aq (bI (bT (aw (pv 0) T.aV T.bc) T.aC (lJ T) HR (cX (lR K rfl rfl T.CA))))) aU)
 (aE (aq (aQ (pv 0) (wC (aw (pv 0) T.aV T.bM) (Jr T) HR (by decide)) T.aV T.bM)))) aU)
 (aE (aq (bD (eg K HR (pv 1) bR) (aq (aQ (pv 0) (wC (aw (pv 0) T.aV T.bM) (Jq T) HR (by decide)) T.aV T.bM)) aU)))),?_⟩
 obtain⟨A,a,⟨z,f,v⟩,hT,q⟩:=h;obtain⟨O,U,I,es3⟩:=v.s;have lT:z.sd.T.length<990:=by
  rw[U];show O.length<990;rw[rg I];exact hT
 generalize h_u1:aD _=u1;exists f.hx;by_cases ck:k=Str.ofString "begin"
 ·rw[if_pos ck];have nk:k≠Str.ofString "end" :=by rw[ck];decide+kernel
  refine⟨A,z,f,?_⟩;have go:∀(d:Hn) (a1:iR) (j:Hp),bL aA ax aa av ai (tbl ay ae az aB af ag ah) j x A d->c8 K j d a1->a1.nm=a.nm->Kp (foot x A) H j->fT a k={a1 with nm:=(fP a.nm "begun").getD a.nm}->u1 {nx:=aD (QM (AZ (IF (zB K false) (Hc 1) (tC (V.str (Str.ofString "end"))))) (NC aA (Str.ofString "state") (Hc 0) (Nc (qH ay ae az aB af ag ah) E0 (J7 aA (Str.ofString "state") (Hc 0)))) Nb) {nx:=fun x H'=>Q V.non H',rt:=Q},rt:=Q} [some (V.ref x),some (V.str k)] j:=fun d a1 j hh X Z kk es=>by
   rw[<-h_u1,aD];exists hh.hx;refine⟨_,hh.st,fun nx hn y C m s2=>?_⟩;have F:=hh.same m;exists F.hx;have J:=F.own s2 d.due;have k3:Kp (foot x A) C (upd C x (.ins aA A.dx (aX (.int d.side) (.int d.R) (.ref A.tk) (.ref A.sd) (.ref y) (.bl d.due) (.ref A.pe)))):=Kp.upd (by simp[foot]);have G:yU j (upd C x (.ins aA A.dx (aX (.int d.side) (.int d.R) (.ref A.tk) (.ref A.sd) (.ref y) (.bl d.due) (.ref A.pe)))):=fun b u e i=>k3 _ _ (m _ _ e) (F.imm (m _ _ e) i);generalize upd C x (.ins aA A.dx (aX (.int d.side) (.int d.R) (.ref A.tk) (.ref A.sd) (.ref y) (.bl d.due) (.ref A.pe)))=Y at*
   rw[aD];exists 9;rw[if_neg nk];refine q y Y ((kk.trans (Kp.of m)).trans k3) ⟨_,J,?_⟩;have E:nx=(fP a.nm "begun").getD a.nm:=by
    rw[X.nm,Z,wQ (by decide+kernel) (by decide+kernel)] at hn;injection hn with hn;exact hn.symm
   rw[es,E];exact(X.keep G).name
  by_cases cs:z.nm=Str.ofString "shut"
  ·rw[if_pos cs];refine⟨_,_,f.sd.hx,?_⟩;rw[qh];refine⟨rfl,fun b hb _=>⟨_,_,f.sd,by lia,fun j b1 s1=>?_⟩⟩;have h1:=f.sender (lH.fr7 b1) s1;have k1:Kp (foot x A) H j:=Kp.but b1 (by simp[foot]);have i1:yU H j:=fun c u e i=>k1 _ _ e (f.imm e i);refine go _ (bQ a [(Str.ofString "begin",Str.ofString "")]) j h1 ((v.keep i1).Vi ⟨b,rfl,hb j⟩) rfl k1 ?_;unfold fT;rw[if_pos ck,if_pos (by rw[<-v.nm];exact cs)]
  ·rw[if_neg cs];refine go z a H f v rfl Kp.refl ?_;unfold fT;rw[if_pos ck,if_neg (by rw[<-v.nm];exact cs)]
 ·rw[if_neg ck,aD];exists f.hx;by_cases ce:k=Str.ofString "end"
  ·rw[if_pos ce];refine⟨_,f.st,fun nx hn y C m s2=>?_⟩;have F:=f.same m;exists F.hx;have J:=F.own s2 z.due;have k3:Kp (foot x A) C (upd C x (.ins aA A.dx (aX (.int z.side) (.int z.R) (.ref A.tk) (.ref A.sd) (.ref y) (.bl z.due) (.ref A.pe)))):=Kp.upd (by simp[foot]);have G:yU H (upd C x (.ins aA A.dx (aX (.int z.side) (.int z.R) (.ref A.tk) (.ref A.sd) (.ref y) (.bl z.due) (.ref A.pe)))):=fun b u e i=>k3 _ _ (m _ _ e) (F.imm (m _ _ e) i);refine q y _ ((Kp.of m).trans k3) ⟨_,J,?_⟩;have E:nx=(fP a.nm "ended").getD a.nm:=by
    rw[v.nm,wQ (by decide+kernel) (by decide+kernel)] at hn;injection hn with hn;exact hn.symm
   rw[show fT a k={a with nm:=(fP a.nm "ended").getD a.nm} by unfold fT;rw[if_neg ck,if_pos ce],E];exact(v.keep G).name
  ·rw[if_neg ce];refine q A.st H Kp.refl ⟨z,f,?_⟩;rw[show fT a k=a by unfold fT;rw[if_neg ck,if_neg ce]];exact v
include T in theorem BG:MA P w K mg base aA "take_in" 5 ["self","number","thing"] (mm aA ax aa av ai ay ae az aB af ag ah K):=by
 exists 0,T.oG,mr,mm;rename_i x m th;refine⟨_,(aj (aO 3 mr.1.nd (bT (aw (pv 0) T.aV T.cp) T.ba (Et T) HR (c9 (pv 1) (pv 2))))
 (aE (aj (gn PassesOwn.never rfl (dq K rfl (aS K (pv 3) au)) (bu 4 mr.1.nd) (aq (bI (bT (pv 0) T.aV (zW T) HR (cX (cK K (pv 4) au))))))
 (aE (aq (aH (lS (bw oZ (aS K (pv 3) au) cx) (cJ (c9 bR cx)) (cJ (c9 bR (aS K (pv 3) au)))))))))),?_⟩
 obtain⟨A,a,t,⟨z,C,f⟩,hth,⟨r0,m0,m1,og,hT⟩,q⟩:=h;generalize h_u1:aD _=u1;exists C.hx,C.tk.hx;have hB:∀i:Int,(bH z.tk.D (ik i)).isSome=true->i<a.o+a.M:=fun i hi=>by
  obtain⟨j,e,_,h2⟩:=f.db _ (G5 hi);rw[Jz e];exact h2
 have hl:=f.len m0;refine⟨_,_,_,a.o+a.M,C.tk,by rw[f.tR];exact r0,hB,by rw[f.g];lia,by rw[f.o,f.tM];lia,by lia,?_⟩;rw[f.o,f.tM,f.g,f.tR];by_cases c:a.o+a.M-a.g<=(m-a.g) % a.R
 ·refine .inl ⟨c,fun p l U S1 np nl hp d=>?_⟩;rw[<-h_u1,aD];generalize h_u2:aD _=u2;exists hp,d;refine rC (xs:=[]) (cT.of d) (fun i σ H'=>H'=U/\σ= [some (.ref x),some (.int m),some (.ref th),some (.ref p),none]) ⟨rfl,rfl⟩ (fun i σ H' _ hp=>by rw[hp.1];exact cT.of d) (fun i y σ H' hy hp=>by simp at hy) (fun σ H' X=>?_);obtain⟨rfl,rfl⟩:=X;rw[<-h_u2,aD];exists hp,d;intro r nr;have E:=S1.trans (Hr (o:= .tup [.str (Str.ofString "old"),.non]) nr);refine q A.st r _ (Kp.of E) ?_ ?_
  ·unfold y3;rw[if_pos c];exact HM.same ⟨z,C,f⟩ E
  ·unfold Hb;rw[if_pos c];exact dX.of ar
 ·refine .inr ⟨by lia,fun Y eD n p l U rn np nl pl f1 t1 d hp=>?_⟩;have h1:=C.taker f1 t1;have k1:Kp (foot x A) H U:=(Lh.kp f1).more (fun b hb=>by simp only[List.mem_cons,List.not_mem_nil,or_false] at hb;rcases hb with e|e<;>subst e<;>simp[foot])
  have F:yU H U:=fun b u e i=>k1 _ _ e (C.imm e i);obtain⟨I,en,pv⟩:=MC (f.keep F) (hth.keep F) m0 og r0 (by lia) eD rn;rw[f.tR,f.tM,f.g,f.o] at I;have lN:(Ed a m t).length<=16:=by
   unfold Ed y2;rw[List.length_map,List.length_range];have:=Kf (D:=vU a m t) a.M.toNat a.g;lia
  have fl:l ∉ foot x A:=C.fresh nl;have fp:p ∉ foot x A:=C.fresh np;rw[<-h_u1,aD];generalize h_u2:aD _=u2;exists hp,d;refine rC (xs:=vals Y a.g n) (cT.of d) (fun i σ H'=>(∃Z,σ= [some (.ref x),some (.int m),some (.ref th),some (.ref p),Z])/\Kp (foot x A) H H'/\H' l=some (.lst (vals Y a.g n))/\H' p=some (.tup [.int (uY a m),.ref l])/\Paired (Bc K H') (vals Y a.g n) (Ed a m t)/\∃v,HM aA ax aa av ai (tbl ay ae az aB af ag ah) K H' x {A with st:=v} (Hi {a with g:=a.g+(y2 a m t:Int),D:=vU a m t} ((Ed a m t).take i))) ⟨⟨_,rfl⟩,k1,d,hp,pv,A.st,_,h1,I⟩ (fun i σ H' _ hp=>cT.of hp.2.2.1) (fun i y σ H' hy hq=>?_) (fun σ H' hq=>?_)
  ·obtain⟨⟨Z,rfl⟩,kk,el,ep,O,v,hh⟩:=hq;obtain⟨tt,et,q0,rfl,hs⟩:=N_ O hy;have hh':=hh;obtain⟨zz,hz,_⟩:=hh';exists hz.hx;refine⟨_,_,.inr hs,uM,?_⟩;refine⟨_,_,hh,?_,fun J H2 k2 hm=>?_⟩
   ·have:=Hg ((Ed a m t).take i) {a with g:=a.g+(y2 a m t:Int),D:=vU a m t};rw[List.length_take] at this;have e:({a with g:=a.g+(y2 a m t:Int),D:=vU a m t}:iR).T=a.T:=rfl;rw[e] at this;lia
   ·have i2:yU H' H2:=fun b u e j=>k2 _ _ e (hz.imm e j);refine⟨⟨_,rfl⟩,kk.trans k2,k2 _ _ el fl,k2 _ _ ep fp,jk O fun _ _ w=>w.keep i2,J,?_⟩;rw[Lr et];exact hm
  ·obtain⟨⟨Z,rfl⟩,kk,el,ep,O,v,hh⟩:=hq;rw[<-h_u2,aD];exists ep;intro r nr;have E:a8 H' _:=Hr (o:= .tup [.str (Str.ofString "filed"),.int (uY a m)]) nr;refine q v r _ (kk.trans (Kp.of E)) ?_ ?_
   ·unfold y3;rw[if_neg c];have G:=hh.same E;rw[rg O,List.take_length] at G;exact G
   ·unfold Hb;rw[if_neg c];exact dX.of ar
include T in theorem Gi:MA P w K mg base aA "hear" 5 ["self","piece","turn"] (qM aA ax aa av ai ay ae az aB af ag ah K):=by
 exists 0,T.uG,qV,qM;rename_i x pc tn;refine⟨_,(aj (aO 3 qV.1.nd (aw (aw (pv 0) T.aV T.bc) T.aC T.aW))
 (aE (aj (bI (bT (aw (pv 0) T.aV T.bc) T.aC (BC T) HR (dz (aS K (pv 1) au) (dz (aS K (pv 1) au) (c9 (aS K (pv 1) au) (pv 2))))))
 (aE (aq (gn PassesOwn.never rfl (dq K rfl (aw (pv 0) T.aV T.df)) (bu 4 qV.1.nd) (aq (bD (HC tE m_ (pv 3) (pv 4) (aw (aw (pv 0) T.aV T.bc) T.aC T.aW)) (aq (aQ (pv 0) (wC (aw (pv 0) T.aV T.bM) (Es T) HR (by decide)) T.aV T.bM)) aU)))))))),?_⟩
 obtain⟨A,a,kd,n,nu,E,hd,sg,hs,⟨z,v,hR⟩,hp,hhd,ok,q⟩:=h;obtain⟨vs,Y,es2,es3⟩:=hR.s;have hS:=v.sd;rw[Y] at hS;generalize h_u1:aD _=u1;exists v.hx,hS.hx;rw[<-h_u1,aD];generalize h_u2:aD _=u2;exists v.hx,hS.hx,hp;refine⟨_,_,hs,hS,⟨ok.bz.b0,ok.bz.bt,ok.bz.t1⟩,ok.r0,hhd,ok.hl,ok.hn,ok.hp,ok.tq,ok.kl,ok.tm,ok.kc,fun p H1 np f1 alt=>?_⟩;have h1:bL aA ax aa av ai (tbl ay ae az aB af ag ah) H1 x A {z with sd:={nj a.s nu E hs tn with T:=vs}}:=by
  rw[<-Sa];rcases alt with⟨c,S1,_⟩|⟨c,s1,_⟩
  ·have e:nj {a.s with T:=vs} nu E hs tn={a.s with T:=vs}:=by unfold nj;rw[if_pos c]
   rw[e,<-Y];exact v.same S1
  ·have e:nj {a.s with T:=vs} nu E hs tn=hrd {a.s with T:=vs} nu E hs tn:=by unfold nj;rw[if_neg (by lia)]
   rw[e];exact v.sender f1 s1
 have k1:Kp (foot x A) H H1:=(Eb.kp f1).more (fun b hb=>by simp only[List.mem_cons,List.not_mem_nil,or_false] at hb;rcases hb with e|e|e|e|e|e|e<;>subst e<;>simp[foot])
 have F:yU H H1:=fun b u e i=>k1 _ _ e (v.imm e i);have m:=hR.keep F;have I:Paired (Bc K H1) vs a.T:=jk es2 fun _ _ w=>w.keep F;have X:(nj a.s nu E hs tn).T.length=vs.length:=by rw[Pq];exact es3
 unfold KR at q;clear alt;generalize nj a.s nu E hs tn=s2 at*
 rw[<-h_u2,aD];exists h1.hx,h1.sd.hx;refine rC (xs:=z.ends.map V.int) (cT.of h1.he) (fun i σ H'=>(∃v4,σ= [some (.ref x),some (.ref pc),some (.int tn),some (.int a.s.b),v4])/\Kp (foot x A) H H'/\∃f d,d.sd.b=s2.b/\d.ends=z.ends/\d.nm=GS a.s.b s2.b (a.ends.take i) a.nm/\bL aA ax aa av ai (tbl ay ae az aB af ag ah) H' x {A with st:=f} d/\c8 K H' d {a with s:=s2,nm:=GS a.s.b s2.b (a.ends.take i) a.nm}) ⟨⟨_,rfl⟩,k1,A.st,_,rfl,rfl,m.nm,h1,?_⟩ (fun i σ H' _ O=>?_) (fun i y σ H' J O=>?_) (fun σ H' O=>?_)
 ·show c8 K H1 _ {a with s:=s2,nm:=a.nm};rw[m.nm];exact c8.snd m I X
 ·obtain⟨_,_,f,d,_,ee,_,hh,_⟩:=O;have:=hh.he;rw[ee] at this;exact cT.of this
 ·obtain⟨⟨v4,rfl⟩,Z,f,d,e1,e2,e3,hh,C⟩:=O;obtain⟨pl,j,rfl⟩:∃pl,a.ends[i]?=some pl/\y = .int pl:=by
   rw[List.getElem?_map,hR.ends] at J;cases e:a.ends[i]? with
   |none=>rw[e] at J;cases J
   |some pl=>rw[e] at J;cases J;exact⟨pl,rfl,rfl⟩
  exists hh.hx,hh.sd.hx;rw[e1];by_cases c1:a.s.b<=pl
  ·rw[if_pos c1];by_cases G:pl<s2.b
   ·rw[if_pos G];refine⟨_,hh.st,fun nx hn y H2 S2 t2=>?_⟩;have h2:=hh.same S2;exists h2.hx;have h3:=h2.own t2 d.due;have k3:Kp (foot x A) H2 (upd H2 x (.ins aA A.dx (aX (.int d.side) (.int d.R) (.ref A.tk) (.ref A.sd) (.ref y) (.bl d.due) (.ref A.pe)))):=Kp.upd (by simp[foot]);have i3:yU H' (upd H2 x (.ins aA A.dx (aX (.int d.side) (.int d.R) (.ref A.tk) (.ref A.sd) (.ref y) (.bl d.due) (.ref A.pe)))):=fun b u e i=>k3 _ _ (S2 _ _ e) (h2.imm (S2 _ _ e) i);have U:nx=GS a.s.b s2.b (a.ends.take (i+1)) a.nm:=by
     rw[qr j,if_pos ⟨c1,G⟩];rw[e3,wQ (by decide+kernel) (by decide+kernel)] at hn;injection hn with hn;exact hn.symm
    refine⟨⟨_,rfl⟩,(Z.trans (Kp.of S2)).trans k3,y,{d with nm:=nx},e1,e2,U,h3,?_⟩;rw[U];exact(C.keep i3).name
   ·rw[if_neg G];refine⟨⟨_,rfl⟩,Z,f,d,e1,e2,?_,hh,?_⟩
    ·rw[qr j,if_neg (fun c=>G c.2)];exact e3
    ·rw[qr j,if_neg (fun c=>G c.2)];exact C
  ·rw[if_neg c1];refine⟨⟨_,rfl⟩,Z,f,d,e1,e2,?_,hh,?_⟩
   ·rw[qr j,if_neg (fun c=>c1 c.1)];exact e3
   ·rw[qr j,if_neg (fun c=>c1 c.1)];exact C
 ·obtain⟨⟨v4,rfl⟩,Z,f,d,e1,e2,e3,hh,C⟩:=O;rw[List.length_map,hR.ends,List.take_length] at C;exact q f H' Z ⟨d,hh,C⟩
include T in theorem Bv:FA P w K mg base "read_or_none" 6 ["frame"] (l8 aN aR aI):=by
 exists 0,T.oq,Bf,l8;rename_i f;refine⟨_,(aq (N8 (fun _ _ _=>(aq (aH (Vw (RH T) HR (by decide) rfl (yg rfl) (cX (pv 0)))))) (Vp rfl (Gk T.vT rfl (Gk T.yV rfl (Gk T.vS rfl VM))) (by simp) (fun _=>(aq (aH cx))) Oc))),?_⟩;obtain⟨q1,q2⟩:=h;exists T.eO,T.fE,T.gK,T.eK,T.fF,T.eJ,T.eU,T.fK,T.gL,T.eS,T.fL,T.eQ;refine⟨fun c H' d i _ t nt u ne=>q1 ?_ _ ((i.trans (aJ nt)).trans (aJ ne)),fun c j H' d i _ t nt u ne=>q1 ?_ _ ((i.trans (aJ nt)).trans (aJ ne)),fun c j m H' d i _ t nt u ne=>q1 ?_ _ ((i.trans (aJ nt)).trans (aJ ne)),fun c j m t H' i rt=>q2 ?_ t H' i rt⟩
 ·unfold Gz;rw[decide_eq_false c];rfl
 ·unfold Gz;rw[decide_eq_false j,Bool.false_and,Bool.and_false]
 ·unfold Gz;rw[m,Bool.and_false,Bool.and_false]
 ·unfold Gz;rw[decide_eq_true c,decide_eq_true j,m];rfl
include T in theorem Gj:MA P w K mg base aA "come" 7 ["self","frame","turn"] (qN aA ax aa av ai ay ae az aB af ag ah aN aR aI K):=by
 exists 0,T.uH,yc,qN;rename_i x f tn;refine⟨_,(aj (aO 3 yc.1.nd (br (Bv T) HR (cX (pv 1))))
 (aE (aj (bD (PW.pt (pw_or (bw oZ (pv 3) cx) (pw_or (bw C8 (aS K (pv 3) au) (aw (pv 0) T.aV T.iP)) (pw_or1 (bw C8 (aS K (pv 3) au) (aw (pv 0) T.aV T.iP)))))) (aq (aH (cJ (c9 bR cx)))) aU)
 (aE (aj (bI (bT (pv 0) T.aV (Gi T) HR (c9 (pv 3) (pv 2))))
 (aE (aj (bD (eg K HR (aS K (pv 3) au) bR) (aq (aH (cJ (c9 bR cx)))) aU)
 (aE (aj (aQ (pv 0) cW T.aV T.bW)
 (aE (aj (bD (eg K HR (aS K (pv 3) au) bR) (aq (aH (cJ (c9 bR cx)))) aU)
 (aE (aq (aH (bT (pv 0) T.aV (BG T) HR (c9 (aS K (pv 3) au) (cJ (c9 (aS K (pv 3) au) (aS K (pv 3) au))))))))))))))))))),?_⟩
 obtain⟨A,a,⟨z,Z,hR⟩,ok,⟨r0,m0,m1,og,hT⟩,q⟩:=h;have G:∀v,a8 H v->gB a f=false->∀p,v p=none->Q (.ref p) (upd v p (.tup [.str (Str.ofString "spoilt"),.non])):=fun v j c p F=>by
  have S2:=j.trans (aJ (o:= .tup [.str (Str.ofString "spoilt"),.non]) F);refine q A.st p _ (Kp.of S2) ?_ ?_
  ·unfold ql;rw[if_neg (by rw[c];decide)];exact HM.same ⟨z,Z,hR⟩ S2
  ·unfold DV;rw[if_neg (by rw[c];decide)];exact dX.of ar
 generalize h_u1:aD _=u1;exists Z.hx;refine⟨fun c v j=>?_,fun c pc v j rt=>?_⟩
 ·rw[<-h_u1,aD];generalize h_u2:aD _=u2;exists (Z.same j).hx;exact G v j (by unfold gB;rw[c];rfl)
 have h1:=Z.same j;have hR1:=hR.keep (yU.of j);obtain⟨hd,hp,hhd⟩:=rt;rw[<-h_u1,aD];generalize h_u2:aD _=u2;exists h1.hx,hp;rw[hR.R];by_cases c1:a.R<=MY (f.toNat / 256)
 ·rw[if_pos c1];exact G v j (by unfold gB sH;rw[decide_eq_false (by lia),Bool.false_and,Bool.and_false])
 rw[if_neg c1];by_cases c2:a.R<=MZ (f.toNat / 256)
 ·rw[if_pos c2];exact G v j (by unfold gB sH;rw[decide_eq_false (show¬MZ (f.toNat / 256)<a.R by lia),Bool.and_false,Bool.and_false])
 rw[if_neg c2];have E:gB a f=true:=by unfold gB sH;rw[c,decide_eq_true (by lia),decide_eq_true (by lia)];rfl
 unfold ql DV at q;rw[if_pos E,if_pos E] at q;rw[<-h_u2,aD];generalize h_u3:aD _=u3;exists h1.hx;refine⟨A,a,_,_,_,_,_,_,_,⟨z,h1,hR1⟩,hp,hhd.1,ok E,fun d C k2 m2=>?_⟩;have Y:pc ∉ foot x A:=h1.imm hp (.inl ⟨_,rfl⟩);have X:=k2 _ _ hp Y;have kk:Kp (foot x A) H C:=(Kp.of j).trans k2;have m2':HM aA ax aa av ai (tbl ay ae az aB af ag ah) K C x {A with st:=d} (vP a f tn):=m2;obtain⟨y,m,hr2⟩:=m2';rw[<-h_u3,aD];generalize h_u4:aD _=u4;exists X;by_cases J:BJ (f.toNat / 256)=Str.ofString "bare"
 ·rw[if_pos J];intro p F;have O:=aJ (o:= .tup [.str (Str.ofString "bare"),.non]) F;refine q d p _ (kk.trans (Kp.of O)) ?_ ?_
  ·rw[if_pos (show BJ (sH f) = "bare" from J)];exact HM.same m2 O
  ·rw[if_pos (show BJ (sH f) = "bare" from J)];exact dX.of ar
 rw[if_neg J];rw[if_neg (show¬BJ (sH f) = "bare" from J),if_neg (show¬BJ (sH f) = "bare" from J)] at q;rw[<-h_u4,aD];generalize h_u5:aD _=u5;exists m.hx;have h3:=m.own m.st true;have k3:Kp (foot x A) C (upd C x (.ins aA A.dx (aX (.int y.side) (.int y.R) (.ref A.tk) (.ref A.sd) (.ref d) (.bl true) (.ref A.pe)))):=Kp.upd (by simp[foot]);have i3:yU C (upd C x (.ins aA A.dx (aX (.int y.side) (.int y.R) (.ref A.tk) (.ref A.sd) (.ref d) (.bl true) (.ref A.pe)))):=fun b u e i=>k3 _ _ e (m.imm e i);have m3:HM aA ax aa av ai (tbl ay ae az aB af ag ah) K (upd C x (.ins aA A.dx (aX (.int y.side) (.int y.R) (.ref A.tk) (.ref A.sd) (.ref d) (.bl true) (.ref A.pe)))) x {A with st:=d} {vP a f tn with due:=true}:=⟨_,h3,(hr2.keep i3).dued⟩;generalize upd C x (.ins aA A.dx (aX (.int y.side) (.int y.R) (.ref A.tk) (.ref A.sd) (.ref d) (.bl true) (.ref A.pe)))=H3 at*
 have U:=k3 _ _ X Y;rw[<-h_u5,aD];generalize h_u6:aD _=u6;exists U;by_cases I:BJ (f.toNat / 256)=Str.ofString "ask"
 ·rw[if_pos I];intro p F;have O:=aJ (o:= .tup [.str (Str.ofString "ask"),.non]) F;refine q d p _ ((kk.trans k3).trans (Kp.of O)) ?_ ?_
  ·rw[if_pos (show BJ (sH f) = "ask" from I)];exact HM.same m3 O
  ·rw[if_pos (show BJ (sH f) = "ask" from I)];exact dX.of ar
 rw[if_neg I];rw[if_neg (show¬BJ (sH f) = "ask" from I),if_neg (show¬BJ (sH f) = "ask" from I)] at q;rw[<-h_u6,aD];exists h3.hx,U;intro p F;have S4:=aJ (o:= .tup [.str (BJ (f.toNat / 256)),.str (MX (f.toNat / 256))]) F;exact⟨_,_,(BJ (f.toNat / 256),MX (f.toNat / 256)),HM.same m3 S4,⟨p,rfl,dX.of ar⟩,⟨r0,m0,m1,og,hT⟩,fun st' r H' k4 m4 s4=>q st' r H' (((kk.trans k3).trans (Kp.of S4)).trans k4) m4 s4⟩
include T in theorem zX:MA P w K mg base aA "piece_of" 3 ["self","word","place"] (ko aA ax aa av ai ay ae az aB af ag ah K):=by
 exists 0,T.mV,kr,ko;rename_i x w pl;refine⟨_,(aj (aO 3 kr.1.nd (bO (aw (pv 0) T.aV T.cp) T.ba (BB T) HR))
 (aE (aj (bD (bw oZ (pv 2) cx) (aq (aH (cJ (dz (pv 1) (dz au (dz (aS K (pv 3) au) (dz (aS K (pv 3) au) (c9 (aS K (pv 3) au) bR)))))))) aU)
 (aE (aj (aO 4 kr.1.nd (bT (aw (pv 0) T.aV T.bc) T.aC (sE T) HR (cX (pv 2))))
 (aq (aH (cJ (dz (cK K (pv 4) au) (dz (aL b8 (pv 2) (aw (pv 0) T.aV T.iP)) (dz (aS K (pv 3) au) (dz (aS K (pv 3) au) (c9 (aS K (pv 3) au) (cK K (pv 4) au)))))))))))))),?_⟩
 obtain⟨A,a,⟨z,j,f⟩,⟨r0,m0,m1⟩,q⟩:=h;generalize h_u1:aD _=U;exists j.hx,j.tk.hx;refine⟨_,_,_,j.tk,by rw[f.tR];exact r0,by rw[f.o,f.tM,f.g];exact⟨m0,m1⟩,fun p t hs X m i O nt ht hp=>?_⟩;rw[f.held] at i;rw[f.o,f.tM,f.g,f.tR] at hp;subst i;have hl:(Cg a).length<=1000:=by
  unfold Cg;rw[List.length_map];refine Nat.le_trans (List.length_filter_le _ _) ?_;rw[List.length_range];lia
 have h1:=j.same m;have y:=f.keep (yU.of m);rw[<-h_u1,aD];generalize h_u2:aD _=Y;rcases q with⟨rfl,q⟩|⟨J,th,rfl,u,F,q⟩
 ·exists hp;intro C d;exact q C _ (m.trans (aJ d)) ⟨t,ar,by rw[ak (fun z=>by rw[z,d] at ht;cases ht)];exact ht,hl,by decide+kernel⟩
 ·exists hp;rw[<-h_u2,aD];generalize h_u3:aD _=Z;exists h1.hx,h1.sd.hx;obtain⟨vs,G,E,I⟩:=y.s;obtain⟨v,H,tp,rfl,hs⟩:=Vm E u;refine⟨_,_,.ref tp,h1.sd,by rw[G];exact H,?_⟩;refine⟨_,_,.inr hs,uM,?_⟩;exists h1.hx,hp;rw[f.R];refine⟨r0,?_⟩;refine⟨_,_,.inr hs,vQ,fun C d=>?_⟩;exact q C _ (m.trans (aJ d)) ⟨t,ar,by rw[ak (fun z=>by rw[z,d] at ht;cases ht)];exact ht,hl,F⟩
include T in theorem Gg:MA P w K mg base aA "send" 5 ["self","turn"] (qJ aA ax aa av ai ay ae az aB af ag ah aI K):=by
 exists 1,T.uD,nz,qJ;rename_i x n;refine⟨_,(aj (PS.nox (aO 2 nz.1.nd (bT (aw (pv 0) T.aV T.bc) T.aC (Gd T) HR (cX (pv 1)))))
 (aE (aj (PS.nox (bD (PW.pt (pw_and (bw oZ (pv 2) cx) (pw_and1 (dO (nC (aw (pv 0) T.aV T.bW)))))) (aq (aH cx)) aU))
 (aE (aj (PS.nox (aO 3 nz.1.nd (lS (bw oZ (pv 2) cx) bR (aS K (pv 2) au))))
 (aE (aj (PS.nox (aO 4 nz.1.nd (lS (bw oZ (pv 2) cx) cx (aS K (pv 2) au))))
 (aE (aj (PS.nox (aQ (pv 0) cW T.aV T.bW))
 (aE (aq (aH (cJ (dz (Vy (C_ T) HR (by decide) rfl oX rfl (cX (bT (pv 0) T.aV (zX T) HR (c9 (pv 3) (pv 4))))) (c9 (pv 3) (pv 4)))))))))))))))),?_⟩
 obtain⟨A,a,⟨z,hH,Z⟩,ok,q1,q2⟩:=h;obtain⟨vs,es1,es2,X⟩:=Z.s;have hS:=hH.sd;rw[es1] at hS;generalize h_u1:aD _=u1;exists hH.hx,hS.hx;refine⟨_,_,hS,⟨ok.bz.b0,ok.bz.bt,ok.bz.t1⟩,ok.ck,ok.la,ok.lf,fun v j z' f1 s1 g1=>?_⟩;obtain⟨e1,alt⟩:=aga g1;rw[agb X] at e1 alt;subst e1;have h1:bL aA ax aa av ai (tbl ay ae az aB af ag ah) j x A {z with sd:={(vN a.s n).1 with T:=vs}}:=hH.sender f1 s1;have k1:Kp (foot x A) H j:=(Eb.kp f1).more (fun b hb=>by simp only[List.mem_cons,List.not_mem_nil,or_false] at hb;rcases hb with e|e|e|e|e|e|e<;>subst e<;>simp[foot])
 have J:yU H j:=fun b u e i=>k1 _ _ e (hH.imm e i);have G:=Z.keep J;have y:Paired (Bc K j) vs a.T:=jk es2 fun _ _ w=>w.keep J;have el:(vN a.s n).1.T.length=vs.length:=by rw[X9];exact X
 rw[<-h_u1,aD];generalize h_u2:aD _=u2;rcases alt with⟨e2,rfl⟩|⟨w,pl,p,e2,rfl,np,hp⟩
 ·exists h1.hx;cases ed:z.due
  ·rw[if_pos rfl];have ea:a.due=false:=by rw[<-Z.due];exact ed
   refine q1 (by unfold y7;rw[show(vN a.s n).2=none from e2];show(if a.due then _ else _)=_;rw[ea];rfl) j k1 ⟨_,h1,?_⟩;have m:=c8.sent (d:=z.due) G y el;rw[show bG a n={a with s:=(vN a.s n).1,due:=z.due} by unfold bG;rw[ed]];exact m
  rw[if_neg (by decide)];have ea:a.due=true:=by rw[<-Z.due];exact ed
  have sw:y7 a n=some (Str.ofString "bare",none):=by unfold y7;rw[show(vN a.s n).2=none from e2];show(if a.due then _ else _)=_;rw[ea];rfl
  have pb:=ok.pb _ _ sw;rw[<-h_u2,aD];generalize h_u3:aD _=u3;exists 9;rw[<-h_u3,aD];generalize h_u4:aD _=u4;exists 9;rw[<-h_u4,aD];generalize h_u5:aD _=u5;exists h1.hx;have U:=h1.own h1.st false;have k3:Kp (foot x A) j (upd j x (.ins aA A.dx (aX (.int z.side) (.int z.R) (.ref A.tk) (.ref A.sd) (.ref A.st) (.bl false) (.ref A.pe)))):=Kp.upd (by simp[foot]);have O:yU j (upd j x (.ins aA A.dx (aX (.int z.side) (.int z.R) (.ref A.tk) (.ref A.sd) (.ref A.st) (.bl false) (.ref A.pe)))):=fun b u e i=>k3 _ _ e (h1.imm e i);have I:HM aA ax aa av ai (tbl ay ae az aB af ag ah) K (upd j x (.ins aA A.dx (aX (.int z.side) (.int z.R) (.ref A.tk) (.ref A.sd) (.ref A.st) (.bl false) (.ref A.pe)))) x A (bG a n):=⟨{z with sd:={(vN a.s n).1 with T:=vs},due:=false},U,c8.sent (G.keep O) (jk y fun _ _ w=>w.keep O) el⟩;generalize upd j x (.ins aA A.dx (aX (.int z.side) (.int z.R) (.ref A.tk) (.ref A.sd) (.ref A.st) (.bl false) (.ref A.pe)))=H3 at*
  rw[<-h_u5,aD];exists U.hx;refine⟨A,bG a n,I,⟨ok.r0,ok.m0,ok.m1⟩,?_⟩;refine .inl fun t H4 C tt=>?_;refine⟨_,_,_,_,_,_,tt,fun _ H5 E Y f=>?_,fun c=>absurd (pb.1.symm.trans c) (by decide)⟩;exact q2 _ _ sw Y _ (((k1.trans k3).trans (Kp.of C)).trans (Kp.of (E.trans (aJ f)))) (HM.same I ((C.trans E).trans (aJ f))) ar
 ·exists h1.hx;have sw:y7 a n=some (w,pl):=by unfold y7;rw[show(vN a.s n).2=some (w,pl) from e2]
  have pb:=ok.pb _ _ sw;rw[<-h_u2,aD];generalize h_u3:aD _=u3;exists hp;rw[<-h_u3,aD];generalize h_u4:aD _=u4;exists hp;rw[<-h_u4,aD];generalize h_u5:aD _=u5;exists h1.hx;have U:=h1.own h1.st false;have k3:Kp (foot x A) j (upd j x (.ins aA A.dx (aX (.int z.side) (.int z.R) (.ref A.tk) (.ref A.sd) (.ref A.st) (.bl false) (.ref A.pe)))):=Kp.upd (by simp[foot]);have O:yU j (upd j x (.ins aA A.dx (aX (.int z.side) (.int z.R) (.ref A.tk) (.ref A.sd) (.ref A.st) (.bl false) (.ref A.pe)))):=fun b u e i=>k3 _ _ e (h1.imm e i);have I:HM aA ax aa av ai (tbl ay ae az aB af ag ah) K (upd j x (.ins aA A.dx (aX (.int z.side) (.int z.R) (.ref A.tk) (.ref A.sd) (.ref A.st) (.bl false) (.ref A.pe)))) x A (bG a n):=⟨{z with sd:={(vN a.s n).1 with T:=vs},due:=false},U,c8.sent (G.keep O) (jk y fun _ _ w=>w.keep O) el⟩;generalize upd j x (.ins aA A.dx (aX (.int z.side) (.int z.R) (.ref A.tk) (.ref A.sd) (.ref A.st) (.bl false) (.ref A.pe)))=H3 at*
  rw[<-h_u5,aD];exists U.hx;refine⟨A,bG a n,I,⟨ok.r0,ok.m0,ok.m1⟩,?_⟩;cases pl with
  |none=>
   refine .inl ⟨rfl,fun t H4 C tt=>?_⟩;refine⟨_,_,_,_,_,_,tt,fun _ H5 E Y f=>?_,fun c=>absurd (pb.1.symm.trans c) (by decide)⟩;exact q2 _ _ sw Y _ (((k1.trans k3).trans (Kp.of C)).trans (Kp.of (E.trans (aJ f)))) (HM.same I ((C.trans E).trans (aJ f))) ar
  |some F=>
   obtain⟨th,t1,t2⟩:=pb.2 F rfl;have et:En a w (some F)=th:=by
    show(j4 a.T F).getD _=th;rw[t1];rfl
   have sb:cD th.1 (F % a.R) (a.g % a.R) (a.o+a.M-a.g) (Cg a) th.2=true:=by
    have:=pb.1;unfold Hj at this;rw[et] at this;exact this
   have en:Nr a w (some F)=ip th.1 (F % a.R) (a.g % a.R) (a.o+a.M-a.g) (Cg a) th.2:=by
    unfold Nr;rw[et];rfl
   refine .inr ⟨F,th,rfl,t1,t2,fun t H4 C tt=>?_⟩;refine⟨_,_,_,_,_,_,tt,fun _ H5 E Y f=>?_,fun c=>absurd (sb.symm.trans c) (by decide)⟩;exact q2 _ _ sw Y _ (((k1.trans k3).trans (Kp.of C)).trans (Kp.of (E.trans (aJ f)))) (HM.same I ((C.trans E).trans (aJ f))) (by rw[en];exact ar)
include T in theorem mC:FA P w K mg base "_law_cell_at" 1 ["_law_script","_law_k"] (ma K):=by
 exists 0,T.ow,Bi,ma;rename_i a k;refine⟨_,(aj (bD (bw m_ (pv 1) (aY (lE K rfl) (by rfl) T.lY iM (cX (pv 0)))) (aq (aH (cK K (pv 0) (pv 1)))) aU)
 (aq (aH au))),?_⟩
 obtain⟨ns,d,h0,q⟩:=h;exists 9;refine⟨_,.inl d,?_⟩;rw[List.length_map];split
 ·rename_i c;exact OU d h0 c (q _)
 ·exact q _
include T in theorem vL:FA P w K mg base "_law_mixed" 1 ["_law_cell","_law_k"] o_:=by
 exists 0,T.rP,lI,o_;rename_i c k;refine⟨_,(aj (bD (PW.pt (pw_and (bw C8 (pv 0) (aL jo au au)) (pw_and1 (bw sC (aL mz (pv 0) (a_ K au (aL kN au (pv 1)))) au)))) (aq (aH (aL b8 (aL mz (pv 0) (a_ K au (aL kN au (pv 1)))) au))) aU)
 (aE (aj (aO 2 lI.1.nd (a_ K (aL b8 (pv 0) au) au))
 (aj (gn PassesOwn.never rfl (iO rfl T.dv (cX au)) (bu 3 lI.1.nd) (aq (aO 2 lI.1.nd (aL b8 (a_ K (a_ K (aL kN (pv 2) (pv 2)) (aL kN au (pv 2))) (pv 1)) au))))
 (aq (aH (pv 2))))))),?_⟩
 obtain⟨h0,q⟩:=h;generalize h_u1:aD _=f;exists 9;have sh:Qn 1 90:=⟨⟨by decide,by decide⟩,by decide+kernel,by decide+kernel⟩;have tail:f {nx:=fun _ H'=>Q .non H',rt:=Q} [some (.int c),some (.int k),none,none] H:=by
  rw[<-h_u1,aD];exists 9;refine tP (lo:=0) (n:=3) (fun i σ H'=>H'=H/\∃v d,σ= [some (.int c),some (.int k),some (.int v),d]/\0<=v/\v<2147483647+(if i=0 then 48271 else 0)) ⟨rfl,_,none,rfl,by lia,by rw[if_pos rfl];lia⟩ (fun i σ H' _ hp=>?_) (fun σ H' hp=>?_)
  ·obtain⟨rfl,v,d,rfl,h0,h1⟩:=hp;exists 9;have j:v<3000000000:=by split at h1<;>lia
   exact⟨.inl ⟨by lia,by lia⟩,_,_,rfl,Int.emod_nonneg _ (by decide),Int.emod_lt_of_pos _ (by decide)⟩
  ·obtain⟨rfl,v,d,rfl,h0,h1⟩:=hp;exists 9;exact q v h0 (by rw[if_neg (by decide)] at h1;lia)
 refine⟨sh,?_⟩;split
 ·refine⟨by lia,?_⟩;split
  ·exact⟨by lia,q _ (Int.emod_nonneg _ (by decide)) (Int.emod_lt_of_pos _ (by decide))⟩
  ·exact tail
 ·exact tail
include T in theorem Eo:FA P w K mg base "_law_terms" 5 ["_law_cell","_law_other"] (o8 bj):=by
 exists 0,T.rN,cA,o8;rename_i c n;refine⟨_,(aj (aO 2 cA.1.nd (cJ (c9 (a_ K au (aL b8 (pv 0) au)) (a_ K au (aL b8 (aL cB (pv 0) au) au)))))
 (aj (aO 3 cA.1.nd (a_ K au (aL b8 (aL cB (pv 0) au) au)))
 (aE (q_ (bD (bw sC (aL b8 (aL cB (pv 0) au) au) au) (aj (aO 2 cA.1.nd (cJ (c9 (a_ K au (aL b8 (pv 0) au)) (a_ K au (aL b8 (aL cB (pv 0) au) au)))))
 (aq (aO 3 cA.1.nd (a_ K au (aL b8 (aL cB (pv 0) au) au))))) aU)
 (aE (aj (aO 4 cA.1.nd (aY (Fs K rfl rfl) (by rfl) T.Bb AV (cX (a_ K (jl (cX (a_ K au (aL cB (pv 3) au)))) (jm (N:=(["_law_room_here","_law_lag"]:List Str)) (nv:=1) (ix:=[3]) rfl (qk (by kernel_rfl)) (dq K rfl (pv 2)) (fun _ _ _ _ _=>(bu 0 (show((["_law_room_here","_law_lag"]:List Str)).Nodup by decide))) (fun _ _ _ _ _=>(uQ (bw sC (pv 0) au))) (fun _ _ _ _ _=>(aL dA (a_ K (aL kN au (pv 0)) (pv 1)) au)))))))
 (aE (aj (aO 5 cA.1.nd (a_ K au (aL b8 (pv 1) au)))
 (aE (q_ (bD (bw sC (aL b8 (aL cB (pv 1) au) au) au) (aq (aO 5 cA.1.nd (a_ K au (aL b8 (pv 1) au)))) aU)
 (aE (aj (aO 6 cA.1.nd (a_ K (pv 4) (aL b8 (aL cB (pv 1) au) (aL dA au (pv 4)))))
 (aE (aq (aH (wD T.c7 (yj T) HR (by decide) rfl (dz (pv 6) (dz (pv 2) (dz (pv 3) (c9 (pv 5) (a_ K (pv 5) (aL b8 (aL cB (pv 1) au) (aL dA au (pv 5)))))))))))))))))))))))),?_⟩
 generalize h_u1:aD _=u1;exists 9;have Z:a8 H H:=a8.refl H;intro p0 J;have G:=ar (H:=H) (a:=p0) (o:=(.tup [.int (1+c % 16),.int (1+c / 16 % 16)]));have U:=aJ (H:=H) (o:=(.tup [.int (1+c % 16),.int (1+c / 16 % 16)])) J;replace Z:=Z.trans U;generalize upd H p0 ((.tup [.int (1+c % 16),.int (1+c / 16 % 16)]))=H1 at*
 rw[<-h_u1,aD];generalize h_u2:aD _=u2;refine⟨fun v H'=> ∃p o t g,v= [some (.int c),some (.int n),some (.ref p),some (.int g),none,none,none]/\a8 H H'/\H' p=some (.tup [.int o,.int t])/\(1<=o/\o<=16)/\(1<=t/\t<=16)/\(1<=g/\g<=32),?_,?_⟩
 ·exists 9;split
  ·intro p1 hp1;exact⟨p1,_,_,_,rfl,Z.trans (aJ hp1),ar,by lia,by lia,by lia⟩
  ·exact⟨p0,_,_,_,rfl,Z,G,by lia,by lia,by lia⟩
 rintro v H2 ⟨p,o,t,g,rfl,F,hp,bo,bt,bg⟩;rw[<-h_u2,aD];generalize h_u3:aD _=u3;exists 9;intro p3 O;have d:=ar (H:=H2) (a:=p3) (o:=(.lst [.int (2+g / 2)]));have y:=aJ (H:=H2) (o:=(.lst [.int (2+g / 2)])) O;replace hp:=y _ _ hp;replace F:=F.trans y;generalize upd H2 p3 ((.lst [.int (2+g / 2)]))=H3 at*
 refine AN (p:=fun x=>match x with | .int i=>decide (1<i)|_=>false) (f:=fun x=>match x with | .int i=> .int (2*i+g-1)|_=> .non) (dX.of hp) (bq (by simp)) (fun x hx Q h=>?_) (fun x hx _ Q h=>?_) ?_
 ·simp only[List.mem_cons,List.not_mem_nil,or_false] at hx;rcases hx with rfl|rfl<;>(exists 9;exact h)
 ·simp only[List.mem_cons,List.not_mem_nil,or_false] at hx;rcases hx with rfl|rfl<;>(exists 9;exact h)
 obtain⟨ns,en,ln,n1,n2,n3⟩:∃ns:List Int,List.map (fun x=>match x with|V.int i=>V.int (2*i+g-1)|_=>V.non) (List.filter (fun x=>match x with|V.int i=>decide (1<i)|_=>false) [V.int o,V.int t])=ns.map V.int/\ns.length<=2/\(1<o->2*o+g-1∈ns)/\(1<t->2*t+g-1∈ns)/\∀m∈ns,m<=63:=by
  by_cases c1:1<o<;>by_cases E:1<t
  ·exact⟨[2*o+g-1,2*t+g-1],by simp[c1,E],by simp,fun _=>by simp,fun _=>by simp,fun m hm=>by simp at hm;lia⟩
  ·exact⟨[2*o+g-1],by simp[c1,E],by simp,fun _=>by simp,fun h=>absurd h E,fun m hm=>by simp at hm;lia⟩
  ·exact⟨[2*t+g-1],by simp[c1,E],by simp,fun h=>absurd h c1,fun _=>by simp,fun m hm=>by simp at hm;lia⟩
  ·exact⟨[],by simp[c1,E],by simp,fun h=>absurd h c1,fun h=>absurd h E,fun m hm=>by cases hm⟩
 rw[en];refine⟨bq (by rw[List.length_map];lia),?_⟩;intro p4 Y;have X:=ar (H:=H3) (a:=p4) (o:=(.lst (ns.map V.int)));have j:=aJ (H:=H3) (o:=(.lst (ns.map V.int))) Y;replace hp:=j _ _ hp;replace d:=j _ _ d;replace F:=F.trans j;generalize upd H3 p4 ((.lst (ns.map V.int)))=H4 at*
 refine D5 d X (by rw[List.length_map,sizeLine_eq];simp;lia) ?_;intro p5 I;have S5:=F.trans (aJ (o:= .lst ([V.int (2+g / 2)]++ns.map V.int)) I);have z:=cb (o:= .lst ([V.int (2+g / 2)]++ns.map V.int)) hp I;refine⟨(2+g / 2)::ns,cT.of ar,by simp,fun M hM hle=>?_⟩;generalize upd H4 p5 (.lst ([V.int (2+g / 2)]++ns.map V.int))=H5 at*
 have M1:=hle _ (List.mem_cons_self ..);have M2:1<o->2*o+g-1<=M:=fun q=>hle _ (List.mem_cons_of_mem _ (n1 q));have M3:1<t->2*t+g-1<=M:=fun q=>hle _ (List.mem_cons_of_mem _ (n2 q));have M4:M<=63:=by
  rcases List.mem_cons.mp hM with q|q
  ·lia
  ·exact n3 _ q
 rw[<-h_u3,aD];generalize h_u4:aD _=u4;exists 9;rw[<-h_u4,aD];generalize h_u5:aD _=u5;refine⟨fun v H'=> ∃f,v= [some (.int c),some (.int n),some (.ref p),some (.int g),some (.int M),some (.int f),none]/\H'=H5/\(2<=f/\f<=64),?_,?_⟩
 ·exists 9;split
  ·exact⟨_,rfl,by lia,by lia⟩
  ·exact⟨_,rfl,by lia,by lia⟩
 rintro v H' ⟨f,rfl,rfl,bf⟩;rw[<-h_u5,aD];generalize h_u6:aD _=u6;exists 9;have r0:=Int.emod_nonneg (n / 252) (show 65-M≠0 by lia);have r1:=Int.emod_lt_of_pos (n / 252) (show 0<65-M by lia);generalize n / 252 % (65-M)=rr at*
 refine⟨by lia,?_⟩;rw[<-h_u6,aD];exists 9;have l0:=Int.emod_nonneg (n / 16128) (show 65-f≠0 by lia);have l1:=Int.emod_lt_of_pos (n / 16128) (show 0<65-f by lia);generalize n / 16128 % (65-f)=ll at*
 refine⟨by lia,fun x dx hx hdx ne=>?_⟩;have S6:=cV (C:=bj) (fs:=[]) hx hdx;have hg:good (M+rr) o t g f (f+ll):=⟨by lia,⟨bo,bt⟩,bg,by lia,by lia⟩;have hw: ¬M+rr<pH o t g:=by
  unfold pH n8;split<;>split<;>lia
 refine⟨o,t,dx,S6 _ _ z,rfl,fun ng=>absurd hg ng,fun _ hr=>absurd hr hw,fun _ _ H7 b7 h7=>?_⟩;refine h x _ o t g f _ H7 (fun b u e=>b7 _ _ (S6 _ _ (S5 _ _ e)) (aG (S5 _ _ e) hx)) ⟨dx,p,h7,b7 _ _ (S6 _ _ z) (aG z hx)⟩ ⟨hg,hw⟩
include T in theorem F7:FA P w K mg base "_law_text" 2 ["_law_cell","_law_size"] qB:=by
 exists 0,T.uv,fA,qB;rename_i c n;refine⟨_,(aj (aO 2 fA.1.nd bR)
 (aj (aO 2 fA.1.nd (a_ K (pv 2) bR))
 (aE (aj (aO 3 fA.1.nd bR)
 (aE (aj (gn PassesOwn.never rfl (iO rfl T.dv (cX (pv 1))) (bu 4 fA.1.nd) (aq (aO 3 fA.1.nd (a_ K (pv 3) (aS K (pv 2) (aL b8 (aL cB (br (vL T) HR (c9 (pv 0) (a_ K au (aL cB (pv 4) au)))) (aS K (jl (dz au (dz au (c9 au au)))) (aL b8 (pv 4) au))) au))))))
 (aE (aq (aH (pv 3)))))))))),?_⟩
 obtain⟨hn,q⟩:=h;generalize h_u1:aD _=J;exists 9;refine⟨by rw[sizeLine_eq];decide+kernel,?_⟩;rw[show(Str.ofString " !\"#$&'()*+,-./0123456789:;<=>?@ABCDEFGHIJKLMNOPQRSTUVWXYZ[\\]^_`" ++Str.ofString "abcdefghijklmnopqrstuvwxyz{|}~")=mq by decide+kernel];rw[<-h_u1,aD];generalize h_u2:aD _=U;exists 9;rw[<-h_u2,aD];generalize h_u3:aD _=X;exists 9;refine⟨by lia,?_⟩;refine tP (lo:=0) (n:=n.toNat) (fun k σ H'=>a8 H H'/\∃z u,σ= [some (.int c),some (.int n),some (.str mq),some (.str z),u]/\z.length=k/\∀c∈z.cps.toList,c∈sgl) ⟨a8.refl _,_,_,rfl,rfl,fun c hc=>by cases hc⟩ (fun k σ H' hk hp=>?_) (fun σ H' hp=>?_)
 ·obtain⟨m,z,u,rfl,i,x⟩:=hp;exists 9;refine⟨by lia,fun v Y I p hp=>?_⟩;obtain⟨d,G,bd⟩:∃d,j4 [V.int 1,V.int 94,V.int 8836,V.int 830584] ((0+(k:Int)) % 4)=some (.int d)/\(0<d/\d<1000000):=by
   obtain e|e|e|e:(0+(k:Int)) % 4=0\/(0+(k:Int)) % 4=1\/(0+(k:Int)) % 4=2\/(0+(k:Int)) % 4=3:=by lia
   ·rw[e];exact⟨_,uM,by decide⟩
   ·rw[e];exact⟨_,vQ,by decide⟩
   ·rw[e];exact⟨_,UL,by decide⟩
   ·rw[e];exact⟨_,UK,by decide⟩
  refine⟨_,G,?_⟩;exists 9;refine⟨⟨bd.1,by lia⟩,?_⟩;rw[NW];have O:=Int.emod_nonneg (v / d) (show(94:Int)≠0 by decide);have F:=Int.emod_lt_of_pos (v / d) (show(0:Int)<94 by decide);obtain⟨j,E⟩:∃j:Nat,v / d % 94=(j:Int):=⟨(v / d % 94).toNat,by lia⟩;rw[E] at F⊢;have C:j<sgl.length:=by rw[Kc];lia
  refine⟨sgl[j],by rw[sizeLine_eq];decide+kernel,qp (List.getElem?_eq_getElem C),?_⟩;exists 9;refine⟨by rw[sizeLine_eq];simp[Str.length];rw[show z.cps.size=z.length from rfl,i];lia,m.trans (aJ hp),_,_,rfl,?_,fun y hc=>?_⟩
  ·show(z.cps ++ #[sgl[j]]).size=k+1;rw[Array.size_append,show z.cps.size=z.length from rfl,i];rfl
  ·have f:y∈(z.cps ++ #[sgl[j]]).toList:=hc;rw[Array.toList_append,List.mem_append] at f;rcases f with f|f
   ·exact x y f
   ·have e:y=sgl[j]:=by simpa using f
    rw[e];exact List.getElem_mem C
 ·obtain⟨m,z,u,rfl,i,x⟩:=hp;rw[<-h_u3,aD];exists 9;exact q z H' m (by lia) x
include T in theorem Dc:FA P w K mg base "_law_things" 2 ["_law_hand"] (nQ aA ax aa av ai ay ae az aB af ag ah K):=by
 exists 0,T.pQ,CN,nQ;rename_i x;refine⟨_,(aq (aH (jm (N:=(["_law_place","_law_hand"]:List Str)) (nv:=1) (ix:=[0]) rfl (qk (by kernel_rfl)) (iO rfl T.dv (cX (bO (aw (pv 0) T.aV T.bc) T.aC (fe T) HR))) (fun _ _ _ _ _=>(bu 0 (show((["_law_place","_law_hand"]:List Str)).Nodup by decide))) (fun _ _ _ _ _=>qZ) (fun _ _ _ _ _=>(bT (aw (pv 1) T.aV T.bc) T.aC (sE T) HR (cX (pv 0))))))),?_⟩;obtain⟨A,a,G,hl,q⟩:=h;obtain⟨z,d,E⟩:=G;obtain⟨vs,e1,C,I⟩:=E.s;exists d.hx,d.sd.hx;refine⟨A.S,z.sd,d.sd,?_⟩;have u:z.sd.T=vs:=by rw[e1]
 have lv:=rg C;rw[u];refine⟨⟨by lia,by lia⟩,?_⟩;refine GJ (p:=fun _=>true) (f:=fun v=>match v with | .int i=>(vs[i.toNat]?).getD .non|v=>v) (bq (by lia)) (fun i hi y m=>m) (fun i hi _ y m=>?_) ?_
 ·have j:i<vs.length:=by lia
  exists d.hx,d.sd.hx;refine⟨A.S,z.sd,vs[i],d.sd,by rw[u];rw[show(0+(i:Int))=(i:Int) by lia];exact qp (List.getElem?_eq_getElem j),?_⟩;have q2:y ((vs[(0+(i:Int)).toNat]?).getD .non) H:=m;rw[show(0+(i:Int)).toNat=i by lia,List.getElem?_eq_getElem j,Option.getD_some] at q2;exact q2
 ·have F:(List.filter (fun x=>true) (oN 0 ((vs.length:Int)).toNat)).map (fun v=>match v with|V.int i=>(vs[i.toNat]?).getD .non|v=>v)=vs:=by
   rw[List.filter_eq_self.mpr (fun _ _=>rfl),oN,List.map_map];apply List.ext_getElem?;intro i;rw[List.getElem?_map];by_cases c:i<vs.length
   ·rw[List.getElem?_range (by lia)];show some ((vs[(0+(i:Int)).toNat]?).getD .non)=vs[i]?;rw[show(0+(i:Int)).toNat=i by lia,List.getElem?_eq_getElem c];rfl
   ·rw[List.getElem?_eq_none (by simp;lia),List.getElem?_eq_none (by lia)];rfl
  rw[F];exact⟨bq (by lia),fun l nl=>q l vs _ (aJ nl) ar (jk C fun _ _ t=>t.keep (yU.of (aJ nl)))⟩
theorem c8.putn {K:W.Frag} {H:Hp} {z:Hn} {a:iR} {us:List V} {ts:List Th} {nm:Str} {es:List Int} (h:c8 K H z a) (d:Paired (Bc K H) us ts):c8 K H {z with nm:=nm,ends:=es,sd:={z.sd with T:=z.sd.T++us}} {a with nm:=nm,ends:=es,T:=a.T++ts,s:={a.s with T:=a.s.T++ts.map fun _=>V.non}}:=by
 obtain⟨vs,e1,i,f⟩:=h.s;refine{h with s:=⟨_,?_,C3 i d,?_⟩,nm:=rfl,ends:=rfl}
 ·simp_all
 ·rw[List.length_append,List.length_append,f,List.length_map,rg d]
theorem KU {k:Str} (hk:k = "begin" \/k = "end"):Be (k,Str.ofString ""):=by
 rcases hk with rfl|rfl
 ·exact Dk
 ·refine⟨by trivial,by trivial,by trivial,fun n a r n0 n1 a0 a1 r0 d=>?_⟩;unfold cD;rw[show D_ _ _=true by trivial,show D_ _ _=false by trivial,show Held.dZ 0 []=true by trivial,show qO _ _=true by trivial];simp[eV];lia
theorem Nw {c:Nat} (h:c∈sgl):OZ (.str ⟨#[c]⟩)=true:=by
 show(!(Builtin.Str.occurrences _ _ 0 _ 1).isEmpty)=true;rw[(o4 h).1];rfl
theorem QH {z:Str} (h1:1<=z.length) (f:z.length<=60) (hc:∀c∈z.cps.toList,c∈sgl):oS z=true:=by
 unfold oS;rw[decide_eq_true h1,decide_eq_true f,Bool.true_and,Bool.true_and,List.all_eq_true];intro v d;obtain⟨c,hm,rfl⟩:=List.mem_map.mp d;exact Nw (hc c hm)
theorem Nv {z:Str} {a b:Nat} (h:z.length<=b):Txt.slice z (some (a:Int)) (some (b:Int))=Txt.slice z (some (a:Int)) (some (z.length:Int)):=by
 have hi:Builtin.Str.strSliceIndices (some (a)) (some (b)) 1 z.length=Builtin.Str.strSliceIndices (some (a)) (some (z.length)) 1 z.length:=by
  have a1: ¬((b:Int)<0):=by lia
  have d: ¬((z.length:Int)<0):=by lia
  have f:max (0) (min (b:Int) (z.length))=max (0) (min (z.length:Int) (z.length)):=by lia
  simp only[Builtin.Str.strSliceIndices,a1,d,if_false,f,show((1:Int) > 0)=True from by simp,if_true]
 show StrLaws.sliceText z _ _=StrLaws.sliceText z _ _;unfold StrLaws.sliceText;rw[hi]
theorem JC {t:Str} (hc:∀c∈t.cps.toList,c∈sgl):∀s∈chunks t,Be (Str.ofString "signs",s):=by
 intro s hs;obtain⟨i,hi,rfl⟩:=List.mem_map.mp hs;rw[List.mem_range] at hi;have hl:t.cps.toList.length=t.length:=rfl;obtain⟨b,j,m,e⟩:∃b,4*i<b/\(b<=t.length/\b<=4*i+4)/\chunk t i=⟨((t.cps.toList.drop _).take (b-4*i)).toArray⟩:=by
  unfold chunk;by_cases c:4*i+4<=t.length
  ·exact⟨_,by lia,⟨c,by lia⟩,StrLaws.sliceText_nat t (by lia) c⟩
  ·rw[Nv (by lia)];exact⟨_,by lia,⟨by lia,by lia⟩,StrLaws.sliceText_nat t (by lia) (by lia)⟩
 rw[e];have ln:(⟨((t.cps.toList.drop (4*i)).take (b-4*i)).toArray⟩:Str).length=b-4*i:=by
  show((t.cps.toList.drop _).take _).toArray.size=_;rw[List.size_toArray,List.length_take,List.length_drop];lia
 refine⟨by show Str.ofString _≠Str.ofString _;decide+kernel,by show Str.ofString _≠Str.ofString _;decide+kernel,by lia,fun n a r n0 n1 a0 a1 r0 u=>?_⟩;unfold cD;rw[show D_ (.str (Str.ofString _)) _=true by decide+kernel,show D_ _ _=false by rfl,show Held.dZ 0 []=true by rfl];have f:qO (Str.ofString "signs") ⟨((t.cps.toList.drop (4*i)).take (b-4*i)).toArray⟩=true:=by
  unfold qO;rw[if_pos rfl,ln,decide_eq_true (show 1<=b-4*i by lia),decide_eq_true (show b-4*i<=4 by lia),Bool.true_and,Bool.true_and,List.all_eq_true];intro v d;obtain⟨c,hm,rfl⟩:=List.mem_map.mp d;exact Nw (hc c (List.mem_of_mem_drop (List.mem_of_mem_take hm)))
 rw[f];simp[eV];lia
theorem Ea.no {a:iR}:Ea a a:=⟨a.nm,a.ends,[],fun t ht=>absurd ht List.not_mem_nil,by simp,by lia,by simp⟩
include T in theorem F6:FA P w K mg base "_law_wish" 5 ["_law_hand","_law_cell"] (qA aA ax aa av ai ay ae az aB af ag ah aK aZ K):=by
 exists 0,T.uu,iX,qA;rename_i x c;refine⟨_,(aj (aO 2 iX.1.nd (a_ K au (aL b8 (aL cB (pv 1) au) au)))
 (aE (q_ (bD (eg K HR (aL b8 (aL cB (pv 1) au) au) au) (aq (aO 2 iX.1.nd (a_ K au (aL b8 (aL cB (pv 1) au) au)))) aU)
 (aE (aj (aO 3 iX.1.nd bR)
 (aj (N8 (fun _ _ _=>(aq (bD (bw m_ (aL b8 (pv 1) au) au) (aq (bI (KC (pv 0) T.aV (Ez T) HR (by decide) (yg rfl)))) (aq (bD (eg K HR (aL b8 (pv 1) au) au) (aq (bI (KC (pv 0) T.aV (HK T) HR (by decide) (yg rfl)))) (aq (bD (bw m_ (aL b8 (pv 1) au) au) (aq (bI (Vu (pv 0) T.aV (HJ T) HR (by decide) (yg rfl) (cX (br (F7 T) HR (c9 (aL cB (pv 1) au) (pv 2))))))) aU))))))) (Od rfl T.yW rfl (fun _=>(aq (aO 3 iX.1.nd bR))) Oc))
 (aE (aq (aH (pv 3)))))))))),?_⟩
 obtain⟨A,a,U,hT,hE,q⟩:=h;have O:=U;obtain⟨z,F,C⟩:=O;generalize h_u1:aD _=u1;exists 9;rw[<-h_u1,aD];generalize h_u2:aD _=u2;refine⟨fun G H'=> ∃m,G= [some (V.ref x),some (V.int c),some (V.int m),none]/\H'=H/\1<=m/\m<=60,?_,?_⟩
 ·exists 9;split
  ·exact⟨_,rfl,by lia,by lia⟩
  ·exact⟨_,rfl,by lia,by lia⟩
 rintro G H' ⟨m,rfl,rfl,m1,m2⟩;rw[<-h_u2,aD];generalize h_u3:aD _=Y;have fin:∀u I v f,Kp (foot x A) H' f->HM aA ax aa av ai (tbl ay ae az aB af ag ah) K f x {A with st:=u} I->Ea a I->Y {nx:=fun x H'=>Q V.non H',rt:=Q} [some (V.ref x),some (V.int c),some (V.int m),some v] f:=fun u I v f k m w=>by
  rw[<-h_u3,aD];exists 9;exact q u I v f k m w
 have no:∀v f y o,a8 H' f->f y=none->Y {nx:=fun x H'=>Q V.non H',rt:=Q} [some (V.ref x),some (V.int c),some (V.int m),some v] (upd f y o):=fun v f y o s2 j=>fin A.st a v _ (Kp.of (s2.trans (aJ j))) (U.same (s2.trans (aJ j))) Ea.no;have ik:∀f,Kp (foot x A) H' f->yU H' f:=fun f k p o e i=>k p o e (F.imm e i);have lz:z.sd.T.length=a.T.length:=by obtain⟨vs,e1,e2,_⟩:=C.s;rw[e1];exact rg e2
 have le:z.ends.length=a.ends.length:=by rw[C.ends]
 exists F.hx,T.Aa,T.ft,T.wz,T.gg,T.gr,T.eO,T.eU,T.kJ,T.kZ,T.jc,T.jE,T.gZ,T.h9,T.ja,T.jD,T.jd,T.jF,T.kK,T.k7,T.Dp,T.gG,T.zC,T.gV,T.hU,T.fE,T.fK,T.gK,T.gL,T.kz,T.kP,T.iY,T.jt,T.ku,T.kO,T.kA,T.kQ,T.mv,T.mD,T.z_,T.gI,T.wy,T.gf,T.gq,T.eK,T.eS,T.fF,T.fL,T.eJ,T.eQ,T.gY,T.hZ,T.i9,T.jB,T.i_,T.jC,T.kI,T.kY,T.wX,T.tf,T.e_,T.fi,T.g_,T.ig,T.ji,T.jK,T.g9,T.ie,T.gj,T.gu,T.g8,T.ia,T.hG,T.ij,T.jj,T.jL,T.z9,T.fq,T.wx,T.gd,T.gp,T.i6,T.jx,T.kB,T.kR,T.i5,T.jv,T.gW,T.hV,T.iZ,T.ju,T.i7,T.jy,T.kC,T.kS,T.Ab,T.wA,T.gi,T.gs,T.jg,T.jI,T.kL,T.k8,T.jf,T.jH,T.g7,T.h_,T.je,T.jG,T.jh,T.jJ,T.kM,T.k9,T.Dq,T.gH,T.iS,T.zD,T.gX,T.hX,T.kG,T.kW,T.mw,T.mE,T.kE,T.kU,T.i8,T.jA,T.kD,T.kT,T.kH,T.kX,T.mx,T.mF;split
 ·refine⟨A,z,F,by lia,fun nx hn p u f hp kp hh=>fin u _ _ f kp ⟨_,hh,(C.keep (ik f kp)).putn (us:=[.ref p]) (ts:=[(Str.ofString "begin",Str.ofString "")]) (.cons ⟨p,rfl,hp f⟩ .nil)⟩ ⟨nx,z.ends,_,?_,by simp,by lia,rfl⟩,fun hn f d J hd y j=>no _ f y _ J j⟩;intro t ht;rw[List.mem_singleton.mp ht];exact KU (.inl rfl)
 split
 ·refine⟨A,z,F,by lia,by lia,fun nx hn p u f hp kp hh=>fin u _ _ f kp ⟨_,hh,(C.keep (ik f kp)).putn (us:=[.ref p]) (ts:=[(Str.ofString "end",Str.ofString "")]) (.cons ⟨p,rfl,hp f⟩ .nil)⟩ ⟨nx,_,_,?_,by simp,by simp;lia,rfl⟩,fun hn f d J hd y j=>no _ f y _ J j⟩;intro t ht;rw[List.mem_singleton.mp ht];exact KU (.inr rfl)
 split
 ·refine⟨⟨by lia,by lia⟩,fun tx f s2 ltx ctx=>?_⟩;have Z:=QH (by lia) (by lia) ctx;have E:=F.same s2;refine⟨A,z,E,by lia,by lia,(fun e=>by rw[Z] at e;cases e),fun _ _ X d S3 hd y j=>no _ X y _ (s2.trans S3) j,fun _ _ vs X k3 hh pp=>fin A.st _ _ X ((Kp.of s2).trans k3) ⟨_,hh,(C.keep ((yU.of s2).trans fun p o e i=>k3 p o e (E.imm e i))).putn (us:=vs) (ts:=(chunks tx).map fun s=>(Str.ofString "signs",s)) (Kv (jk pp fun v s hv=>?_))⟩ ⟨z.nm,z.ends,_,?_,?_,by lia,rfl⟩⟩
  ·obtain⟨p,rfl,hp⟩:=hv;exact⟨p,rfl,dX.of hp⟩
  ·intro t ht;obtain⟨s,hs,rfl⟩:=List.mem_map.mp ht;exact JC ctx s hs
  ·rw[List.length_map];unfold chunks;rw[List.length_map,List.length_range];lia
 ·exact fin A.st a _ H' Kp.refl U Ea.no
include T in theorem F_:FA P w K mg base "_law_asks" 2 ["_law_hand","_law_idle","_law_sent"] (qE aA ax aa av ai ay ae az aB af ag ah K):=by
 exists 0,T.uy,xZ,qE;rename_i x i l;refine⟨_,(aj (aO 3 xZ.1.nd (aw (pv 0) T.aV T.bc))
 (aj (bD (PW.pt (pw_or (wB K HR (pv 2) (jl jn)) (pw_or (bw m_ (aw (pv 3) T.aC T.aW) (aw (pv 3) T.aC T.bh)) (pw_or1 (eg K HR (aw (pv 3) T.aC T.bh) (bO (pv 3) T.aC (fe T) HR)))))) (aq (aH au)) aU)
 (aq (aH (a_ K (pv 1) au))))),?_⟩
 obtain⟨A,a,y,F,E,q⟩:=h;obtain⟨z,m,u⟩:=F;obtain⟨vs,e1,J,C⟩:=u.s;exists m.hx;intro p v;have s1:=aJ (o:= .lst []) v;obtain⟨ds,d1,j⟩:=(E.same s1).dnl (K:=K);have dp:Dn K (upd H p (.lst [])) 2 (.ref p) (.l []):=AE (n:=1) ar .nil;refine⟨2,_,_,by decide,d1,dp,?_⟩;have d:=m.same s1;have q1:=q _ s1;have zb:z.sd.b=a.s.b:=by rw[e1]
 have zt:z.sd.t=a.s.t:=by rw[e1]
 have G:z.sd.T.length=a.s.T.length:=by rw[e1,C]
 clear q;generalize upd H p (.lst [])=I at*
 by_cases c:y=none
 ·rw[c] at q1;refine .inl ⟨by rw[j.mpr c],false,rfl,?_⟩;rw[if_neg (by decide)];exists d.sd.hx;by_cases c1:z.sd.b<z.sd.t
  ·rw[if_pos c1];rw[if_pos (.inr (.inl (by lia)))] at q1;exact q1
  rw[if_neg c1];refine⟨A.S,z.sd,d.sd,?_⟩;by_cases f:z.sd.t=z.sd.T.length
  ·rw[if_pos f];rw[if_pos (.inr (.inr (by lia)))] at q1;exact q1
  ·rw[if_neg f];rw[if_neg (by simp;lia)] at q1;exact q1
 ·refine .inr ⟨fun e=>c (j.mp (by injection e)),true,rfl,?_⟩;rw[if_pos rfl];rw[if_pos (.inl (by cases y;exact absurd rfl c;rfl))] at q1;exact q1
include T in theorem F8:FA P w K mg base "_law_room" 1 ["_law_hands","_law_terms_here"] (qC aA ax aa av ai ay ae az aB af ag ah bj K):=by
 exists 0,T.uw,nq,qC;rename_i F tm;refine⟨_,(aj (gn PassesOwn.never rfl (iO rfl T.dv (cX au)) (bu 2 nq.1.nd) (aj (aO 3 nq.1.nd (aw (aS K (pv 0) (pv 2)) T.aV T.bc))
 (aj (aO 4 nq.1.nd (aw (aS K (pv 0) (aL dA au (pv 2))) T.aV T.cp))
 (aj (bD (dO (LY tE tE tE tE au (aw (pv 4) T.ba T.cu) (aw (pv 4) T.ba T.bP) (aw (pv 3) T.aC T.bh) (aw (pv 3) T.aC T.cQ))) (aq (aH cW)) aU)
 (aq (bD (PW.pt (pw_or (bw sC (aw (pv 3) T.aC T.aW) (aw (pv 4) T.ba T.bP)) (pw_or1 (bw sC (aw (pv 3) T.aC T.cQ) (aY (qo rfl) (by rfl) T.Bb AV (c9 au (a_ K (aw (pv 4) T.ba T.cu) (aS K (aw (pv 1) T.c7 T.dj) (aL dA au (pv 2)))))))))) (aq (aH cW)) aU))))))
 (aq (aH cW))),?_⟩
 obtain⟨O,G,A0,A1,a0,a1,r,o,t,g,f,l,hp,m0,m1,E,r0,z,q⟩:=h;obtain⟨i,h0,k0⟩:=m0;obtain⟨u,h1,k1⟩:=m1;obtain⟨C,e0,_⟩:=k0.s;obtain⟨y,e1,_⟩:=k1.s;obtain⟨dx,pr,t1,t2⟩:=E;have b0:i.sd.b=a0.s.b/\i.sd.t=a0.s.t/\i.sd.e=a0.s.e:=by rw[e0];exact⟨rfl,rfl,rfl⟩
 have b1:u.sd.b=a1.s.b/\u.sd.t=a1.s.t/\u.sd.e=a1.s.e:=by rw[e1];exact⟨rfl,rfl,rfl⟩
 have J:=k0.g;have X:=k1.g;have o0:=k0.o;have I:=k1.o;unfold Rm at r0 z;exists 9;refine tP (lo:=0) (n:=2) (fun j σ H'=>H'=H/\∃v x m,σ= [some (V.ref F),some (V.ref tm),v,x,m]) ⟨rfl,_,_,_,rfl⟩ (fun j σ H' U d=>?_) fun σ H' d=>?_
 ·obtain⟨rfl,v,x,m,rfl⟩:=d;rcases(show j=0\/j=1 by lia) with rfl|rfl
  ·rw[show(0:Int)+((0:Nat):Int)=0 from rfl];exists hp,h0.hx,h1.hx,h0.sd.hx,h1.tk.hx,t1,t2;rw[if_pos (by lia),if_pos (by lia),if_pos (by lia),if_neg (by lia),if_neg (by lia),if_neg (by split<;>lia)]
   exact⟨_,_,_,rfl⟩
  ·rw[show(0:Int)+((1:Nat):Int)=1 from rfl];exists hp,h0.hx,h1.hx,h1.sd.hx,h0.tk.hx,t1,t2;rw[if_pos (by lia),if_pos (by lia),if_pos (by lia),if_neg (by lia),if_neg (by lia),if_neg (by split<;>lia)]
   exact⟨_,_,_,rfl⟩
 ·obtain⟨rfl,v,x,m,rfl⟩:=d;exists 9;exact q
include T in theorem Ep:FA P w K mg base "_law_reads" 3 ["_law_hands","_law_side","_law_many","_law_turn"] (o9 aA ax aa av ai ay ae az aB af ag ah K):=by
 exists 0,T.rO,gD,o9;rename_i ph sd m n;refine⟨_,(aj (aO 4 gD.1.nd (aw (aS K (pv 0) (pv 1)) T.aV T.cp))
 (aj (aO 5 gD.1.nd (aw (pv 4) T.ba T.cu))
 (aj (aO 6 gD.1.nd (ye (QT K rfl) (br (Dc T) HR (cX (aS K (pv 0) (aL dA au (pv 1))))) (rh (pv 5)) (rh (aY (qm rfl) (by rfl) T.D2 DZ (c9 (a_ K (pv 5) (pv 2)) (aw (pv 4) T.ba T.bP))))))
 (aj (aO 7 gD.1.nd (bT (aS K (pv 0) (pv 1)) T.aV (Gh T) HR (cX (pv 2))))
 (aq (aH (di (aY (AO K rfl) (by rfl) T.cC cS (c9 (pv 7) (A5 rfl T.GO La))) (di (dP (nE K rfl HR.units) (pv 7) (pv 6)) (nY (dP (nE K rfl HR.units) (aw (pv 4) T.ba T.cu) (a_ K (pv 5) (aY (fN K rfl) (by rfl) T.lY iM (cX (pv 6)))))))))))))),?_⟩
 obtain⟨Y,x1,x,y,A,B,a,b,hp,hc,hM,hO,np,⟨m1,m2⟩,⟨o0,og,gl,bl⟩,hD,q⟩:=h;have I:=hM;obtain⟨z,C,hr⟩:=I;have ix:j4 [V.ref Y,V.ref x1] sd=some (V.ref x)/\j4 [V.ref Y,V.ref x1] (1-sd)=some (V.ref y):=by
  rcases hc with⟨rfl,rfl,rfl⟩|⟨rfl,rfl,rfl⟩
  ·exact⟨uM,vQ⟩
  ·exact⟨vQ,uM⟩
 exists hp;refine⟨_,ix.1,?_⟩;exists C.hx,C.tk.hx,hp;refine⟨_,ix.2,B,b,hO,bl,fun p vs H1 s1 e1 Z=>?_⟩;have f:=C.same s1;have zo:z.tk.o=a.o:=hr.o;have zg:z.tk.g=a.g:=hr.g;obtain⟨i,ei⟩:∃i:Nat,a.o=i:=⟨a.o.toNat,by lia⟩;obtain⟨n1,n2,_⟩:=CU (z:=a) (m:=m) og (by lia);have eN:(if z.tk.g<z.tk.o+m then z.tk.g else z.tk.o+m)=((i+cN a m:Nat):Int):=by
  rw[zo,zg];unfold cN at n1 n2⊢;split<;>lia
 have lv:=rg Z;exists f.tk.hx;rw[eN,zo,ei];refine Fb (cT.of e1) fun X d=>?_;rw[Yx (by lia)];have s2:=aJ (o:= .lst ((vs.drop i).take (cN a m))) d;have e2:=ar (H:=H1) (a:=X) (o:= .lst ((vs.drop i).take (cN a m)));have F:=jk (Ku (cN a m) (Kx i Z)) fun _ _ t=>t.keep (yU.of s2);have j:=f.same s2;have nf:=f.fresh d;have E:=s2 _ _ (s1 _ _ hp);have U:=(hM.same s1).same s2;have S2:=s1.trans s2;clear s2 d;generalize upd H1 X (.lst ((vs.drop i).take (cN a m)))=H2 at*
 exists E;refine⟨_,ix.1,?_⟩;exists j.hx;refine⟨A,a,U,⟨by lia,by lia,by lia,og,by lia⟩,fun k k1 k2=>?_,fun p3 us H3 np3 k3 m3 e3 J=>?_⟩
 ·rw[hD k k1 k2];obtain⟨t,ht,_⟩:=D3 (l:=b.T) (i:=k) (by lia) (by lia);rw[ht];rfl
 have u:=k3 _ _ e2 nf;have im:yU H2 H3:=fun b o e i=>k3 b o e (j.imm e i);have m4:=m3;obtain⟨z3,v,O⟩:=m4;have G:=jk F fun _ _ t=>t.keep im;exists e3;refine⟨2,_,_,by decide,AE e3 (Bc.row J),AE u (Bc.row G),.inl ⟨by rw[NI ei n1 gl hD],true,rfl,?_⟩⟩;rw[if_pos rfl];exists v.tk.hx,u;have l3:((vs.drop i).take (cN a m)).length=cN a m:=by rw[List.length_take,List.length_drop];lia
 rw[decide_eq_true (by rw[O.o,l3];show a.o+(cN a m:Int)=_;lia)];exact q _ ((Kp.of S2).trans k3) m3
noncomputable def YQ (w:Str):Option Int->Dt
 |none=> .t [.str w,.non]
 |some q=> .t [.str (Str.ofString "filed"),.int q]
theorem J4 {K:W.Frag} {H:Hp} {r:Addr} {w:Str} {p:Option Int} (h:dX K H r (E3 w p)):Dn K H 1 (.ref r) (YQ w p):=by
 cases p with
 |none=>exact .inr (.inr ⟨r,_,_,rfl,rfl,h,.cons DQ (.cons (.inl ⟨rfl,rfl⟩) .nil)⟩)
 |some q=>exact .inr (.inr ⟨r,_,_,rfl,rfl,h,.cons DQ (.cons JI .nil)⟩)
include T in theorem F9:FA P w K mg base "_law_come" 8 ["_law_hand","_law_turn","_law_sent"] (qD aA ax aa av ai ay ae az aB af ag ah aN aR aI K):=by
 exists 0,T.ux,fB,qD;rename_i x n l;refine⟨_,(aj (gn PassesOwn.never rfl (dq K rfl (pv 2)) (Rl K (n:=3) rfl rfl (Oe (bu 3 fB.1.nd) (Oe (bu 4 fB.1.nd) (Oe (bu 5 fB.1.nd) Rk)))) (aj (aO 6 fB.1.nd (cJ (c9 (pv 4) cx)))
 (q_ (bD (bw C7 (pv 5) cx) (aq (aO 6 fB.1.nd (cJ (c9 bR (pv 5))))) aU)
 (aj (bD (wB K HR (bT (pv 0) T.aV (Gj T) HR (c9 (pv 3) (pv 1))) (pv 6)) (aq (aH cW)) aU)
 (aq (bD (PW.pt (pw_and (wB K HR (pv 4) bR) (pw_and1 (bw Mb (bO (pv 0) T.aV (Ey T) HR) cW)))) (aq (aH cW)) aU))))))
 (aq (aH cW))),?_⟩
 obtain⟨A,a,y,hM,hS,hl,hc,hb,q⟩:=h;exists 9;rcases hS with⟨J,j⟩|⟨f,w,p,r,J,j,hr⟩
 ·refine rC (xs:=[]) (cT.of j) (fun i σ H'=>H'=H/\σ= [some (V.ref x),some (V.int n),some (V.ref l),none,none,none,none]) ⟨rfl,rfl⟩ (fun i σ H' hi hh=>by rw[hh.1];exact cT.of j) (fun i y σ H' C hh=>by cases C) (fun σ H' hh=>?_);obtain⟨rfl,rfl⟩:=hh;exists 9;subst J;exact q A.st _ Kp.refl hM
 obtain⟨c1,c2,c3⟩:=hc f w p J;subst J;obtain⟨PP,u⟩:∃PP:Nat->St->Hp->Prop,PP=fun i σ H'=>(i=0/\H'=H/\σ= [some (V.ref x),some (V.int n),some (V.ref l),none,none,none,none])\/(i=1/\H' l=some (.lst [V.ref r])/\(∃v,Kp (foot x A) H H'/\HM aA ax aa av ai (tbl ay ae az aB af ag ah) K H' x {A with st:=v} (ql a f n))/\∃v3 v4 v5 v6,σ= [some (V.ref x),some (V.int n),some (V.ref l),v3,v4,v5,v6]):=⟨_,rfl⟩;refine rC (xs:=[V.ref r]) (cT.of j) PP (by rw[u];exact .inl ⟨rfl,rfl,rfl⟩) (fun i σ H' hi hh=>?_) (fun i y σ H' C hh=>?_) (fun σ H' hh=>?_)
 ·rw[u] at hh;rcases hh with⟨_,e,_⟩|⟨_,e,_⟩
  ·rw[e];exact cT.of j
  ·exact cT.of e
 ·rw[u] at hh;rcases hh with⟨rfl,rfl,rfl⟩|⟨rfl,_⟩
  ·injection C with C;subst C;exists hr;intro d0 Y;have s0:=aJ (o:= .tup [V.str w,V.non]) Y;have e0:=ar (H:=H') (a:=d0) (o:= .tup [V.str w,V.non]);generalize upd H' d0 (.tup [V.str w,V.non])=H1 at*
   refine⟨fun G Z=> ∃d,G= [some (V.ref x),some (V.int n),some (V.ref l),some (V.int f),some (V.str w),some (Vn p),some (V.ref d)]/\a8 H' Z/\Z d=some (.tup (E3 w p)),?_,?_⟩
   ·cases p with
    |none=>
     exists 9;rw[if_neg (fun z=>z rfl)];exact⟨d0,rfl,s0,e0⟩
    |some i=>
     exists 9;rw[if_pos (fun z=>by cases z)];exact fun d1 U=>⟨d1,rfl,s0.trans (aJ U),ar⟩
   rintro G Z ⟨d,rfl,s2,hd⟩;have m2:=hM.same s2;have m3:=m2;obtain⟨z2,E,_⟩:=m3;exists E.hx;refine⟨A,a,m2,c1,hb,fun v rr H3 k3 m4 I=>?_⟩;rw[c2] at I;have nd:=E.imm hd (.inl ⟨_,rfl⟩);have O:=k3 _ _ hd nd;refine⟨1,_,_,by decide,J4 I,J4 (dX.of O),.inl ⟨rfl,false,rfl,?_⟩⟩;rw[if_neg (by decide)];have m5:=m4;obtain⟨z3,F,X⟩:=m5;exists F.hx;have fin:PP 1 [some (V.ref x),some (V.int n),some (V.ref l),some (V.int f),some (V.str w),some (Vn p),some (V.ref d)] H3:=by
    rw[u];exact .inr ⟨rfl,k3 _ _ (s2 _ _ j) hl,⟨v,(Kp.of s2).trans k3,m4⟩,_,_,_,_,rfl⟩
   split
   ·rename_i cw;refine⟨_,z3,F,?_⟩;rw[if_neg (by rw[X.due,c3 cw];simp)];exact fin
   ·exact fin
  ·cases C
 ·rw[u] at hh;rcases hh with⟨e,_⟩|⟨_,_,⟨v,k,m⟩,v3,v4,v5,v6,rfl⟩
  ·cases e
  ·exists 9;exact q v _ k m
def Lp (v x u G E CX:Addr) (m:List (Addr×Str)) (K:W.Frag) (H:Hp) (a tm:Addr) (ns:List Int) (C y F pi:Addr) (r o t g f l:Int) (i:Nat) (pw:Addr):Prop:= ∃A0 A1 a0 a1 j d I z,∃m0 m1:Nat,Al v x u G E CX m K a tm ns C y F pi r o t g f l pw I z H A0 A1 a0 a1 j d m0 m1/\Bo a0 a1 j d ((i:Int)-1) (3*i) (i+15*((i+2) / 3))/\Qt a0 j ((i:Int)-1) m0/\Qt a1 d ((i:Int)-1) m1/\(a0.M=o/\a1.M=t)/\a0.s.L=l/\a1.s.L=l
theorem VL (T:Txt K mg):FnAt P w K mg base YO "law" 9 ["_law_script"] (E6 K):=by
 refine T.K8.fn eZ.1 eZ.2 (fun vs H Q E h=>?_) fun f cdv A outer s H vs Q E HR h=>?_
 ·unfold E6 at h;split at h<;>first|rfl|exact h.elim
 ·unfold E6 at h;split at h
  ·rename_i a;obtain⟨ns,hS,hl,_,q⟩:=h;refine⟨_,(YJ.h (tu ⟨(aO 1 eZ.1.nd (br (Eo T) HR (c9 (br (mC T) HR (c9 (pv 0) au)) (br (mC T) HR (c9 (pv 0) au)))))⟩
 (tj (tu (FW (i:=2) eZ.1.nd rfl (.inl rfl) (CZ (Bu ⟨(wD T.aV (qb T) HR (by decide) rfl (c9 au (pv 1)))⟩ (Bu ⟨(wD T.aV (qb T) HR (by decide) rfl (c9 au (pv 1)))⟩ zE))))
 (tj (tu (FW (i:=3) eZ.1.nd rfl (.inl rfl) (CZ (Bu (CZ zE) (Bu (CZ zE) zE))))
 (tj (tu (FW (i:=4) eZ.1.nd rfl (.inl rfl) (CZ (Bu ⟨au⟩ (Bu ⟨au⟩ zE))))
 (tj (tu ⟨(gn PassesOwn.never rfl (iO rfl T.dv (cX (aL kN au (aY (fN K rfl) (by rfl) T.lY iM (cX (ye (QT K rfl) (pv 0) (rh au) (rh au))))))) (bu 5 eZ.1.nd) (aj (aO 6 eZ.1.nd (br (mC T) HR (c9 (pv 0) (a_ K au (aL cB (pv 5) au)))))
 (aj (aO 7 eZ.1.nd (br (vL T) HR (c9 (pv 6) (pv 5))))
 (aE (aj (gn PassesOwn.never rfl (iO rfl T.dv (cX au)) (bu 8 eZ.1.nd) (aq (bD (dO (nC (br (F9 T) HR (dz (aS K (pv 2) (pv 8)) (c9 (pv 5) (aS K (pv 3) (aL dA au (pv 8)))))))) (aq (aH cW)) aU)))
 (aE (q_ (bD (eg K HR (aL b8 (pv 5) au) au) (aq (bI (br (F6 T) HR (c9 (aS K (pv 2) (aL b8 (aL cB (pv 6) au) au)) (pv 6))))) aU)
 (aE (aj (aO 8 eZ.1.nd (aL b8 (aL cB (pv 7) au) au))
 (aE (aj (aO 9 eZ.1.nd (aw (aS K (pv 2) (pv 8)) T.aV T.cp))
 (aE (aj (aO 10 eZ.1.nd (dP (nE K rfl HR.units) (aL dA (aw (pv 9) T.ba T.bP) (aw (pv 9) T.ba T.cu)) (aS K (aw (pv 1) T.c7 T.dj) (pv 8))))
 (aE (aj (bD (PW.pt (pw_and (eg K HR (aL b8 (pv 7) au) au) (pw_and1 (dO (nC (br (Ep T) HR (dz (pv 2) (dz (pv 8) (c9 (a_ K au (aL b8 (aL cB (pv 7) au) au)) (pv 5)))))))))) (aq (aH cW)) aU)
 (aE (aj (aO 3 eZ.1.nd (jl (c9 (jl jn) (jl jn))))
 (aE (aj (gn PassesOwn.never rfl (iO rfl T.dv (cX au)) (bu 11 eZ.1.nd) (aj (aO 12 eZ.1.nd (bT (aS K (pv 2) (pv 11)) T.aV (Gg T) HR (cX (pv 5))))
 (aE (q_ (bD (bw C7 (pv 12) cx) (aq (bI (nZ K rfl (aS K (pv 3) (pv 11)) (pv 12)))) aU)
 (aE (aj (Rh (br (F_ T) HR (dz (aS K (pv 2) (pv 11)) (c9 (aS K (pv 4) (pv 11)) (aS K (pv 3) (pv 11))))) (Ro (pv 4) (pv 11) Y1))
 (aE (aq (bD (bw sC (aS K (pv 4) (pv 11)) (a_ K (aw (pv 1) T.c7 T.dY) au)) (aq (aH cW)) aU)))))))))
 (aE (aj (bD (PW.pt (pw_and (eg K HR (aL b8 (pv 7) au) au) (pw_and (nC (pv 10)) (pw_and1 (eg K HR (aS K (pv 3) (pv 8)) (jl jn)))))) (aq (aH cW)) aU)
 (aE (aq (bD (dO (nC (br (F8 T) HR (c9 (pv 2) (pv 1))))) (aq (aH cW)) aU))))))))))))))))))))))))⟩
 (tj (Kq ⟨(aH cW)⟩)))))))))))),?_⟩
   generalize h_ua:aD _=ua;exists 9;refine⟨ns,hS,fun c0=>⟨ns,hS,fun c1 tm r o t g X l H1 s1 hT hw=>?_⟩⟩;replace hS:=sZ s1 hS;clear s1;have hSH:=hS;have hTH:=hT;rw[<-h_ua,aD];generalize h_ub:aD _=ub;exists 9;intro I dx0 nx0 nd0 ne0;have s2:=cV (C:=aA) (fs:=[]) nx0 nd0;refine⟨dx0,r,o,t,g,X,l,rfl,hT.same s2,hw.1,fun A0 G B2 f2 h0=>?_⟩;have S2:a8 H1 G:=fun b o' e=>B2 b o' (s2 b o' e) (aG e nx0);replace hS:=sZ S2 hS;replace hT:=hT.same S2;have fr0:∀b u,H1 b=some u->b ∉ foot I A0:=fun b u e m=>by
    rcases List.mem_cons.mp m with m|m
    ·rw[m,nx0] at e;cases e
    ·have:=f2 b m;rw[s2 b u e] at this;cases this
   clear B2 f2 s2 nd0 ne0 nx0;intro J dx1 nx1 nd1 ne1;have s3:=cV (C:=aA) (fs:=[]) nx1 nd1;refine⟨dx1,r,o,t,g,X,l,rfl,hT.same s3,hw.1,fun A1 H3 B3 f3 h1=>?_⟩;have S3:a8 G H3:=fun b o' e=>B3 b o' (s3 b o' e) (aG e nx1);replace hS:=sZ S3 hS;replace hT:=hT.same S3;have nd:(foot I A0++foot J A1).Nodup:=by
    refine List.nodup_append.mpr ⟨h0.nd,h1.nd,fun b hb c hc e=>?_⟩;subst e;obtain⟨u,hu⟩:=h0.live hb;rcases List.mem_cons.mp hc with e|e
    ·rw[e,nx1] at hu;cases hu
    ·have:=f3 b e;rw[s3 b u hu] at this;cases this
   replace h0:=h0.same S3;have fr1:∀b u,H1 b=some u->b ∉ foot J A1:=fun b u e m=>by
    have e:=S2 b u e;rcases List.mem_cons.mp m with m|m
    ·rw[m,nx1] at e;cases e
    ·have:=f3 b m;rw[s3 b u e] at this;cases this
   replace S2:=S2.trans S3;clear B3 f3 s3 nd1 ne1 S3 nx1;intro x nph;have s4:=aJ (o:=HO.lst [V.ref I,V.ref J]) nph;have eh:=ar (H:=H3) (a:=x) (o:=HO.lst [V.ref I,V.ref J]);have nd4:(foot I A0++(foot J A1++ [x])).Nodup:=by
    rw[<-List.append_assoc];refine List.nodup_append.mpr ⟨nd,by simp,fun b hb c hc e=>?_⟩;rw[List.mem_singleton] at hc;subst e hc;rcases List.mem_append.mp hb with m|m
    ·obtain⟨u,hu⟩:=h0.live m;rw[nph] at hu;cases hu
    ·obtain⟨u,hu⟩:=h1.live m;rw[nph] at hu;cases hu
   replace h0:=h0.same s4;replace h1:=h1.same s4;replace hS:=sZ s4 hS;replace hT:=hT.same s4;have nph':∀b u,H1 b=some u->b≠x:=fun b u e m=>by
    have e:=S2 b u e;rw[m,nph] at e;cases e
   replace S2:=S2.trans s4;clear nd s4 nph;generalize upd H3 x (HO.lst [V.ref I,V.ref J])=H4 at*
   rw[<-h_ub,aD];generalize h_uc:aD _=uc;exists 9;intro v0 k0 v1 k1 pw k2;rw[<-h_uc,aD];generalize h_ud:aD _=ud;exists 9;intro pi k3;have fr:∀b u,H1 b=some u->b ∉ foot I A0++(foot J A1++ [x]):=fun b u e m=>by
    simp only[List.mem_append,List.mem_singleton] at m;rcases m with m|m|m
    ·exact fr0 b u e m
    ·exact fr1 b u e m
    ·exact nph' b u e m
   have al:=Al.start (CX:=bj) ⟨_,h0,c8.new (K:=K)⟩ ⟨_,h1,c8.new⟩ nd4 eh k0 k1 k2 k3 S2 fr hSH hTH;clear h0 h1 nd4 eh k0 k1 k2 k3 S2 fr hSH hTH fr0 fr1 nph' hS hT;generalize upd (upd (upd (upd H4 v0 (.lst [])) v1 (.lst [])) pw (HO.lst [V.ref v0,V.ref v1])) pi (HO.lst [V.int 0,V.int 0])=H5 at*
   rw[<-h_ud,aD];generalize h_ue:aD _=ue;exists 9;refine Fb al.Q.sq fun p2 hp2=>?_;obtain⟨ms,em,hms⟩:=agj (ns:=ns);rw[em];have e7:=ar (H:=H5) (a:=p2) (o:= .lst (ms.map V.int));replace al:=al.same (aJ (o:= .lst (ms.map V.int)) hp2);generalize upd H5 p2 (.lst (ms.map V.int))=H6 at*
   exists e7;refine⟨by rw[List.length_map];lia,?_⟩;rw[show(3*((ms.map V.int).length:Int)).toNat=3*ms.length by rw[List.length_map];lia];refine tP (lo:=0) (n:=3*ms.length) (fun i σ H'=> ∃pw v5 v6 v7 v8 v9 v10 v11 v12,σ= [some (V.ref a),some (V.ref tm),some (V.ref x),some (V.ref pw),some (V.ref pi),v5,v6,v7,v8,v9,v10,v11,v12]/\Lp aA ax aa av ai bj (tbl ay ae az aB af ag ah) K H' a tm ns I J x pi r o t g X l i pw) ⟨pw,_,_,_,_,_,_,_,_,rfl,A0,A1,_,_,none,none,v0,v1,0,0,al,Bo.start hw.1,.inl rfl,.inl rfl,⟨rfl,rfl⟩,rfl,rfl⟩ (fun i σ H' hi hp=>?_) (fun σ H' hp=>?_)
   ·clear al v0 v1 A0 A1 pw;obtain⟨pw,v5,v6,v7,v8,v9,v10,v11,v12,rfl,A0,A1,a0,a1,y0,y1,v0,v1,m0,m1,al,B,I0,I1,hM,hL⟩:=hp;exists 9;refine⟨ns,al.Q.sq,by lia,fun c=>⟨by lia,fun v vn0 vn1=>?_⟩⟩;refine Ig fun DD eDD=>?_;rw[<-h_ue,aD];generalize h_uf:aD _=uf;obtain⟨n,en⟩:∃n:Int,n=(i:Int)-1:=⟨_,rfl⟩;rw[<-en] at B I0 I1;rw[show(0:Int)+(i:Int)=n+1 by lia];have c0:=B.c0;have c1:=B.c1;have r0:=c0.r2;have r1:=c1.r2;have q0:=c0.m1;have q1:=c1.m1;have q2:=c0.VP;have q3:=c1.VP;have l0:=B.l0;have l1:=B.l1;have g0:=B.d1.og;have g1:=B.d0.og;exists 9;refine tP (lo:=0) (n:=2) (fun j σ H'=> ∃v8 A0 A1,σ= [some (V.ref a),some (V.ref tm),some (V.ref x),some (V.ref pw),some (V.ref pi),some (V.int (n+1)),some (V.int c),some (V.int v),v8,v9,v10,v11,v12]/\Al aA ax aa av ai bj (tbl ay ae az aB af ag ah) K a tm ns I J x pi r o t g X l pw v0 v1 H' A0 A1 (fst j a0 (DW a0 y1 (n+1))) (snd j a1 (DW a1 y0 (n+1))) y0 y1 m0 m1) ⟨_,A0,A1,rfl,al⟩ (fun j σ H' hj hp=>?_) fun σ H' hp=>?_
    ·obtain⟨w8,A0,A1,rfl,al⟩:=hp;rcases(show j=0\/j=1 by lia) with rfl|rfl
     ·rw[show(0:Int)+((0:Nat):Int)=0 from rfl];exists al.eh,al.ew;obtain⟨nA,nB⟩:=(al.apart).1 v1 (by simp);refine⟨A0,a0,y1,al.h0,al.t1,fun m=>nA _ m (by simp),fun f w p e=>?_,⟨by lia,by lia,by lia,by lia,by lia⟩,fun st' G k m=>⟨_,_,A1,rfl,al.yu k m⟩⟩;obtain⟨d1,d2,d3⟩:=B.come.2 f w p e;rw[d2];exact⟨fun _=>B.j0.hear (by lia),d3,fun hw=>Ir B.k1 e hw d1⟩
     ·rw[show(0:Int)+((1:Nat):Int)=1 from rfl];exists al.eh,al.ew;obtain⟨nA,nB⟩:=(al.apart).1 v0 (by simp);refine⟨A1,a1,y0,al.h1,al.t0,fun m=>nB _ m (by simp),fun f w p e=>?_,⟨by lia,by lia,by lia,by lia,by lia⟩,fun st' G k m=>⟨_,A0,_,rfl,al.Ic k m⟩⟩;obtain⟨d1,d2,d3⟩:=B.flip.come.2 f w p e;rw[d2];exact⟨fun _=>B.j1.hear (by lia),d3,fun hw=>Ir B.k0 e hw d1⟩
    clear al;obtain⟨w8,A0,A1,rfl,al⟩:=hp;replace al:Al aA ax aa av ai bj (tbl ay ae az aB af ag ah) K a tm ns I J x pi r o t g X l pw v0 v1 H' A0 A1 (DW a0 y1 (n+1)) (DW a1 y0 (n+1)) y0 y1 m0 m1:=al;have C0:=B.come.1 al.h0.wait.1;have C1:=B.flip.come.1 al.h1.wait.1;generalize DW a0 y1 (n+1)=b0 at*
    generalize DW a1 y0 (n+1)=b1 at*
    rw[<-h_uf,aD];generalize h_ug:aD _=ug;have t0:b0.T.length<=i+15*((i+2) / 3)+1:=by
     obtain⟨ts,_,u,e,_⟩:=C0.T;rw[e,List.length_append];lia
    have t1:b1.T.length<=i+15*((i+2) / 3)+1:=by
     obtain⟨ts,_,u,e,_⟩:=C1.T;rw[e,List.length_append];lia
    have hE0:=B.e0;have hE1:=B.e1;refine⟨fun σ' G=>σ'= [some (V.ref a),some (V.ref tm),some (V.ref x),some (V.ref pw),some (V.ref pi),some (V.int (n+1)),some (V.int c),some (V.int v),w8,v9,v10,v11,v12]/\∃A0 A1 z0 z1,(Ea b0 z0/\Ea b1 z1)/\(z0.T.length<=i+1+15*((i+1+2) / 3)/\z1.T.length<=i+1+15*((i+1+2) / 3))/\Al aA ax aa av ai bj (tbl ay ae az aB af ag ah) K a tm ns I J x pi r o t g X l pw v0 v1 G A0 A1 z0 z1 y0 y1 m0 m1,?_,?_⟩
    ·exists al.eh;split
     ·refine UT rfl (fun _=>?_) fun _=>?_
      ·exact⟨A0,b0,al.h0,by lia,by rw[C0.es];lia,fun st' a' _ G k m w=>⟨_,A1,a',b1,⟨w,Ea.no⟩,⟨by have:=w.len;lia,by lia⟩,al.yu k m⟩⟩
      ·exact⟨A1,b1,al.h1,by lia,by rw[C1.es];lia,fun st' a' _ G k m w=>⟨A0,_,b0,a',⟨Ea.no,w⟩,⟨by lia,by have:=w.len;lia⟩,al.Ic k m⟩⟩
     ·exact⟨A0,A1,b0,b1,⟨Ea.no,Ea.no⟩,⟨by lia,by lia⟩,al⟩
    clear al A0 A1;rintro σ' G ⟨rfl,A0,A1,z0,z1,⟨w0,w1⟩,⟨n0,n1⟩,al⟩;rw[<-h_ug,aD];generalize h_uh:aD _=uh;exists 9;obtain⟨sd,esd⟩:∃sd,sd=v / 3 % 2:=⟨_,rfl⟩;rw[<-esd];obtain⟨R0,D0,M0⟩:=B.rd C0 C1 w0 w1 n1 (by lia);obtain⟨R1,D1,M1⟩:=B.flip.rd C1 C0 w1 w0 n0 (by lia);obtain⟨xs,ys,As,Bs,zs,os,M,hcs⟩:∃xs ys As Bs zs os M,(sd=0/\xs=I/\ys=J/\As=A0/\Bs=A1/\zs=z0/\os=z1/\M=o)\/(sd=1/\xs=J/\ys=I/\As=A1/\Bs=A0/\zs=z1/\os=z0/\M=t):=by
     rcases(show sd=0\/sd=1 by lia) with q|q
     ·exact⟨_,_,_,_,_,_,_,.inl ⟨q,rfl,rfl,rfl,rfl,rfl,rfl,rfl⟩⟩
     ·exact⟨_,_,_,_,_,_,_,.inr ⟨q,rfl,rfl,rfl,rfl,rfl,rfl,rfl⟩⟩
    obtain⟨hMs,hOs,hpf,hix,hrm,hzM,RR,DD'⟩:HM aA ax aa av ai (tbl ay ae az aB af ag ah) K G xs As zs/\HM aA ax aa av ai (tbl ay ae az aB af ag ah) K G ys Bs os/\x ∉ foot xs As/\j4 [V.ref I,V.ref J] sd=some (V.ref xs)/\j4 [V.int o,V.int t] sd=some (V.int M)/\zs.M=M/\(0<=zs.o/\zs.o<=zs.g/\zs.g<=os.T.length/\os.T.length<=1000)/\(∀k,zs.o<=k->k<zs.g->zs.D k=j4 os.T k):=by
     obtain⟨nA,nB⟩:=(al.apart).1 x (by simp);rcases hcs with⟨rfl,rfl,rfl,rfl,rfl,rfl,rfl,rfl⟩|⟨rfl,rfl,rfl,rfl,rfl,rfl,rfl,rfl⟩
     ·exact⟨al.h0,al.h1,fun m=>nA _ m (by simp),uM,uM,M0.trans hM.1,R0,D0⟩
     ·exact⟨al.h1,al.h0,fun m=>nB _ m (by simp),vQ,vQ,M1.trans hM.2,R1,D1⟩
    obtain⟨zz,hz,hr⟩:=id hMs;obtain⟨dxt,prm,et1,et2⟩:=id al.t;rw[<-h_uh,aD];generalize h_ui:aD _=ui;exists al.eh;refine⟨_,hix,?_⟩;exists hz.hx;rw[<-h_ui,aD];generalize h_uj:aD _=uj;exists hz.tk.hx,et1,et2;refine⟨_,hrm,?_⟩;rw[Hz];obtain⟨fu,efu⟩:∃fu,fu=decide (zz.tk.g-zz.tk.o=M):=⟨_,rfl⟩;rw[<-efu];rw[<-h_uj,aD];generalize h_uk:aD _=uk;have rest:∀H1 A0 A1 d F,Rd z0 d->Rd z1 F->(v % 3=0->fu=true->(sd=0->d.due=true)/\(sd=1->F.due=true))->Al aA ax aa av ai bj (tbl ay ae az aB af ag ah) K a tm ns I J x pi r o t g X l pw v0 v1 H1 A0 A1 d F y0 y1 m0 m1->uk DD [some (V.ref a),some (V.ref tm),some (V.ref x),some (V.ref pw),some (V.ref pi),some (V.int (n+1)),some (V.int c),some (V.int v),some (V.int sd),some (V.ref As.tk),some (V.bl fu),v11,v12] H1:=?_
    ·exists 9;split
     ·refine⟨I,J,xs,ys,As,Bs,zs,os,al.eh,?_,hMs,hOs,hpf,⟨by lia,by lia⟩,RR,DD',fun H3 k m=>?_⟩
      ·rcases hcs with⟨z1,z2,z3,_⟩|⟨z1,z2,z3,_⟩
       ·exact .inl ⟨z1,z2,z3⟩
       ·exact .inr ⟨z1,z2,z3⟩
      have du:fu=true->(p_ zs (1+v / 6 % 60)).due=true:=fun z=>by
       rw[efu,decide_eq_true_eq,hr.g,hr.o] at z;refine NH (by lia) ?_ (z.trans hzM.symm);rcases hcs with⟨_,_,_,_,_,_,_,e⟩|⟨_,_,_,_,_,_,_,e⟩<;>lia
      rcases hcs with⟨rfl,rfl,rfl,rfl,rfl,rfl,rfl,rfl⟩|⟨rfl,rfl,rfl,rfl,rfl,rfl,rfl,rfl⟩
      ·exact rest _ _ _ _ _ (.inr ⟨_,by lia,by lia,rfl⟩) (.inl rfl) (fun _ z=>⟨fun _=>du z,fun z=>by lia⟩) (al.yu (st:=As.st) k m)
      ·exact rest _ _ _ _ _ (.inl rfl) (.inr ⟨_,by lia,by lia,rfl⟩) (fun _ z=>⟨fun z=>by lia,fun _=>du z⟩) (al.Ic (st:=As.st) k m)
     ·rename_i c3;exact rest _ _ _ _ _ (.inl rfl) (.inl rfl) (fun q=>absurd q c3) al
    clear hcs hMs hOs hpf hix hrm RR DD' hz hr et1 et2 al A0 A1;intro G A0 A1 d F rd0 rd1 hdu al;rw[<-h_uk,aD];generalize h_ul:aD _=ul;exists 9;intro Z k0 Y k1 U k2;replace al:=al.ways k0 k1 k2;clear k0 k1 k2;generalize upd (upd (upd G Z (.lst [])) Y (.lst [])) U (HO.lst [V.ref Z,V.ref Y])=H3 at*
    obtain⟨B2,⟨s0,d0,P0⟩,s1,d1,P1⟩:=B.next (by lia) (by lia) C0 C1 w0 w1 rd0 rd1 n0 n1 al.h0.wait al.h1.wait
    have J0:=I0.nk B.d0 P0 d0 al.h0.wait.1 (by have:=B2.j0;rwa [show n+1+1=n+2 by lia] at this);have J1:=I1.nk B.d1 P1 d1 al.h1.wait.1 (by have:=B2.j1;rwa [show n+1+1=n+2 by lia] at this);have L0:(bG d (n+1)).s.L=l:=((Dl d0).L.trans P0.L).trans hL.1;have L1:(bG F (n+1)).s.L=l:=((Dl d1).L.trans P1.L).trans hL.2;have K0:((nk d (n+1) m0:Nat):Int)<=l:=by
     have l2:d.s.L=l:=P0.L.trans hL.1;have:=J0.le (by rw[L0];have:=al.h0.wait.1;lia);rwa [L0] at this
    have K1:((nk F (n+1) m1:Nat):Int)<=l:=by
     have l2:F.s.L=l:=P1.L.trans hL.2;have:=J1.le (by rw[L1];have:=al.h1.wait.1;lia);rwa [L1] at this
    rw[<-h_ul,aD];generalize h_um:aD _=um;exists 9;refine Ig fun DK eDK=>?_;refine tP (lo:=0) (n:=2) (fun j σ H'=> ∃v11 v12 A0 A1,σ= [some (V.ref a),some (V.ref tm),some (V.ref x),some (V.ref U),some (V.ref pi),some (V.int (n+1)),some (V.int c),some (V.int v),some (V.int sd),some (V.ref As.tk),some (V.bl fu),v11,v12]/\Al aA ax aa av ai bj (tbl ay ae az aB af ag ah) K a tm ns I J x pi r o t g X l U Z Y H' A0 A1 (fst j d (bG d (n+1))) (snd j F (bG F (n+1))) (fst j none (cy d (n+1))) (snd j none (cy F (n+1))) (fst j (m0:Int) (nk d (n+1) m0:Nat)) (snd j (m1:Int) (nk F (n+1) m1:Nat))) ⟨_,_,A0,A1,rfl,al⟩ (fun j σ H' hj hp=>?_) fun σ H' hp=>?_
    ·clear al A0 A1;obtain⟨w11,w12,A0,A1,rfl,al⟩:=hp;rcases(show j=0\/j=1 by lia) with rfl|rfl
     ·rw[show(0:Int)+((0:Nat):Int)=0 from rfl];replace al:Al aA ax aa av ai bj (tbl ay ae az aB af ag ah) K a tm ns I J x pi r o t g X l U Z Y H' A0 A1 d F none none m0 m1:=al;obtain⟨zz,hz,_⟩:=id al.h0;have key:∀(DJ:Ends) fv G A0,(∀w11 w12 A0 A1 H3,Al aA ax aa av ai bj (tbl ay ae az aB af ag ah) K a tm ns I J x pi r o t g X l U Z Y H3 A0 A1 (bG d (n+1)) F (cy d (n+1)) none (nk d (n+1) m0:Nat) m1->DJ.nx [some (V.ref a),some (V.ref tm),some (V.ref x),some (V.ref U),some (V.ref pi),some (V.int (n+1)),some (V.int c),some (V.int v),some (V.int sd),some (V.ref As.tk),some (V.bl fu),w11,w12] H3)->Al aA ax aa av ai bj (tbl ay ae az aB af ag ah) K a tm ns I J x pi r o t g X l U Z Y G A0 A1 (bG d (n+1)) F none none m0 m1->((cy d (n+1)=none/\fv=V.non)\/∃f w p r,cy d (n+1)=some (f,w,p)/\fv = .ref r/\G r=some (.tup [.int f,.str w,Vn p]))->um DJ [some (V.ref a),some (V.ref tm),some (V.ref x),some (V.ref U),some (V.ref pi),some (V.int (n+1)),some (V.int c),some (V.int v),some (V.int sd),some (V.ref As.tk),some (V.bl fu),some (V.int 0),some fv] G:=?_
      ·exists al.eh,hz.hx;refine⟨A0,d,al.h0,s0,fun e G k m=>?_,fun w pl e r G k m hr=>?_⟩
       ·exact key _ _ _ _ (fun _ _ _ _ _ h=>⟨_,_,_,_,rfl,h⟩) (al.yu (st:=A0.st) k m) (.inl ⟨by unfold cy;rw[e];rfl,rfl⟩)
       ·exact key _ _ _ _ (fun _ _ _ _ _ h=>⟨_,_,_,_,rfl,h⟩) (al.yu (st:=A0.st) k m) (.inr ⟨_,w,pl,r,by unfold cy;rw[e];rfl,rfl,hr⟩)
      clear al hz A0;intro DJ fv G A0 hn al hf;rw[<-h_um,aD];generalize h_un:aD _=un;refine⟨fun σ' H3=>σ'= [some (V.ref a),some (V.ref tm),some (V.ref x),some (V.ref U),some (V.ref pi),some (V.int (n+1)),some (V.int c),some (V.int v),some (V.int sd),some (V.ref As.tk),some (V.bl fu),some (V.int 0),some fv]/\∃A0,Al aA ax aa av ai bj (tbl ay ae az aB af ag ah) K a tm ns I J x pi r o t g X l U Z Y H3 A0 A1 (bG d (n+1)) F (cy d (n+1)) none m0 m1,?_,?_⟩
      ·rcases hf with⟨e,rfl⟩|⟨f',w,p,r',e,rfl,hr⟩
       ·exists 9;rw[e];exact⟨A0,al⟩
       ·have hp0:G Z=some (.lst []):=by
         rcases al.t0 with⟨_,z⟩|⟨_,_,_,_,z,_⟩
         ·exact z
         ·cases z
        exists al.ew,hp0;exact⟨pV (cT.of hp0),A0,al.agU Kp.one (.inr ⟨f',w,p,r',e,ar,by rw[ak (bS hr hp0 (by simp))];exact hr⟩)⟩
      rintro σ' H3 ⟨rfl,A0,al⟩;clear hf;rw[<-h_un,aD];generalize h_uo:aD _=uo;obtain⟨zz,hz,hr⟩:=id al.h0;exists al.eh,al.ei,al.ew;refine⟨A0,_,_,al.h0,al.t0,fun H4 s4=>⟨_,0,s4 _ _ al.ei,rfl,?_⟩⟩;rw[Uo (u:=d) (n:=n+1) (m:=m0)];have al2:Al aA ax aa av ai bj (tbl ay ae az aB af ag ah) K a tm ns I J x pi r o t g X l U Z Y (upd H4 pi (.lst ([V.int (m0:Int),V.int (m1:Int)].set 0 (V.int (nk d (n+1) m0:Nat))))) A0 A1 (bG d (n+1)) F (cy d (n+1)) none (nk d (n+1) m0:Nat) m1:=(al.same s4).idle;clear al;generalize upd H4 pi (.lst ([V.int (m0:Int),V.int (m1:Int)].set 0 (V.int (nk d (n+1) m0:Nat))))=H5 at*
      obtain⟨dxt,prm,et1,et2⟩:=id al2.t;rw[<-h_uo,aD];exists al2.ei,et1;rw[if_neg (by lia)];exact hn _ _ _ _ _ al2
     ·rw[show(0:Int)+((1:Nat):Int)=1 from rfl];replace al:Al aA ax aa av ai bj (tbl ay ae az aB af ag ah) K a tm ns I J x pi r o t g X l U Z Y H' A0 A1 (bG d (n+1)) F (cy d (n+1)) none (nk d (n+1) m0:Nat) m1:=al;obtain⟨zz,hz,_⟩:=id al.h1;have key:∀(DJ:Ends) fv G A1,(∀w11 w12 A0 A1 H3,Al aA ax aa av ai bj (tbl ay ae az aB af ag ah) K a tm ns I J x pi r o t g X l U Z Y H3 A0 A1 (bG d (n+1)) (bG F (n+1)) (cy d (n+1)) (cy F (n+1)) (nk d (n+1) m0:Nat) (nk F (n+1) m1:Nat)->DJ.nx [some (V.ref a),some (V.ref tm),some (V.ref x),some (V.ref U),some (V.ref pi),some (V.int (n+1)),some (V.int c),some (V.int v),some (V.int sd),some (V.ref As.tk),some (V.bl fu),w11,w12] H3)->Al aA ax aa av ai bj (tbl ay ae az aB af ag ah) K a tm ns I J x pi r o t g X l U Z Y G A0 A1 (bG d (n+1)) (bG F (n+1)) (cy d (n+1)) none (nk d (n+1) m0:Nat) m1->((cy F (n+1)=none/\fv=V.non)\/∃f w p r,cy F (n+1)=some (f,w,p)/\fv = .ref r/\G r=some (.tup [.int f,.str w,Vn p]))->um DJ [some (V.ref a),some (V.ref tm),some (V.ref x),some (V.ref U),some (V.ref pi),some (V.int (n+1)),some (V.int c),some (V.int v),some (V.int sd),some (V.ref As.tk),some (V.bl fu),some (V.int 1),some fv] G:=?_
      ·exists al.eh,hz.hx;refine⟨A1,F,al.h1,s1,fun e G k m=>?_,fun w pl e r G k m hr=>?_⟩
       ·exact key _ _ _ _ (fun _ _ _ _ _ h=>⟨_,_,_,_,rfl,h⟩) (al.Ic (st:=A1.st) k m) (.inl ⟨by unfold cy;rw[e];rfl,rfl⟩)
       ·exact key _ _ _ _ (fun _ _ _ _ _ h=>⟨_,_,_,_,rfl,h⟩) (al.Ic (st:=A1.st) k m) (.inr ⟨_,w,pl,r,by unfold cy;rw[e];rfl,rfl,hr⟩)
      clear al hz A1;intro DJ fv G A1 hn al hf;rw[<-h_um,aD];generalize h_un:aD _=un;refine⟨fun σ' H3=>σ'= [some (V.ref a),some (V.ref tm),some (V.ref x),some (V.ref U),some (V.ref pi),some (V.int (n+1)),some (V.int c),some (V.int v),some (V.int sd),some (V.ref As.tk),some (V.bl fu),some (V.int 1),some fv]/\∃A1,Al aA ax aa av ai bj (tbl ay ae az aB af ag ah) K a tm ns I J x pi r o t g X l U Z Y H3 A0 A1 (bG d (n+1)) (bG F (n+1)) (cy d (n+1)) (cy F (n+1)) (nk d (n+1) m0:Nat) m1,?_,?_⟩
      ·rcases hf with⟨e,rfl⟩|⟨f',w,p,r',e,rfl,hr⟩
       ·exists 9;rw[e];exact⟨A1,al⟩
       ·have hp1:G Y=some (.lst []):=by
         rcases al.t1 with⟨_,z⟩|⟨_,_,_,_,z,_⟩
         ·exact z
         ·cases z
        exists al.ew,hp1;exact⟨pV (cT.of hp1),A1,al.Vi Kp.one (.inr ⟨f',w,p,r',e,ar,by rw[ak (bS hr hp1 (by simp))];exact hr⟩)⟩
      rintro σ' H3 ⟨rfl,A1,al⟩;clear hf;rw[<-h_un,aD];generalize h_uo:aD _=uo;exists al.eh,al.ei,al.ew;refine⟨A1,_,_,al.h1,al.t1,fun H4 s4=>⟨_,1,s4 _ _ al.ei,rfl,?_⟩⟩;rw[Uo (u:=F) (n:=n+1) (m:=m1)];have al2:Al aA ax aa av ai bj (tbl ay ae az aB af ag ah) K a tm ns I J x pi r o t g X l U Z Y (upd H4 pi (.lst ([V.int (nk d (n+1) m0:Nat),V.int (m1:Int)].set 1 (V.int (nk F (n+1) m1:Nat))))) A0 A1 (bG d (n+1)) (bG F (n+1)) (cy d (n+1)) (cy F (n+1)) (nk d (n+1) m0:Nat) (nk F (n+1) m1:Nat):=(al.same s4).idle;clear al;generalize upd H4 pi (.lst ([V.int (nk d (n+1) m0:Nat),V.int (m1:Int)].set 1 (V.int (nk F (n+1) m1:Nat))))=H5 at*
      obtain⟨dxt,prm,et1,et2⟩:=id al2.t;rw[<-h_uo,aD];exists al2.ei,et1;rw[if_neg (by lia)];exact hn _ _ _ _ _ al2
    ·clear al A0 A1;obtain⟨w11,w12,A0,A1,rfl,al⟩:=hp;replace al:Al aA ax aa av ai bj (tbl ay ae az aB af ag ah) K a tm ns I J x pi r o t g X l U Z Y H' A0 A1 (bG d (n+1)) (bG F (n+1)) (cy d (n+1)) (cy F (n+1)) (nk d (n+1) m0:Nat) (nk F (n+1) m1:Nat):=al;rw[eDK];generalize h_uq:aD (QM (U1 _) _ _)=uq;show aD _ _ _ _;unfold aD;have O:∀G,a8 H' G->uq DD [some (V.ref a),some (V.ref tm),some (V.ref x),some (V.ref U),some (V.ref pi),some (V.int (n+1)),some (V.int c),some (V.int v),some (V.int sd),some (V.ref As.tk),some (V.bl fu),w11,w12] G:=?_
     ·exists al.ew;split
      ·rename_i c3;cases hfu:fu
       ·rw[hfu] at O;exact O _ (a8.refl _)
       ·obtain⟨du0,du1⟩:=hdu c3 hfu;rw[hfu] at O;rw[if_pos rfl];obtain⟨_,e1,l',y',rfl,hS,hy⟩:∃v_1,j4 [V.ref Z,V.ref Y] sd=some v_1/\∃l y,v_1 = .ref l/\l7 H' l y/\y≠none:=by
         rcases(show sd=0\/sd=1 by lia) with z|z
         ·rw[z];refine⟨_,uM,Z,_,rfl,al.t0,fun e=>?_⟩;have:=(xY d0).2 (by rw[e];rfl);rw[du0 z] at this;cases this.1
         ·rw[z];refine⟨_,vQ,Y,_,rfl,al.t1,fun e=>?_⟩;have:=(xY d1).2 (by rw[e];rfl);rw[du1 z] at this;cases this.1
        refine⟨_,e1,fun p np=>?_⟩;have s1:=aJ (o:= .lst []) np;obtain⟨ds,g1,g2⟩:=(hS.same s1).dnl (K:=K);exact⟨2,_,_,by decide,g1,AE (n:=1) ar .nil,.inr ⟨fun e=>hy (g2.mp (by injection e)),false,rfl,by rw[if_neg (by decide)];exact O _ s1⟩⟩
      ·exact O _ (a8.refl _)
     intro G s2;replace al:=al.same s2;rw[<-h_uq];unfold aD;exists 9;have eM0:(bG d (n+1)).M=o:=P0.M.trans hM.1;have eM1:(bG F (n+1)).M=t:=P1.M.trans hM.2;have tg0:=B2.d0.tg;have tg1:=B2.d1.tg;have ee0:=B2.d0.ee;have ee1:=B2.d1.ee;refine⟨I,J,A0,A1,_,_,r,o,t,g,X,l,al.eh,al.h0,al.h1,al.t,⟨B2.d0.o0,B2.d0.og,by split at tg0<;>lia,B2.j0.te,B2.d0.lo,by lia⟩,⟨B2.d1.o0,B2.d1.og,by split at tg1<;>lia,B2.j1.te,B2.d1.lo,by lia⟩,?_⟩
     rw[eDD];exact⟨U,_,_,_,_,_,_,_,_,rfl,A0,A1,_,_,_,_,Z,Y,_,_,al,by rw[show((i+1:Nat):Int)-1=n+1 by lia];exact B2,by rw[show((i+1:Nat):Int)-1=n+1 by lia];exact J0,by rw[show((i+1:Nat):Int)-1=n+1 by lia];exact J1,⟨eM0,eM1⟩,L0,L1⟩
   ·obtain⟨pw,v5,v6,v7,v8,v9,v10,v11,v12,rfl,_⟩:=hp;show aD _ _ _ _;unfold aD;exists 9;exact q _
  ·exact h.elim
end
theorem fin (i:K.In h) (G:h.Ns mainGlobals mg) (d:mg "law" = some (.ref fa)) (T:Txt K mg):
  ∃f:FuncData,(∀(s:Shared) (u:Value),BindsTo s f ⟨[u],[]⟩ [("_law_script",u)])/\∀base:Heap,K.In base->base.Ns mainGlobals mg->yT P w K mg base YO 9 fa f ["_law_script"] (E6 K):=
 law_fin d T.K8 eZ.2 fun base=>VL T
end
end K67
open PySem PySem.W PyProof.Rows
noncomputable def PySem.W.Fast.tw6859467465436057884:PySem.Program:=PySem.Challenge.pw_slowroad_k67_rooms_and_reading
theorem PySem.W.Fast.te6859467465436057884:PySem.Challenge.pw_slowroad_k67_rooms_and_reading=PySem.W.Fast.tw6859467465436057884:=rfl
set_option maxRecDepth 100000 in
set_option maxHeartbeats 0 in
theorem PySem.Challenge.cw_slowroad_k67_rooms_and_reading_holds : PySem.Challenge.rw_slowroad_k67_rooms_and_reading.Holds := by
 w_on;o_law
 refine holds_open (q:=K67.er) (loose:=[]) (Xt:=fun s=>xlAt K67.er [] s&&recOk (RowW.records (OpenRow.toRowW (OpenLaw.row Challenge.rw_slowroad_k67_rooms_and_reading))) s) (XP:=XL K67.er []) (Yf:=Hook.obs (kHook K67.Gw K67.jM K67.yt)) (Ya:=Hook.val (kHook K67.Gw K67.jM K67.yt)) (YP:=Hook.says (kHook K67.Gw K67.jM K67.yt)) (N:=17240) K67.af6 (Hook.of (kHook K67.Gw K67.jM K67.yt)) (Hook.keeps (kHook K67.Gw K67.jM K67.yt)) (fun s e=>xl_of s (Bool.and_eq_true_iff.mp e).1) XL.keeps (by rfl) (by rfl) (by rfl) (fun s e=>recFacts_of (Bool.and_eq_true_iff.mp e).2) (by rfl) (by first|assumption|decide+kernel) (by decide+kernel) ⟨rfl,rfl,rfl,rfl,rfl,by decide+kernel⟩ ?hw ?hc
 case hw=>w_witness2
 k_fill
 refine L2.OA (l:=Challenge.rw_slowroad_k67_rooms_and_reading) (k:=9) (x:="_law_script") rfl rfl ⟨rfl,by decide,by decide⟩ (fun w h Y=>W.kIn_of Y) ?F
 case F=>
  intro w mg fa h KX G hmg;refine' K67.fin KX G hmg ?TT
  case TT=>
   refine' K67.Txt.mk ?bK ?nI ?bN ?dR ?cv ?bJ ?fh ?bC ?b9 ?dI ?aC ?lM ?cO ?cZ ?da ?aW ?bh ?cQ ?cG ?bZ ?bY ?cE ?cI ?ba ?js ?nG ?bP ?cu ?cL ?aV ?tJ ?iP ?cp ?bc ?bM ?bW ?df ?c7 ?fH ?dj ?tI ?lL ?dY ?xP ?vT ?yV ?vS ?AY ?CC ?CD ?yW ?uP ?Aa ?wW ?ft ?wz ?gg ?gr ?eO ?eU ?kJ ?kZ ?jc ?jE ?gZ ?h9 ?ja ?jD ?jd ?jF ?kK ?k7 ?xQ ?Dp ?z7 ?gG ?zC ?gV ?hU ?fE ?fK ?gK ?gL ?kz ?kP ?iY ?jt ?ku ?kO ?kA ?kQ ?mv ?mD ?pT ?z_ ?rA ?gI ?wy ?gf ?gq ?eK ?eS ?fF ?fL ?eJ ?eQ ?gY ?hZ ?i9 ?jB ?i_ ?jC ?kI ?kY ?qt ?wX ?tf ?e_ ?fi ?g_ ?ig ?ji ?jK ?g9 ?ie ?gj ?gu ?g8 ?ia ?hG ?ij ?jj ?jL ?uO ?z9 ?wV ?fq ?wx ?gd ?gp ?i6 ?jx ?kB ?kR ?i5 ?jv ?gW ?hV ?iZ ?ju ?i7 ?jy ?kC ?kS ?yX ?Ab ?wA ?gi ?gs ?jg ?jI ?kL ?k8 ?jf ?jH ?g7 ?h_ ?je ?jG ?jh ?jJ ?kM ?k9 ?nN ?Dq ?qd ?gH ?iS ?zD ?gX ?hX ?kG ?kW ?mw ?mE ?kE ?kU ?i8 ?jA ?kD ?kT ?kH ?kX ?mx ?mF ?KN ?mG ?d5 ?n9 ?pI ?dB ?d4 ?dC ?yr ?lg ?mI ?pM ?lh ?wO ?eE ?ly ?gz ?Cu ?ir ?pN ?lp ?Gn ?iu ?pP ?pO ?lq ?rl ?eB ?gx ?iw ?lr ?wN ?eA ?gv ?iq ?k_ ?gw ?rp ?eC ?gy ?iy ?lx ?lu ?iH ?jS ?iG ?iF ?jW ?AK ?xG ?AJ ?t_ ?t8 ?AF ?AM ?ou ?mJ ?xH ?JJ ?ot ?AH ?AL ?xF ?AG ?lD ?pS ?lC ?rW ?mQ ?mR ?GH ?DS ?mL ?mK ?iz ?iA ?jQ ?ox ?jV ?rT ?pR ?oA ?oB ?iE ?iD ?fo ?c_ ?iB ?fj ?eG ?eF ?gA ?uA ?iC ?jU ?mN ?eI ?uz ?jT ?rS ?oI ?iK ?jX ?mX ?uB ?mO ?oC ?rV ?uC ?mS ?oE ?oF ?mT ?iI ?oy ?mM ?oH ?iJ ?lB ?jR ?rQ ?dU ?oz ?rR ?AI ?oq ?mW ?uF ?rY ?xJ ?xI ?uE ?uH ?uG ?oG ?mU ?uD ?mV ?rX ?JK ?ur ?t9 ?lA ?ow ?rP ?rN ?uv ?uu ?pQ ?ux ?rO ?uw ?uy ?K8 ?Qg ?Iw ?JR ?Qf ?cC ?lY ?GO ?Bb ?D2 ?dv ?Ld ?Qe ?sf ?uW ?r_ ?rZ ?lP ?iL ?o7 ?fO ?se ?nJ ?AU ?oK ?lF ?AS ?AR ?jZ ?lG ?uJ ?CA ?Qa ?uK ?j2 ?xK ?dW ?uI
   case bK|bJ|aC|ba|aV|c7|KN|mG|d5|n9|pI|dB|d4|dC=>refine' L2.OC KX G ?a ?pg ?hd ?po ?sa ?mk ?kc;(case a=>k_is);(case pg=>k_is);(case hd=>k_is);(case po=>k_is);(case sa=>k_is);(case mk=>k_is);(case kc=>k_is)
   case nI|bN|dR|cv|fh|bC|b9|dI|lM|cO|cZ|da|aW|bh|cQ|cG|bZ|bY|cE|cI|js|nG|bP|cu|cL|tJ|iP|cp|bc|bM|bW|df|fH|dj|tI|lL|dY=>refine' L2.Mg ?a;(case a=>k_is)
   case xP|vT|yV|vS|AY|CC|CD|yW=>refine' L2.Qy KX G ?a ?t ?b;(case a=>k_is);(case t=>k_is);(case b=>k_is)
   case uP|xQ|pT|uO|nN=>refine' ⟨_,L2.J2 KX G ?a ?l ?o ?i ?t ?l2 ?o2 ?i2 ?t2⟩;(case a=>k_is);(case l=>k_is);(case o=>kernel_rfl);(case i=>k_is);(case t=>k_is);(case l2=>k_is);(case o2=>kernel_rfl);(case i2=>k_is);(case t2=>k_is)
   case Aa|Dp|z_|wX|z9|Ab|Dq=>refine' L2.Qz ?a ?b ?c ?d ?e ?f ?g ?h;(case a=>k_is);(case b=>k_is);(case c=>k_is);(case d=>k_is);(case e=>k_is);(case f=>k_is);(case g=>k_is);(case h=>k_is)
   case wW|z7|rA|wV|qd=>k_is
   case ft|gG|gI|fq|gH|iS=>refine' ⟨?a,?b⟩;(case a=>k_is);(case b=>k_is)
   case wz|gg|eO|kJ|jc|gZ|ja|jd|kK|zC|gV|fE|gK|kz|iY|ku|kA|mv|wy|gf|eK|fF|eJ|gY|i9|i_|kI|tf|e_|g_|ji|g9|gj|g8|hG|jj|wx|gd|i6|kB|i5|gW|iZ|i7|kC|wA|gi|jg|kL|jf|g7|je|jh|kM|zD|gX|kG|mw|kE|i8|kD|kH|mx=>kit_is
   case gr|eU|kZ|jE|h9|jD|jF|k7|hU|fK|gL|kP|jt|kO|kQ|mD|gq|eS|fL|eQ|hZ|jB|jC|kY|fi|ig|jK|ie|gu|ia|ij|jL|gp|jx|kR|jv|hV|ju|jy|kS|gs|jI|k8|jH|h_|jG|jJ|k9|hX|kW|mE|kU|jA|kT|kX|mF=>refine' (show W.mroIn _ _ _=_ from ?a);(case a=>k_is)
   case qt|yX=>refine' L2.J2 KX G ?a ?l ?o ?i ?t ?l2 ?o2 ?i2 ?t2;(case a=>k_is);(case l=>k_is);(case o=>kernel_rfl);(case i=>k_is);(case t=>k_is);(case l2=>k_is);(case o2=>kernel_rfl);(case i2=>k_is);(case t2=>k_is)
   case yr|wO|Cu|Gn|rl|wN|rp=>refine' L2.Oo ?a;(case a=>k_is)
   case lg|mI|pM|lh|eE|ly|gz|ir|pN|lp|iu|pP|pO|lq|eB|gx|iw|lr|eA|gv|iq|k_|gw|eC|gy|iy|lx|lu|iH|jS|iG|iF|jW|lD|pS|lC|rW|mQ|mR|mL|mK|iz|iA|jQ|ox|jV|rT|pR|oA|oB|iE|iD|fo|c_|iB|fj|eG|eF|gA|uA|iC|jU|mN|eI|uz|jT|rS|oI|iK|jX|mX|uB|mO|oC|rV|uC|mS|oE|oF|mT|iI|oy|mM|oH|iJ|lB|jR|rQ|dU|oz|rR|mW|uF|rY|xJ|xI|uE|uH|uG|oG|mU|uD|mV|rX|lA=>refine' L2.Mm ?a ?i ?l ?c ?k;(case a=>k_is);(case i=>k_is);(case l=>k_is);(case c=>k_is);(case k=>k_is)
   case AK|xG|AJ|t_|t8|AF|AM|ou|mJ|xH|JJ|ot|AH|AL|xF|AG|GH|DS|AI|oq|JK|ur|t9|ow|rP|rN|uv|uu|pQ|ux|rO|uw|uy|K8=>refine' L2.PX KX G ?a ?l ?c ?k;(case a=>k_is);(case l=>k_is);(case c=>k_is);(case k=>k_is)
   case Qg|Iw|JR|Qf|cC|lY|GO|Bb|D2|dv|Ld|Qe|sf=>refine' W.mg_none_of KX G ?a;(case a=>k_is)
   case uW=>refine' L2.G9 KX G ?a ?l ?c ?d ?e ?z ?r;(case a=>k_is);(case l=>k_is);(case c=>rfl);(case d=>rfl);(case e=>rfl);(case z=>decide);(case r=>exact .cons ⟨_,rfl⟩ (.cons ⟨_,rfl⟩ (.cons ⟨_,rfl⟩ (.cons ⟨_,rfl⟩ (.cons ⟨_,rfl⟩ (.nil))))))
   case r_|lP|iL|o7|fO|se|nJ|AU|oK|lF|AS|AR|jZ|lG|uJ|uK|j2|xK|dW|uI=>refine' ⟨_,W.mg_of KX G ?a,?r⟩;(case a=>k_is);(case r=>exact⟨_,rfl⟩)
   case rZ|CA|Qa=>refine' L2.G9 KX G ?a ?l ?c ?d ?e ?z ?r;(case a=>k_is);(case l=>k_is);(case c=>rfl);(case d=>rfl);(case e=>rfl);(case z=>decide);(case r=>exact .cons ⟨_,rfl⟩ (.cons ⟨_,rfl⟩ (.nil)))
