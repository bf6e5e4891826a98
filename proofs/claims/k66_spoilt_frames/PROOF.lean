import PyProof.Rows.All
import Wide.All
import OpenK.AllK
import Wide.FinOn
import PyProof.EqAt
import PyProof.EqKinds
import PyProof.TupleCall
import PyProof.NeKinds
import PyProof.Rows.BitMore
import PyProof.FitsBits
import PyProof.Rows.TupAssign
import PyProof.ListRange
import PyProof.Rows.ZipGen
import PyProof.StationsW
import PyProof.ExcInit
import PyProof.ExcClass2
import PyProof.RulesTry
import PyProof.ExcBaseAll.ValueError
import PyProof.InstStoreFacts
import PyProof.RulesAs
import PyProof.RulesDel
import PyProof.ExcArgs
import KE.KUnpack
import PyProof.Draws
import PyProof.EnumMake
import KE.KMinBuiltin
import PyProof.StrLawsIn
import Lean
import PySem.Challenge.RW_slowroad_k66_spoilt_frames
set_option maxRecDepth 100000
set_option maxHeartbeats 4000000
set_option Elab.async false
set_option linter.all false
set_option compiler.extract_closed false
namespace L2
open PySem PySem.Spec PyProof.Rows
noncomputable abbrev Key:=Sum Int Str
noncomputable def ES:Key->Value->Bool
 | .inl k,v=>Value.isInt k v
 | .inr x,v=>Value.isStrOf x v
noncomputable def ajZ (w:World):Key->Int
 | .inl k=>hashInt k
 | .inr x=>hashStr w x
theorem dj: ∀{k:Key} {v:Value},ES k v=true->(∃i t,k=Sum.inl i/\v=Value.int i t)\/(∃x t,k=Sum.inr x/\v=Value.str x t)
 | .inl i,v,h=>by
  obtain⟨t,e⟩:=Value.isInt_shape h;exact .inl ⟨i,t,rfl,e⟩
 | .inr x,v,h=>by
  obtain⟨t,e⟩:=Value.isStrOf_shape h;exact .inr ⟨x,t,rfl,e⟩
theorem L7 (i:Int) (t:Tok):ES (.inl i) (.int i t)=true:=by simp[ES,Value.isInt]
theorem L6 (x:Str) (t:Tok):ES (.inr x) (.str x t)=true:=by simp[ES,Value.isStrOf]
theorem Vm (a b:Int):decide ((Sum.inl a:Key)=Sum.inl b)=(a == b):=by
 lia
theorem Vj (a b:Str):decide ((Sum.inr a:Key)=Sum.inr b)=decide (a=b):=by
 simp_all
theorem Vl (a:Int) (b:Str):decide ((Sum.inl a:Key)=Sum.inr b)=false:=decide_eq_false (fun q=>nomatch q)
theorem Vk (a:Str) (b:Int):decide ((Sum.inr a:Key)=Sum.inl b)=false:=decide_eq_false (fun q=>nomatch q)
noncomputable def fM (prog:Program) (w:World):PySem.KeyKind prog w Key where
 is:=ES
 hash:=ajZ w
 inj:=fun v a b ha f=>by
  rcases dj ha with⟨i,t,rfl,rfl⟩|⟨x,t,rfl,rfl⟩
  ·
   rcases dj f with⟨j,u,rfl,e⟩|⟨y,u,rfl,e⟩
   ·injection e with e1 _;rw[e1]
   ·exact nomatch e
  ·
   rcases dj f with⟨j,u,rfl,e⟩|⟨y,u,rfl,e⟩
   ·exact nomatch e
   ·injection e with e1 _;rw[e1]
 byValue:=fun k v h=>by
  rcases dj h with⟨i,t,rfl,rfl⟩|⟨x,t,rfl,rfl⟩<;>rfl
 pyHash:=fun d h=>by
  rcases dj d with⟨i,t,rfl,rfl⟩|⟨x,t,rfl,rfl⟩
  ·exact wpAny_pyHash_int h
  ·exact wpAny_pyHash_str h
 eqBool:=fun m d h=>by
  rcases dj m with⟨i,t,rfl,rfl⟩|⟨x,t,rfl,rfl⟩
  ·
   rcases dj d with⟨j,u,rfl,rfl⟩|⟨y,u,rfl,rfl⟩
   ·rw[Vm] at h;exact wpAny_eqBool_int h
   ·rw[Vl] at h;exact SeqAt.EqAt.int_str i t y u _ _ _ _ h
  ·
   rcases dj d with⟨j,u,rfl,rfl⟩|⟨y,u,rfl,rfl⟩
   ·rw[Vk] at h;exact SeqAt.EqAt.str_int x t j u _ _ _ _ h
   ·rw[Vj] at h;exact wpAny_eqBool_str h
 «strs» :=fun k x t v h=>by
  rcases dj h with⟨i,u,rfl,e⟩|⟨y,u,rfl,e⟩
  ·exact nomatch e
  ·
   injection e with e1 _;subst e1;cases v<;>rfl
theorem Hv (prog:Program) (w:World) (i:Int) (t:Tok):(fM prog w).is (.inl i) (.int i t)=true:=L7 i t
theorem Hu (prog:Program) (w:World) (x:Str) (t:Tok):(fM prog w).is (.inr x) (.str x t)=true:=L6 x t
inductive V where
 |non|bl (b:Bool)|int (i:Int)|str (x:Str)|byt (b:Array UInt8)|flt (b:UInt64)|ref (a:Addr)|ty (n:String)
 deriving DecidableEq
def RelV:V->Value->Prop
 | .non,u=>u=Value.none
 | .bl b,u=>u=Value.bool b
 | .int i,u=> ∃t,u=Value.int i t
 | .str x,u=> ∃t,u=Value.str x t
 | .byt b,u=> ∃t,u=Value.bytes b t
 | .flt b,u=> ∃t,u=Value.float b t
 | .ref a,u=>u=Value.ref a
 | .ty n,u=>u=Value.type n
abbrev Vals:List V->List Value->Prop:=Paired RelV
theorem Vals.length (r:Vals xs us):xs.length=us.length:=Paired.length r
theorem Vals.get: ∀{xs:List V} {us:List Value} {i:Nat} {x:V},Vals xs us->xs[i]?=some x->∃u,us[i]?=some u/\RelV x u
 |_,_,_,_,.nil,e=>by trivial
 |_,_,0,_,.cons r _,e=>by simp_all
 |_,_,i+1,x,.cons _ t,e=>by
  obtain⟨u,h1,d⟩:=Vals.get t (‹_›);exact⟨u,‹_›,d⟩
theorem Vals.append: ∀{xs d:List V} {us ws:List Value},Vals xs us->Vals d ws->Vals (xs++d) (us++ws)
 |_,_,_,_,.nil,s=>s
 |_,_,_,_,.cons r t,s=> .cons r (Vals.append t s)
theorem Vals.take: ∀{xs:List V} {us:List Value} (n:Nat),Vals xs us->Vals (xs.take n) (us.take n)
 |_,_,0,_=> .nil
 |_,_,_+1,.nil=> .nil
 |_,_,n+1,.cons r t=> .cons r (Vals.take n t)
theorem Vals.drop: ∀{xs:List V} {us:List Value} (n:Nat),Vals xs us->Vals (xs.drop n) (us.drop n)
 |_,_,0,r=>r
 |_,_,_+1,.nil=> .nil
 |_,_,n+1,.cons _ t=>Vals.drop n t
def sQ:Option V->Option Value->Prop
 |some v,some u=>RelV v u
 |none,none=>True
 |_,_=>False
def KV {d:Type}:List (d×V)->List (d×Value)->Prop:=Paired fun(p:d×V) (q:d×Value)=>p.1=q.1/\RelV p.2 q.2
noncomputable def kV:Key->V
 | .inl i=> .int i
 | .inr x=> .str x
inductive HO where

 |lst (xs:List V)

 |tup (xs:List V)

 |dK (kvs:List (Key×V))|dT (kvs:List (List Key×V))

 |set (S:Int->Bool) (n:Nat)

 |ins (C dx:Addr) (fs:List (Str×V))

 |own (x:Addr)

 |xd (fs:List (Str×V))

 |met (f x:Addr)

 |rng (lo hi:Int)

 |frz (o:Obj) (u:HO)

 |tbl (ps:Array Value)

 |ext (φ:Heap->Prop)
noncomputable abbrev Hp:=Addr->Option HO
noncomputable def upd (H:Hp) (a:Addr) (o:HO):Hp:=fun b=>if b=a then some o else H b
theorem aq:upd H a o a=some o:=by unfold upd;rw[if_pos rfl]
theorem aj (h:b≠a):upd H a o b=H b:=by unfold upd;rw[if_neg h]
theorem Qi:upd (upd H a o) a u=upd H a u:=by
 funext b;unfold upd;split<;>rfl
theorem bX {H:Hp} (h:H a=some o) (f:H b=some u) (d:o≠u):a≠b:=by
 lia
theorem aL {H:Hp} (h:H a=some o) (d:H b=none):a≠b:=by
 lia
section
variable (P:Program) (w:World)
def dN (H:Hp) (h:Heap) (a:Addr):HO->Prop
 | .lst xs=>xs.length<=sizeLine/\∃(i:List Value) (n:Nat),Vals xs i/\h.get? a=some {cls:= .type "list",data:= .seq i.toArray n}
 | .tup xs=>xs.length<=sizeLine/\∃i:List Value,Vals xs i/\IsTup h a i.toArray
 | .dK d=>d.length<=sizeLine/\(a == sysModules)=false/\∃vs,KV d vs/\h.DictOf (fM P w) a vs
 |
   .dT d=>d.length<=sizeLine/\(a == sysModules)=false/\∃xs:List (List Key×Addr×Value),
   Paired (fun(p:List Key×V) (q:List Key×Addr×Value)=>p.1=q.1/\H q.2.1=some (.tup (p.1.map kV))/\RelV p.2 q.2.2) d xs/\
   ∃o es E,h.get? a=some o/\o.ExactDict/\o.data = .dict es E/\es.toList=xs.map (entryOfKey (tupleKind (fM P w)))/\(xs.map (·.1)).Nodup
 | .set S n=>h.SetOf (intKind P w) a S n
 |
   .ins C dx fs=>H dx=some (.own a)/\fs.length<=1000/\dx≠a/\h.get? a=some (W.instObj C dx)/\
   ∃j,h.Ns1 dx j/\(∀f,sQ (fs.lookup f) (j f))/\PySem.Within j (fs.map (·.1))
 | .own _=> ∃o,h.get? a=some o
 | .xd fs=> ∃j,h.Ns1 a j/\∀f,sQ (fs.lookup f) (j f)
 | .rng lo hi=> ∃t u v,h.get? a=some {cls:= .type "range",data:= .fields #[.int lo t,.int hi u,.int 1 v]}
 | .frz o u=>h.get? a=some o/\dN H h a u
 | .tbl z=>h.get? a=some {cls:= .none,data:= .fields z}
 | .met f x=>h.get? a=some (W.methodObj (.ref f) (.ref x))
 | .ext m=>m h/\(∃o,h.get? a=some o)/\∀h1 y:Heap,m h1->(∀o,h1.get? a=some o->y.get? a=some o)->m y
def xO (H:Hp) (h:Heap):Prop:= ∀a o,H a=some o->dN P w H h a o
end
section
theorem dN.lt (x:dN P w H h a o):a<h.objs.size:=by
 cases o with
 |lst xs=>obtain⟨_,_,_,_,e⟩:=x;exact Heap.lt_size e
 |tup xs=>obtain⟨_,_,_,p⟩:=x;exact p.lt
 |dK d=>obtain⟨_,_,_,_,o,_,_,e,_⟩:=x;exact Heap.lt_size e
 |dT d=>obtain⟨_,_,_,_,o,_,_,e,_⟩:=x;exact Heap.lt_size e
 |set S n=>obtain⟨o,_,_,_,e,_⟩:=x;exact Heap.lt_size e
 |ins C dx fs=>obtain⟨_,_,_,e,_⟩:=x;exact Heap.lt_size e
 |own y=>obtain⟨_,e⟩:=x;exact Heap.lt_size e
 |xd fs=>obtain⟨_,⟨_,_,_,e,_⟩,_⟩:=x;exact Heap.lt_size e
 |rng lo hi=>obtain⟨_,_,_,e⟩:=x;exact Heap.lt_size e
 |frz ob u=>obtain⟨e,_⟩:=x;exact Heap.lt_size e
 |tbl i=>exact Heap.lt_size ((x))
 |met f y=>exact Heap.lt_size ((x))
 |ext j=>obtain⟨_,⟨_,e⟩,_⟩:=x;exact Heap.lt_size e
theorem Paired.Va: ∀{d:List α} {i:List β},Paired F d i->(∀a b,F a b->G a b)->Paired G d i
 |_,_,.nil,_=> .nil
 |_,_,.cons r t,f=> .cons (f _ _ r) (Paired.Va t f)
theorem dN.stay (x:dN P w H h a o) (k: ∀b u,(b=a\/H b=some (.own a))->h.get? b=some u->h'.get? b=some u) (G: ∀b,H b=some (.own a)->H' b=some (.own a)) (ht: ∀b xs,H b=some (.tup xs)->H' b=some (.tup xs)):dN P w H' h' a o:=by
 induction o with
 |lst xs=>obtain⟨z,j,n,r,e⟩:=x;exact⟨z,j,n,r,k _ _ (.inl rfl) e⟩
 |tup xs=>obtain⟨z,j,r,ob,e,c⟩:=x;exact⟨z,j,r,ob,k _ _ (.inl rfl) e,c⟩
 |dK m=>obtain⟨z,y,vs,r,ob,es,i,e,c⟩:=x;exact⟨z,y,vs,r,ob,es,i,k _ _ (.inl rfl) e,c⟩
 |dT m=>
  obtain⟨z,y,xs,r,ob,es,i,e,c⟩:=x;exact⟨z,y,xs,Paired.Va r fun p q z=>⟨z.1,ht _ _ z.2.1,z.2.2⟩,ob,es,i,k _ _ (.inl rfl) e,c⟩
 |set S n=>obtain⟨ob,es,i,t,e,c⟩:=x;exact⟨ob,es,i,t,k _ _ (.inl rfl) e,c⟩
 |ins C dx fs=>
  obtain⟨d,z,ne,e,E,⟨od,es,i,F,c⟩,r⟩:=x;exact⟨G _ d,z,ne,k _ _ (.inl rfl) e,E,⟨od,es,i,k _ _ (.inr d) F,c⟩,r⟩
 |own y=>obtain⟨ob,e⟩:=x;exact⟨ob,k _ _ (.inl rfl) e⟩
 |xd fs=>obtain⟨E,⟨od,es,i,e,c⟩,r⟩:=x;exact⟨E,⟨od,es,i,k _ _ (.inl rfl) e,c⟩,r⟩
 |rng lo hi=>obtain⟨t,u,v,e⟩:=x;exact⟨t,u,v,k _ _ (.inl rfl) e⟩
 |frz ob u I=>obtain⟨e,q⟩:=x;exact⟨k _ _ (.inl rfl) e,I q⟩
 |tbl J=>
  have e:=x;exact k a _ (.inl rfl) e
 |met f y=>
  have e:=x;exact k a _ (.inl rfl) e
 |ext O=>obtain⟨p,⟨o,e⟩,st⟩:=x;exact⟨st _ _ p fun o q=>k _ _ (.inl rfl) q,⟨o,k _ _ (.inl rfl) e⟩,st⟩
theorem xO.lt (x:xO P w H h) (e:H a=some o):a<h.objs.size:=(x a o e).lt
theorem xO.fresh (x:xO P w H h) (e:h.objs.size<=a):H a=none:=by
 cases q:H a with
 |none=>rfl
 |some u=>exact absurd (Nat.lt_of_lt_of_le (x.lt q) e) (Nat.lt_irrefl _)
theorem xO.kept (x:xO P w H h) (k: ∀b u,h.get? b=some u->h'.get? b=some u):xO P w H h':=fun a o e=>
 (x a o e).stay (fun b u _ q=>k b u q) (fun _ q=>q) fun _ _ q=>q
theorem xO.laid (x:xO P w H h) (k: ∀b u,h.get? b=some u->h'.get? b=some u) (hp:h.objs.size<=a) (new:dN P w (upd H a o) h' a o):xO P w (upd H a o) h':=fun b u e=>by
 have hn:=x.fresh hp;by_cases d:b=a
 ·subst d;rw[aq] at e;cases e;exact new
 ·
  rw[aj d] at e;exact(x b u e).stay (fun c v _ q=>k c v q) (fun c q=>by rw[aj (aL q hn)];exact q) fun c xs q=>by rw[aj (aL q hn)];exact q
end
def Rd (H:Hp) (a:Addr) (u:HO):Prop:=H a=some u\/∃o,H a=some (.frz o u)
theorem Rd.ok (r:Rd H a u) (x:xO P w H h):dN P w H h a u:=by
 rcases r with r|⟨o,r⟩
 ·exact x a u r
 ·
  obtain⟨_,q⟩:=x a _ r;exact q
def Mut:Option HO->Prop
 |some (.lst _)=>True
 |some (.dK _)=>True
 |some (.dT _)=>True
 |some (.set _ _)=>True
 |some (.ins _ _ _)=>True
 |some (.ext _)=>True
 |_=>False
section
theorem xO.write (ok:xO P w H h) (i:Mut (H x)) (he:e=x\/H e=some (.own x)) (k: ∀b u,b≠e->h.get? b=some u->h'.get? b=some u) (j: ∃u,h'.get? e=some u) (new:dN P w (upd H x o') h' x o'):xO P w (upd H x o') h':=fun b u q=>by
 have f: ∀c y,H c=some (.own y)->c≠x:=fun c y r z=>by subst z;rw[r] at i;exact i
 have d: ∀c xs,H c=some (.tup xs)->c≠x:=fun c xs r z=>by subst z;rw[r] at i;exact i
 by_cases m:b=x
 ·subst m;rw[aq] at q;cases q;exact new
 ·
  rw[aj m] at q;by_cases E:b=e
  ·have C:H b=some (.own x):=by
    simp_all
   rw[q] at C;cases C;obtain⟨v,F⟩:=j;exact⟨v,by simp_all⟩
  ·
   refine(ok b u q).stay (fun c v hc r=>k c v ?_ r) (fun c r=>by rw[aj (f c b r)];exact r) fun c xs r=>by rw[aj (d c xs r)];exact r
   rcases hc with rfl|hc
   ·trivial
   ·grind
end
structure Un (fs ex:List Addr) (H H':Hp) (h h':Heap):Prop where
 keep: ∀b o,h.get? b=some o->H b=none->b ∉ fs->b ∉ ex->h'.get? b=some o
 slot: ∀b o,h.get? b=some o->H b=none->b∈fs->b ∉ ex->∃sl,h'.get? b=some {o with slots:=sl}
 free: ∀b o,h.get? b=some o->H b=none->b ∉ ex->H' b=none
 there: ∀b o,h.get? b=some o->b ∉ ex->∃o',h'.get? b=some o'
 tups: ∀b xs,H b=some (.tup xs)->H' b=some (.tup xs)
 frzs: ∀b o u,H b=some (.frz o u)->H' b=some (.frz o u)
 tbls: ∀b ps,H b=some (.tbl ps)->∃more,H' b=some (.tbl (ps++more))
section
theorem Un.any (u:Un fs ex H H1 h h1) (q:h.get? b=some ob) (n:H b=none) (hx:b ∉ ex): ∃f,h1.get? b=some {ob with slots:=f}:=by
 by_cases d:b∈fs
 ·exact u.slot b ob q n d hx
 ·exact⟨_,u.keep b ob q n d hx⟩
theorem Un.kept (k: ∀b u,h.get? b=some u->h'.get? b=some u):Un fs ex H H h h':=
 ⟨fun b ob q _ _ _=>k b ob q,fun b ob q _ _ _=>⟨_,k b ob q⟩,fun _ _ _ n _=>n,fun b ob q _=>⟨ob,k b ob q⟩,fun _ _ q=>q,fun _ _ _ q=>q,fun _ d q=>⟨#[],‹_›⟩⟩
theorem Un.refl:Un fs ex H H h h:=Un.kept fun _ _ q=>q
theorem Un.laid (k: ∀b u,h.get? b=some u->h'.get? b=some u) (hp:h.objs.size<=a) (hn:H a=none):Un fs ex H (upd H a o) h h' where
 keep:=fun b u q _ _ _=>k b u q
 slot:=fun b u q _ _ _=>⟨_,k b u q⟩
 free:=fun b u q n _=>by rw[aj (Nat.ne_of_lt (Nat.lt_of_lt_of_le (Heap.lt_size q) hp))];exact n
 there:=fun b u q _=>⟨u,k b u q⟩
 tups:=fun b xs q=>by rw[aj (aL q hn)];exact q
 frzs:=fun b u xs q=>by rw[aj (aL q hn)];exact q
 tbls:=fun b d q=>⟨#[],by rw[aj (aL q hn),q];simp⟩
theorem Un.write (f:Mut (H x)) (he:e=x\/H e=some (.own x)) (k: ∀b u,b≠e->h.get? b=some u->h'.get? b=some u) (j: ∃u,h'.get? e=some u):Un fs ex H (upd H x o) h h':=by
 have hx: ∀b,H b=none->b≠x:=fun b n z=>by subst z;rw[n] at f;exact f
 have i: ∀b,H b=none->b≠e:=fun b n z=>by
  simp_all
 have hm: ∀b u,H b=some u->¬Mut (some u)->b≠x:=fun b u q nm z=>by simp_all
 refine⟨fun b u q n _ _=>k b u (i b n) q,fun b u q n _ _=>⟨_,k b u (i b n) q⟩,fun b u q n _=>by rw[aj (hx b n)];exact n,fun b u q _=>?_,
  fun b xs q=>by rw[aj (hm b _ q fun z=>z)];exact q,fun b u xs q=>by rw[aj (hm b _ q fun z=>z)];exact q,fun b m q=>⟨#[],by rw[aj (hm b _ q fun z=>z),q];simp⟩⟩
 by_cases d:b=e
 ·simp_all
 ·exact⟨u,k b u d q⟩
end
noncomputable def trk (h:Heap) (H:Hp):List Addr:=(List.range h.objs.size).filter fun a=>(H a).isSome
noncomputable def Me (h:Heap) (H:Hp):Heap:=W.hideAll h (trk h H)
theorem Md (h:Heap) (H:Hp):(Me h H).objs.size=h.objs.size:=W.hideAll_size _ _
theorem O6 (e:h.get? b=some o) (n:H b=none):(Me h H).get? b=some o:=
 W.hideAll_get _ e fun hm=>by
  have q:=(List.mem_filter.mp hm).2;rw[n] at q;simp at q
theorem Ri (e:(Me h H).get? b=some o):h.get? b=some o/\H b=none:=by
 have d:=W.of_hideAll _ e;refine⟨d,?_⟩;cases q:H b with
 |none=>rfl
 |some x=>
  have hm:b∈trk h H:=List.mem_filter.mpr ⟨List.mem_range.mpr (Heap.lt_size d),by simp[q]⟩;have z:(Me h H).get? b=none:=W.hideAll_none _ hm;rw[z] at e;cases e
structure Mod (K:W.Frag) (mg:Str->Option Value) (base:Heap):Prop where
 kin:K.In base
 glob:base.Ns mainGlobals mg
 blt: ∃mb,base.Ns builtinsNs mb/\∀x:Str,x≠ "__name__" ->mb x=bootBuiltins x
 nolimit:base.NoLimit
structure Cx where
 prog:Program
 w:World
 K:W.Frag
 mg:Str->Option Value
 base:Heap
 A:Around
 N:List Str
 s₀:Shared
 H₀:Hp
 env:Env
 outer:List Env
 stack:List Env
 ex:List Addr
 fn:Str->Bool
 calm:Bool
 pn:List (Addr×Obj)
 xe:Value->Shared->Prop
noncomputable def frs (l:List Env):List Addr:=l.filterMap (·.frame)
noncomputable abbrev Cx.fs (X:Cx):List Addr:=frs X.outer
def Vis (sc:Scope) (x:Str):Prop:=sc.names.lookup x=some .local\/sc.names.lookup x=some .cell\/sc.names.lookup x=some .free
def Loc (sc:Scope) (x:Str):Prop:=sc.names.lookup x=some .local\/sc.names.lookup x=some .cell
def Look (env:Env) (h:Heap) (m:Str->Option Value) (x:Str) (u:Value):Prop:=
 (env.kindOf x=some .local/\m x=some u)\/((env.kindOf x=some .cell\/env.kindOf x=some .free)/\∃c,env.cells.lookup x=some c/\h.IsCell c (some u))
structure Cx.Ok (X:Cx):Prop where
 mod:Mod X.K X.mg X.base
 kind:X.env.scope.kind = .function
 glob:X.env.globals=mainGlobals
 blt:X.env.builtins=builtinsNs
 above:X.s₀.heap.objs.size<=X.env.locals
 inj: ∀x y c,X.env.cells.lookup x=some c->X.env.cells.lookup y=some c->x=y
 has: ∀x,(X.env.kindOf x=some .cell\/X.env.kindOf x=some .free)->∃c,X.env.cells.lookup x=some c
 cab: ∀x c,X.fn x=true->X.env.cells.lookup x=some c->X.s₀.heap.objs.size<=c
 hd:X.calm=true->X.A.handled=none
 frames:X.A.frames=some X.stack
 stk:X.stack=X.outer\/(X.stack=X.env::X.outer/\X.env.frame=some X.env.locals)
 exf: ∀b∈X.ex,b≠X.env.locals/\∀x c,X.env.cells.lookup x=some c->c≠b
 bs: ∀b o,X.base.get? b=some o->X.s₀.heap.get? b=some o/\X.H₀ b=none
 bsz:X.base.objs.size<=X.s₀.heap.objs.size
 noex: ∀b o,X.base.get? b=some o->b ∉ X.ex
 exfs: ∀b∈X.ex,b ∉ X.fs
 funs:X.s₀.heap.FunFrames X.base X.outer
 frf: ∀b∈X.fs,X.H₀ b=none
structure Inv (X:Cx) (pins:List (Addr×Obj)) (σ:List (Option V)) (H:Hp) (s:Shared):Prop where
 ok:X.Ok
 os:s.os=X.s₀.os
 bare:AllBare s.gens
 base:Un X.fs X.ex X.H₀ H X.s₀.heap s.heap
 loc: ∃m,s.heap.Ns X.env.locals m/\∀(i:Nat) (x:Str) (v:V),X.N[i]?=some x->σ[i]?=some (some v)->Vis X.env.scope x->∃u,RelV v u/\Look X.env s.heap m x u
 cell: ∀x c,X.env.cells.lookup x=some c->∃v,s.heap.IsCell c v
 free:H X.env.locals=none
 ou: ∀x c,X.env.cells.lookup x=some c->H c=none
 pin: ∀p∈X.pn++pins,s.heap.get? p.1=some p.2/\H p.1=none/\p.1≠X.env.locals/\p.1 ∉ X.fs/\∀v,p.2.data≠ .cell v
 hok:xO X.prog X.w H s.heap
 len:σ.length=X.N.length
section
theorem Cx.Ok.nofr {X:Cx} (ok:X.Ok) (e:X.base.get? b=some o):b ∉ X.fs:=fun d=>by
 have:=(ok.funs.mem d).1;rw[e] at this;cases this
theorem Inv.bs (I:Inv X pins σ H s): ∀b o,X.base.get? b=some o->s.heap.get? b=some o/\H b=none:=fun b o e=>
 ⟨I.base.keep b o (I.ok.bs b o e).1 (I.ok.bs b o e).2 (I.ok.nofr e) (I.ok.noex b o e),I.base.free b o (I.ok.bs b o e).1 (I.ok.bs b o e).2 (I.ok.noex b o e)⟩
theorem Inv.bk (I:Inv X pins σ H s): ∀b o,X.base.get? b=some o->s.heap.get? b=some o:=fun b o e=>(I.bs b o e).1
theorem Inv.mod (I:Inv X pins σ H s):Mod X.K X.mg X.base:=I.ok.mod
theorem Inv.nK (I:Inv X pins σ H s):X.K.In s.heap:=I.ok.mod.kin.keeps I.bk
theorem Inv.lt (I:Inv X pins σ H s):X.env.locals<s.heap.objs.size:=let ⟨_,hn,_⟩:=I.loc;hn.lt
theorem Inv.sz (I:Inv X pins σ H s):X.s₀.heap.objs.size<=s.heap.objs.size:=Nat.le_trans I.ok.above (Nat.le_of_lt I.lt)
theorem Inv.nofs (I:Inv X pins σ H s) (h:s.heap.objs.size<=a):a ∉ X.fs:=fun d=>by
 obtain⟨_,o,f,_⟩:=I.ok.funs.mem d;exact absurd (Nat.lt_of_lt_of_le (Heap.lt_size f) (Nat.le_trans I.sz h)) (Nat.lt_irrefl _)
theorem Inv.cne (I:Inv X pins σ H s): ∀x c,X.env.cells.lookup x=some c->c≠X.env.locals:=fun x c e z=>by
 obtain⟨v,o,i,hd⟩:=I.cell x c e;obtain⟨m,⟨j,es,u,d,f,_⟩,_⟩:=I.loc;rw[z,d] at i;cases i;rw[f] at hd;cases hd
theorem Inv.funs (I:Inv X pins σ H s):s.heap.FunFrames X.base X.outer:=by
 have all: ∀l,(∀b∈frs l,b∈X.fs)->X.s₀.heap.FunFrames X.base l->s.heap.FunFrames X.base l:=by
  intro l
  induction l with
  |nil=>intro _ _;trivial
  |cons env r j=>
   intro hs hl;obtain⟨hk,⟨L,o,hf,hn,i,hd⟩,m⟩:=hl;have d:=hs L (by unfold frs;rw[List.filterMap_cons,hf];exact List.mem_cons_self);obtain⟨u,e⟩:=I.base.slot L o i (I.ok.frf L d) d fun z=>I.ok.exfs L z d;exact⟨hk,⟨L,_,hf,hn,e,hd⟩,j (fun b f=>hs b (by unfold frs;rw[List.filterMap_cons,hf];exact List.mem_cons_of_mem _ f)) m⟩
 exact all _ (fun _ f=>f) I.ok.funs
theorem Inv.stack (I:Inv X pins σ H s):s.heap.FunFrames X.base X.stack:=by
 rcases I.ok.stk with e|⟨e,hf⟩
 ·rw[e];exact I.funs
 ·
  rw[e];obtain⟨m,hn,_⟩:=I.loc;refine .cons (by rw[I.ok.kind];decide) hf hn ?_ I.funs;exact Heap.get?_none_of_le (Nat.le_trans I.ok.bsz I.ok.above)
theorem Inv.Co (I:Inv X pins σ H s): ∀b∈frs X.stack,b∈X.env.locals::X.fs:=fun b d=>by
 rcases I.ok.stk with e|⟨e,hf⟩
 ·simp_all
 ·
  rw[e] at d;unfold frs at d;rw[List.filterMap_cons,hf] at d;exact d
theorem Inv.B6 (I:Inv X pins σ H s): ∀b∈frs X.stack,H b=none:=fun b d=>by
 rcases List.mem_cons.mp (I.Co b d) with e|d
 ·rw[e];exact I.free
 ·
  obtain⟨_,o,f,_⟩:=I.ok.funs.mem d;exact I.base.free b o f (I.ok.frf b d) fun z=>I.ok.exfs b z d
theorem Inv.step {ch:List Addr} (I:Inv X pins σ H s) (j: ∀b∈ch,(b∈X.ex\/X.s₀.heap.objs.size<=b)/\b≠X.env.locals/\(∀x c,X.env.cells.lookup x=some c->c≠b)/\∀p∈X.pn++pins,p.1≠b) (keep: ∀b o,b≠X.env.locals->b ∉ X.fs->b ∉ ch->s.heap.get? b=some o->H b=none->E.get? b=some o) (slot: ∀b o,b≠X.env.locals->b∈X.fs->b ∉ ch->s.heap.get? b=some o->H b=none->∃Z,E.get? b=some {o with slots:=Z}) (free: ∀b o,b ∉ ch->s.heap.get? b=some o->H b=none->H' b=none) (there: ∀b o,b ∉ ch->s.heap.get? b=some o->∃J,E.get? b=some J) (tups: ∀b xs,H b=some (.tup xs)->H' b=some (.tup xs)) (frzs: ∀b o u,H b=some (.frz o u)->H' b=some (.frz o u)) (tbls: ∀b P,H b=some (.tbl P)->∃more,H' b=some (.tbl (P++more))) (ns: ∀m,s.heap.Ns X.env.locals m->E.Ns X.env.locals m) (hok:xO X.prog X.w H' E) (hg:AllBare g'):
  Inv X pins σ H' {s with heap:=E,gens:=g',drawn:=d',toks:=t'}:=by
 have G: ∀b o,X.s₀.heap.get? b=some o->b≠X.env.locals:=fun b o e=>Nat.ne_of_lt (Nat.lt_of_lt_of_le (Heap.lt_size e) I.ok.above);have y: ∀b o,X.s₀.heap.get? b=some o->b ∉ X.ex->b ∉ ch:=fun b o e hx C=>by
  rcases(j b C).1 with z|z
  ·trivial
  ·exact absurd (Nat.lt_of_lt_of_le (Heap.lt_size e) z) (Nat.lt_irrefl _)
 have cellK: ∀x c,X.env.cells.lookup x=some c->∀v,s.heap.IsCell c v->E.IsCell c v:=fun x c e v ⟨o,F,hd⟩=>by
  have f:=fun z=>(j c z).2.2.1 x c e rfl;by_cases hc:c∈X.fs
  ·
   obtain⟨Z,q⟩:=slot c o (I.cne x c e) hc f F (I.ou x c e);exact⟨_,q,hd⟩
  ·exact⟨o,keep c o (I.cne x c e) hc f F (I.ou x c e),hd⟩
 refine⟨I.ok,I.os,hg,⟨fun b o e n C hx=>?_,fun b o e n C hx=>?_,fun b o e n hx=>?_,fun b o e hx=>?_,fun b xs e=>tups b xs (I.base.tups b xs e),fun b o xs e=>frzs b o xs (I.base.frzs b o xs e),fun b P e=>?_⟩,?_,fun x c e=>?_,?_,fun x c e=>?_,fun p hp=>?_,hok,I.len⟩
 ·exact keep b o (G b o e) C (y b o e hx) (I.base.keep b o e n C hx) (I.base.free b o e n hx)
 ·
  obtain⟨Z,e1⟩:=I.base.slot b o e n C hx;obtain⟨U,O⟩:=slot b _ (G b o e) C (y b o e hx) e1 (I.base.free b o e n hx);exact⟨U,O⟩
 ·
  obtain⟨J,e1⟩:=I.base.there b o e hx;exact free b J (y b o e hx) e1 (I.base.free b o e n hx)
 ·
  obtain⟨J,e1⟩:=I.base.there b o e hx;exact there b J (y b o e hx) e1
 ·
  obtain⟨m1,e1⟩:=I.base.tbls b P e;obtain⟨m2,O⟩:=tbls b _ e1;exact⟨m1++m2,by simp_all⟩
 ·
  obtain⟨m,hn,hl⟩:=I.loc;refine⟨m,ns m hn,fun i x v e1 O e3=>?_⟩;obtain⟨u,r,l⟩:=hl i x v e1 O e3;refine⟨u,r,?_⟩;rcases l with l|⟨k,c,e,z⟩
  ·exact .inl l
  ·exact .inr ⟨k,c,e,cellK x c e _ z⟩
 ·
  obtain⟨v,z⟩:=I.cell x c e;exact⟨v,cellK x c e v z⟩
 ·
  obtain⟨m,⟨o,_,_,F,_⟩,_⟩:=I.loc;exact free _ o (fun z=>(j _ z).2.1 rfl) F I.free
 ·
  obtain⟨v,o,F,hd⟩:=I.cell x c e;exact free c o (fun z=>(j c z).2.2.1 x c e rfl) F (I.ou x c e)
 ·
  obtain⟨e,n,ne,nf,d⟩:=I.pin p hp;have f:=fun z=>(j _ z).2.2.2 p hp rfl;exact⟨keep _ _ ne nf f e n,free _ _ f e n,ne,nf,d⟩
theorem Inv.un (I:Inv X pins σ H s) (u:Un X.fs [] H H' s.heap v) (hok:xO X.prog X.w H' v):Inv X pins σ H' {s with heap:=v,toks:=t'}:=by
 obtain⟨m,⟨o,es,G,x,r⟩,_⟩:=id I.loc;obtain⟨F,C⟩:=u.any x I.free (by simp);exact I.step (ch:=[]) (fun _ z=>nomatch z) (fun b o _ j _ e n=>u.keep b o e n j (by simp)) (fun b o _ j _ e n=>u.slot b o e n j (by simp)) (fun b o _ e n=>u.free b o e n (by simp)) (fun b o _ e=>u.there b o e (by simp)) u.tups u.frzs u.tbls (fun E hm=>by
  obtain⟨J,i,f,d,y⟩:=hm;rw[x] at d;cases d;exact⟨_,i,f,C,y⟩) hok I.bare
theorem Inv.call {ch:List Addr} (I:Inv X pins σ H s) (u:Un (frs X.stack) ch H H' s.heap y) (hok:xO X.prog X.w H' y) (hg:AllBare F) (d: ∀b∈ch,(b∈X.ex\/X.s₀.heap.objs.size<=b)/\b≠X.env.locals/\(∀x c,X.env.cells.lookup x=some c->c≠b)/\∀p∈X.pn++pins,p.1≠b):
  Inv X pins σ H' {s with heap:=y,gens:=F,drawn:=J,toks:=t'}:=by
 obtain⟨m,⟨o,es,U,C,r⟩,_⟩:=id I.loc;obtain⟨P,v⟩:=u.any C I.free fun z=>(d _ z).2.1 rfl;exact I.step d (fun b o v G hc e n=>u.keep b o e n (fun z=>(List.mem_cons.mp (I.Co b z)).elim v G) hc) (fun b o _ _ hc e n=>u.any e n hc) (fun b o hc e n=>u.free b o e n hc) (fun b o hc e=>u.there b o e hc) u.tups u.frzs u.tbls (fun O hm=>by
  obtain⟨Z,j,i,f,E⟩:=hm;rw[C] at f;cases f;exact⟨_,j,i,v,E⟩) hok hg
theorem Inv.turned (I:Inv X pins σ H s) (k: ∀b o,b≠it->s.heap.get? b=some o->i.get? b=some o) (hn:H it=none) (d:it≠X.env.locals) (h1:it∈X.ex\/X.s₀.heap.objs.size<=it) (f: ∀x c,X.env.cells.lookup x=some c->c≠it) (C: ∀p∈X.pn++pins,p.1≠it):Inv X pins σ H {s with heap:=i,toks:=t'}:=by
 have y: ∀b u,H b=some u->b≠it:=fun b u e z=>by simp_all
 refine I.step (ch:=[it]) (fun b G=>?_) (fun b o _ _ hc e _=>k b o (fun z=>hc (by simp[z])) e) (fun b o _ _ hc e _=>⟨_,k b o (fun z=>hc (by simp[z])) e⟩) (fun _ _ _ _ n=>n)
  (fun b o hc e=>⟨o,k b o (fun z=>hc (by simp[z])) e⟩) (fun _ _ e=>e) (fun _ _ _ e=>e) (fun b F e=>⟨#[],‹_›⟩) (fun m hm=>?_) (fun b u e=>?_) I.bare
 ·
  have e:b=it:=by simp_all
  subst e;exact⟨h1,d,f,C⟩
 ·
  obtain⟨o,es,E,j,r⟩:=hm;exact⟨o,es,E,k _ o (Ne.symm d) j,r⟩
 ·
  refine(I.hok b u e).stay (fun c v hc q=>k c v ?_ q) (fun _ q=>q) fun _ _ q=>q;rcases hc with z|z
  ·simp_all
  ·simp_all
theorem Inv.tok (I:Inv X pins σ H s) (t:Nat):Inv X pins σ H {s with toks:=t}:=I.un Un.refl I.hok
theorem Inv.kept (I:Inv X pins σ H s) (k: ∀b u,s.heap.get? b=some u->d.get? b=some u):Inv X pins σ H {s with heap:=d,toks:=t'}:=I.un (Un.kept k) (I.hok.kept k)
theorem Inv.laid (I:Inv X pins σ H s) (k: ∀b u,s.heap.get? b=some u->d.get? b=some u) (hp:s.heap.objs.size<=a) (new:dN X.prog X.w (upd H a o) d a o):
  Inv X pins σ (upd H a o) {s with heap:=d,toks:=t'}:=I.un (Un.laid k hp (I.hok.fresh hp)) (I.hok.laid k hp new)
theorem Inv.write (I:Inv X pins σ H s) (i:Mut (H x)) (he:e=x\/H e=some (.own x)) (k: ∀b u,b≠e->s.heap.get? b=some u->f.get? b=some u) (d: ∃u,f.get? e=some u) (new:dN X.prog X.w (upd H x o) f x o):Inv X pins σ (upd H x o) {s with heap:=f,toks:=t'}:=I.un (Un.write i he k d) (I.hok.write i he k d new)
theorem Inv.B_ (I:Inv X pins σ H s) (h: ∀p∈pins',s.heap.get? p.1=some p.2/\H p.1=none/\p.1≠X.env.locals/\p.1 ∉ X.fs/\∀v,p.2.data≠ .cell v):Inv X pins' σ H s:=
 ⟨I.ok,I.os,I.bare,I.base,I.loc,I.cell,I.free,I.ou,fun p hp=>(List.mem_append.mp hp).elim (fun z=>I.pin p (List.mem_append_left _ z)) (h p),I.hok,I.len⟩
theorem Hs {N:List Str} {j:Nat} (d:N.Nodup) (a:N[i]?=some x) (b:N[j]?=some x):i=j:=by
 obtain⟨h1,e1⟩:=List.getElem?_eq_some_iff.mp a;obtain⟨m,f⟩:=List.getElem?_eq_some_iff.mp b;exact(List.getElem_inj d).mp (e1.trans f.symm)
theorem EH (I:Inv X pins σ H s) (hN:X.N.Nodup) (hi:X.N[i]?=some x) (hx:Loc X.env.scope x) (r:RelV v u) (h: ∀s',Inv X pins (σ.set i (some v)) H s'->(∃a,Heap.SameBut a s.heap s'.heap/\(a=X.env.locals\/X.env.cells.lookup x=some a))->Q () s') (hf:X.fn x=true\/X.env.scope.names.lookup x=some .local:=by first|exact .inl rfl|exact .inr rfl|assumption):wpAny M A (storeName X.env x u) Q E s:=by
 obtain⟨m,hn,hl⟩:=id I.loc;have Z:(X.env.scope.kind == .class||(X.env.scope.kind == .module&&X.env.locals != X.env.globals))=false:=by rw[I.ok.kind];rfl
 have C:i<σ.length:=by rw[I.len];exact(List.getElem?_eq_some_iff.mp hi).1
 have cne:=I.cne;have tracked: ∀{a:Addr} {O:Heap},(∃o,s.heap.get? a=some o/\H a=none)->Heap.SameBut a _ O->xO _ _ H O:=fun{a O} ha hs b ob e=>by
  refine(I.hok b ob e).stay (fun c w' hc q=>(hs.2 c ?_).trans q) (fun _ q=>q) fun _ _ q=>q;rintro rfl;rcases hc with rfl|hc
  ·simp_all
  ·simp_all
 rcases hx with hk|hk
 ·
  refine wpAny_storeName_local hk hn (fun O hn' hs=>?_) Z;obtain⟨oL,_,_,hoL,_⟩:=id hn;refine h _ ⟨I.ok,I.os,I.bare,⟨fun b o e n J hx=>?_,fun b o e n J hx=>?_,I.base.free,fun b o e hx=>?_,I.base.tups,I.base.frzs,I.base.tbls⟩,⟨_,hn',fun j y v' e1 f e3=>?_⟩,fun y c e=>?_,I.free,I.ou,fun p hp=>?_,tracked ⟨oL,hoL,I.free⟩ hs,by simpa using I.len⟩ ⟨_,hs,.inl rfl⟩
  ·exact(hs.2 b (Nat.ne_of_lt (Nat.lt_of_lt_of_le (Heap.lt_size e) I.ok.above))).trans (I.base.keep b o e n J hx)
  ·
   obtain⟨sl,e1⟩:=I.base.slot b o e n J hx;exact⟨sl,(hs.2 b (Nat.ne_of_lt (Nat.lt_of_lt_of_le (Heap.lt_size e) I.ok.above))).trans e1⟩
  ·
   obtain⟨o',e1⟩:=I.base.there b o e hx;exact⟨o',(hs.2 b (Nat.ne_of_lt (Nat.lt_of_lt_of_le (Heap.lt_size e) I.ok.above))).trans e1⟩
  ·
   by_cases F:j=i
   ·
    subst F;rw[hi] at e1;cases e1;rw[List.getElem?_set_self C] at f;cases f;exact⟨u,r,.inl ⟨hk,by simp⟩⟩
   ·
    rw[List.getElem?_set_ne (Ne.symm F)] at f;obtain⟨u',r',q⟩:=hl j y v' e1 f e3;refine⟨u',r',?_⟩;rcases q with⟨k,e⟩|⟨k,c,e,z⟩
    ·
     refine .inl ⟨k,?_⟩;have:y≠x:=fun e=>F (Hs hN e1 (e▸hi));simp[this,e]
    ·exact .inr ⟨k,c,e,z.sameBut hs (cne y c e)⟩
  ·
   obtain⟨w',z⟩:=I.cell y c e;exact⟨w',z.sameBut hs (cne y c e)⟩
  ·
   obtain⟨e,n,ne,nf,d⟩:=I.pin p hp;exact⟨(hs.2 _ ne).trans e,n,ne,nf,d⟩
 ·have G:X.fn x=true:=by
   simp_all
  obtain⟨c,hc⟩:=I.ok.has x (.inl hk);obtain⟨w',z⟩:=I.cell x c hc;refine wpAny_storeName_cell I.ok.kind hk hc z (fun O P hs=>?_);obtain⟨oc,hoc,hocd⟩:=id z;refine h _ ⟨I.ok,I.os,I.bare,⟨fun b o e n J hx=>?_,fun b o e n J hx=>?_,I.base.free,fun b o e hx=>?_,I.base.tups,I.base.frzs,I.base.tbls⟩,⟨m,hn.sameBut hs (Ne.symm (cne x c hc)),fun j y v' e1 f e3=>?_⟩,fun y c' e=>?_,I.free,I.ou,fun p hp=>?_,tracked ⟨oc,hoc,I.ou x c hc⟩ hs,by simpa using I.len⟩ ⟨c,hs,.inr hc⟩
  ·exact(hs.2 b (Nat.ne_of_lt (Nat.lt_of_lt_of_le (Heap.lt_size e) (I.ok.cab x c G hc)))).trans (I.base.keep b o e n J hx)
  ·
   obtain⟨sl,e1⟩:=I.base.slot b o e n J hx;exact⟨sl,(hs.2 b (Nat.ne_of_lt (Nat.lt_of_lt_of_le (Heap.lt_size e) (I.ok.cab x c G hc)))).trans e1⟩
  ·
   obtain⟨o',e1⟩:=I.base.there b o e hx;exact⟨o',(hs.2 b (Nat.ne_of_lt (Nat.lt_of_lt_of_le (Heap.lt_size e) (I.ok.cab x c G hc)))).trans e1⟩
  ·
   by_cases F:j=i
   ·
    subst F;rw[hi] at e1;cases e1;rw[List.getElem?_set_self C] at f;cases f;exact⟨u,r,.inr ⟨.inl hk,c,hc,P⟩⟩
   ·
    rw[List.getElem?_set_ne (Ne.symm F)] at f;obtain⟨u',r',q⟩:=hl j y v' e1 f e3;refine⟨u',r',?_⟩;rcases q with q|⟨k,c',e,z'⟩
    ·exact .inl q
    ·
     refine .inr ⟨k,c',e,z'.sameBut hs ?_⟩;rintro rfl;exact F (Hs hN e1 (I.ok.inj _ _ _ e hc▸hi))
  ·
   by_cases U:c'=c
   ·subst U;exact⟨_,P⟩
   ·
    obtain⟨w2,z2⟩:=I.cell y c' e;exact⟨w2,z2.sameBut hs U⟩
  ·
   obtain⟨e,n,ne,nf,d⟩:=I.pin p hp;refine⟨(hs.2 _ ?_).trans e,n,ne,nf,d⟩;intro q;exact d w' (by simp_all)
theorem GW (I:Inv X pins σ H s) (j:X.N.Nodup) (hi:X.N[i]?=some x) (hx:Loc X.env.scope x) (r:RelV v u) (h: ∀d,Inv X pins (σ.set i (some v)) H d->Q () d) (hf:X.fn x=true\/X.env.scope.names.lookup x=some .local:=by first|exact .inl rfl|exact .inr rfl|assumption):wpAny M A (storeName X.env x u) Q E s:=
 EH I j hi hx r (fun d f _=>h d f) hf
theorem Inv.call' {ch:List Addr} (I:Inv X pins σ H s) (f:s'.os=s.os) (u:Un (frs X.stack) ch H H' s.heap s'.heap) (hok:xO X.prog X.w H' s'.heap) (hg:AllBare s'.gens) (d: ∀b∈ch,(b∈X.ex\/X.s₀.heap.objs.size<=b)/\b≠X.env.locals/\(∀x c,X.env.cells.lookup x=some c->c≠b)/\∀p∈X.pn++pins,p.1≠b):Inv X pins σ H' s':=by
 obtain⟨m,i,j,t',v⟩:=s';have e:=f;subst e;exact I.call u hok hg d
end
noncomputable abbrev XK:=Value->Option Addr->Hp->Prop
noncomputable abbrev St:=List (Option V)
noncomputable abbrev VK:=V->Hp->Prop
noncomputable abbrev TE:=St->Hp->VK->Prop
noncomputable abbrev TT:=St->Hp->(Bool->Hp->Prop)->Prop
noncomputable abbrev TA:=St->Hp->(List V->Hp->Prop)->Prop
structure Ends where
 nx:St->Hp->Prop
 rt:VK
 bk:St->Hp->Prop:=fun _ _=>False
 ct:St->Hp->Prop:=fun _ _=>False
noncomputable abbrev TS:=Ends->St->Hp->Prop
def EP (X:Cx) (d:List (Addr×Obj)) (σ:St) (Q:VK) (u:Value) (f:Shared):Prop:= ∃v H',Inv X d σ H' f/\RelV v u/\Q v H'
def TP (X:Cx) (d:List (Addr×Obj)) (σ:St) (Q:Bool->Hp->Prop) (b:Bool) (f:Shared):Prop:= ∃H',Inv X d σ H' f/\Q b H'
def AP (X:Cx) (d:List (Addr×Obj)) (σ:St) (Q:List V->Hp->Prop) (us:List Value) (f:Shared):Prop:= ∃vs H',Inv X d σ H' f/\Vals vs us/\Q vs H'
def SP (X:Cx) (i:List (Addr×Obj)) (D:Ends) (f:Flow) (j:Shared):Prop:=
 match f with
 | .next=> ∃d H',Inv X i d H' j/\D.nx d H'
 | .brk=> ∃d H',Inv X i d H' j/\D.bk d H'
 | .cont=> ∃d H',Inv X i d H' j/\D.ct d H'
 | .ret u=> ∃v d H',Inv X i d H' j/\RelV v u/\D.rt v H'
def PE (X:Cx) (e:Expr) (t:TE):Prop:=
 ∀(d:List (Addr×Obj)) (s:Shared) (σ:St) (H:Hp) (Q:VK),Inv X d σ H s->t σ H Q->wpAny (model X.prog X.w) X.A (eval e X.env) (EP X d σ Q) X.xe s
def PT (X:Cx) (e:Expr) (t:TT):Prop:=
 ∀(d:List (Addr×Obj)) (s:Shared) (σ:St) (H:Hp) (Q:Bool->Hp->Prop),Inv X d σ H s->t σ H Q->wpAny (model X.prog X.w) X.A (isTrue e X.env (eval e X.env)) (TP X d σ Q) X.xe s
def PW (X:Cx) (e:Expr) (t:TT):Prop:=
 ∀(whole:Sem Value) (d:List (Addr×Obj)) (s:Shared) (σ:St) (H:Hp) (Q:Bool->Hp->Prop),Inv X d σ H s->t σ H Q->wpAny (model X.prog X.w) X.A (isTrue e X.env whole) (TP X d σ Q) X.xe s
theorem PW.pt (h:PW X e t):PT X e t:=h _
def PA (X:Cx) (es:List Expr) (t:TA):Prop:=
 ∀(pos:Pos) (d:List (Addr×Obj)) (s:Shared) (σ:St) (H:Hp) (Q:List V->Hp->Prop),Inv X d σ H s->t σ H Q->wpAny (model X.prog X.w) X.A (spliced (backTo pos (starEach es X.env))) (AP X d σ Q) X.xe s
def PS (X:Cx) (st:Stmt) (t:TS):Prop:=
 ∀(d:List (Addr×Obj)) (s:Shared) (σ:St) (H:Hp) (D:Ends),Inv X d σ H s->t D σ H->wpAny (model X.prog X.w) X.A (exec st X.env) (SP X d D) X.xe s
def Cj (X:Cx) (st:List Stmt) (t:TS):Prop:=
 ∀(d:List (Addr×Obj)) (s:Shared) (σ:St) (H:Hp) (D:Ends),Inv X d σ H s->t D σ H->wpAny (model X.prog X.w) X.A (execs st X.env) (SP X d D) X.xe s
theorem thn {d:α->Shared->Prop} (h:wpAny M A t Q E s) (f: ∀a s,Q a s->d a s):wpAny M A t d E s:=wpAny_mono h f fun _ _ x=>x
theorem iY {α β d:Type} {t:Sem α} {F:α->Shared->β->d->Prop} {G:α->Shared->β->d->Prop} {J:α->Shared->β->d->Prop} {Q:α->Shared->Prop} {M:Model} {A:Around} {E:Value->Shared->Prop} {s:Shared} (h:wpAny M A t (fun a s=> ∃x y,F a s x y/\G a s x y/\J a s x y) E s) (k: ∀a s x y,F a s x y->G a s x y->J a s x y->Q a s):wpAny M A t Q E s:=thn h fun a s ⟨x,y,f,g,j⟩=>k a s x y f g j
section
variable {X:Cx} {a b:Expr} {pos:Pos} {tA tB':TT} {rest:List Expr}
def GS (i:Nat):TE:=fun σ H Q=>match σ[i]? with
 |some (some v)=>Q v H
 |_=>False
theorem Qp (h:GS i σ H Q): ∃v,σ[i]?=some (some v)/\Q v H:=by
 unfold GS at h;split at h
 ·exact⟨_,by assumption,h⟩
 ·exact h.elim
def tC (v:V):TE:=fun _ H Q=>Q v H
theorem UR (z:X.N[i]?=some x) (y:Vis X.env.scope x) (hd:(x == ("__debug__" : Str))=false:=by decide) (f:(x == ("__classdict__" : Str))=false:=by decide):PE X (.Name x pos) (GS i):=by
 intro j s σ H Q I h;obtain⟨v,e,h⟩:=Qp h;obtain⟨m,hn,hl⟩:=I.loc;obtain⟨u,r,l⟩:=hl i x v z e y;have fin:EP X _ σ Q u s:=⟨v,H,I,r,h⟩;rcases l with⟨hk,hm⟩|⟨hk,c,hc,d⟩
 ·exact wpAny_Name (wpAny_loadName_local I.ok.kind hk hn hm fin) hd
 ·
  rcases hk with hk|hk
  ·exact wpAny_Name (wpAny_loadName_cell I.ok.kind hk hc d fin) hd
  ·exact wpAny_Name (wpAny_loadName_free I.ok.kind hk hc d fin f) hd
theorem ak {i j pos}:PE X (.Constant (.int i) j pos) (tC (.int i)):=fun _ _ _ H _ I h=>wpAny_Constant_int ⟨.int i,H,I.tok _,⟨_,rfl⟩,h⟩
theorem d5 {b j pos}:PE X (.Constant (.bool b) j pos) (tC (.bl b)):=fun _ _ _ H _ I h=>Constant_bool ⟨.bl b,H,I,rfl,h⟩
theorem cx {j pos}:PE X (.Constant .none j pos) (tC .non):=fun _ _ _ H _ I h=>Constant_none ⟨.non,H,I,rfl,h⟩
theorem bE {x j pos}:PE X (.Constant (.str x) j pos) (tC (.str x)):=fun _ _ _ H _ I h=>Calls.Constant_str ⟨.str x,H,I.tok _,⟨_,rfl⟩,h⟩
def Gl (X:Cx) (x:Str):Prop:=X.env.kindOf x=some .globalImplicit
theorem lS (I:Inv X pins σ H s) (hg:Gl X x) (hm:X.mg x=some u) (h:Q u s) (hd:(x == ("__debug__" : Str))=false:=by decide):wpAny (model X.prog X.w) X.A (eval (.Name x pos) X.env) Q E s:=
 Calls.Name_function_global I.ok.kind hg (Calls.loadGlobal_global (by rw[I.ok.glob];exact I.mod.glob.keeps I.bk) hm h) hd
theorem wW (I:Inv X pins σ H s) (hg:Gl X x) (hm:X.mg x=none) (d:bootBuiltins x=some u) (h:Q u s) (hn:x≠ "__name__" :=by decide) (hd:(x == ("__debug__" : Str))=false:=by decide):wpAny (model X.prog X.w) X.A (eval (.Name x pos) X.env) Q E s:=by
 obtain⟨i,h1,f⟩:=I.mod.blt;exact Calls.Name_function_global I.ok.kind hg (Calls.loadGlobal_builtin (by rw[I.ok.glob];exact I.mod.glob.keeps I.bk) hm (by rw[I.ok.blt];exact h1.keeps I.bk) ((f x hn).trans d) h) hd
theorem Q5 (hg:Gl X x) (hm:X.mg x=some u) (r:RelV v u) (hd:(x == ("__debug__" : Str))=false:=by decide):PE X (.Name x pos) (tC v):=
 fun _ _ _ H _ I h=>lS I hg hm ⟨v,H,I,r,h⟩ hd
theorem Q7 (hg:Gl X x) (hm:X.mg x=none) (d:bootBuiltins x=some u) (r:RelV v u) (hn:x≠ "__name__" :=by decide) (hd:(x == ("__debug__" : Str))=false:=by decide):PE X (.Name x pos) (tC v):=
 fun _ _ _ H _ I h=>wW I hg hm d ⟨v,H,I,r,h⟩ hn hd
def PC (X:Cx) (op:CmpOp) (a b:Expr) (t:TE):Prop:=
 ∀(d:List (Addr×Obj)) (s:Shared) (σ:St) (H:Hp) (Q:VK),Inv X d σ H s->t σ H Q->
  wpAny (model X.prog X.w) X.A (eval a X.env) (fun v f=>wpAny (model X.prog X.w) X.A (eval b X.env) (fun u i=>wpAny (model X.prog X.w) X.A (compareOp op v u) (EP X d σ Q) X.xe i) X.xe f) X.xe s
def tB (t:TE):TT:=fun σ H Q=>t σ H fun x d=> ∃c,x = .bl c/\Q c d
theorem zG {op:CmpOp} {t:TE} (h:PC X op a b t) (h1:behindInMarks op b=false:=by first|exact nobehind _ (by decide) (by decide)|rfl):PT X (.Compare a [op] [b] pos) (tB t):=by
 intro f s σ H Q I hw;refine wpAny_isTrue_Compare1 (thn (h _ s σ H _ I hw) fun v s1 h1=>thn h1 fun u s2 i=>thn i fun c s3 ⟨x,j,m,r1,q1⟩=>?_) h1;obtain⟨d,rfl,q⟩:=q1;cases r1;exact wpAny_truthy_bool ⟨j,m,q⟩
theorem UJ (h:PE X e t) (he: ∀whole,isTrue e X.env whole=(do let v<-whole;standAt e.pos;holding [v] (truthy v)):=by intro _;rfl):PT X e (tB t):=by
 intro f s σ H Q I hw;refine isTrue_plain (iY (h _ s σ H _ I hw) fun v s1 x i j r1 q1=>?_) (he _);obtain⟨d,rfl,q⟩:=q1;cases r1;exact wpAny_truthy_bool ⟨i,j,q⟩
def Yj (t u:TT):TT:=fun σ H Q=>t σ H fun c d=>if c=true then u σ d Q else Q false d
def tOr (t u:TT):TT:=fun σ H Q=>t σ H fun c d=>if c=true then Q true d else u σ d Q
def Ye (t:TT):TT:=fun σ H Q=>t σ H fun c d=>Q (!c) d
theorem pw_and1 (ha:PT X a tA):PW X (.BoolOp .And [a] pos) tA:=by
 intro f d s σ H Q I h;refine isTrue_and (thn (ha _ s σ H Q I h) fun c s1 e=>?_);cases c with
 |true=>exact isTrue_and_nil e
 |false=>exact e
theorem pw_or1 (ha:PT X a tA):PW X (.BoolOp .Or [a] pos) tA:=by
 intro f d s σ H Q I h;refine isTrue_or (thn (ha _ s σ H Q I h) fun c s1 e=>?_);cases c with
 |false=>exact isTrue_or_nil e
 |true=>exact e
theorem pw_and (ha:PT X a tA) (f:PW X (.BoolOp .And (b::rest) pos) tB'):PW X (.BoolOp .And (a::b::rest) pos) (Yj tA tB'):=by
 intro j d s σ H Q I h;refine isTrue_and (thn (ha _ s σ H _ I h) fun c s1 ⟨i,m,q1⟩=>?_);cases c with
 |true=>exact f j _ s1 σ i Q m q1
 |false=>trivial
theorem pw_or (ha:PT X a tA) (f:PW X (.BoolOp .Or (b::rest) pos) tB'):PW X (.BoolOp .Or (a::b::rest) pos) (tOr tA tB'):=by
 intro j d s σ H Q I h;refine isTrue_or (thn (ha _ s σ H _ I h) fun c s1 ⟨i,m,q1⟩=>?_);cases c with
 |true=>trivial
 |false=>exact f j _ s1 σ i Q m q1
theorem eE (ha:PT X a tA):PT X (.UnaryOp .Not a pos) (Ye tA):=by
 intro d s σ H Q I h;exact isTrue_not (ha _ s σ H _ I h)
def Sj (f i:TE):TE:=fun σ H Q=>f σ H fun x d=> ∃c,x = .bl c/\if c=true then i σ d Q else Q (.bl false) d
def Si (d:TE):TE:=fun σ H Q=>d σ H fun x f=> ∃c,x = .bl c/\Q (.bl (!c)) f
theorem oi {op} {t:TE} (h:PE X a t):PE X (.BoolOp op [a] pos) t:=fun d s σ H Q I hw=>BoolOp_one (h _ s σ H Q I hw)
theorem du {j d:TE} (ha:PE X a j) (u:PE X (.BoolOp .And (b::rest) pos) d):PE X (.BoolOp .And (a::b::rest) pos) (Sj j d):=by
 intro m s σ H Q I h;refine BoolOp_and (iY (ha _ s σ H _ I h) fun v s1 x f i r1 q1=>?_);obtain⟨c,rfl,q1⟩:=q1;cases r1;refine wpAny_truthy_bool ?_;cases c with
 |true=>exact u _ s1 σ f Q i q1
 |false=>exact⟨.bl _,f,i,rfl,q1⟩
theorem IL {d:TE} (ha:PE X a d):PE X (.UnaryOp .Not a pos) (Si d):=by
 intro f s σ H Q I h;refine UnaryOp_ (iY (ha _ s σ H _ I h) fun v s1 x i j r1 q1=>?_);obtain⟨c,rfl,q1⟩:=q1;cases r1;exact not_of (wpAny_truthy_bool ⟨.bl _,i,j,rfl,q1⟩)
def tIf (t:TT) (f i:TE):TE:=fun σ H Q=>t σ H fun c d=>if c=true then f σ d Q else i σ d Q
theorem lX {f i:TE} {c:Expr} (hc:PT X c tA) (ha:PE X a f) (v:PE X b i):PE X (.IfExp c a b pos) (tIf tA f i):=by
 intro m s σ H Q I h;refine wpAny_IfExp (thn (hc _ s σ H _ I h) fun d s1 ⟨j,u,q1⟩=>?_);cases d with
 |true=>exact ha _ s1 σ j Q u q1
 |false=>exact v _ s1 σ j Q u q1
end
def cQ (K:W.Frag) (H:Hp) (a:Addr) (xs:List V):Prop:=
 Rd H a (.lst xs)\/
  ∃(o:Obj) (d:Array Value) (n:Nat),K.lookup a=some o/\o.cls = .type "list" /\o.dict=none/\o.data = .seq d n/\d.size<=sizeLine/\Vals xs d.toList
def dO (K:W.Frag) (H:Hp) (a:Addr) (xs:List V):Prop:=
 Rd H a (.tup xs)\/
  ∃(o:Obj) (d:Array Value) (n:Nat),K.lookup a=some o/\o.cls = .type "tuple" /\o.data = .seq d n/\d.size<=sizeLine/\Vals xs d.toList
noncomputable def aj9:Value->Option V
 | .none=>some .non
 | .bool b=>some (.bl b)
 | .int i _=>some (.int i)
 | .str x _=>some (.str x)
 | .bytes b _=>some (.byt b)
 | .float b _=>some (.flt b)
 | .ref a=>some (.ref a)
 | .type n=>some (.ty n)
 |_=>none
theorem RelV.abs (r:RelV x u):aj9 u=some x:=by
 cases x with
 |non=>cases r;rfl
 |bl _=>cases r;rfl
 |int _=>obtain⟨t,rfl⟩:=r;rfl
 |str _=>obtain⟨t,rfl⟩:=r;rfl
 |byt _=>obtain⟨t,rfl⟩:=r;rfl
 |flt _=>obtain⟨t,rfl⟩:=r;rfl
 |ref _=>cases r;rfl
 |ty _=>cases r;rfl
theorem RelV.inj (r:RelV x u) (q:RelV y u):x=y:=Option.some.inj (r.abs.symm.trans q.abs)
theorem Vals.inj: ∀{xs d:List V} {us:List Value},Vals xs us->Vals d us->xs=d
 |_,_,_,.nil,.nil=>rfl
 |_,_,_,.cons r t,.cons r' t'=>by rw[r.inj r',Vals.inj t t']
section
theorem cQ.of {K:W.Frag} (h:H a=some (.lst xs)):cQ K H a xs:= .inl (.inl h)
theorem dO.of {K:W.Frag} (h:H a=some (.tup xs)):dO K H a xs:= .inl (.inl h)
theorem Inv.list (I:Inv X pins σ H s) (h:cQ X.K H a xs): ∃d:List Value,Vals xs d/\PlainL s.heap a d.toArray/\xs.length<=sizeLine:=by
 rcases h with h|⟨o,d,n,hk,hc,hd,hs,f,r⟩
 ·
  obtain⟨z,d,n,r,e⟩:=h.ok I.hok;exact⟨d,r,⟨_,n,e,rfl,rfl,rfl⟩,z⟩
 ·
  refine⟨_,r,⟨o,n,I.nK a o hk,hc,hd,‹_›⟩,?_⟩;have e:=r.length;simp only[Array.length_toList] at e;lia
theorem Inv.tuple (I:Inv X pins σ H s) (h:dO X.K H a xs): ∃d:List Value,Vals xs d/\IsTup s.heap a d.toArray/\xs.length<=sizeLine:=by
 rcases h with h|⟨o,d,n,hk,hc,hs,f,r⟩
 ·
  obtain⟨z,d,r,p⟩:=h.ok I.hok;exact⟨d,r,p,z⟩
 ·
  refine⟨_,r,⟨o,I.nK a o hk,hc,n,‹_›⟩,?_⟩;have e:=r.length;simp only[Array.length_toList] at e;lia
theorem Inv.HA (I:Inv X pins σ H s) (h:cQ X.K H a xs) (m:cQ X.K H a ys):xs=ys:=by
 obtain⟨i,r,⟨o,n,e,_,_,d⟩,_⟩:=I.list h;obtain⟨f,u,⟨y,x,j,_,_,v⟩,_⟩:=I.list m;rw[e] at j;cases j;have:i=f:=by simp_all
 subst this;exact r.inj u
theorem Inv.EE (I:Inv X pins σ H s) (h:dO X.K H a xs) (m:dO X.K H a ys):xs=ys:=by
 obtain⟨i,r,⟨o,e,_,n,d⟩,_⟩:=I.tuple h;obtain⟨f,u,⟨y,j,_,x,v⟩,_⟩:=I.tuple m;rw[e] at j;cases j;have:i=f:=by simp_all
 subst this;exact r.inj u
end
noncomputable abbrev Cx.wish (X:Cx) (E:Value->Shared->Prop):Cx:={X with xe:=E}
noncomputable abbrev Cx.nox (X:Cx):Cx:=X.wish fun _ _=>False
theorem Cx.Ok.wish {X:Cx} (ok:X.Ok) (E:Value->Shared->Prop):(X.wish E).Ok:=
 ⟨ok.mod,ok.kind,ok.glob,ok.blt,ok.above,ok.inj,ok.has,ok.cab,ok.hd,ok.frames,ok.stk,ok.exf,ok.bs,ok.bsz,ok.noex,ok.exfs,ok.funs,ok.frf⟩
theorem Cx.Ok.unwish {X:Cx} (ok:(X.wish E).Ok):X.Ok:=
 ⟨ok.mod,ok.kind,ok.glob,ok.blt,ok.above,ok.inj,ok.has,ok.cab,ok.hd,ok.frames,ok.stk,ok.exf,ok.bs,ok.bsz,ok.noex,ok.exfs,ok.funs,ok.frf⟩
section
theorem Inv.wish (I:Inv X pins σ H s) (E:Value->Shared->Prop):Inv (X.wish E) pins σ H s:=⟨I.ok.wish E,I.os,I.bare,I.base,I.loc,I.cell,I.free,I.ou,I.pin,I.hok,I.len⟩
theorem Inv.unwish (I:Inv (X.wish E) pins σ H s):Inv X pins σ H s:=⟨I.ok.unwish,I.os,I.bare,I.base,I.loc,I.cell,I.free,I.ou,I.pin,I.hok,I.len⟩
theorem SP.unwish (h:SP (X.wish E) pins D f s'):SP X pins D f s':=by
 cases f with
 |next=>obtain⟨d,H',I,q⟩:=h;exact⟨d,H',I.unwish,q⟩
 |brk=>obtain⟨d,H',I,q⟩:=h;exact⟨d,H',I.unwish,q⟩
 |cont=>obtain⟨d,H',I,q⟩:=h;exact⟨d,H',I.unwish,q⟩
 |ret u=>obtain⟨v,d,H',I,r,q⟩:=h;exact⟨v,d,H',I.unwish,r,q⟩
theorem PT.nox (h:PT X.nox e t):PT X e t:=fun d s σ H Q I hw=>
 wpAny_mono (h _ s σ H Q (I.wish _) hw) (fun _ _ ⟨H',f,q⟩=>⟨H',f.unwish,q⟩) fun _ _ z=>False.elim z
theorem Cj.nox {st:List Stmt} (h:Cj X.nox st t):Cj X st t:=fun d s σ H D I hw=>
 wpAny_mono (h _ s σ H D (I.wish _) hw) (fun _ _ q=>q.unwish) fun _ _ z=>False.elim z
end
section
variable {X:Cx} {st:Stmt} {e:Expr} {te:TE} {pos:Pos}
def JM:TS:=fun D σ H=>D.nx σ H
def Uq (t u:TS):TS:=fun D σ H=>t {D with nx:=u D} σ H
theorem aZ:Cj X [] JM:=fun _ _ σ H _ I h=>wpAny_execs_nil ⟨σ,H,I,h⟩
theorem ao {rest:List Stmt} (h1:PS X st t) (j:Cj X rest u):Cj X (st::rest) (Uq t u):=by
 intro d s σ H D I h;refine wpAny_execs_cons (thn (h1 _ s σ H _ I h) fun f s1 q=>?_);cases f with
 |next=>
  obtain⟨m,H',i,q⟩:=q;exact j _ s1 _ H' D i q
 |ret v=>exact q
 |brk=>exact q
 |cont=>exact q
theorem ar (h1:PS X st t):Cj X [st] t:=by
 intro d s σ H D I h;refine wpAny_execs_cons (thn (h1 _ s σ H D I h) fun f s1 q=>?_);cases f with
 |next=>exact wpAny_execs_nil q
 |ret v=>exact q
 |brk=>exact q
 |cont=>exact q
theorem Inv.quiet (I:Inv X pins σ H s):interactive X.env=false:=by simp[interactive,I.ok.kind]
def MP (te:TE):TS:=fun D σ H=>te σ H fun _ d=>D.nx σ d
theorem QY (he:PE X e te) (hs:swapsWith e none pos.line X.env=pure false:=by rfl):PS X (.Expr e pos) (MP te):=by
 intro d s σ H D I h;exact wpAny_Expr_any (iY (he _ s σ H _ I h) fun v s1 x f i r1 q1=>⟨σ,f,i,q1⟩) I.quiet hs
def Ur (te:TE):TS:=fun D σ H=>te σ H D.rt
theorem aK (he:PE X e te):PS X (.Return (some e) pos) (Ur te):=by
 intro d s σ H D I h;exact wpAny_Return_some (iY (he _ s σ H _ I h) fun v s1 x f i r1 q1=>⟨x,σ,f,i,r1,q1⟩)
def Sg:TS:=fun D _ H=>D.rt .non H
theorem J6:PS X (.Return none pos) Sg:=fun _ _ σ H _ I h=>wpAny_Return_none ⟨.non,σ,H,I,rfl,h⟩
def Qr (c:TT) (t u:TS):TS:=fun D σ H=>c σ H fun b d=>if b=true then t D σ d else u D σ d
theorem bI {t u:TS} {c:Expr} {a b:List Stmt} {f:TT} (hc:PT X c f) (ha:Cj X a t) (v:Cj X b u):PS X (.If c a b pos) (Qr f t u):=by
 intro m s σ H D I h;refine wpAny_If (thn (hc _ s σ H _ I h) fun d s1 ⟨i,j,q1⟩=>?_);cases d with
 |true=>exact ha _ s1 σ i D j q1
 |false=>exact v _ s1 σ i D j q1
end
noncomputable abbrev TG:=V->St->Hp->(St->Hp->Prop)->Prop
noncomputable abbrev Ui:=List V->St->Hp->(St->Hp->Prop)->Prop
def PG (X:Cx) (target:Expr) (t:TG):Prop:=
 ∀(d:List (Addr×Obj)) (s:Shared) (σ:St) (H:Hp) (v:V) (u:Value) (Q:St->Hp->Prop),Inv X d σ H s->RelV v u->t v σ H Q->
  wpAny (model X.prog X.w) X.A (assign target X.env u) (fun _ i=> ∃f H',Inv X d f H' i/\Q f H') X.xe s
def Qc (X:Cx) (ts:List Expr) (t:Ui):Prop:=
 ∀(d:List (Addr×Obj)) (s:Shared) (σ:St) (H:Hp) (vs:List V) (us:List Value) (Q:St->Hp->Prop),Inv X d σ H s->Vals vs us->t vs σ H Q->
  wpAny (model X.prog X.w) X.A (assignInOrder ((assignEach ts X.env).map (·.2)) us) (fun _ i=> ∃f H',Inv X d f H' i/\Q f H') X.xe s
section
def tP (i:Nat):TG:=fun v σ H Q=>Q (σ.set i (some v)) H
theorem bC (j:X.N.Nodup) (hi:X.N[i]?=some x) (hx:Loc X.env.scope x) (hf:X.fn x=true\/X.env.scope.names.lookup x=some .local:=by first|exact .inl rfl|exact .inr rfl|assumption):PG X (.Name x pos) (tP i):=by
 intro d s σ H v u Q I r h;exact wpAny_assign_Name (GW I j hi hx r (fun m f=>⟨_,H,f,h⟩) hf)
def afD:Ui:=fun vs σ H Q=>vs= []/\Q σ H
def Pb (t:TG) (u:Ui):Ui:=fun vs σ H Q=> ∃v r,vs=v::r/\t v σ H fun d H'=>u r d H' Q
theorem J_:Qc X [] afD:=by
 intro d s σ H vs us Q I r h;obtain⟨e,h⟩:=h;exact assignInOrder_nil ⟨σ,H,I,h⟩
theorem NP (h1:PG X e t) (i:Qc X es u) (hs:(assignEach (e::es) X.env).map (·.2)=assign e X.env::(assignEach es X.env).map (·.2):=by rfl):Qc X (e::es) (Pb t u):=by
 intro d s σ H vs us Q I r h;obtain⟨v,y,e1,h⟩:=h;subst e1;cases r with
 |cons r x=>
  rw[hs];refine assignInOrder_cons (thn (h1 _ s σ H _ _ _ I r h) fun _ s1 ⟨f,j,m,q1⟩=>?_);exact i _ s1 _ j _ _ Q m x q1
def Xp (K:W.Frag) (n:Nat) (t:Ui):TG:=fun v σ H Q=> ∃a xs,v = .ref a/\dO K H a xs/\xs.length=n/\t xs σ H Q
theorem UP (hc:X.calm=true) (h:Qc X es t) (hn:(assignEach es X.env).length=n:=by rfl) (d:(assignEach es X.env).findIdx? (·.1)=none:=by rfl):PG X (.Tuple es k pos) (Xp X.K n t):=by
 intro f s σ H v u Q I r hw;obtain⟨a,xs,e1,m,hl,hw⟩:=hw;subst e1;cases r;obtain⟨x,i,ht,z⟩:=I.tuple m;refine assign_Tuple_tuple (I.ok.hd hc) ht (by simp[hn,<-hl,i.length]) d fun y hx=>?_;have j:=I.kept (t':=s.toks) fun b o e=>hx b o (Nat.ne_of_lt (Heap.lt_size e)) e;exact h _ _ σ H xs _ Q j (‹_›) hw
def Iu (te:TE) (g:TG):TS:=fun D σ H=>te σ H fun x d=>g x σ d D.nx
theorem UL (he:PE X e te) (hg:PG X tg g) (hs:swapsWithSole [tg] e pos.line X.env=pure false:=by rfl) (hw:swappedStores [tg] e X.env=pure none:=by rfl) (h1:(assignEach [tg] X.env).map (·.2)= [assign tg X.env]:=by rfl):PS X (.Assign [tg] e pos) (Iu te g):=by
 intro d s σ H D I h;refine wpAny_Assign_stores (iY (he _ s σ H _ I h) fun v s1 x f i r1 q1=>?_) hs hw;rw[h1];exact thn (hg _ s1 σ f x v _ i r1 q1) fun _ s2 q=>q
theorem UK (u:X.N.Nodup) (hi:X.N[i]?=some x) (hx:Loc X.env.scope x) (he:PE X e te) (hs:swapsWith e (some (.Name x pos')) pos.line X.env=pure false:=by rfl) (hf:X.fn x=true\/X.env.scope.names.lookup x=some .local:=by first|exact .inl rfl|exact .inr rfl|assumption):
  PS X (.Assign [.Name x pos'] e pos) (Iu te (tP i)):=by
 intro d s σ H D I h;refine wpAny_Assign_Name (iY (he _ s σ H _ I h) fun v s1 y j m r1 q1=>?_) hs;exact GW m u hi hx r1 (fun s2 f=>⟨_,j,f,q1⟩) hf
end
section
def Uo (c:TT) (j:TS):TS:=fun D σ H=> ∃W:Nat->St->Hp->Prop,(∃m,W m σ H)/\∀m σ H,W m σ H->
 c σ H fun b i=>if b=true then∃N:St->Hp->Prop,(∀d H',N d H'->∃f,f<m/\W f d H')/\j {D with nx:=N,ct:=N,bk:=D.nx} σ i else D.nx σ i
theorem Hg (hp:PassesOwn (model X.prog X.w) X.A X.env X.xe) (hc:PT X c tc) (Z:Cj X body tb):PS X (.While c body [] pos) (Uo tc tb):=by
 intro J s σ H D I h;obtain⟨W,⟨m0,w0⟩,turn⟩:=h;refine wpAny_While (codeAny_whileLoop (fun n O=> ∃j H',Inv X _ j H' O/\W n j H') ?_ m0 ⟨σ,H,I,w0⟩);rintro n s1 ⟨m,F,U,P⟩;refine wpAny_passesOwn hp (thn (hc _ s1 _ F _ U (turn n _ F P)) fun b s2 ⟨E,C,q2⟩=>?_);cases b with
 |true=>
  obtain⟨N,G,q2⟩:=q2;refine wpAny_passesOwn hp (thn (Z _ s2 _ E _ C q2) fun f s3 q3=>?_);cases f with
  |next=>
   obtain⟨d,i,y,x⟩:=q3;obtain⟨u,hm,z⟩:=G _ i x;exact⟨u,hm,d,i,y,z⟩
  |cont=>
   obtain⟨d,i,y,x⟩:=q3;obtain⟨u,hm,z⟩:=G _ i x;exact⟨u,hm,d,i,y,z⟩
  |brk=>exact q3
  |ret v=>exact q3
 |false=>
  exact wpAny_execs_nil ⟨m,E,C,q2⟩
end
structure It where
 go:Nat->Hp->Prop
 yld:Nat->Hp->V->Hp->Prop
 stop:Nat->Hp->Prop
def DK (X:Cx) (d:List (Addr×Obj)) (H:Hp) (b:Addr):Prop:=
 H b=none/\b≠X.env.locals/\b ∉ X.fs/\(b∈X.ex\/X.s₀.heap.objs.size<=b)/\(∀x c,X.env.cells.lookup x=some c->c≠b)/\∀p∈X.pn++d,p.1≠b
theorem Inv.Ji (I:Inv X pins σ H s) (d:s.heap.objs.size<=b) (hn:H' b=none):DK X pins H' b:=by
 refine⟨hn,Nat.ne_of_gt (Nat.lt_of_lt_of_le I.lt d),I.nofs d,.inr (Nat.le_trans I.sz d),fun x c e z=>?_,fun p hp z=>?_⟩
 ·
  obtain⟨v,q⟩:=I.cell x c e;exact absurd (Nat.lt_of_lt_of_le q.lt (by simp_all)) (Nat.lt_irrefl _)
 ·exact absurd (Nat.lt_of_lt_of_le (Heap.lt_size (I.pin p hp).1) (by simp_all)) (Nat.lt_irrefl _)
structure Turn (P:Program) (w:World) (K:W.Frag) (tg:Expr) (J:It) (fp:List Addr) (it:Addr) (tn:Nat->Heap->Prop):Prop where
 mem:it∈fp
 obj: ∀i h,tn i h->∀b∈fp,∃o,h.get? b=some o/\∀v,o.data≠ .cell v
 keep: ∀i h h',tn i h->(∀b∈fp,∀o,h.get? b=some o->h'.get? b=some o)->tn i h'
 item: ∀(X:Cx),X.prog=P->X.w=w->X.K=K->X.calm=true->∀(i:Nat) (pins:List (Addr×Obj)) (s:Shared) (σ:St) (H:Hp) (E:Value->Shared->Prop),Inv X pins σ H s->(∀b∈fp,DK X pins H b)->tn i s.heap->J.go i H->
  wpAny (model P w) X.A (pyNext (.ref it)) (fun r s1=> ∃u,r=some u/\
   wpAny (model P w) X.A (letOwnedTupleGo tg (.ref it) u) (fun _ s2=> ∃x H',Inv X pins σ H' s2/\RelV x u/\J.yld i H x H'/\tn (i+1) s2.heap/\∀b∈fp,H' b=none) E s1) E s
 done: ∀(X:Cx),X.prog=P->X.w=w->X.K=K->X.calm=true->∀(i:Nat) (pins:List (Addr×Obj)) (s:Shared) (σ:St) (H:Hp) (E:Value->Shared->Prop),Inv X pins σ H s->(∀b∈fp,DK X pins H b)->tn i s.heap->J.stop i H->
  wpAny (model P w) X.A (pyNext (.ref it)) (fun r s1=>r=none/\Inv X pins σ H s1) E s
 self: ∀(A:Around) (i:Nat) (s:Shared) (Q:Value->Shared->Prop) (E:Value->Shared->Prop),tn i s.heap->Q (.ref it) s->wpAny (model P w) A (pyIter (.ref it)) Q E s
noncomputable abbrev TI:=St->Hp->(It->Hp->Prop)->Prop
def PIE (X:Cx) (d:List (Addr×Obj)) (σ:St) (tg:Expr) (R:It->Hp->Prop) (f:Value) (s2:Shared):Prop:=
 ∃(it:Addr) (i:List Addr) (tn:Nat->Heap->Prop) (J:It) (H':Hp),f = .ref it/\Inv X d σ H' s2/\Turn X.prog X.w X.K tg J i it tn/\tn 0 s2.heap/\(∀b∈i,DK X d H' b)/\R J H'
def PI (X:Cx) (tg iter:Expr) (wi:TI):Prop:=
 ∀(d:List (Addr×Obj)) (s:Shared) (σ:St) (H:Hp) (R:It->Hp->Prop),Inv X d σ H s->wi σ H R->
  wpAny (model X.prog X.w) X.A (eval iter X.env) (fun v s1=>wpAny (model X.prog X.w) X.A (pyIter v) (PIE X d σ tg R) X.xe s1) X.xe s
theorem HH (f:s.heap.get? it=some o) (hc:o.cls = .type n) (hd:o.data = .fields vs) (hn: ["enumerate","zip","dict_itemiterator","dict_reverseitemiterator","odict_iterator","itertools.zip_longest","itertools.pairwise"].contains n=false) (d:Q () s):wpAny M A (letOwnedTupleGo tg (.ref it) u) Q E s:=by
  cases tg<;>first
    |exact wpAny_pure d
    |(cases u<;>first
        |exact wpAny_pure d
        |(
           refine wpAny_bind (wpAny_load f ?_);rw[hc,hd];show wpAny M A (if(["enumerate","zip","dict_itemiterator","dict_reverseitemiterator","odict_iterator","itertools.zip_longest","itertools.pairwise"].contains n&&vs[0]? == some _)=true then _ else _) Q E s;rw[if_neg (by lia)];exact wpAny_pure d))
noncomputable def Itl (K:W.Frag) (a:Addr):It:=
 ⟨fun i H=> ∃xs x,cQ K H a xs/\xs[i]?=some x,fun i H x H'=>H'=H/\∀xs,cQ K H a xs->xs[i]?=some x,fun i H=> ∃xs,cQ K H a xs/\xs.length<=i⟩
noncomputable def Itt (K:W.Frag) (a:Addr):It:=
 ⟨fun i H=> ∃xs x,dO K H a xs/\xs[i]?=some x,fun i H x H'=>H'=H/\∀xs,dO K H a xs->xs[i]?=some x,fun i H=> ∃xs,dO K H a xs/\xs.length<=i⟩
noncomputable def P4 (lo:Int) (n:Nat):It:=⟨fun i _=>i<n,fun i H x H'=>H'=H/\x = .int (lo+i),fun i _=>n<=i⟩
theorem KY {P:Program} {w:World} {K:W.Frag} {tg:Expr} (a it:Addr):Turn P w K tg (Itl K a) [it] it (fun i h=>h.IsListIter it a i) where
 mem:=by simp
 obj:=fun i h st b f=>by
  have e:b=it:=by simp_all
  subst e;obtain⟨o,e,c,d⟩:=st;exact⟨o,e,fun v z=>by simp_all⟩
 keep:=fun i h h' st k=>st.at fun o e=>k it (by simp) o e
 item:=by
  intro X O hw Z hc i m s σ H E I hf st hg;subst O hw Z;obtain⟨xs,x,y,hx⟩:=hg;obtain⟨U,C,p,hz⟩:=I.list y;obtain⟨u,hu,ru⟩:=C.get hx;obtain⟨f0,f1,f2,J,F,G⟩:=hf it (by simp);refine wpAny_pyNext_list_item st p.isList (x:=u) (by simp_all) fun h' j sb=>?_;have I1:=I.turned (t':=s.toks) (fun b o f e=>(sb.2 b f).trans e) f0 f1 J F G;obtain⟨o,e,c,d⟩:=id j;exact⟨u,rfl,HH e c d (by decide) ⟨x,H,I1,ru,⟨rfl,fun ys hy=>by rw[I.HA hy y];exact hx⟩,j,fun b f=>(hf b f).1⟩⟩
 done:=by
  intro X O hw Z hc i m s σ H E I hf st hg;subst O hw Z;obtain⟨xs,y,hx⟩:=hg;obtain⟨U,C,p,hz⟩:=I.list y;obtain⟨f0,f1,f2,J,F,G⟩:=hf it (by simp);have hl:=C.length;exact wpAny_pyNext_list_end (I.ok.hd hc) st p.isList (by simp_all) fun h' eb=>⟨rfl,I.turned (fun b o f e=>eb b o f e) f0 f1 J F G⟩
 self:=fun _ _ _ _ _ st h=>wpAny_pyIter_listiter st h
theorem Il {P:Program} {w:World} {K:W.Frag} {tg:Expr} (a it:Addr):Turn P w K tg (Itt K a) [it] it (fun i h=>h.IsTupleIter it a i) where
 mem:=by simp
 obj:=fun i h st b f=>by
  have e:b=it:=by simp_all
  subst e;obtain⟨o,e,c,d⟩:=st;exact⟨o,e,fun v z=>by simp_all⟩
 keep:=fun i h h' st k=>st.at fun o e=>k it (by simp) o e
 item:=by
  intro X O hw Z hc i m s σ H E I hf st hg;subst O hw Z;obtain⟨xs,x,y,hx⟩:=hg;obtain⟨U,C,p,hz⟩:=I.tuple y;obtain⟨u,hu,ru⟩:=C.get hx;obtain⟨f0,f1,f2,J,F,G⟩:=hf it (by simp);refine wpAny_pyNext_tuple_item st ((p)) (x:=u) (by simp_all) fun h' j sb=>?_;have I1:=I.turned (t':=s.toks) (fun b o f e=>(sb.2 b f).trans e) f0 f1 J F G;obtain⟨o,e,c,d⟩:=id j;exact⟨u,rfl,HH e c d (by decide) ⟨x,H,I1,ru,⟨rfl,fun ys hy=>by rw[I.EE hy y];exact hx⟩,j,fun b f=>(hf b f).1⟩⟩
 done:=by
  intro X O hw Z hc i m s σ H E I hf st hg;subst O hw Z;obtain⟨xs,y,hx⟩:=hg;obtain⟨U,C,p,hz⟩:=I.tuple y;obtain⟨f0,f1,f2,J,F,G⟩:=hf it (by simp);have hl:=C.length;exact wpAny_pyNext_tuple_end (I.ok.hd hc) st ((p)) (by simp_all) fun h' eb=>⟨rfl,I.turned (fun b o f e=>eb b o f e) f0 f1 J F G⟩
 self:=fun _ _ _ _ _ st h=>wpAny_pyIter_tupleiter st h
theorem Im {P:Program} {w:World} {K:W.Frag} {tg:Expr} (it:Addr) (lo:Int) (n:Nat):Turn P w K tg (P4 lo n) [it] it (fun i h=>IsRangeIter h it (lo+(i:Nat)*1) ((n:Int) - (i:Nat)) 1) where
 mem:=by simp
 obj:=fun i h st b d=>by
  simp_all
 keep:=fun i h m st k=>k it (by simp) _ st
 item:=by
  intro X z hw C hc i j s σ H E I hf st hg;subst z hw C;obtain⟨f0,f1,U,y,u,x⟩:=hf it (by simp);have W:=Walks.range (prog:=X.prog) (w:=X.w) (I.ok.hd hc) it lo 1 n;refine W.item i s _ _ hg st fun v m tk J f F=>?_;obtain⟨t,rfl⟩:=J;have O:Inv X _ σ H {s with heap:=m,toks:=tk}:=I.turned (fun b o d e=>F b o (by simp_all) e) f0 f1 y u x;refine⟨_,rfl,HH f rfl rfl (by decide) ⟨.int _,H,O,⟨t,?_⟩,⟨rfl,rfl⟩,f,fun b d=>(hf b d).1⟩⟩;rw[Int.mul_one]
 done:=by
  intro X z hw C hc i j s σ H E I hf st hg;obtain⟨f0,f1,U,y,u,x⟩:=hf it (by simp);exact wpAny_pyNext_range_end (I.ok.hd hc) st (by have:n<=i:=hg;lia) fun m G=>⟨rfl,I.turned (fun b o d e=>G b o d e) f0 f1 y u x⟩
 self:=fun _ _ _ _ _ st h=>wpAny_pyIter_rangeiter st h
section
theorem G7 {X:Cx} {tg:Expr} {d:List (Addr×Obj)} {σ:St} {H:Hp} {s:Shared} {R:It->Hp->Prop} {E:Value->Shared->Prop} {lo hi:Int} {t u v:Tok} {tk:Nat} (I:Inv X d σ H s) (h1 : -(2 ^ 62)<=lo) (i:lo<2 ^ 62) (m : -(2 ^ 62)<=hi) (x:hi<2 ^ 62)
  (q:R (P4 lo (hi - lo).toNat) H):wpAny (model X.prog X.w) X.A (pyIter (.ref s.heap.objs.size)) (PIE X d σ tg R) E {s with heap:=s.heap.push {cls:= .type "range",data:= .fields #[.int lo t,.int hi u,.int 1 v]},toks:=tk}:=by
 refine wpAny_pyIter_range (IsRange.new ..) (small_one h1 i m x) ?_;have f:Inv X _ σ H {s with heap:=s.heap.push {cls:= .type "range",data:= .fields #[.int lo t,.int hi u,.int 1 v]},toks:=tk}:=I.kept fun b o e=>Heap.get?_push_of_some _ e;refine⟨_,_,_,_,H,rfl,
  f.kept fun b o e=>Heap.get?_push_of_some _ e,Im _ lo _,?_,fun b y=>?_,q⟩
 ·
  have e1:lo+((0:Nat))*1=lo:=by simp
  have j:(((hi - lo).toNat)) - ((0:Nat))=Builtin.Range.rangeSize lo hi 1:=by rw[rangeSize_one];split<;>lia
  rw[e1,j];exact Heap.get?_push_size _ rfl
 ·
  have e:b=(s.heap.push {cls:= .type "range",data:= .fields #[.int lo t,.int hi u,.int 1 v]}).objs.size:=by simp_all
  subst e;exact f.Ji (Nat.le_refl _) (f.hok.fresh (Nat.le_refl _))
def MN (wi:TI) (g:TG) (v:TS):TS:=fun D σ H=>wi σ H fun J y=> ∃W:Nat->Nat->St->Hp->Prop,(∃m,W 0 m σ y)/\∀i m σ H,W i m σ H->
 (J.stop i H/\D.nx σ H)\/(J.go i H/\∃N:St->Hp->Prop,(∀d H',N d H'->∃j,j<m/\W (i+1) j d H')/\∀x H',J.yld i H x H'->g x σ H' fun f u=>v {D with nx:=N,ct:=N,bk:=D.nx} f u)
noncomputable def FI (d:List Addr) (h:Heap):List (Addr×Obj):=d.filterMap fun b=>(h.get? b).map fun o=>(b,o)
theorem rC (d:b∈fp) (e:h.get? b=some o):(b,o)∈FI fp h:=List.mem_filterMap.mpr ⟨b,d,by simp_all⟩
theorem LM (hp:p∈FI fp h):p.1∈fp/\h.get? p.1=some p.2:=by
 obtain⟨b,d,e⟩:=List.mem_filterMap.mp hp;cases q:h.get? b<;>grind
theorem Inv.pinned (I:Inv X pins σ H s) (hf: ∀b∈fp,DK X pins H b) (m: ∀b∈fp,∃o,s.heap.get? b=some o/\∀v,o.data≠ .cell v):Inv X (pins++FI fp s.heap) σ H s:=
 I.B_ fun p hp=>(List.mem_append.mp hp).elim (fun z=>I.pin p (List.mem_append_right _ z)) fun z=>by
  obtain⟨f,e⟩:=LM z;obtain⟨f0,f1,j,_⟩:=hf _ f;obtain⟨o,i,d⟩:=m _ f;rw[e] at i;cases i;exact⟨e,f0,f1,j,d⟩
theorem Inv.unpinned (I:Inv X (pins++pl) σ H s):Inv X pins σ H s:=I.B_ fun p hp=>I.pin p (List.mem_append_right _ (List.mem_append_left _ hp))
theorem gr (hp:PassesOwn (model X.prog X.w) X.A X.env X.xe) (hc:X.calm=true) (hi:PI X tg iter wi) (hg:PG X tg g) (F:Cj X body tb) (hs: ∀x,foldedSetIterable iter X.env x=pure x:=by intro _;rfl):PS X (.For tg iter body [] pos) (MN wi g tb):=by
 intro Z s σ H D I h;refine wpAny_For (thn (hi _ s σ H _ I h) fun v s1 h1=>thn h1 fun itv s2 h2=>?_) hs;obtain⟨it,fp,tn,J,H2,e,I2,T,st2,f2,W,⟨m0,w0⟩,turn⟩:=h2;subst e

 have C: ∀{H':Hp},(∀b∈fp,H' b=none)->∀b∈fp,DK X _ H' b:=fun hn b F=>⟨hn b F,(f2 b F).2⟩;refine codeAny_forLoop_any (fun n s'=> ∃i E H',Inv X _ E H' s'/\tn i s'.heap/\(∀b∈fp,H' b=none)/\W i n E H') ?_ m0 ⟨0,σ,H2,I2,st2,fun b F=>(f2 b F).1,w0⟩;rintro n s3 ⟨i,σ3,H3,I3,P,U,w3⟩;rcases turn i n _ H3 w3 with⟨stop,qn⟩|⟨go,N,hN,step⟩
 ·
  refine wpAny_passesOwn hp (thn (T.done X rfl rfl rfl hc i _ s3 _ H3 _ I3 (C U) P stop) fun r s4 ⟨hr,I4⟩=>?_);subst hr;exact wpAny_execs_nil ⟨σ3,H3,I4,qn⟩
 ·
  refine wpAny_passesOwn hp (thn (T.item X rfl rfl rfl hc i _ s3 _ H3 _ I3 (C U) P go) fun r s4 ⟨u,hr,h4⟩=>?_);subst hr;refine wpAny_passesOwn hp (thn h4 fun _ s5 ⟨x,H5,I5,r5,y5,G,fr5⟩=>?_);have I5':=I5.pinned (C fr5) (T.obj _ _ G);refine wpAny_passesOwn hp (thn (hg _ s5 _ H5 x u _ I5' r5 (step x H5 y5)) fun _ s6 ⟨σ6,H6,I6,q6⟩=>?_);refine wpAny_passesOwn hp (thn (F _ s6 _ H6 _ I6 q6) fun f s7 q7=>?_);have again: ∀{j:St} {y:Hp},Inv X _ _ y s7->N _ y->∃m,m<n/\∃i E H',Inv X Z E H' s7/\tn i _/\(∀b∈fp,H' b=none)/\W i m E H':=fun{j y} z O=>by
   obtain⟨m',hm,w7⟩:=hN _ y O;refine⟨m',hm,_,j,y,z.unpinned,T.keep _ _ _ G fun b F o e=>(z.pin _ (List.mem_append_right _ (List.mem_append_right _ (rC F e)))).1,fun b F=>?_,w7⟩;obtain⟨o,e,d⟩:=T.obj _ _ G b F;exact(z.pin _ (List.mem_append_right _ (List.mem_append_right _ (rC F e)))).2.1
  cases f with
  |next=>obtain⟨j,y,z,O⟩:=q7;exact again z O
  |cont=>obtain⟨j,y,z,O⟩:=q7;exact again z O
  |brk=>obtain⟨j,y,z,q7⟩:=q7;exact⟨j,y,z.unpinned,q7⟩
  |ret v=>obtain⟨x7,j,y,z,r7,q7⟩:=q7;exact⟨x7,j,y,z.unpinned,r7,q7⟩
end
theorem Pe {K:W.Frag} {g:TG} {v:TS} {D:Ends} (Pv:Nat->St->Hp->Prop) (h0:Pv 0 σ H) (hl: ∀i σ H,i<=xs.length->Pv i σ H->cQ K H a xs) (hs: ∀i x σ H,xs[i]?=some x->Pv i σ H->g x σ H fun d j=>v {D with nx:=Pv (i+1),ct:=Pv (i+1),bk:=D.nx} d j) (hd: ∀σ H,Pv xs.length σ H->D.nx σ H):
  ∃W:Nat->Nat->St->Hp->Prop,(∃m,W 0 m σ H)/\∀i m σ H,W i m σ H->
   ((Itl K a).stop i H/\D.nx σ H)\/((Itl K a).go i H/\∃N:St->Hp->Prop,(∀f H',N f H'->∃z,z<m/\W (i+1) z f H')/\∀x H',(Itl K a).yld i H x H'->g x σ H' fun d j=>v {D with nx:=N,ct:=N,bk:=D.nx} d j):=by
 refine⟨fun i m σ H=>m=xs.length - i/\i<=xs.length/\Pv i σ H,⟨_,rfl,Nat.zero_le _,h0⟩,?_⟩;rintro i m σ H ⟨rfl,hi,p⟩;have q:=hl i σ H hi p;by_cases u:i<xs.length
 ·
  refine .inr ⟨⟨xs,xs[i],q,by simp_all⟩,_,fun f H' C=>⟨_,by lia,rfl,u,C⟩,fun x H' y=>?_⟩;obtain⟨e,y⟩:=y;subst e;exact hs i x σ _ (y xs q) p
 ·
  have e:i=xs.length:=by lia
  subst e;exact .inl ⟨⟨xs,q,Nat.le_refl _⟩,hd σ H p⟩
theorem RQ {K:W.Frag} {g:TG} {v:TS} {D:Ends} (Pv:Nat->St->Hp->Prop) (h0:Pv 0 σ H) (hl: ∀i σ H,i<=xs.length->Pv i σ H->dO K H a xs) (hs: ∀i x σ H,xs[i]?=some x->Pv i σ H->g x σ H fun d j=>v {D with nx:=Pv (i+1),ct:=Pv (i+1),bk:=D.nx} d j) (hd: ∀σ H,Pv xs.length σ H->D.nx σ H):
  ∃W:Nat->Nat->St->Hp->Prop,(∃m,W 0 m σ H)/\∀i m σ H,W i m σ H->
   ((Itt K a).stop i H/\D.nx σ H)\/((Itt K a).go i H/\∃N:St->Hp->Prop,(∀f H',N f H'->∃z,z<m/\W (i+1) z f H')/\∀x H',(Itt K a).yld i H x H'->g x σ H' fun d j=>v {D with nx:=N,ct:=N,bk:=D.nx} d j):=by
 refine⟨fun i m σ H=>m=xs.length - i/\i<=xs.length/\Pv i σ H,⟨_,rfl,Nat.zero_le _,h0⟩,?_⟩;rintro i m σ H ⟨rfl,hi,p⟩;have q:=hl i σ H hi p;by_cases u:i<xs.length
 ·
  refine .inr ⟨⟨xs,xs[i],q,by simp_all⟩,_,fun f H' C=>⟨_,by lia,rfl,u,C⟩,fun x H' y=>?_⟩;obtain⟨e,y⟩:=y;subst e;exact hs i x σ _ (y xs q) p
 ·
  have e:i=xs.length:=by lia
  subst e;exact .inl ⟨⟨xs,q,Nat.le_refl _⟩,hd σ H p⟩
theorem Ml {lo:Int} {g:TG} {v:TS} {D:Ends} (Pv:Nat->St->Hp->Prop) (h0:Pv 0 σ H) (hs: ∀i σ H,i<n->Pv i σ H->g (.int (lo+i)) σ H fun d u=>v {D with nx:=Pv (i+1),ct:=Pv (i+1),bk:=D.nx} d u) (hd: ∀σ H,Pv n σ H->D.nx σ H):
  ∃W:Nat->Nat->St->Hp->Prop,(∃m,W 0 m σ H)/\∀i m σ H,W i m σ H->
   ((P4 lo n).stop i H/\D.nx σ H)\/((P4 lo n).go i H/\∃N:St->Hp->Prop,(∀j H',N j H'->∃z,z<m/\W (i+1) z j H')/\∀x H',(P4 lo n).yld i H x H'->g x σ H' fun d u=>v {D with nx:=N,ct:=N,bk:=D.nx} d u):=by
 refine⟨fun i m σ H=>m=n - i/\i<=n/\Pv i σ H,⟨n,rfl,Nat.zero_le _,h0⟩,?_⟩;rintro i m σ H ⟨rfl,hi,p⟩;by_cases f:i<n
 ·
  refine .inr ⟨f,_,fun j H' C=>⟨_,by lia,rfl,f,C⟩,fun x H' y=>?_⟩;obtain⟨e,y⟩:=y;subst e y;exact hs i σ _ f p
 ·
  have e:i=n:=by lia
  subst e;exact .inl ⟨Nat.le_refl _,hd σ H p⟩
noncomputable abbrev R2:=V->V->Hp->VK->Prop
def iW (X:Cx) (f:Value->Value->Sem Value) (r:R2):Prop:=
 ∀(d:List (Addr×Obj)) (s:Shared) (σ:St) (H:Hp) (x y:V) (v u:Value) (Q:VK),Inv X d σ H s->RelV x v->RelV y u->r x y H Q->
  wpAny (model X.prog X.w) X.A (f v u) (EP X d σ Q) X.xe s
def UnR (X:Cx) (f:Value->Sem Value) (r:V->Hp->VK->Prop):Prop:=
 ∀(d:List (Addr×Obj)) (s:Shared) (σ:St) (H:Hp) (x:V) (v:Value) (Q:VK),Inv X d σ H s->RelV x v->r x H Q->
  wpAny (model X.prog X.w) X.A (f v) (EP X d σ Q) X.xe s
def b9 (X:Cx) (f:Value) (r:List V->Hp->VK->Prop):Prop:=
 ∀(d:List (Addr×Obj)) (s:Shared) (σ:St) (H:Hp) (xs:List V) (us:List Value) (Q:VK),Inv X d σ H s->Vals xs us->r xs H Q->
  wpAny (model X.prog X.w) X.A (call f us) (EP X d σ Q) X.xe s
def Qq (r:R2) (d i:TE):TE:=fun σ H Q=>d σ H fun x j=>i σ j fun y f=>r x y f Q
def tUn (r:V->Hp->VK->Prop) (d:TE):TE:=fun σ H Q=>d σ H fun x f=>r x f Q
def rI (C:Int->Int->Prop) (g:Int->Int->V):R2:=fun x y H Q=>match x,y with
 | .int i,.int j=>C i j/\Q (g i j) H
 |_,_=>False
theorem Yz (h:rI C g x y H Q): ∃i j,x = .int i/\y = .int j/\C i j/\Q (g i j) H:=by
 unfold rI at h;split at h
 ·exact⟨_,_,rfl,rfl,h⟩
 ·exact h.elim
def IJ (g:Int->Int->V):R2:=fun x y H Q=>match x,y with
 | .int i,.int j=>Q (g i j) H
 |_,_=>False
theorem NA (h:IJ g x y H Q): ∃i j,x = .int i/\y = .int j/\Q (g i j) H:=by
 unfold IJ at h;split at h
 ·exact⟨_,_,rfl,rfl,h⟩
 ·exact h.elim
def rU (g:Int->V):V->Hp->VK->Prop:=fun x H Q=>match x with
 | .int i=>Q (g i) H
 |_=>False
theorem Yr (h:rU g x H Q): ∃i,x = .int i/\Q (g i) H:=by
 unfold rU at h;split at h
 ·exact⟨_,rfl,h⟩
 ·exact h.elim
section
theorem XS {X:Cx} {a b:Expr} {E C:TE} (ha:PE X a E) (J:PE X b C) {d:List (Addr×Obj)} {s:Shared} {σ:St} {H:Hp} {R:V->V->Hp->Prop} (I:Inv X d σ H s)
  (h:E σ H fun x z=>C σ z fun y i=>R x y i) {Q:Value->Shared->Prop} {f:Value->Value->Sem Value}
  (hf: ∀v u s2 x y i,Inv X d σ i s2->RelV x v->RelV y u->R x y i->wpAny (model X.prog X.w) X.A (f v u) Q X.xe s2):
  wpAny (model X.prog X.w) X.A (eval a X.env) (fun v j=>wpAny (model X.prog X.w) X.A (eval b X.env) (fun u m=>wpAny (model X.prog X.w) X.A (f v u) Q X.xe m) X.xe j) X.xe s:=by
 refine iY (ha _ s σ H _ I h) fun v s1 x z G r1 q1=>?_;refine iY (J _ s1 σ z _ G q1) fun u s2 y i F r2 q2=>?_;exact hf v u s2 x y i F r1 r2 q2
theorem aF (i:iW X (binaryOp op) r) (ha:PE X a ta) (z:PE X b tb):PE X (.BinOp a op b pos) (Qq r ta tb):=by
 intro d s σ H Q I h;exact wpAny_BinOp (XS ha z I h fun v u s2 x y j f m C q=>i _ s2 σ j x y v u Q f m C q)
theorem NQ (f:UnR X (unaryOp op) r) (ha:PE X a ta):PE X (.UnaryOp op a pos) (tUn r ta):=by
 intro d s σ H Q I h;exact UnaryOp_ (iY (ha _ s σ H _ I h) fun v s1 x i j r1 q1=>f _ s1 σ i x v Q j r1 q1)
theorem So {g:Int->Int->Int} (rule: ∀(i j:Int) (t u:Tok) (s:Shared) (Q:Value->Shared->Prop) (E:Value->Shared->Prop),C i j->Q (.int (g i j) s.toks) {s with toks:=s.toks+1}->wpAny (model X.prog X.w) X.A (f (.int i t) (.int j u)) Q E s):
  iW X f (rI C fun i j=> .int (g i j)):=by
 intro d s σ H x y v u Q I m z h;obtain⟨i,j,rfl,rfl,hc,q⟩:=Yz h;obtain⟨t,rfl⟩:=m;obtain⟨t',rfl⟩:=z;exact rule i j t t' s _ _ hc ⟨.int _,H,I.tok _,⟨_,rfl⟩,q⟩
theorem LL {g:Int->Int->Int} (rule: ∀(i j:Int) (t u:Tok) (s:Shared) (Q:Value->Shared->Prop) (E:Value->Shared->Prop),Q (.int (g i j) s.toks) {s with toks:=s.toks+1}->wpAny (model X.prog X.w) X.A (f (.int i t) (.int j u)) Q E s):
  iW X f (IJ fun i j=> .int (g i j)):=by
 intro d s σ H x y v u Q I m z h;obtain⟨i,j,rfl,rfl,q⟩:=NA h;obtain⟨t,rfl⟩:=m;obtain⟨t',rfl⟩:=z;exact rule i j t t' s _ _ ⟨.int _,H,I.tok _,⟨_,rfl⟩,q⟩
theorem Rf {g:Int->Int->Bool} (rule: ∀(i j:Int) (t u:Tok) (s:Shared) (Q:Value->Shared->Prop) (E:Value->Shared->Prop),Q (.bool (g i j)) s->wpAny (model X.prog X.w) X.A (f (.int i t) (.int j u)) Q E s):
  iW X f (IJ fun i j=> .bl (g i j)):=by
 intro d s σ H x y v u Q I m z h;obtain⟨i,j,rfl,rfl,q⟩:=NA h;obtain⟨t,rfl⟩:=m;obtain⟨t',rfl⟩:=z;exact rule i j t t' s _ _ ⟨.bl _,H,I,rfl,q⟩
def af5 (i j:Int):Prop:=0<j/\j<1073741824
def P8 (i j:Int):Prop:=(-(2 ^ 64)<i/\i<2 ^ 64)\/(-(2 ^ 64)<j/\j<2 ^ 64)
theorem P8.ok (h:P8 i j):IntMulOk i j:=by
 rcases h with⟨h1,d⟩|⟨h1,d⟩
 ·exact .of_left (intBits_le_64 h1 d)
 ·exact .of_right (intBits_le_64 h1 d)
theorem Ik (k:Nat):(0:Int)<=2 ^ k:=by
 rw[two_pow_cast];exact Int.natCast_nonneg _
theorem U7:iW X (binaryOp .Add) (IJ fun i j=> .int (i+j)):=LL fun _ _ _ _ _ _ _ q=>add_int q
theorem cZ:iW X (binaryOp .Sub) (IJ fun i j=> .int (i - j)):=LL fun _ _ _ _ _ _ _ q=>sub_int q
theorem mG:iW X (binaryOp .Mult) (rI P8 fun i j=> .int (i*j)):=So fun _ _ _ _ _ _ _ hc q=>mul_int q hc.ok
theorem bV:iW X (binaryOp .FloorDiv) (rI af5 fun i j=> .int (i / j)):=So fun i j _ _ _ _ _ hc q=>by
 have h1:=hc.1;have d:=hc.2;exact floordiv_int (by lia) (by rw[Int.fdiv_eq_ediv_of_nonneg i (by lia)];exact q) (.inl (PyProof.noPylong_small (by lia)))
theorem bH:iW X (binaryOp .Mod) (rI (fun _ j=>0<j) fun i j=> .int (i % j)):=So fun i j _ _ _ _ _ hc q=>by
 exact mod_int' (by lia) (by rw[Int.fmod_eq_emod_of_nonneg i (by lia)];exact q)
theorem mF:iW X (binaryOp .RShift) (rI (fun _ j=>0<=j) fun i j=> .int (i / 2 ^ j.toNat)):=So fun i j _ _ _ _ _ hc q=>
 rshift_int hc (by rw[Int.fdiv_eq_ediv_of_nonneg i (Ik _)];exact q)
theorem wI:iW X (binaryOp .BitAnd) (IJ fun i j=> .int (Builtin.bitAnd i j)):=LL fun _ _ _ _ _ _ _ q=>and_int q
theorem vM:iW X (binaryOp .BitOr) (IJ fun i j=> .int (Builtin.bitOr i j)):=LL fun _ _ _ _ _ _ _ q=>or_int q
theorem NW:iW X (binaryOp .BitXor) (IJ fun i j=> .int (Builtin.bitXor i j)):=LL fun _ _ _ _ _ _ _ q=>xor_int q
theorem rF:iW X (inplaceOp .Add) (IJ fun i j=> .int (i+j)):=LL fun _ _ _ _ _ _ _ q=>iadd_int q
theorem unI {g:Int->Int} (rule: ∀(i:Int) (t:Tok) (s:Shared) (Q:Value->Shared->Prop) (E:Value->Shared->Prop),Q (.int (g i) s.toks) {s with toks:=s.toks+1}->wpAny (model X.prog X.w) X.A (f (.int i t)) Q E s):
  UnR X f (rU fun i=> .int (g i)):=by
 intro d s σ H x v Q I j h;obtain⟨i,rfl,q⟩:=Yr h;obtain⟨t,rfl⟩:=j;exact rule i t s _ _ ⟨.int _,H,I.tok _,⟨_,rfl⟩,q⟩
theorem Ij:UnR X (unaryOp .USub) (rU fun i=> .int (-i)):=unI fun _ _ _ _ _ q=>neg_int q
end
noncomputable def scal:V->V->Bool
 | .non,.non=>true | .non,.int _=>true | .int _,.non=>true | .non,.bl _=>true | .bl _,.non=>true | .non,.str _=>true | .str _,.non=>true
 | .int _,.int _=>true | .bl _,.bl _=>true | .str _,.str _=>true | .byt _,.byt _=>true
 | .int _,.str _=>true | .str _,.int _=>true | .bl _,.str _=>true | .str _,.bl _=>true
 |_,_=>false
def YA:R2:=fun x y H Q=>scal x y=true/\Q (.bl (decide (x=y))) H
def Yt:R2:=fun x y H Q=>scal x y=true/\Q (.bl (!decide (x=y))) H
theorem KC:decide (V.int i=V.int j)=(i == j):=by
 rw[Bool.eq_iff_iff];simp
theorem Pr:decide (V.bl i=V.bl j)=(i == j):=by
 rw[Bool.eq_iff_iff];simp
theorem KA:decide (V.str i=V.str j)=(i == j):=by
 rw[Bool.eq_iff_iff];simp
theorem KD:decide (V.byt i=V.byt j)=(i.toList == j.toList):=by
 rw[Bool.eq_iff_iff];cases i;cases j;simp
section
theorem bZ (I:Inv X pins σ H s) (q:Q (.bl k) H) (e:k=k'):EP X pins σ Q (.bool k') s:=by
 subst e;exact⟨.bl k,H,I,rfl,q⟩
theorem YI:iW X (compareOp .Eq) YA:=by
 intro m s σ H x y v u Q I f d h;obtain⟨hs,q⟩:=h;cases x with
 |non=>
  cases f;cases y with
  |non=>cases d;exact PySem.EqNone.eq_none_none (bZ I q (rfl))
  |bl j=>cases d;exact PySem.EqNone.eq_none_bool (bZ I q (rfl))
  |int j=>obtain⟨t',rfl⟩:=d;exact PySem.EqNone.eq_none_int (bZ I q (rfl))
  |str j=>obtain⟨t',rfl⟩:=d;exact PySem.EqNone.eq_none_str (bZ I q (rfl))
  |_=>trivial
 |bl i=>
  cases f;cases y with
  |non=>cases d;exact PySem.EqNone.eq_bool_none (bZ I q (rfl))
  |bl j=>cases d;exact eq_bool (bZ I q Pr)
  |str j=>obtain⟨t',rfl⟩:=d;exact PySem.EqMixed.eq_bool_str (bZ I q (rfl))
  |_=>trivial
 |int i=>
  obtain⟨t,rfl⟩:=f;cases y with
  |non=>cases d;exact PySem.EqNone.eq_int_none (bZ I q (rfl))
  |int j=>obtain⟨t',rfl⟩:=d;exact eq_int (bZ I q KC)
  |str j=>obtain⟨t',rfl⟩:=d;exact PySem.EqMixed.eq_int_str (bZ I q (rfl))
  |_=>trivial
 |str i=>
  obtain⟨t,rfl⟩:=f;cases y with
  |non=>cases d;exact PySem.EqNone.eq_str_none (bZ I q (rfl))
  |bl j=>cases d;exact PySem.EqMixed.eq_str_bool (bZ I q (rfl))
  |int j=>obtain⟨t',rfl⟩:=d;exact PySem.EqMixed.eq_str_int (bZ I q (rfl))
  |str j=>obtain⟨t',rfl⟩:=d;exact eq_str (bZ I q KA)
  |_=>trivial
 |byt i=>
  obtain⟨t,rfl⟩:=f;cases y with
  |byt j=>obtain⟨t',rfl⟩:=d;exact W.eq_bytes (bZ I q KD)
  |_=>trivial
 |_=>trivial
theorem YH:iW X (compareOp .NotEq) Yt:=by
 intro m s σ H x y v u Q I f d h;obtain⟨hs,q⟩:=h;cases x with
 |non=>
  cases f;cases y with
  |non=>cases d;exact PySem.EqNone.ne_none_none (bZ I q (rfl))
  |bl j=>cases d;exact PySem.EqNone.ne_none_bool (bZ I q (rfl))
  |int j=>obtain⟨t',rfl⟩:=d;exact PySem.EqNone.ne_none_int (bZ I q (rfl))
  |str j=>obtain⟨t',rfl⟩:=d;exact PySem.EqNone.ne_none_str (bZ I q (rfl))
  |_=>trivial
 |bl i=>
  cases f;cases y with
  |non=>cases d;exact PySem.EqNone.ne_bool_none (bZ I q (rfl))
  |bl j=>cases d;exact ne_bool (bZ I q (congrArg _ Pr))
  |str j=>obtain⟨t',rfl⟩:=d;exact PySem.EqMixed.ne_bool_str (bZ I q (rfl))
  |_=>trivial
 |int i=>
  obtain⟨t,rfl⟩:=f;cases y with
  |non=>cases d;exact PySem.EqNone.ne_int_none (bZ I q (rfl))
  |int j=>obtain⟨t',rfl⟩:=d;exact ne_int (bZ I q (congrArg _ KC))
  |str j=>obtain⟨t',rfl⟩:=d;exact PySem.EqMixed.ne_int_str (bZ I q (rfl))
  |_=>trivial
 |str i=>
  obtain⟨t,rfl⟩:=f;cases y with
  |non=>cases d;exact PySem.EqNone.ne_str_none (bZ I q (rfl))
  |bl j=>cases d;exact PySem.EqMixed.ne_str_bool (bZ I q (rfl))
  |int j=>obtain⟨t',rfl⟩:=d;exact PySem.EqMixed.ne_str_int (bZ I q (rfl))
  |str j=>obtain⟨t',rfl⟩:=d;exact ne_str (bZ I q (congrArg _ KA))
  |_=>trivial
 |byt i=>
  obtain⟨t,rfl⟩:=f;cases y with
  |byt j=>obtain⟨t',rfl⟩:=d;exact W.ne_bytes (bZ I q (congrArg _ KD))
  |_=>trivial
 |_=>trivial
theorem nq:iW X (compareOp .Lt) (IJ fun i j=> .bl (decide (i<j))):=Rf fun _ _ _ _ _ _ _ q=>lt_int q
theorem CG:iW X (compareOp .LtE) (IJ fun i j=> .bl (decide (i<=j))):=Rf fun _ _ _ _ _ _ _ q=>le_int q
theorem vN:iW X (compareOp .Gt) (IJ fun i j=> .bl (decide (j<i))):=Rf fun _ _ _ _ _ _ _ q=>gt_int q
theorem CI:iW X (compareOp .GtE) (IJ fun i j=> .bl (decide (j<=i))):=Rf fun _ _ _ _ _ _ _ q=>ge_int q
theorem LJ:iW X (compareOp .In) (fun x y H Q=> ∃i j,x = .str i/\y = .str j/\Q (.bl (!(Builtin.Str.occurrences j i 0 j.length 1).isEmpty)) H):=by
 intro d s σ H x y v u Q I f m h;obtain⟨i,j,rfl,rfl,q⟩:=h;obtain⟨t,rfl⟩:=f;obtain⟨t',rfl⟩:=m;exact in_str (bZ I q rfl)
theorem U2:iW X (compareOp .Is) (fun x y H Q=>y = .non/\Q (.bl (decide (x = .non))) H):=by
 intro d s σ H x y v u Q I f i h;obtain⟨rfl,q⟩:=h;cases i;refine is_none_gen (bZ I q ?_);cases x<;>first
  |rfl
  |(obtain⟨t,rfl⟩:=f;rfl)
theorem Q_:iW X (compareOp .IsNot) (fun x y H Q=>y = .non/\Q (.bl (!decide (x = .non))) H):=by
 intro d s σ H x y v u Q I f i h;obtain⟨rfl,q⟩:=h;cases i;refine isnot_none_gen (bZ I q ?_);cases x<;>first
  |rfl
  |(obtain⟨t,rfl⟩:=f;rfl)
theorem iW.or (h:iW X f r) (m:iW X f r'):iW X f (fun x y H Q=>r x y H Q\/r' x y H Q):=by
 intro i s σ H x y v u Q I d j q;rcases q with q|q
 ·exact h _ s σ H x y v u Q I d j q
 ·exact m _ s σ H x y v u Q I d j q
theorem nomark (b:Expr) {op:CmpOp} (h:op≠ .In:=by decide) (f:op≠ .NotIn:=by decide):behindInMarks op b=false:=by
 have e1:(op == CmpOp.In)=false:=by simp_all
 have d:(op == CmpOp.NotIn)=false:=by simp_all
 cases b<;>simp[behindInMarks,e1,d]
theorem da (i:iW X (compareOp op) r) (ha:PE X a ta) (z:PE X b tb) (hm:behindInMarks op b=false):PE X (.Compare a [op] [b] pos) (Qq r ta tb):=by
 intro d s σ H Q I h;exact wpAny_Compare1 (XS ha z I h fun v u s2 x y j f m C q=>i _ s2 σ j x y v u Q f m C q) hm
def JJ (t:TE):TT:=fun σ H Q=>t σ H fun x H'=> ∃k,x = .bl k/\Q k H'
theorem aQ (j:iW X (compareOp op) r) (ha:PE X a ta) (F:PE X b tb) (hm:behindInMarks op b=false):PT X (.Compare a [op] [b] pos) (JJ (Qq r ta tb)):=by
 intro d s σ H Q I h;refine wpAny_isTrue_Compare1 (iY (ha _ s σ H _ I h) fun v s1 x C E r1 q1=>iY (F _ s1 σ C _ E q1) fun u s2 y m f r2 q2=>
  thn (j _ s2 σ m x y v u _ f r1 r2 q2) fun c s3 ⟨z,J,G,i,k,e,q3⟩=>?_) hm
 subst e;cases i;exact wpAny_truthy_bool ⟨J,G,q3⟩
def Ir (r u:R2) (j v C:TE):TE:=fun σ H Q=>j σ H fun x E=>v σ E fun y i=>r x y i fun z d=> ∃k,z = .bl k/\
 (if k=true then C σ d fun m f=>u y m f Q else Q (.bl false) d)
theorem CF (O:iW X (compareOp op) r) (f:iW X (compareOp op') r') (ha:PE X a ta) (hb:PE X b tb) (hc:PE X c tc) (hm:lastMarks [op,op'] [b,c]=false:=by with_unfolding_all rfl):PE X (.Compare a [op,op'] [b,c] pos) (Ir r r' ta tb tc):=by
 intro i s σ H Q I h;refine Compare_chain (iY (ha _ s σ H _ I h) fun v s1 x Z I1 r1 q1=>chain_link (iY (hb _ s1 σ Z _ I1 q1) fun u s2 y U G r2 q2=>
  thn (O _ s2 σ U x y v u _ G r1 r2 q2) fun d s3 ⟨z,m,j,J,k,e,q3⟩=>?_)) hm
 subst e;cases J;refine wpAny_truthy_bool ?_;cases k with
 |false=>exact ite_ff ⟨.bl _,m,j,rfl,q3⟩
 |true=>exact ite_tt (chain_last (iY (hc _ s3 σ m _ j q3) fun F P E C I4 r4 q4=>f _ P σ C y E u F Q I4 r2 r4 q4))
theorem Hf (U:iW X (compareOp op) r) (f:iW X (compareOp op') r') (ha:PE X a ta) (hb:PE X b tb) (hc:PE X c tc) (hm:lastMarks [op,op'] [b,c]=false:=by with_unfolding_all rfl):PT X (.Compare a [op,op'] [b,c] pos) (JJ (Ir r r' ta tb tc)):=by
 intro i s σ H Q I h;refine isTrue_chain (iY (ha _ s σ H _ I h) fun v s1 x H1 I1 r1 q1=>test_link (iY (hb _ s1 σ H1 _ I1 q1) fun u s2 y H2 G r2 q2=>
  thn (U _ s2 σ H2 x y v u _ G r1 r2 q2) fun d s3 ⟨z,m,j,J,k,e,q3⟩=>?_)) hm
 subst e;cases J;refine wpAny_truthy_bool ?_;cases k with
 |false=>
  obtain⟨k',e',q'⟩:=q3;cases e';exact ite_ff ⟨m,j,q'⟩
 |true=>
  refine ite_tt (test_last (iY (hc _ s3 σ m _ j q3) fun F Z E C I4 r4 q4=>thn (f _ Z σ C y E u F _ I4 r2 r4 q4) fun d' s5 ⟨z2,H5,O,r5,k2,P,q5⟩=>?_));subst P;cases r5;exact wpAny_truthy_bool ⟨H5,O,q5⟩
theorem CP:(sizeLine:Nat)<2 ^ 63:=by rw[sizeLine_eq];decide
theorem IQ:iW X (binaryOp .Add) (fun x y H Q=> ∃i j,x = .str i/\y = .str j/\i.length+j.length<=sizeLine/\Q (.str (i++j)) H):=by
 intro d s σ H x y v u Q I f z h;obtain⟨i,j,rfl,rfl,m,q⟩:=h;obtain⟨t,rfl⟩:=f;obtain⟨t',rfl⟩:=z;exact add_str (fun t' tk=>⟨.str _,H,I.tok _,⟨_,rfl⟩,q⟩) m
theorem vals1 (r:Vals [x] us): ∃u,us= [u]/\RelV x u:=by
 cases r with
 |cons r1 r2=>cases r2;exact⟨_,rfl,r1⟩
theorem vals2 (r:Vals [x,y] us): ∃u d,us= [u,d]/\RelV x u/\RelV y d:=by
 cases r with
 |cons r1 r2=>
  cases r2 with
  |cons f i=>cases i;exact⟨_,_,rfl,r1,f⟩
theorem PF:b9 X (.builtin "abs") (fun xs H Q=> ∃i,xs= [.int i]/\Q (.int (if i<0 then -i else i)) H):=by
 intro d s σ H xs us Q I r h;obtain⟨i,rfl,q⟩:=h;obtain⟨u,rfl,t,rfl⟩:=vals1 r;exact call_abs_int fun u tk=>⟨.int _,H,I.tok _,⟨_,rfl⟩,q⟩
theorem Mu (hc:X.calm=true):b9 X (.builtin "max") (fun xs H Q=> ∃i j,xs= [.int i,.int j]/\Q (.int (if j > i then j else i)) H):=by
 intro f s σ H xs us Q I r h;obtain⟨i,j,rfl,q⟩:=h;obtain⟨u,m,rfl,⟨t,rfl⟩,⟨t',rfl⟩⟩:=vals2 r;refine max_two_ints (I.ok.hd hc) fun v tk k=>⟨_,H,I.kept k,?_,q⟩;by_cases d:j > i
 ·rw[if_pos d,if_pos d];exact⟨_,rfl⟩
 ·rw[if_neg d,if_neg d];exact⟨_,rfl⟩
theorem Mt (hc:X.calm=true):b9 X (.builtin "min") (fun xs H Q=> ∃i j,xs= [.int i,.int j]/\Q (.int (if j<i then j else i)) H):=by
 intro f s σ H xs us Q I r h;obtain⟨i,j,rfl,q⟩:=h;obtain⟨u,m,rfl,⟨t,rfl⟩,⟨t',rfl⟩⟩:=vals2 r;refine min_two_ints (I.ok.hd hc) fun v tk k=>⟨_,H,I.kept k,?_,q⟩;by_cases d:j<i
 ·rw[if_pos d,if_pos d];exact⟨_,rfl⟩
 ·rw[if_neg d,if_neg d];exact⟨_,rfl⟩
end
structure JA (h:Heap) (x dx C:Addr) (mA:Str->Option Value):Prop where
 obj:h.get? x=some (W.instObj C dx)
 ns:h.Ns1 dx mA
 ne:dx≠x
theorem LX {h:Heap} (n:h.Ns1 dx mA): ∃od,h.get? dx=some od/\∀name,W.lookIn name od=some (mA name):=by
 obtain⟨o,es,m,f,hd,hk,_,hm⟩:=n;refine⟨o,f,fun name=>?_⟩;have e:=hm name;unfold nsFind findBy at e;rw[<-Array.find?_toList] at e;unfold W.lookIn;rw[hd];dsimp only;split
 ·simp_all
 ·
  rename_i q;rw[q] at e;have a:es.toList.any (·.refKey)=false:=by
   rw[List.any_eq_false];intro y i;obtain⟨z,t,d⟩:=hk y (Array.mem_toList_iff.mp i);simp[DictEntry.refKey,d]
  have j: ¬es.toList.any (·.refKey)=true:=by lia
  rw[if_neg j];exact congrArg _ e
theorem JA.look (I:JA h x dx C mA): ∃od,W.InstAt h x (W.instObj C dx) C (some od)/\∀name,W.lookIn name od=some (mA name):=
 let ⟨od,ho,hl⟩:=LX I.ns
 ⟨od,⟨I.obj,rfl,rfl,ho⟩,hl⟩
section
variable {K:W.Frag}
theorem get_map (X:K.In s.heap) (I:JA s.heap x dx C mA) (hg:W.plainGet K C name=true) (hh:W.hasDictIn K C=true) (ha:W.findIn K (.ref C) name=some none) (f:mA name=some v) (d:W.handedIn v=true) (h:Q v {s with toks:=s.toks+1}):
  wpAny (model prog w) A (getAttr (.ref x) name expr) Q E s:=by
 obtain⟨od,J,hl⟩:=I.look;exact W.get_value X J (W.plainGet_of hg).1 (W.findObj_own hh ha rfl (by simp_all)) d h
theorem O8 (X:K.In s.heap) (I:JA s.heap x dx C mA) (hg:W.plainGet K C name=true) (hf:W.findIn K (.ref C) name=some (some (.ref f))) (ht:W.isFn K (.ref f)=true) (d:mA name=none) (h:Q (.ref f,[.ref x]) s):
  wpAny (model prog w) A (getMethod (.ref x) name pl) Q E s:=by
 obtain⟨od,J,hl⟩:=I.look;exact W.method_fn X J (W.plainGet_of hg).1 (W.plainGet_of hg).2 hf (beq_iff_eq.mp ht) (by show(W.lookIn _ od).map _=some _;rw[hl,d];rfl) h
theorem Qy (X:K.In s.heap) (I:JA s.heap x dx C mA) (hs:W.findIn K (.ref C) "__setattr__" = some (some (.builtin "object.__setattr__"))) (hp:W.plainOver K C=true) (ht:W.takerIn K C name=some none) (hh:W.hasDictIn K C=true) (hw:PySem.Within mA ns) (hsz:ns.length<=sizeLine) (h: ∀i,JA i x dx C (fun y=>if y=name then some v else mA y)->Heap.SameBut dx s.heap i->Q () {s with heap:=i,toks:=s.toks+2}):
  wpAny (model prog w) A (setAttr (.ref x) name v) Q E s:=by
 obtain⟨od,J,hl⟩:=I.look;refine W.set_plain X J hs (W.osa_open X J hp ht fun b=>?_);obtain⟨cd,hc,z⟩:=W.any_some hh;have hx:=I.obj;refine wpAny_bind (wpAny_pure (wpAny_bind (wpAny_bind (wpAny_loadPart hx (wpAny_bind (W.Looks.here (W.looks_clsIn X hc) ?_))))));rw[z];refine wpAny_pure (wpAny_bind (wpAny_pure (wpAny_bind ?_)));refine wpAny_nsSet1 I.ns fun i f d=>?_;obtain⟨H,F,G,j,u,m⟩:=f.count (PySem.Within.cons _ v hw);refine wpAny_bind (wpAny_lookBehind j (by rw[u];exact pastItsLine_dict (Nat.le_trans m (by simp_all))) ?_);exact wpAny_pure (h _ ⟨(d.2 _ (Ne.symm I.ne)).trans I.obj,f,I.ne⟩ d)
theorem N8 {R:Result->Shared->Prop} (X:K.In s.heap) (hm:W.makesIn K C=true) (hi:W.findIn K (.ref C) "__init__" = some (some (.ref f))) (hf:W.typeIn K (.ref f)=some (.type "function")) (h:codeAny (model prog w) (A.under (.builtin "type.__call__" ⟨.ref C::vs,kw⟩)) (.call (.ref f) ⟨.ref (s.heap.objs.size+1)::vs,kw⟩) (W.InitBack (s.heap.objs.size+1) R)
   {s with heap:=(s.heap.push W.emptyDict).push (W.instObj C s.heap.objs.size)}):
  codeAny (model prog w) A (.call (.ref C) ⟨vs,kw⟩) R s:=by
 exact W.make_core (W.makes_of X hm) (W.looks_findIn X hi) (fun self=>W.bind_fn X _ hf) (.inl rfl) h
theorem LW {R:Result->Shared->Prop} (X:K.In s.heap) (hm:W.makesIn K C=true) (hi:W.findIn K (.ref C) "__init__" = some (some (.builtin "object.__init__"))) (d: ∀self,W.Looks (model prog w) s.heap (bindSpecial (.builtin "object.__init__") self) (.builtin "object.__init__",[self])) (h:codeAny (model prog w) (A.under (.builtin "type.__call__" ⟨[.ref C],[]⟩)) (.call (.builtin "object.__init__") ⟨[.ref (s.heap.objs.size+1)],[]⟩) (W.InitBack (s.heap.objs.size+1) R)
   {s with heap:=(s.heap.push W.emptyDict).push (W.instObj C s.heap.objs.size)}):
  codeAny (model prog w) A (.call (.ref C) ⟨[],[]⟩) R s:=by
 exact W.make_core (W.makes_of X hm) (W.looks_findIn X hi) d (.inr ⟨rfl,rfl⟩) h
end
noncomputable def bS (f:Str) (v:V):List (Str×V)->List (Str×V)
 | []=>[(f,v)]
 |(g,x)::r=>if g=f then(g,v)::r else(g,x)::bS f v r
theorem AY (f g:Str) (v:V): ∀fs:List (Str×V),(bS f v fs).lookup g=if g=f then some v else fs.lookup g
 | []=>by
  show List.lookup g [(f,v)]=_;by_cases h:g=f
  ·simp_all
  ·simp_all
 |(k,x)::r=>by
  have i:=AY f g v r;rw[show bS f v _=(if k=f then(k,v)::r else(k,x)::bS f v r) from rfl];by_cases hk:k=f
  ·
   rw[if_pos hk];by_cases h:g=k
   ·simp_all
   ·
    have d:=beq_eq_false_iff_ne.mpr h;simp only[List.lookup,d,if_neg (fun e:g=f=>h (e.trans hk.symm))]
  ·
   rw[if_neg hk];by_cases h:g=k
   ·simp_all
   ·
    have d:=beq_eq_false_iff_ne.mpr h;simp only[List.lookup,d];exact i
theorem z6 (f:Str) (v:V): ∀fs:List (Str×V),f∈(bS f v fs).map (·.1)/\∀g,g∈fs.map (·.1)->g∈(bS f v fs).map (·.1)
 | []=>⟨by simp[bS],fun g h=>by simp_all⟩
 |(k,x)::r=>by
  obtain⟨d,i2⟩:=z6 f v r;rw[show bS f v _=(if k=f then(k,v)::r else(k,x)::bS f v r) from rfl];by_cases hk:k=f
  ·simp_all
  ·grind
theorem AZ (f:Str) (v:V): ∀fs:List (Str×V),(bS f v fs).length<=fs.length+1
 | []=>by simp[bS]
 |(k,x)::r=>by
  have d:=AZ f v r;rw[show bS f v _=(if k=f then(k,v)::r else(k,x)::bS f v r) from rfl];by_cases hk:k=f
  ·simp_all
  ·simp_all
theorem sQ.some_of (r:sQ (some v) o): ∃u,o=some u/\RelV v u:=by
 cases o with
 |none=>trivial
 |some u=>exact⟨u,rfl,r⟩
theorem sQ.none_of (r:sQ none o):o=none:=by
 cases o with
 |none=>rfl
 |some u=>trivial
theorem Mg (r:RelV v u):W.handedIn u=true:=by
 cases v with
 |non=>cases((r));rfl
 |bl b=>cases((r));rfl
 |int i=>obtain⟨t,e⟩:=((r));cases e;rfl
 |str x=>obtain⟨t,e⟩:=((r));cases e;rfl
 |byt b=>obtain⟨t,e⟩:=((r));cases e;rfl
 |flt b=>obtain⟨t,e⟩:=((r));cases e;rfl
 |ref a=>cases((r));rfl
 |ty n=>cases((r));rfl
section
theorem Cc (hok:xO P w H h) (e:H a=some (.ins C dx fs)): ∃i,JA h a dx C i/\(∀f,sQ (fs.lookup f) (i f))/\PySem.Within i (fs.map (·.1))/\fs.length<=1000/\H dx=some (.own a):=by
 obtain⟨d,z,ne,ob,i,n,r,q⟩:=((hok a _ e));exact⟨i,⟨ob,n,ne⟩,r,q,z,d⟩
end
structure Uj (K:W.Frag) (C:Addr):Prop where
 pg:W.plainGet K C Str.empty=true
 hd:W.hasDictIn K C=true
 po:W.plainOver K C=true
 sa:W.findIn K (.ref C) "__setattr__" = some (some (.builtin "object.__setattr__"))
theorem Uj.get {K:W.Frag} (c:Uj K C) (f:Str):W.plainGet K C f=true:=c.pg
def bD (K:W.Frag) (C:Addr) (f:Str):Prop:=W.findIn K (.ref C) f=some none
theorem bD.taker {K:W.Frag} (n:bD K C f):W.takerIn K C f=some none:=by
 unfold W.takerIn;rw[(n)];rfl
structure Meth (K:W.Frag) (C:Addr) (m:Str) (f:Addr):Prop where
 at_:W.findIn K (.ref C) m=some (some (.ref f))
 fn:W.isFn K (.ref f)=true
 kp:W.keepIn K (.ref f)=true
section
theorem C5 (I:Inv X pins σ H s) (e:H a=some (.ins C dx fs)) (c:Uj X.K C) (n:bD X.K C f) (l:fs.lookup f=some v) (h: ∀u i,Inv X pins σ H i->RelV v u->Q u i):wpAny (model X.prog X.w) A (getAttr (.ref a) f b) Q E s:=by
 obtain⟨m,O,r,_,_,_⟩:=Cc I.hok e;obtain⟨u,j,d⟩:=sQ.some_of (by rw[<-l];exact r f);exact get_map I.nK O (c.get f) c.hd n j (Mg d) (h u _ (I.tok _) d)
theorem ot (I:Inv X pins σ H s) (e:H a=some (.ins C dx fs)) (c:Uj X.K C) (k:Meth X.K C m g) (l:fs.lookup m=none) (h:Q (.ref g,[.ref a]) s):wpAny (model X.prog X.w) A (getMethod (.ref a) m pl) Q E s:=by
 obtain⟨d,O,r,_,_,_⟩:=Cc I.hok e;have hn:=sQ.none_of (by rw[<-l];exact r m);exact O8 I.nK O (c.get m) k.at_ k.fn hn h
theorem Ct (I:Inv X pins σ H s) (e:H a=some (.ins C dx fs)) (c:Uj X.K C) (n:bD X.K C f) (hl:fs.length<1000) (J:RelV y u) (h: ∀i,Inv X pins σ (upd H a (.ins C dx (bS f y fs))) i->Q () i):wpAny (model X.prog X.w) A (setAttr (.ref a) f u) Q E s:=by
 obtain⟨F,O,r,wi,_,j⟩:=Cc I.hok e;have v:(fs.map (·.1)).length<=sizeLine:=by rw[List.length_map,sizeLine_eq];lia
 refine Qy I.nK O c.sa c.po n.taker c.hd wi v fun m d G=>h _ ?_;have hd: ∃o,m.get? dx=some o:=let ⟨o,_,_,e',_⟩:=d.ns;⟨o,e'⟩;refine I.write (by rw[e];exact True.intro) (.inr j) (fun b q x z=>(G.2 b x).trans z) hd ?_;refine⟨by rw[aj O.ne];exact j,?_,O.ne,d.obj,_,d.ns,fun g=>?_,fun g hg=>?_⟩
 ·have:=AZ f y fs;lia
 ·
  rw[AY];by_cases q:g=f
  ·rw[if_pos q,if_pos q];exact J
  ·simp_all
 ·
  by_cases q:g=f
  ·rw[q];exact(z6 f y fs).1
  ·
   refine(z6 f y fs).2 g (wi g fun z=>hg ?_);show(if g=f then some u else F g)=none;rw[if_neg q];exact z
theorem Inv.made (I:Inv X pins σ H s):Inv X pins σ (upd (upd H s.heap.objs.size (.own (s.heap.objs.size+1))) (s.heap.objs.size+1) (.ins C s.heap.objs.size []))
  {s with heap:=(s.heap.push W.emptyDict).push (W.instObj C s.heap.objs.size)}:=by
 have e1:(s.heap.push _).get? _=some W.emptyDict:=Heap.get?_push_size _ rfl;have d:=by
  have:=Heap.get?_push_size (s.heap.push W.emptyDict) (o:=W.instObj C s.heap.objs.size) rfl;rwa [Heap.size_push] at this
 have j:(s.heap.push _).Ns _ _:=⟨_,#[],_,e1,rfl,(fun e he=>absurd he (by simp)),fun _=>rfl⟩;have i:=I.laid (o:= .own (s.heap.objs.size+1)) (t':=s.toks) (fun b u q=>Heap.get?_push_of_some _ q) (Nat.le_refl _) ⟨_,e1⟩;refine i.laid (fun b u q=>Heap.get?_push_of_some _ q) (Nat.le_of_eq (Heap.size_push _ _)) ?_;have ne:s.heap.objs.size≠s.heap.objs.size+1:=Nat.ne_of_lt (Nat.lt_succ_self _);refine⟨by rw[aj ne,aq],Nat.zero_le _,ne,d,_,(Heap.Ns1.of_empty j).at fun o q=>Heap.get?_push_of_some _ q,fun _=>True.intro,fun y f=>absurd rfl f⟩
theorem R4 (i:attributeBase e f env (eval e env)=eval e env) (h:wpAny (model prog w) A (eval e env) (fun o d=>wpAny (model prog w) A (getAttr o f true) Q E d) E s):wpAny (model prog w) A (eval (.Attribute e f pos) env) Q E s:=
 Attribute_any_ h (by rw[arm_eval_Attribute,i])
end
section
inductive yW (K:W.Frag) (H:Hp):V->Value->Prop where
 |non:yW K H .non (.type "NoneType")
 |bl (x:Bool):yW K H (.bl x) (.type "bool")
 |int (i:Int):yW K H (.int i) (.type "int")
 |str (x:Str):yW K H (.str x) (.type "str")
 |flt (x:UInt64):yW K H (.flt x) (.type "float")
 |lst {a:Addr} {xs:List V} (e:H a=some (.lst xs)):yW K H (.ref a) (.type "list")
 |frz {a:Addr} {o:Obj} {xs:List V} (e:H a=some (.frz o (.lst xs))):yW K H (.ref a) (.type "list")
 |tup {a:Addr} {xs:List V} (e:H a=some (.tup xs)):yW K H (.ref a) (.type "tuple")
 |dK {a:Addr} {kvs:List (Key×V)} (e:H a=some (.dK kvs)):yW K H (.ref a) (.type "dict")
 |dT {a:Addr} {kvs:List (List Key×V)} (e:H a=some (.dT kvs)):yW K H (.ref a) (.type "dict")
 |
   ins {a C dx:Addr} {fs:List (Str×V)} (e:H a=some (.ins C dx fs)) (cl:Uj K C) (ha:W.findIn K (.ref C) "__class__" = some (some (.builtin "object.__class__")))
   (hn:W.specialIn K (.builtin "object.__class__") "__get__" = some (some (.builtin "getset_descriptor.__get__"))) (htk:W.takesIn K (.builtin "object.__class__")=some true)
   (hm:W.mroIn K C (.type "object")=some true):yW K H (.ref a) (.ref C)
theorem L9 (I:Inv X pins σ H s) (d:RelV x u) (ty:yW X.K H x t) (e:W.kitOne X.K t c=some b) (h: ∀tk,Q (.bool b) {s with toks:=tk}):
  wpAny (model X.prog X.w) A (call (.builtin "isinstance") [u,c]) Q E s:=by
 cases ty with
 |non=>cases((d));exact W.kia_one W.kitx_none I.nK True.intro e (fun z=>nomatch z) h
 |bl y=>cases((d));exact W.kia_one W.kitx_bool I.nK True.intro e (fun z=>nomatch z) h
 |int i=>obtain⟨t,q⟩:=((d));cases q;exact W.kia_one W.kitx_int I.nK True.intro e (fun z=>nomatch z) h
 |str y=>obtain⟨t,q⟩:=((d));cases q;exact W.kia_one W.kitx_str I.nK True.intro e (fun z=>nomatch z) h
 |flt y=>obtain⟨t,q⟩:=((d));cases q;exact W.kia_one W.kitx_float I.nK True.intro e (fun z=>nomatch z) h
 | @lst a xs f=>
  cases((d));obtain⟨_,_,n,_,h1⟩:=((I.hok a _ f));exact W.kia_one W.kitx_list I.nK ⟨_,h1,rfl⟩ e (fun z=>nomatch z) h
 | @frz a ob xs f=>
  cases((d));obtain⟨_,_,_,n,_,h1⟩:=((I.hok a _ f));exact W.kia_one W.kitx_list I.nK ⟨_,h1,rfl⟩ e (fun z=>nomatch z) h
 | @tup a xs f=>
  cases((d));obtain⟨_,_,_,p⟩:=((I.hok a _ f));obtain⟨o,h1,j,_⟩:=p;exact W.kia_one W.kitx_tuple I.nK ⟨o,h1,j⟩ e (fun z=>nomatch z) h
 | @dK a m f=>
  cases((d));obtain⟨_,_,vs,_,p⟩:=((I.hok a _ f));obtain⟨o,es,v,h1,j,_⟩:=p;exact W.kia_one W.kitx_dict I.nK ⟨o,h1,j.1⟩ e (fun z=>nomatch z) h
 | @dT a m f=>
  cases((d));obtain⟨_,_,xs,_,o,es,v,h1,j,_⟩:=((I.hok a _ f));exact W.kia_one W.kitx_dict I.nK ⟨o,h1,j.1⟩ e (fun z=>nomatch z) h
 | @ins a C dx fs f cl ha hn htk hm=>
  cases((d));obtain⟨F,O,_⟩:=Cc I.hok f;obtain⟨od,J,_⟩:=O.look;exact W.kia_one (W.kitx_own (cl.get _) cl.hd ha hn htk hm) I.nK J e (fun z=>nomatch z) h
end
structure dz (k:Nat) (A:Around):Prop where
 hd:A.handled=none
 dp:A.depth+3*k+5<recursionLimit
 un:A.units+16*k+200<cLine
theorem dz.mono (r:dz k A) (h:j<=k):dz j A:=⟨r.hd,by have:=r.dp;lia,by have:=r.un;lia⟩
theorem dz.deeper (r:dz (k+1) A) (env:Env):dz k (A.deeper env):=
 ⟨r.hd,by have:=r.dp;show A.depth+1+3*k+5<_;lia,by have:=r.un;show A.units+3+16*k+200<_;lia⟩
theorem Jb {A:Around}:(A.under (.builtin "type.__call__" ⟨.ref C::us,kw⟩)).depth=A.depth+1:=rfl
theorem Ja {A:Around}:(A.under (.builtin "type.__call__" ⟨.ref C::us,kw⟩)).units=A.units+1:=rfl
theorem dz.make (r:dz (k+1) A) (C:Addr) (us:List Value) (kw:List (Str×Value)):dz k (A.under (.builtin "type.__call__" ⟨.ref C::us,kw⟩)):=
 ⟨r.hd,by have:=r.dp;rw[Jb];lia,by have:=r.un;rw[Ja];lia⟩
theorem dz.depth (r:dz k A):A.depth<recursionLimit:=by have:=r.dp;lia
theorem dz.units (r:dz k A):A.units+64<cLine:=by have:=r.un;lia
def Io:TA:=fun _ H Q=>Q [] H
def EG (f:TE) (d:TA):TA:=fun σ H Q=>f σ H fun x j=>d σ j fun xs i=>Q (x::xs) i
section
theorem aw:PA X [] Io:=fun _ _ _ _ H Q I h=>Calls.spliced_nil ⟨[],H,I,.nil,h⟩
theorem Kg (ha:PE X e te) (v:PA X es t) (hs:starEach (e::es) X.env=(false,eval e X.env)::starEach es X.env:=by rfl):PA X (e::es) (EG te t):=by
 intro pos d s σ H Q I h;rw[hs];refine Calls.spliced_cons (iY (ha _ s σ H _ I h) fun u s1 x j m r1 q1=>?_);exact iY (v _ _ s1 σ j _ m q1) fun us s2 xs i f r2 q2=>⟨_,i,f,.cons r1 r2,q2⟩
def Up (t:TA):TE:=fun σ H Q=>t σ H fun xs d=>xs.length<=sizeLine/\∀p,d p=none->Q (.ref p) (upd d p (.tup xs))
def Uu (t:TA):TE:=fun σ H Q=>t σ H fun xs d=>xs.length<=sizeLine/\∀p,d p=none->Q (.ref p) (upd d p (.lst xs))
theorem cI {x1} (h:PA X es t):PE X (.Tuple es x1 pos) (Up t):=by
 intro f s σ H Q I i;refine wpAny_Tuple_spliced (thn (h _ _ s σ H _ I i) fun us s1 ⟨xs,j,d,r,z,q⟩=>⟨by rw[<-r.length];exact z,?_⟩);have hf:=d.hok.fresh (Nat.le_refl _);refine⟨.ref _,_,d.laid (fun b u e=>Heap.get?_push_of_some _ e) (Nat.le_refl _) ?_,rfl,q _ hf⟩;exact⟨z,us,r,⟨_,Heap.get?_push_size _ rfl,rfl,_,rfl⟩⟩
theorem jt (h:PA X es t):PE X (.List es pos) (Uu t):=by
 intro f s σ H Q I i;refine wpAny_List_spliced (thn (h _ _ s σ H _ I i) fun us s1 ⟨xs,j,d,r,z,q⟩=>⟨by rw[<-r.length];exact z,?_⟩);have hf:=d.hok.fresh (Nat.le_refl _);refine⟨.ref _,_,d.laid (fun b u e=>Heap.get?_push_of_some _ e) (Nat.le_refl _) ?_,rfl,q _ hf⟩;exact⟨z,us,0,r,Heap.get?_push_size _ rfl⟩
end
noncomputable abbrev Sp:=List V->Hp->VK->XK->Prop
noncomputable abbrev Ie:=List Env->Hp->Shared->XK->Value->Shared->Prop
structure JC (P:Program) (w:World) (K:W.Frag) (mg:Str->Option Value) (base:Heap) (A:Around) (outer:List Env) (s:Shared) (H:Hp):Prop where
 frames:A.frames=some outer
 mod:Mod K mg base
 bs: ∀b o,base.get? b=some o->s.heap.get? b=some o/\H b=none
 bsz:base.objs.size<=s.heap.objs.size
 funs:s.heap.FunFrames base outer
 frf: ∀b∈frs outer,H b=none
 hok:xO P w H s.heap
 bare:AllBare s.gens
def CE (outer:List Env) (P:Program) (w:World) (H:Hp) (s:Shared) (Q:VK) (u:Value) (d:Shared):Prop:=
 ∃v H',d.os=s.os/\AllBare d.gens/\Un (frs outer) [] H H' s.heap d.heap/\xO P w H' d.heap/\RelV v u/\Q v H'
def CR (f:Ie) (outer:List Env) (P:Program) (w:World) (H:Hp) (s:Shared) (Q:VK) (E:XK) (r:Result) (d:Shared):Prop:=
 match r with
 | .ok (.ret u)=>CE outer P w H s Q u d
 | .ok _=>False
 | .error e=>f outer H s E e d
structure yZ (P:Program) (w:World) (K:W.Frag) (mg:Str->Option Value) (base:Heap) (CX:Ie) (k:Nat) (f:Addr) (fd:FuncData) (ps:List Str) (sp:Sp):Prop where
 len: ∀vs H Q E,sp vs H Q E->vs.length=ps.length
 run: ∀(A:Around) (outer:List Env) (s:Shared) (H:Hp) (args:Args) (us:List Value) (vs:List V) (Q:VK) (E:XK),dz k A->JC P w K mg base A outer s H->BindsTo s fd args (ps.zip us)->Vals vs us->sp vs H Q E->
  codeAny (model P w) A (.call (.ref f) args) (CR CX outer P w H s Q E) s
theorem JC.make {K:W.Frag} (e:JC P w K mg base A outer s H) (C:Addr) (us:List Value) (kw:List (Str×Value)):
  JC P w K mg base (A.under (.builtin "type.__call__" ⟨.ref C::us,kw⟩)) outer s H:=⟨by first|exact e.frames|rfl,e.mod,e.bs,e.bsz,e.funs,e.frf,e.hok,e.bare⟩
section
theorem Inv.RT (I:Inv X pins σ H s):JC X.prog X.w X.K X.mg X.base X.A X.stack s H:=
 ⟨I.ok.frames,I.ok.mod,I.bs,Nat.le_trans I.ok.bsz I.sz,I.stack,I.B6,I.hok,I.bare⟩
theorem Inv.after (I:Inv X pins σ H s) (h:CE X.stack X.prog X.w H s Q u s'):EP X pins σ Q u s':=by
 obtain⟨v,H',os,bare,un,hok,r,q⟩:=h;obtain⟨hh,g,d,t,f⟩:=s';obtain rfl:f=s.os:=os;exact⟨v,H',I.call un hok bare (fun b z=>absurd z (by simp)),r,q⟩
end
def GV (sp:Sp) (d:List V) (E:XK) (t:TA):TE:=fun σ H Q=>t σ H fun vs f=>sp (vs++d) f Q E
def ML (C:Addr) (sp:Sp) (d:List V) (E:XK) (t:TA):TE:=fun σ H Q=>t σ H fun vs f=> ∀x dx,f x=none->f dx=none->dx≠x->
 sp (.ref x::(vs++d)) (upd (upd f dx (.own x)) x (.ins C dx [])) (fun v i=>v = .non/\Q (.ref x) i) E
def Binds (K:W.Frag) (f:FuncData) (d:List Str) (ds:List Value):Prop:=
 ∀(s:Shared) (us:List Value),K.In s.heap->(us++ds).length=d.length->BindsTo s f ⟨us,[]⟩ (d.zip (us++ds))
theorem Binds.all {K:W.Frag} (h: ∀us:List Value,us.length=ps.length->bindArgs fd ⟨us,[]⟩=pure (ps.zip us)):Binds K fd ps []:=fun s us _ hl=>by
 rw[List.append_nil] at hl⊢;exact .of_eq (h us hl)
def Passes (i:Ie) (X:Cx) (E:XK):Prop:= ∀(d:List (Addr×Obj)) (σ:St) (H:Hp) (s:Shared) (e:Value) (f:Shared),Inv X d σ H s->i X.stack H s E e f->X.xe e f
section
theorem Fy (F:yZ X.prog X.w X.K X.mg X.base CX k f fd ps sp) (i:dz k X.A) (j:Binds X.K fd ps ds) (hd:Vals dvs ds) (hx:Passes CX X E) (I:Inv X pins σ H s) (r:Vals vs us) (h:sp (vs++dvs) H Q E):wpAny (model X.prog X.w) X.A (call (.ref f) us) (EP X pins σ Q) X.xe s:=by
 have r2:=r.append hd;have hl:(us++ds).length=ps.length:=by rw[<-r2.length];exact F.len _ _ _ _ h
 refine wpAny_call (codeAny_mono (F.run _ _ s H _ _ _ Q E i I.RT (j s us I.nK hl) r2 h) fun r m d=>?_);cases r with
 |error e=>exact hx _ σ H s e m I d
 |ok v=>
  cases v with
  |ret u=>exact I.after d
  |next=>trivial
  |brk=>trivial
  |cont=>trivial
theorem Kf (F:yZ X.prog X.w X.K X.mg X.base CX k f fd ps sp) (u:dz k X.A) (hg:Gl X x) (hm:X.mg x=some (.ref f)) (hk:W.keepIn X.K (.ref f)=true) (v:Binds X.K fd ps ds) (hd:Vals dvs ds) (hx:Passes CX X E) (ha:PA X (e::es) t) (i:(x == ("__debug__" : Str))=false:=by decide) (he:starEach (e::es) X.env=(false,eval e X.env)::starEach es X.env:=by rfl) (d:(backTo pos (starEach es X.env)).any (·.1)=false:=by rfl):
  PE X (.Call (.Name x p) (e::es) [] pos) (GV sp dvs E t):=by
 intro m s σ H Q I h;refine wpAny_Call_Name_kw (lS I hg hm ?_ i);refine W.callWith_K I.ok.mod.kin hk (iY (ha _ _ s σ H _ I h) fun us s1 vs y j r q=>⟨j.nK,?_⟩) he d;exact Fy F u v hd hx j r q
structure Mk (K:W.Frag) (C f:Addr):Prop where
 makes:W.makesIn K C=true
 init:W.findIn K (.ref C) "__init__" = some (some (.ref f))
 fn:W.isFn K (.ref f)=true
 kp:W.keepIn K (.ref C)=true
theorem Nc (M:Mk X.K C f) (F:yZ X.prog X.w X.K X.mg X.base CX k f fd ps sp) (G:dz (k+1) X.A) (J:Binds X.K fd ps ds) (hd:Vals dvs ds) (hx:Passes CX X E) (I:Inv X pins σ H s) (r:Vals vs us) (h: ∀x dx,H x=none->H dx=none->dx≠x->sp (.ref x::(vs++dvs)) (upd (upd H dx (.own x)) x (.ins C dx [])) (fun v y=>v = .non/\Q (.ref x) y) E):
  wpAny (model X.prog X.w) X.A (call (.ref C) us) (EP X pins σ Q) X.xe s:=by
 have j:=h _ _ (I.hok.fresh (Nat.le_succ _)) (I.hok.fresh (Nat.le_refl _)) (Nat.ne_of_lt (Nat.lt_succ_self _));have i:=Inv.made (C:=C) I;have r2:Vals (V.ref (s.heap.objs.size+1)::(vs++dvs)) _:= .cons rfl (r.append hd);have hl:=by
  have e:=r2.length;rw[F.len _ _ _ _ j] at e;exact e.symm
 refine wpAny_call (N8 I.nK M.makes M.init (beq_iff_eq.mp M.fn) (codeAny_mono (F.run _ _ _ _ _ _ _ _ E (G.make C us [])
  (i.RT.make C us []) (J _ _ i.nK hl) r2 j) fun r m d=>?_))
 cases r with
 |error e=>exact hx _ σ _ _ e m i d
 |ok P=>
  cases P with
  |ret u=>
   obtain⟨v,H',O,z,ev,q3⟩:=i.after d;subst ev;exact⟨z,⟨V.ref _,H',O,rfl,q3⟩⟩
  |next=>trivial
  |brk=>trivial
  |cont=>trivial
theorem Q4 (M:Mk X.K C f) (F:yZ X.prog X.w X.K X.mg X.base CX k f fd ps sp) (u:dz (k+1) X.A) (hg:Gl X x) (hm:X.mg x=some (.ref C)) (v:Binds X.K fd ps ds) (hd:Vals dvs ds) (hx:Passes CX X E) (ha:PA X (e::es) t) (i:(x == ("__debug__" : Str))=false:=by decide) (he:starEach (e::es) X.env=(false,eval e X.env)::starEach es X.env:=by rfl) (d:(backTo pos (starEach es X.env)).any (·.1)=false:=by rfl):
  PE X (.Call (.Name x p) (e::es) [] pos) (ML C sp dvs E t):=by
 intro m s σ H Q I h;refine wpAny_Call_Name_kw (lS I hg hm ?_ i);refine W.callWith_K I.ok.mod.kin M.kp (iY (ha _ _ s σ H _ I h) fun us s1 vs y j r q=>⟨j.nK,?_⟩) he d;exact Nc M F u v hd hx j r q
end
structure pC (N P:List Str) (sc:Scope):Prop where
 kind:sc.kind = .function
 co:sc.isCoroutine=false
 gen:sc.isGenerator=false
 nd:N.Nodup
 pre:N.take P.length=P
 par: ∀x∈P,sc.names.lookup x=some .local\/sc.names.lookup x=some .cell
 nofree: ∀y∈sc.names,y.2≠ .free
theorem E7 {kindOf:Str->Option NameKind}: ∀{binds:List (Str×Value)} {m:Str->Option Value},(∀v,(x,v) ∉ binds)->bindL kindOf binds m x=m x
 | [],_,_=>rfl
 |(n,v)::r,m,h=>by
  unfold bindL;rw[E7 fun w hw=>h w (List.mem_cons_of_mem _ hw)];split
  ·grind
  ·rfl
theorem E9 {kindOf:Str->Option NameKind}: ∀{binds:List (Str×Value)} {m:Str->Option Value},(∀v,(x,v) ∉ binds)->bindC kindOf binds m x=m x
 | [],_,_=>rfl
 |(n,v)::r,m,h=>by
  unfold bindC;rw[E9 fun w hw=>h w (List.mem_cons_of_mem _ hw)];split
  ·rfl
  ·grind
theorem E8 {kindOf:Str->Option NameKind}: ∀{P:List Str} {vs:List Value} {i:Nat} {m:Str->Option Value},P.Nodup->P[i]?=some x->vs[i]?=some v->kindOf x=some .local->
  bindL kindOf (P.zip vs) m x=some v
 | [],_,_,_,_,h,_,_=>by trivial
 |_::_,[],_,_,_,_,h,_=>by trivial
 |p::P,w::vs,0,m,nd,h1,h2,hk=>by
  simp at h1 h2;subst h1;subst h2;show bindL _ ((p,w)::P.zip vs) m p=_;unfold bindL;rw[E7 fun v d=>(List.nodup_cons.mp nd).1 (List.of_mem_zip d).1,if_pos hk];simp
 |p::P,w::vs,i+1,m,nd,h1,h2,hk=>by
  unfold bindL;exact E8 (List.nodup_cons.mp nd).2 (‹_›) (‹_›) hk
theorem E_ {kindOf:Str->Option NameKind}: ∀{P:List Str} {vs:List Value} {i:Nat} {m:Str->Option Value},P.Nodup->P[i]?=some x->vs[i]?=some v->kindOf x≠some .local->
  bindC kindOf (P.zip vs) m x=some v
 | [],_,_,_,_,h,_,_=>by trivial
 |_::_,[],_,_,_,_,h,_=>by trivial
 |p::P,w::vs,0,m,nd,h1,h2,hk=>by
  simp at h1 h2;subst h1;subst h2;show bindC _ ((p,w)::P.zip vs) m p=_;unfold bindC;rw[E9 fun v d=>(List.nodup_cons.mp nd).1 (List.of_mem_zip d).1,if_neg hk];simp
 |p::P,w::vs,i+1,m,nd,h1,h2,hk=>by
  unfold bindC;exact E_ (List.nodup_cons.mp nd).2 (‹_›) (‹_›) hk
noncomputable def start (N:List Str) (vs:List V):St:=vs.map some++List.replicate (N.length - vs.length) none
noncomputable def Dz (i:Ie) (P:Program) (w:World) (K:W.Frag) (mg:Str->Option Value) (base:Heap) (N:List Str) (qual:Str) (scope:Scope) (f:Addr) (cd:Value) (A:Around) (outer:List Env) (s:Shared) (H:Hp) (E:XK):Cx where
 prog:=P
 w:=w
 K:=K
 mg:=mg
 base:=base
 A:=A.deeper (envOfC qual scope s.heap.objs.size f cd)
 N:=N
 s₀:=s
 H₀:=H
 env:=envOfC qual scope s.heap.objs.size f cd
 outer:=outer
 stack:=envOfC qual scope s.heap.objs.size f cd::outer
 ex:=[]
 calm:=true
 fn:=fun _=>true
 pn:=[]
 xe:=fun e j=>wpAny (model P w) (A.deeper (envOfC qual scope s.heap.objs.size f cd)) (leaving (envOfC qual scope s.heap.objs.size f cd) e) (fun _ d=>i outer H s E e d) (fun m d=>i outer H s E m d) j
theorem HW {sc:Scope} {n:Nat} {x:Str} (h:sc.names.lookup x=some .cell): ∃c,(cellsFrom n sc.names []).lookup x=some c:=by
 have q:=W.cellsFrom_some _ n [] (.inl h);exact Option.isSome_iff_exists.mp q
theorem Ma {G:Ie} {P:Program} {w:World} {K:W.Frag} {mg:Str->Option Value} {base:Heap} {N j:List Str} {qual:Str} {scope:Scope} {f:Addr} {cd:Value} {A:Around} {outer:List Env} {s s1:Shared} {H:Hp} {E:XK} {us:List Value} {vs:List V}
  (S:pC N j scope) (hd:A.handled=none) (e0:JC P w K mg base A outer s H) (hl:vs.length=j.length) (r:Vals vs us)
  (x:InCallC s s.heap.objs.size (bindL (envOfC qual scope s.heap.objs.size f cd).kindOf (j.zip us) fun _=>none) (cellsFrom (s.heap.objs.size+1) scope.names []) (bindC (envOfC qual scope s.heap.objs.size f cd).kindOf (j.zip us) fun _=>none) s1):
  Inv (Dz G P w K mg base N qual scope f cd A outer s H E) [] (start N vs) H s1:=by
 have J:j.length<=N.length:=by have:=congrArg List.length S.pre;rw[List.length_take] at this;lia
 obtain⟨h1,tk,rfl,hk⟩:=x.done;have m: ∀b,b ∉ (Dz G P w K mg base N qual scope f cd A outer s H E).ex:=fun b z=>absurd (show b∈([]) from z) (by simp);refine⟨⟨e0.mod,S.kind,rfl,rfl,Nat.le_refl _,fun y z c h1 d=>?_,fun y C=>?_,fun y c _ h=>?_,fun _=>hd,Around.frames_deeper e0.frames,.inr ⟨rfl,rfl⟩,fun b z=>absurd z (m b),e0.bs,e0.bsz,fun b _ _=>m b,fun b z=>absurd z (m b),e0.funs,e0.frf⟩,
  rfl,e0.bare,Un.kept hk,⟨_,x.toInCall.ns,fun i y v h1 d U=>?_⟩,fun y c h=>⟨_,x.cell y c h⟩,e0.hok.fresh (Nat.le_refl _),fun y c h=>?_,fun p hp=>absurd (show p∈([]) from hp) (by simp),e0.hok.kept hk,?_⟩
 ·exact name_of_addr x.apart (PySem.mem_of_lookup h1) (PySem.mem_of_lookup d)
 ·
  rcases C with C|C
  ·exact HW C
  ·exact absurd rfl (S.nofree _ (PySem.mem_of_lookup C))
 ·exact Nat.le_of_lt (x.above y c (PySem.mem_of_lookup h))
 ·have hi:i<vs.length:=by
   unfold start at d;by_cases hi:i<vs.length
   ·exact hi
   ·
    rw[List.getElem?_append_right (by simpa using hi)] at d;rw[List.getElem?_replicate] at d;split at d<;>cases d
  have ha:vs[i]?=some v:=by
   unfold start at d;rw[List.getElem?_append_left (by simpa using hi)] at d;cases e:vs[i]?<;>simp_all
  obtain⟨u,I,O⟩:=r.get ha;have hp:j[i]?=some y:=by
   rw[<-S.pre,List.getElem?_take_of_lt (by lia)];exact h1
  have F:j.Nodup:=by rw[<-S.pre];exact S.nd.sublist (List.take_sublist _ _)
  refine⟨u,O,?_⟩;rcases S.par y (List.mem_of_getElem? hp) with k|k
  ·exact .inl ⟨k,E8 F hp I k⟩
  ·
   obtain⟨c,e⟩:=HW k;refine .inr ⟨.inl k,c,e,?_⟩;have q:=x.cell y c e;rw[E_ F hp I (by show scope.names.lookup y≠_;rw[k];decide)] at q;exact q
 ·exact e0.hok.fresh (Nat.le_of_lt (x.above y c (PySem.mem_of_lookup h)))
 ·
  unfold start;show _=N.length;rw[List.length_append,List.length_map,List.length_replicate];lia
theorem Kv {z:Ie} {P:Program} {w:World} {K:W.Frag} {mg:Str->Option Value} {base:Heap} {k:Nat} {f:Addr} {name qual:Str} {params:Arguments} {body:List Stmt} {scope:Scope} {Z kV doc pm d ct oc:Value} {an od:Option Addr}
  {X:Array (Option Value)} {N C:List Str} {sp:Sp} (lk:K.lookup f=some ⟨oc,od,.func (W.fnOf name qual params body scope Z kV doc pm an d ct),X⟩) (O:W.codeIn K d qual=true) (S:pC N C scope)
  (len: ∀vs H Q E,sp vs H Q E->vs.length=C.length)
  (
   hbody: ∀(A:Around) (outer:List Env) (s:Shared) (H:Hp) (vs:List V) (Q:VK) (E:XK),dz k (A.deeper (envOfC qual scope s.heap.objs.size f d))->sp vs H Q E->
   ∃t,Cj (Dz z P w K mg base N qual scope f d A outer s H E) body t/\t {nx:=fun _ H'=>Q .non H',rt:=Q} (start N vs) H):
  yZ P w K mg base z (k+1) f (W.fnOf name qual params body scope Z kV doc pm an d ct) C sp:=by
 refine⟨len,fun A outer s H args us vs Q E U e0 hb r m=>?_⟩;have hl:=len _ _ _ _ m;have KX:=e0.mod.kin.keeps fun b o e=>(e0.bs b o e).1;have lim:=e0.mod.nolimit.keeps fun b o e=>(e0.bs b o e).1;have j: ∀y∈C.zip us,scope.names.lookup y.1=some _\/(scope.names.lookup y.1=some _/\((cellsFrom (s.heap.objs.size+1) _ []).lookup y.1).isSome=true):=fun⟨n,v⟩ hy=>by
  rcases S.par n (List.of_mem_zip hy).1 with q|q
  ·exact .inl q
  ·exact .inr ⟨q,W.cellsFrom_some _ _ _ (.inl q)⟩
 refine codeAny_call_function U.depth (KX _ _ lk) rfl S.co S.gen rfl (W.codeRec_of KX O) (hb _ _ _ _ ?_);refine wpAny_newFunctionEnv_cells S.kind j fun env he s1 x=>?_;subst he;refine⟨lim.keeps x.toInCall.keep,codeAny_func ?_⟩;obtain⟨t,ht,hq⟩:=hbody A _ s H vs Q E (U.deeper _) m;have I:Inv (Dz z P w K mg _ N _ _ f _ A _ s H E) [] _ H s1:=Ma S U.hd e0 hl r x;refine wpAny_mono (ht [] s1 _ H _ I hq) (fun fl F hs=>?_) fun e F hs=>hs;have fin: ∀{i:St} {H':Hp} {v:V} {u:Value},Inv (Dz z P w K mg base N qual scope f d A _ s H E) [] i H' F->RelV v u->Q v H'->CE outer P w H s Q u F:=
  fun{i H' v u} J G q=>⟨v,H',J.os,J.bare,J.base,J.hok,G,q⟩
 cases fl with
 |ret u=>
  obtain⟨v,i,H',J,G,q⟩:=hs;exact fin J G q
 |next=>
  obtain⟨i,H',J,q⟩:=hs;exact fin (v:=V.non) J rfl q
 |brk=>
  obtain⟨_,_,_,q⟩:=hs;exact False.elim q
 |cont=>
  obtain⟨_,_,_,q⟩:=hs;exact False.elim q
section
def Yh (r:List V->Hp->VK->Prop) (t:TA):TE:=fun σ H Q=>t σ H fun vs d=>r vs d Q
theorem NS {X:Cx} {x:Str} {p pos:Pos} {e:Expr} {es:List Expr} {t:TA} {id:String} {r:List V->Hp->VK->Prop} (hc:b9 X (.builtin id) r) (hg:Gl X x) (hm:X.mg x=none) (j:bootBuiltins x=some (.builtin id)) (ha:PA X (e::es) t) (hn:x≠ "__name__" :=by decide) (f:(x == ("__debug__" : Str))=false:=by decide)
  (he:starEach (e::es) X.env=(false,eval e X.env)::starEach es X.env:=by rfl) (d:(backTo pos (starEach es X.env)).any (·.1)=false:=by rfl):PE X (.Call (.Name x p) (e::es) [] pos) (Yh r t):=by
 intro i s σ H Q I h;refine wpAny_Call_Name_kw (wW I hg hm j ?_ hn f);exact PyProof.Rows.callWith_builtin1 (iY (ha _ _ s σ H _ I h) fun us s1 vs m u r1 q1=>hc _ s1 σ m vs us Q u r1 q1) he d
theorem LG (hc:b9 X (.type T) r) (hg:Gl X x) (hm:X.mg x=none) (j:bootBuiltins x=some (.type T)) (ha:PA X (e::es) t) (hn:x≠ "__name__" :=by decide) (f:(x == ("__debug__" : Str))=false:=by decide) (he:starEach (e::es) X.env=(false,eval e X.env)::starEach es X.env:=by rfl) (d:(backTo pos (starEach es X.env)).any (·.1)=false:=by rfl):PE X (.Call (.Name x p) (e::es) [] pos) (Yh r t):=by
 intro i s σ H Q I h;refine wpAny_Call_Name_kw (wW I hg hm j ?_ hn f);exact PyProof.Rows.callWith_type1 (iY (ha _ _ s σ H _ I h) fun us s1 vs m u r1 q1=>hc _ s1 σ m vs us Q u r1 q1) he d
end
end L2
namespace HT
open PySem PyProof.Rows
section
open PySem.SeqAt
open PySem.AutoSeq1 (wpAny_loadPart')
open PySem.MeetsSeq PySem.MeetsSeq2 PySem.MeetsSeq3
end
section
theorem RY (ht:IsTup s.heap t vs.toArray) (z:IsTup s.heap b ws.toArray) (C:vs≠[]) (h1:ws= []->Q (.ref t) s) (x:ws≠[]->Q (.ref s.heap.objs.size) {s with heap:=s.heap.push {cls:= .type "tuple",data:= .seq (vs++ws).toArray}}) (hsz:vs.length+ws.length<=sizeLine):wpAny (model prog w) A (binaryOp .Add (.ref t) (.ref b)) Q E s:=by
 obtain⟨⟨cls,dd,data,u⟩,f,hc,n,hd⟩:=id ht;obtain⟨⟨m,y,data2,v⟩,d,i,j,hd2⟩:=id z;subst hc hd i hd2;have e:vs.toArray++ws.toArray=(vs++ws).toArray:=by simp
 by_cases hw:ws= []
 ·exact concat_meets ⟨_,f,rfl⟩ ⟨_,d,rfl⟩ noFill_tuple_add seq_tuple_add PySem.F.slot_tuple_add PySem.F.entry_tuple_add (PySem.F.args_tuple_add_2 _ _)
   (tuple_addW1 t b _ _ n j dd _ u _ (by simp_all) (by simp_all)) ⟨f,d,h1 hw⟩
 ·refine concat_meets ⟨_,f,rfl⟩ ⟨_,d,rfl⟩ noFill_tuple_add seq_tuple_add PySem.F.slot_tuple_add PySem.F.entry_tuple_add (PySem.F.args_tuple_add_2 _ _)
   (tuple_addW2 t b _ _ n j dd _ u _ (by simp_all) (by simp_all) (by trivial)) ⟨f,d,?_⟩
  rw[e];exact x hw
noncomputable def rg (n d:Nat):Option Int->Nat
 |none=>d
 |some v=>if v<0 then(v+(n:Int)).toNat else min v.toNat n
theorem JU (n d k:Nat):rg n d (some (k:Int))=min k n:=rfl
theorem agj (n d:Nat) (hd:d<=n) (o:Option Int):rg n d o<=n:=by
 cases o with
 |none=>exact hd
 |some v=>
  show(if v<0 then(v+(n)).toNat else min _ n)<=n;by_cases f:v<0
  ·lia
  ·rw[if_neg f];exact Nat.min_le_right _ _
theorem KL (v:Int) (n d:Nat):(if v<0 then max (v+(n:Int)) 0 else min v (n:Int))=((rg n d (some v):Nat):Int):=by
 show(if v<0 then max _ 0 else min v _)=(((if v<0 then(v+(n)).toNat else min _ n)));by_cases f:v<0
 ·simp_all
 ·lia
theorem Jv (lo hi:Option Int) (n:Nat):Builtin.Slice.sliceAdjust lo hi 1 (n:Int)=(((rg n 0 lo:Nat):Int),((rg n n hi:Nat):Int)):=by
 refine Prod.ext ?_ ?_
 ·
  cases lo with
  |none=>rfl
  |some v=>exact KL v n 0
 ·
  cases hi with
  |none=>rfl
  |some v=>exact KL v n n
theorem IK (i j:Nat):Builtin.Slice.slicePlaces (i:Int) (j:Int) 1=j - i:=by
 unfold Builtin.Slice.slicePlaces;have h1:(1:Int) > 0:=by lia
 simp only[h1,if_true,Int.ediv_one];split<;>lia
theorem Cr (p:IsPart v o) (h:Q o s):wpAny (model prog w) A (Builtin.Slice.slicePartIndex v) Q E s:=by
 cases p with
 |none=>exact slicePart_none h
 |int i t=>exact slicePart_int h
theorem zc {lo:Option Int} {Q:Int×Int×Nat->Shared->Prop} (hs:s.heap.IsSliceOf sl vl vu .none) (pl:IsPart vl lo) (pu:IsPart vu hi) (h:Q (((rg n 0 lo:Nat):Int),1,rg n n hi - rg n 0 lo) s):wpAny (model prog w) A (Builtin.Slice.sliceApplied (.ref sl) (pure (n:Int))) Q E s:=by
 obtain⟨os,f,i,d⟩:=id hs;refine wpAny_bind (wpAny_bind (wpAny_field f d (x:=vl) rfl (wpAny_bind (wpAny_field f d (x:=vu) rfl (wpAny_bind (wpAny_field f d rfl (wpAny_pure ?_)))))));refine wpAny_bind (slicePart_none ?_);refine wpAny_bind (Cr pl (wpAny_bind (Cr pu (wpAny_bind (wpAny_pure ?_)))));show wpAny _ _ (match Builtin.Slice.sliceAdjust lo hi 1 _ with|(lo,hi)=>pure (lo,(1:Int),Builtin.Slice.slicePlaces lo hi 1)) _ _ s
 rw[Jv lo hi n];show wpAny _ _ (pure _) _ _ s;rw[IK];exact wpAny_pure h
theorem NM (xs:Array Value) (i k:Nat):((List.range k).filterMap fun(m:Nat)=>xs[((i:Int)+(m:Int)*1).toNat]?).toArray=((xs.toList.drop i).take k).toArray:=by
 have e:(fun(m:Nat)=>xs[((i)+(m:Int)*1).toNat]?)=fun m=>xs[i+m]?:=by
  grind
 rw[e];have:=pick_run xs i k;rw[List.filterMap_map] at this;have d:((fun x=>xs[x]?)∘fun x=>i+x)=fun m=>xs[i+m]?:=rfl;rw[d] at this;rw[this]
theorem yy {lo:Option Int} (ht:IsTup s.heap t items) (hs:s.heap.IsSliceOf u vl vu .none) (pl:IsPart vl lo) (pu:IsPart vu hi) (hw: ¬(rg items.size 0 lo=0/\rg items.size items.size hi=items.size)) (h:Q (.ref s.heap.objs.size) {s with heap:=s.heap.push {cls:= .type "tuple",data:= .seq ((items.toList.drop (rg items.size 0 lo)).take (rg items.size items.size hi - rg items.size 0 lo)).toArray}}) (hsz:items.size<=sizeLine):wpAny (model prog w) A (getItem (.ref t) (.ref u)) Q E s:=by
 have d:=by
  show((items.toList.drop (rg items.size 0 lo)).take (rg items.size items.size hi - rg items.size 0 lo)).toArray.size<=sizeLine;rw[List.size_toArray,List.length_take,List.length_drop,Array.length_toList];lia
 obtain⟨os,j,m,v⟩:=id hs;have f:s.TypeIs (.ref u) _:=⟨os,j,m⟩;unfold getItem
 try with_reducible refine wpAny_holding ?_
 refine wpAny_bind (wpAny_sequenceKey ht.typeIs (rfl) ?_);refine wpAny_bind (wpAny_callSpecial?_slot ht.typeIs PyProof.Rows.slot_tuple_getitem
  (wpAny_call_entry PyProof.Rows.slot_tuple_getitem ht.typeIs entry_tuple_getitem ?_ (args_tuple_getitem _ _)))
 show wpAny _ _ (Builtin.Tuple.tupleItemsOf _ >>= _) _ _ s;refine wpAny_bind (tupleItemsOf_ ht ?_);refine wpAny_bind (wpAny_typeOf f ?_);refine wpAny_bind (zc hs pl pu ?_);have i: ¬((((rg items.size 0 lo):Int) == 0&&(1:Int) == 1&&(rg items.size items.size hi - rg items.size 0 lo) == items.size)=true):=by
  simp_all
 show wpAny _ _ (if(((rg _ 0 lo):Int) == 0&&(1) == 1&&(rg _ _ hi - rg _ 0 lo) == items.size)=true then _ else _) _ _ s;rw[if_neg i,NM]
 first
  |lia
  |exact wpAny_bind (wpAny_newObj_type (wpAny_bind (wpAny_pure (wpAny_pure ⟨_,rfl,wpAny_pure h⟩))) d)
  |rfl
  |rfl
end
end HT
namespace L2
open PySem PySem.Spec PyProof.Rows
noncomputable abbrev TO:=St->Hp->(Option Int->Hp->Prop)->Prop
def PO (X:Cx) (e:Option Expr) (t:TO):Prop:=
 ∀(d:List (Addr×Obj)) (s:Shared) (σ:St) (H:Hp) (Q:Option Int->Hp->Prop),Inv X d σ H s->t σ H Q->
  wpAny (model X.prog X.w) X.A (evalPart e X.env) (fun u f=> ∃o H',Inv X d σ H' f/\IsPart u o/\Q o H') X.xe s
def JL:TO:=fun _ H Q=>Q none H
def Sh (t:TE):TO:=fun σ H Q=>t σ H fun x d=> ∃i,x = .int i/\Q (some i) d
section
theorem J9:PO X none JL:=by
 intro d s σ H Q I h;exact wpAny_pure ⟨_,H,I,.none,h⟩
theorem uP (h:PE X e te):PO X (some e) (Sh te):=by
 intro d s σ H Q I hw;refine iY (h _ s σ H _ I hw) fun u s1 x f j r1 q1=>?_;obtain⟨i,rfl,q⟩:=q1;obtain⟨t,rfl⟩:=r1;exact⟨_,f,j,.int i t,q⟩
def KR (X:Cx) (r:V->Option Int->Option Int->Hp->VK->Prop):Prop:=
 ∀(d:List (Addr×Obj)) (s:Shared) (σ:St) (H:Hp) (x:V) (v i f:Value) (lo hi:Option Int) (j:Addr) (Q:VK),Inv X d σ H s->RelV x v->s.heap.IsSliceOf j i f .none->IsPart i lo->IsPart f hi->r x lo hi H Q->
  ∃T id,typeLookup (.type T) "__getitem__" = pure (some (.builtin id))/\s.TypeIs v T/\wpAny (model X.prog X.w) X.A (getItem v (.ref j)) (EP X d σ Q) X.xe s
theorem KR.or (h:KR X r) (u:KR X r'):KR X (fun x lo hi H Q=>r x lo hi H Q\/r' x lo hi H Q):=by
 intro m s σ H x v i j lo hi f Q I d hs pl pu q;rcases q with q|q
 ·exact h _ s σ H x v i j lo hi f Q I d hs pl pu q
 ·exact u _ s σ H x v i j lo hi f Q I d hs pl pu q
def tSl (r:V->Option Int->Option Int->Hp->VK->Prop) (te:TE) (tl th:TO):TE:=fun σ H Q=>te σ H fun x i=>tl σ i fun l d=>th σ d fun u f=>r x l u f Q
theorem yg {X:Cx} {e:Expr} {te:TE} {lo hi:Option Expr} {tl th:TO} {pos G:Pos} {r:V->Option Int->Option Int->Hp->VK->Prop} (O:KR X r) (he:PE X e te) (hl:PO X lo tl) (z:PO X hi th):PE X (.Subscript e (.Slice lo hi none G) pos) (tSl r te tl th):=by
 intro d s σ H Q I h;refine Subscript_ (iY (he _ s σ H _ I h) fun v s1 x C F r1 q1=>?_);refine wpAny_Slice (iY (hl _ s1 σ C _ F q1) fun f s2 l y m pl q2=>iY (z _ s2 σ y _ m q2) fun i s3 u j P pu q3=>?_);refine wpAny_pure ?_;have J:Inv X _ σ j {s3 with heap:=s3.heap.push {cls:= .type "slice",data:= .fields #[f,i,.none]}}:=P.kept fun b ob q=>Heap.get?_push_of_some _ q;obtain⟨T,id,E,ht,hg⟩:=O _ _ σ j x v f i l u _ Q J r1 (Heap.IsSliceOf.new ..) pl pu q3;exact tail_any ht E hg (rfl)
noncomputable def yR (xs:List V) (lo hi:Option Int):List V:=(xs.drop (HT.rg xs.length 0 lo)).take (HT.rg xs.length xs.length hi - HT.rg xs.length 0 lo)
theorem A3 (xs:List V) (lo hi:Option Int):(yR xs lo hi).length<=xs.length:=by
 unfold yR;rw[List.length_take,List.length_drop];lia
def Ys (K:W.Frag):V->Option Int->Option Int->Hp->VK->Prop:=fun x lo hi H Q=> ∃a xs,x = .ref a/\dO K H a xs/\
 ¬(HT.rg xs.length 0 lo=0/\HT.rg xs.length xs.length hi=xs.length)/\∀p,H p=none->Q (.ref p) (upd H p (.tup (yR xs lo hi)))
theorem Uw:KR X (Ys X.K):=by
 intro f s σ H x v u y lo hi m Q I i hs pl pu h;obtain⟨a,xs,rfl,hx,hw,q⟩:=h;cases i;obtain⟨d,r,ht,j⟩:=I.tuple hx;have hlen:d.toArray.size=xs.length:=by exact r.length.symm
 refine⟨_,_,rfl,ht.typeIs,?_⟩;refine HT.yy ht hs pl pu (by rw[hlen];exact hw) ?_ (by simp_all);rw[hlen];refine⟨.ref _,_,I.laid (fun b ob q=>Heap.get?_push_of_some _ q) (Nat.le_refl _) ?_,rfl,q _ (I.hok.fresh (Nat.le_refl _))⟩;exact⟨Nat.le_trans (A3 xs lo hi) j,_,(r.drop _).take _,IsTup.new _ _⟩
def Sn (K:W.Frag):R2:=fun x y H Q=> ∃a b xs d,x = .ref a/\y = .ref b/\dO K H a xs/\dO K H b d/\xs≠[]/\xs.length+d.length<=sizeLine/\
 (d= []->Q (.ref a) H)/\(d≠[]->∀p,H p=none->Q (.ref p) (upd H p (.tup (xs++d))))
theorem Vals.F6 (r:Vals xs us):us= []↔xs= []:=by
 cases r<;>simp_all
theorem Rb:iW X (binaryOp .Add) (Sn X.K):=by
 intro f s σ H x y v u Q I j G h;obtain⟨a,b,xs,J,rfl,rfl,ha,C,hx,m,q1,q2⟩:=h;cases j;cases G;obtain⟨F,r1,E,_⟩:=I.tuple ha;obtain⟨d,r2,i,_⟩:=I.tuple C;refine HT.RY E i (fun z=>hx (r1.F6.mp z)) (fun z=>⟨.ref a,H,I,rfl,q1 (r2.F6.mp z)⟩) (fun z=>?_) (by rw[<-r1.length,<-r2.length];exact m);refine⟨.ref _,_,I.laid (fun b ob q=>Heap.get?_push_of_some _ q) (Nat.le_refl _) ?_,rfl,q2 (fun w=>z (r2.F6.mpr w)) _ (I.hok.fresh (Nat.le_refl _))⟩;exact⟨by simp_all,_,r1.append r2,IsTup.new _ _⟩
end
noncomputable def RA (n:Nat) (i:Int):Option Nat:=if 0<=i then(if i<n then some i.toNat else none) else if -(n:Int)<=i then some (i+n).toNat else none
noncomputable def oW {α:Type} (xs:List α) (i:Int):Option α:=(RA xs.length i).bind fun j=>xs[j]?
theorem Ry (h:RA n i=some j):seqIndex? i n=some j/\j<n/\-(n:Int)<=i/\i<n:=by
 unfold RA at h;by_cases h0:0<=i
 ·
  rw[if_pos h0] at h;by_cases h1:i<n
  ·
   rw[if_pos h1] at h;have e:=Option.some.inj h;exact⟨by rw[seqIndex_of h0 h1,e],by lia,by lia,h1⟩
  ·simp_all
 ·
  rw[if_neg h0] at h;by_cases h1 : -(n)<=i
  ·
   rw[if_pos h1] at h;have e:=Option.some.inj h;exact⟨by rw[seqIndex_neg (by lia) h1,e],by lia,h1,by lia⟩
  ·simp_all
theorem Gx {v:α} (h:oW xs i=some v): ∃j,seqIndex? i xs.length=some j/\xs[j]?=some v/\j<xs.length/\-(xs.length:Int)<=i/\i<xs.length:=by
 unfold oW at h;cases e:RA xs.length i with
 |none=>simp_all
 |some j=>
  rw[e] at h;obtain⟨h1,f,d,m⟩:=Ry e;exact⟨j,h1,h,f,d,m⟩
theorem R5 {j:Nat} {v:α} (h:xs[j]?=some v):oW xs (j:Int)=some v:=by
 have d:=(List.getElem?_eq_some_iff.mp h).1;have e:RA xs.length (j)=some j:=by
  unfold RA;rw[if_pos (by lia),if_pos (by lia)];simp
 unfold oW;rw[e];exact h
def R8 (b:Expr):Prop:= ∀o i,subscripted b false o i=operate [o,i] (getItem o i)
def Ib (X:Cx) (r:R2):Prop:=
 ∀(value slice:Expr) (d:List (Addr×Obj)) (s:Shared) (σ:St) (H:Hp) (x y:V) (v u:Value) (Q:VK),Inv X d σ H s->RelV x v->RelV y u->r x y H Q->
  subscripted slice false v u=operate [v,u] (getItem v u)->wpAny (model X.prog X.w) X.A (subscriptTail value slice v u) (EP X d σ Q) X.xe s
def P2 (X:Cx) (id:String) (r:V->List V->Hp->VK->Prop):Prop:=
 ∀(d:List (Addr×Obj)) (s:Shared) (σ:St) (H:Hp) (x:V) (xs:List V) (v:Value) (us:List Value) (Q:VK),Inv X d σ H s->RelV x v->Vals xs us->r x xs H Q->
  wpAny (model X.prog X.w) X.A (call (.builtin id) (v::us)) (EP X d σ Q) X.xe s
section
variable {X:Cx} {o:Expr} {to:TE} {name:Str} {apos cpos:Pos} {T id:String} {r:V->List V->Hp->VK->Prop}
theorem Ib.or {r d:R2} (h:Ib X r) (m:Ib X d):Ib X (fun x y H Q=>r x y H Q\/d x y H Q):=by
 intro value slice j s σ H x y v u Q I f i q hs;rcases q with q|q
 ·exact h _ _ _ s σ H x y v u Q I f i q hs
 ·exact m _ _ _ s σ H x y v u Q I f i q hs
theorem bj {a b:Expr} {f d:TE} {pos:Pos} {r:R2} (C:Ib X r) (ha:PE X a f) (E:PE X b d) (hs:R8 b):PE X (.Subscript a b pos) (Qq r f d):=by
 intro i s σ H Q I h;exact Subscript_ (XS ha E I h fun v u s2 x y m j z F q=>C a b _ s2 σ m x y v u Q j z F q (hs _ _))
def Yy (K:W.Frag):R2:=fun x y H Q=> ∃p xs i v,x = .ref p/\y = .int i/\cQ K H p xs/\oW xs i=some v/\Q v H
def Yv (K:W.Frag):R2:=fun x y H Q=> ∃p xs i v,x = .ref p/\y = .int i/\dO K H p xs/\oW xs i=some v/\Q v H
def Yx:R2:=fun x y H Q=> ∃z i c,x = .str z/\y = .int i/\z.length<=sizeLine/\oW z.cps.toList i=some c/\Q (.str ⟨#[c]⟩) H
theorem Ru:Ib X (Yy X.K):=by
 intro value slice C s σ H x y v u Q I G O h hs;obtain⟨p,xs,i,z,rfl,rfl,J,he,q⟩:=h;cases G;obtain⟨t,rfl⟩:=O;obtain⟨m,r,pl,Z⟩:=I.list J;obtain⟨j,h1,E,U,P,F⟩:=Gx he;obtain⟨w,ew,d⟩:=r.get E;have hl:=r.length;have hn:=CP;have fin:EP X _ σ Q w s:=⟨z,H,I,d,q⟩;by_cases h0:0<=i
 ·have f:=by
   rw[seqIndex_of h0 F] at h1;exact Option.some.inj h1
  exact item_listR pl.isList h0 (by lia) (by rw[f];simpa using ew) fin hs
 ·have f:(i+(m.toArray.size)).toNat=j:=by
   rw[seqIndex_neg (by lia) P] at h1;rw[List.size_toArray,<-hl];exact Option.some.inj h1
  exact subscriptTail_builtinR pl.isList.typeIs slot_list_getitem.lookup
   (wpAny_getItem_list_neg pl.isList (by lia) (by simp_all) (by lia) (by rw[f];simpa using ew) ⟨rfl,fin⟩) hs
theorem WY:Ib X (Yv X.K):=by
 intro value slice f s σ H x y v u Q I C G h hs;obtain⟨p,xs,i,z,rfl,rfl,E,he,q⟩:=h;cases C;obtain⟨t,rfl⟩:=G;obtain⟨F,r,pl,P⟩:=I.tuple E;obtain⟨j,h1,m,O,U,J⟩:=Gx he;obtain⟨w,ew,d⟩:=r.get m;have hl:=r.length;have hn:=CP;have fin:EP X _ σ Q w s:=⟨z,H,I,d,q⟩;exact subscriptTail_builtinR pl.typeIs slot_tuple_getitem.lookup
  (getItem_tuple (j:=j) pl (by lia) (by lia) (by simp_all) (by simpa using ew) ⟨rfl,fin⟩) hs
theorem WZ:Ib X Yx:=by
 intro value slice d s σ H x y v u Q I C E h hs;obtain⟨z,i,c,rfl,rfl,J,he,q⟩:=h;obtain⟨t,rfl⟩:=C;obtain⟨t',rfl⟩:=E;obtain⟨j,h1,f,G,F,m⟩:=Gx he;have hl:z.cps.toList.length=z.length:=rfl;rw[hl] at h1 F m;have hn:=CP;exact tail_any (typeIs_str s z t) slot_str_getitem.lookup (getItem_str (by
  lia) (by rw[h1];simpa using f) ⟨.str _,H,I.tok _,⟨_,rfl⟩,q⟩) hs
def rIx (K:W.Frag):R2:=fun x y H Q=>Yy K x y H Q\/Yv K x y H Q\/Yx x y H Q
theorem W0:Ib X (rIx X.K):=Ru.or (WY.or WZ)
theorem Fm (lo hi:Option Int) (n:Nat):(sliceBounds lo hi none n).1=((HT.rg n 0 lo:Nat):Int)/\(sliceBounds lo hi none n).2.1=((HT.rg n n hi:Nat):Int)/\(sliceBounds lo hi none n).2.2=1:=by
 refine⟨?_,?_,rfl⟩
 ·
  cases lo with
  |none=>rfl
  |some i=>
   simp only[sliceBounds,HT.rg,Option.getD_none,show(1:Int) > 0 by decide,if_true];by_cases h:i<0
   ·simp only[h,if_true]<;>lia
   ·simp only[h,if_false]<;>lia
 ·
  cases hi with
  |none=>rfl
  |some i=>
   simp only[sliceBounds,HT.rg,Option.getD_none,show(1:Int) > 0 by decide,if_true];by_cases h:i<0
   ·simp only[h,if_true]<;>lia
   ·simp only[h,if_false]<;>lia
theorem DQ (d:List Value) (lo hi:Option Int):slicePick d.toArray lo hi none=((d.drop (HT.rg d.length 0 lo)).take (HT.rg d.length d.length hi - HT.rg d.length 0 lo)).toArray:=by
 obtain⟨h1,i,f⟩:=Fm lo hi _;unfold slicePick;rw[h1,i,f];simp only[sliceRange_one,pick_run]<;>rfl
def agm (K:W.Frag):V->Option Int->Option Int->Hp->VK->Prop:=fun x lo hi H Q=> ∃a xs,x = .ref a/\cQ K H a xs/\∀p,H p=none->Q (.ref p) (upd H p (.lst (yR xs lo hi)))
theorem Qw:KR X (agm X.K):=by
 intro d s σ H x v u y lo hi m Q I f hs pl pu h;obtain⟨a,xs,rfl,hx,q⟩:=h;cases f;obtain⟨j,r,ht,i⟩:=I.list hx;have hlen:=r.length;refine⟨_,_,rfl,ht.isList.typeIs,?_⟩;refine wpAny_getItem_list_slice ht.isList hs pl pu .none (by simp) ?_ (by simp_all);rw[DQ,<-hlen];refine⟨.ref _,_,I.laid (fun b ob q=>Heap.get?_push_of_some _ q) (Nat.le_refl _) ?_,rfl,q _ (I.hok.fresh (Nat.le_refl _))⟩;exact⟨Nat.le_trans (A3 xs lo hi) i,_,0,(r.drop _).take _,Heap.get?_push_size _ rfl⟩
noncomputable def sG:V->Bool
 | .non=>true
 | .bl _=>true
 | .int _=>true
 | .str _=>true
 |_=>false
noncomputable def Qa:V->V->Bool
 | .non,.non=>true
 | .bl a,.bl b=>a == b
 | .bl a,.int b=>(if a then 1 else 0) == b
 | .int a,.bl b=>a == (if b then 1 else 0)
 | .int a,.int b=>a == b
 | .str a,.str b=>a == b
 |_,_=>false
theorem XC (f:RelV y u) (d:RelV x v) (j:sG y=true) (i:sG x=true):SeqAt.EqAt A s u v (Qa y x):=by
 cases y with
 |non=>
  cases f;cases x with
  |non=>cases d;exact SeqAt.EqAt.same _
  |bl b=>cases d;exact SeqAt.EqAt.none_bool b
  |int b=>obtain⟨t,rfl⟩:=d;exact SeqAt.EqAt.none_int b t
  |str b=>obtain⟨t,rfl⟩:=d;exact SeqAt.EqAt.none_str b t
  |_=>trivial
 |bl a=>
  cases f;cases x with
  |non=>cases d;exact SeqAt.EqAt.bool_none a
  |bl b=>cases d;exact SeqAt.EqAt.bool_bool a b
  |int b=>obtain⟨t,rfl⟩:=d;exact SeqAt.EqAt.bool_int a b t
  |str b=>obtain⟨t,rfl⟩:=d;exact SeqAt.EqAt.bool_str a b t
  |_=>trivial
 |int a=>
  obtain⟨t',rfl⟩:=f;cases x with
  |non=>cases d;exact SeqAt.EqAt.int_none a t'
  |bl b=>cases d;exact SeqAt.EqAt.int_bool a t' b
  |int b=>obtain⟨t,rfl⟩:=d;exact SeqAt.EqAt.int_int a t' b t
  |str b=>obtain⟨t,rfl⟩:=d;exact SeqAt.EqAt.int_str a t' b t
  |_=>trivial
 |str a=>
  obtain⟨t',rfl⟩:=f;cases x with
  |non=>cases d;exact SeqAt.EqAt.str_none a t'
  |bl b=>cases d;exact SeqAt.EqAt.str_bool a t' b
  |int b=>obtain⟨t,rfl⟩:=d;exact SeqAt.EqAt.str_int a t' b t
  |str b=>obtain⟨t,rfl⟩:=d;exact SeqAt.EqAt.str_str a t' b t
  |_=>trivial
 |_=>trivial
noncomputable def eqU (x:V) (u:Value):Bool:=match u with
 | .none=>Qa .non x
 | .bool b=>Qa (.bl b) x
 | .int i _=>Qa (.int i) x
 | .str z _=>Qa (.str z) x
 |_=>false
theorem Ph (r:RelV y u) (f:sG y=true):eqU x u=Qa y x:=by
 cases y with
 |non=>cases r;rfl
 |bl b=>cases r;rfl
 |int i=>obtain⟨t,rfl⟩:=r;rfl
 |str z=>obtain⟨t,rfl⟩:=r;rfl
 |_=>trivial
theorem Gy: ∀{xs:List V} {us:List Value},Vals xs us->xs.all sG=true->us.any (eqU x)=xs.any fun y=>Qa y x
 |_,_,.nil,_=>rfl
 |y::xs,u::us,.cons r t,f=>by
  rw[List.all_cons,Bool.and_eq_true] at f;rw[List.any_cons,List.any_cons,Ph r f.1,Gy t f.2]
theorem CO (i:RelV x v) (j:sG x=true): ∀{xs:List V} {us:List Value},Vals xs us->xs.all sG=true->∀u∈us,SeqAt.EqAt A s u v (eqU x u)
 |_,_,.nil,_=>fun u d=>by cases d
 |y::xs,u::us,.cons r t,f=>fun m d=>by
  rw[List.all_cons,Bool.and_eq_true] at f;rcases List.mem_cons.mp d with rfl|d
  ·rw[Ph r f.1];exact XC r i f.1 j
  ·exact CO i j t f.2 m d
noncomputable def Cd (x:V) (xs:List V):Bool:=xs.any fun y=>Qa y x
def rIn (K:W.Frag) (neg:Bool):R2:=fun x y H Q=> ∃p xs,y = .ref p/\(cQ K H p xs\/dO K H p xs)/\sG x=true/\xs.all sG=true/\Q (.bl (if neg then !Cd x xs else Cd x xs)) H
theorem LK:iW X (compareOp .In) (rIn X.K false):=by
 intro m s σ H x y v u Q I j C h;obtain⟨p,xs,rfl,f,i,fs,q⟩:=h;cases C;rcases f with f|f
 ·
  obtain⟨d,r,pl,z⟩:=I.list f;refine SeqAt.in_listAt _ pl.isList (fun w hw=>CO j i r fs w (by simp_all)) ⟨.bl _,H,I,rfl,?_⟩;rw[show d.toArray.any _=d.any (eqU x) by simp,Gy r fs];exact q
 ·
  obtain⟨d,r,pl,z⟩:=I.tuple f;refine SeqAt.in_tupleAt _ pl (fun w hw=>CO j i r fs w (by simp_all)) ⟨.bl _,H,I,rfl,?_⟩;rw[show d.toArray.any _=d.any (eqU x) by simp,Gy r fs];exact q
theorem Gv:b9 X (.builtin "len") (fun xs H Q=> ∃p f,xs= [.ref p]/\(cQ X.K H p f\/dO X.K H p f)/\Q (.int f.length) H):=by
 intro m s σ H xs us Q I r h;obtain⟨p,f,rfl,d,q⟩:=h;obtain⟨u,rfl,v⟩:=vals1 r;cases v;have hn:=CP;rcases d with d|d
 ·
  obtain⟨j,i,pl,x⟩:=I.list d;have hlen:=i.length;exact Calls.call_len_list pl.isList (by simp only[List.size_toArray]<;>lia) ⟨.int _,H,I.tok _,⟨s.toks+1,by simp_all⟩,q⟩
 ·
  obtain⟨j,i,pl,x⟩:=I.tuple d;have hlen:=i.length;exact len_tuple pl (by simp only[List.size_toArray]<;>lia) ⟨.int _,H,I.tok _,⟨s.toks+1,by simp_all⟩,q⟩
theorem Gu:b9 X (.builtin "len") (fun xs H Q=> ∃z,xs= [.str z]/\z.length<=sizeLine/\Q (.int z.length) H):=by
 intro d s σ H xs us Q I r h;obtain⟨z,rfl,f,q⟩:=h;obtain⟨u,rfl,t,rfl⟩:=vals1 r;have hn:=CP;exact len_str (by lia) ⟨.int _,H,I.tok _,⟨_,rfl⟩,q⟩
theorem b9.or {f:Value} {r i:List V->Hp->VK->Prop} (h:b9 X f r) (j:b9 X f i):b9 X f (fun xs H Q=>r xs H Q\/i xs H Q):=by
 intro d s σ H xs us Q I rs q;rcases q with q|q
 ·exact h _ s σ H xs us Q I rs q
 ·exact j _ s σ H xs us Q I rs q
theorem Gs:b9 X (.type "list") (fun xs H Q=> ∃p i,xs= [.ref p]/\(cQ X.K H p i\/dO X.K H p i)/\∀l,H l=none->Q (.ref l) (upd H l (.lst i))):=by
 intro C s σ H xs us Q I r h;obtain⟨p,i,rfl,x,q⟩:=h;obtain⟨u,rfl,E⟩:=vals1 r;cases E;have fin: ∀d,Vals i d->i.length<=sizeLine->∀f m,(∀b z,s.heap.get? b=some z->f.get? b=some z)->
   f.get? s.heap.objs.size=some _->EP X _ σ Q _ {s with heap:=f}:=fun d j v f m kp e=>
  ⟨.ref _,_,I.laid kp (Nat.le_refl _) (show dN _ _ _ f _ (.lst i) from⟨v,d,m,j,e⟩),rfl,q _ (I.hok.fresh (Nat.le_refl _))⟩
 rcases x with x|x
 ·
  obtain⟨d,j,pl,v⟩:=I.list x;have hlen:=j.length;obtain⟨o,y,hc,n,hd⟩:=pl.isList;exact call_list_seq p (.inl rfl) y hc hd (fun f m kp e=>fin _ j v f m kp e) (by simp_all)
 ·
  obtain⟨d,j,pl,v⟩:=I.tuple x;have hlen:=j.length;obtain⟨o,y,hc,n,hd⟩:=pl;exact call_list_seq p (.inr rfl) y hc hd (fun f m kp e=>fin _ j v f m kp e) (by simp_all)
theorem Ey:b9 X (.type "tuple") (fun xs H Q=> ∃p d,xs= [.ref p]/\((cQ X.K H p d/\∀l,H l=none->Q (.ref l) (upd H l (.tup d)))\/(dO X.K H p d/\Q (.ref p) H))):=by
 intro x s σ H xs us Q I r h;obtain⟨p,d,rfl,h⟩:=h;obtain⟨u,rfl,z⟩:=vals1 r;cases z;rcases h with⟨j,q⟩|⟨j,q⟩
 ·
  obtain⟨f,i,pl,v⟩:=I.list j;have hlen:=i.length;refine call_tuple_list pl.isList (fun C kp=>?_) (by simp_all);have m:=I.kept (t':=s.toks) kp;have y:=
   m.laid (t':=s.toks) (fun b o e=>Heap.get?_push_of_some _ e) (Nat.le_refl _) (show dN _ _ _ _ _ (.tup d) from⟨v,f,i,IsTup.new _ _⟩)
  exact⟨.ref _,_,y,rfl,q _ (m.hok.fresh (Nat.le_refl _))⟩
 ·
  obtain⟨f,i,pl,v⟩:=I.tuple j;exact call_tuple_same pl ⟨.ref p,H,I,rfl,q⟩
def Um (K:W.Frag) (T:String) (x:V) (H:Hp):Prop:=match x with
 | .str _=>T = "str"
 | .int _=>T = "int"
 |
   .ref p=>(T = "list" /\∃xs,cQ K H p xs)\/(T = "tuple" /\∃o,K.lookup p=some o/\o.cls = .type "tuple" /\o.dict=none)\/
   (T = "dict" /\((∃d,H p=some (.dK d))\/∃d,H p=some (.dT d)))\/(T = "set" /\∃S n,H p=some (.set S n))
 |_=>False
theorem MI (I:Inv X pins σ H s) (r:RelV x v) (ty:Um X.K T x H):
  s.TypeIs v T/\∀a,v = .ref a->∃ob,s.heap.get? a=some ob/\ob.dict=none:=by
 cases x with
 |str z=>
  obtain⟨t,rfl⟩:=r;cases((ty));exact⟨rfl,fun _ e=>nomatch e⟩
 |int i=>
  obtain⟨t,rfl⟩:=r;cases((ty));exact⟨rfl,fun _ e=>nomatch e⟩
 |ref p=>
  cases r;rcases ty with⟨rfl,xs,j⟩|⟨rfl,o,hk,hc,hd⟩|⟨rfl,hk⟩|⟨rfl,S,n,hk⟩
  ·
   obtain⟨m,_,pl,_⟩:=I.list j;refine⟨pl.isList.typeIs,fun a e=>?_⟩;cases e;obtain⟨o,n,e,c,hd,_⟩:=pl;exact⟨o,e,hd⟩
  ·
   refine⟨⟨o,I.nK p o hk,hc⟩,fun a e=>?_⟩;cases e;exact⟨o,I.nK _ o hk,hd⟩
  ·have z: ∃o,s.heap.get? p=some o/\o.ExactDict:=by
    rcases hk with⟨f,hk⟩|⟨f,hk⟩
    ·
     obtain⟨_,_,_,_,o,_,_,e,ex,_⟩:=I.hok p _ hk;exact⟨o,e,ex⟩
    ·
     obtain⟨_,_,_,_,o,_,_,e,ex,_⟩:=I.hok p _ hk;exact⟨o,e,ex⟩
   obtain⟨o,e,ex⟩:=z;refine⟨⟨o,e,ex.1⟩,fun a d=>?_⟩;cases d;exact⟨o,e,ex.2.1⟩
  ·
   obtain⟨o,_,_,_,e,ex,_⟩:=I.hok p _ hk;refine⟨⟨o,e,ex.1⟩,fun a d=>?_⟩;cases d;exact⟨o,e,ex.2.1⟩
 |_=>trivial
def Qs (K:W.Frag) (T:String) (r:V->List V->Hp->VK->Prop) (to:TE):TE:=fun σ H Q=>to σ H fun x d=>Um K T x d/\r x [] d Q
def Yi (K:W.Frag) (T:String) (r:V->List V->Hp->VK->Prop) (to:TE) (t:TA):TE:=fun σ H Q=>to σ H fun x d=>Um K T x d/\t σ d fun xs f=>r x xs f Q
theorem UW (pa:PlainAttrs T) (slot:Slot T name id) (i:typeOf (.builtin id)=pure (.type "method_descriptor")) (hm:P2 X id r) (y:PE X o to)
  (f:attributeBase o name X.env (eval o X.env)=eval o X.env:=by rfl) (d:(apos.endLine == cpos.line)=true:=by rfl):PE X (.Call (.Attribute o name apos) [] [] cpos) (Qs X.K T r to):=by
 intro m s σ H Q I h;refine wpAny_Call_method0_late f d (thn (y _ s σ H _ I h) fun v s1 ⟨x,z,j,r1,ty,q1⟩=>?_);obtain⟨h1,u⟩:=MI j r1 ty;exact⟨T,id,pa,slot,i,h1,u,Calls.callWith_builtin rfl (PySem.evalArgs_none (hm _ s1 σ z x [] v [] Q j r1 .nil q1))⟩
theorem NT {e:Expr} {es:List Expr} {t:TA} (pa:PlainAttrs T) (slot:Slot T name id) (j:typeOf (.builtin id)=pure (.type "method_descriptor")) (hm:P2 X id r) (E:PE X o to) (ha:PA X (e::es) t)
  (f:attributeBase o name X.env (eval o X.env)=eval o X.env:=by rfl)
  (
   hfew:((backTo cpos (starEach (e::es) X.env)).all (fun x=>!x.1)&&(backToKw cpos (keywordEach [] X.env)).all (fun x=>x.1.isSome)
   &&decide ((e::es).length+([]:List Keyword).length+(if([]:List Keyword).isEmpty then 0 else 1)<30))=true:=by rfl)
  (d:(apos.endLine == cpos.line)=true:=by rfl) (hs:starEach (e::es) X.env=(false,eval e X.env)::starEach es X.env:=by rfl) (i:(backTo cpos (starEach es X.env)).any (·.1)=false:=by rfl):
  PE X (.Call (.Attribute o name apos) (e::es) [] cpos) (Yi X.K T r to t):=by
 intro y s σ H Q I h;refine wpAny_Call_method_late f hfew d rfl (thn (E _ s σ H _ I h) fun v s1 ⟨x,G,u,r1,ty,q1⟩=>?_);obtain⟨h1,C⟩:=MI u r1 ty;refine⟨T,id,pa,slot,j,h1,C,?_⟩;have m:=ha cpos _ s1 σ G _ u q1;rw[hs] at m⊢;refine Calls.callWith_builtin (‹_›) (Calls.evalArgs_plain ?_);exact thn m fun us s2 ⟨vs,F,z,r2,q2⟩=>hm _ s2 σ F x vs v us Q z r1 r2 q2
end
def MtM (X:Cx) (id:String) (r:V->List V->Hp->VK->Prop):Prop:=
 ∀(d:List (Addr×Obj)) (s:Shared) (σ:St) (H:Hp) (x:V) (xs:List V) (v:Value) (us:List Value) (Q:VK),Inv X d σ H s->RelV x v->Vals xs us->r x xs H Q->
  wpAny (model X.prog X.w) X.A (call (.builtin id) (v::us)) (EP X d σ Q) X.xe s
theorem Vals.one: ∀{x:V} {us:List Value},Vals [x] us->∃u,us= [u]/\RelV x u
 |_,_,.cons r .nil=>⟨_,rfl,r⟩
theorem Vals.zero: ∀{us:List Value},Vals [] us->us= []
 |_,.nil=>rfl
section
theorem Inv.lset {d:List Value} (I:Inv X pins σ H s) (v:H l=some (.lst xs)) (e:s.heap.get? l=some {cls:= .type "list",data:= .seq d.toArray n}) (hf:f d.toArray=its'.toArray) (i:Vals ys its') (m:ys.length<=sizeLine):
  Inv X pins σ (upd H l (.lst ys)) {s with heap:=s.heap.update l (Obj.mapSeq f),toks:=t'}:=by
 have q:=PySem.IsL.update e f;rw[hf] at q;refine I.write (by rw[v];exact trivial) (.inl rfl) (fun y u x j=>(Heap.get?_update_other _ _ (Ne.symm x)).trans j) ⟨_,q⟩ ?_;exact⟨m,_,_,i,q⟩
theorem Inv.lnew (I:Inv X pins σ H s) (i:Vals ys d) (f:ys.length<=sizeLine):
  Inv X pins σ (upd H s.heap.objs.size (.lst ys)) {s with heap:=s.heap.push {cls:= .type "list",data:= .seq d.toArray},toks:=t'}:=
 I.laid (fun _ _ q=>Heap.get?_push_of_some _ q) (Nat.le_refl _) ⟨f,d,0,i,Heap.get?_push_size _ rfl⟩
theorem Inv.fresh (I:Inv X pins σ H s):H s.heap.objs.size=none:=I.hok.fresh (Nat.le_refl _)
theorem Inv.N9 (I:Inv X pins σ H s) (f:H l=some (.lst xs)):xs.length<=sizeLine/\∃(d:List Value) (n:Nat),Vals xs d/\xs.length=d.length/\s.heap.get? l=some {cls:= .type "list",data:= .seq d.toArray n}:=by
 obtain⟨z,d,n,r,e⟩:=I.hok l _ f;exact⟨z,d,n,r,r.length,e⟩
theorem NZ (h:n<=sizeLine):Builtin.List.listTooLong n=false:=by
 exact decide_eq_false (by lia)
end
section
def QU:V->List V->Hp->VK->Prop:=fun x vs H Q=> ∃l xs y,x = .ref l/\vs= [y]/\H l=some (.lst xs)/\xs.length<sizeLine/\Q .non (upd H l (.lst (xs++ [y])))
theorem LS:MtM X "list.append" QU:=by
 intro f s σ H x vs v us Q I j i h;obtain⟨l,xs,y,rfl,rfl,d,E,q⟩:=h;cases j;obtain⟨u,rfl,m⟩:=i.one;obtain⟨z,C,n,r,hl,e⟩:=I.N9 d;refine call_meets F.slot_list_append ⟨_,e,rfl⟩ F.entry_list_append (F.args_list_append_2 _ _) (PySem.list_append l _ n u (by simp_all)) ⟨e,?_⟩;refine⟨.non,_,I.lset d e (by simp) (r.append (.cons m .nil)) ?_,rfl,q⟩;rw[List.length_append,List.length_singleton];lia
def J0:V->List V->Hp->VK->Prop:=fun x vs H Q=> ∃l b xs zs,x = .ref l/\vs= [.ref b]/\H l=some (.lst xs)/\H b=some (.lst zs)/\xs.length+zs.length<=sizeLine/\Q .non (upd H l (.lst (xs++zs)))
theorem LQ:MtM X "list.extend" J0:=by
 intro m s σ H x vs v us Q I G E h;obtain⟨l,b,xs,zs,rfl,rfl,j,J,Z,q⟩:=h;cases G;obtain⟨u,rfl,P⟩:=E.one;cases P;obtain⟨z,i,n,r,hl,e⟩:=I.N9 j;obtain⟨U,d,C,r2,O,y⟩:=I.N9 J;have hsz:i.toArray.size+d.toArray.size<=sizeLine:=by simp_all
 have f: ¬(!i.toArray.isEmpty&&Builtin.List.listTooLong (i.toArray.size+d.toArray.size))=true:=by
  rw[NZ hsz,Bool.and_false];exact Bool.false_ne_true
 refine call_meets F.slot_list_extend ⟨_,e,rfl⟩ F.entry_list_extend (F.args_list_extend_2 _ _)
  (AutoSeq1.list_extend_list_list_0 l _ n b _ C f (by simp_all) (by lia)) ⟨e,y,?_⟩
 refine⟨.non,_,I.lset j e (by simp) (r.append r2) ?_,rfl,q⟩;rw[List.length_append];lia
def YB:R2:=fun x y H Q=> ∃l b xs zs,x = .ref l/\y = .ref b/\H l=some (.lst xs)/\H b=some (.lst zs)/\xs.length+zs.length<=sizeLine/\∀p,H p=none->Q (.ref p) (upd H p (.lst (xs++zs)))
theorem U6:iW X (binaryOp .Add) YB:=by
 intro i s σ H x y v u Q I m J h;obtain⟨l,b,xs,zs,rfl,rfl,C,F,Z,q⟩:=h;cases m;cases J;obtain⟨z,f,n,r,hl,e⟩:=I.N9 C;obtain⟨U,d,O,r2,G,j⟩:=I.N9 F;refine PySem.P.add_list e j ?_ (by simp_all);have E:f.toArray++d.toArray=(f++d).toArray:=by simp
 rw[E];exact⟨.ref _,_,I.lnew (r.append r2) (by simp_all),rfl,q _ I.fresh⟩
end
end L2
namespace Att
open PySem PySem.W PySem.Calls PyProof.Rows
theorem Bx: ∀(ns:List Int) (vs:List Value),WellAll P h vs (ns.map WData.int)->IntsAre vs ns:=by
 intro ns
 induction ns with
 |nil=>
  intro vs w;cases w;exact .nil
 |cons n ns d=>
  intro vs w;cases w with
  |cons a b=>
   cases a;exact .cons _ _ (d _ b)
theorem K_ {l:OpenLaw} {vals:List Value} (hn:l.most=some n) (hpre:l.row.toRowW.claim.pre args=true) (m:WellAll P h vals args):
  ∃a vs ns,vals= [Value.ref a]/\args= [WData.list (ns.map WData.int)]/\h.get? a=some {cls:= .type "list",data:= .seq vs.toArray}/\IntsAre vs ns/\ns.length<=n:=by
 have j:=(pre_splitW hpre).1;have hc:=(pre_splitW hpre).2;obtain⟨d,r,rfl,h1,u⟩:=hasAllW_cons j;obtain rfl:=hasAllW_nil u;obtain⟨xs,rfl,y⟩:=hasW_list h1;obtain⟨ns,rfl⟩:=items_int y;have hlen:ns.length<=n:=by
  have i:=by
   have i:=(holds_andW hc).1;rw[hn] at i;exact i
  have z:=condW_of i (w_not (w_lt w_lit (w_len_list (w_arg rfl))))
  first
   |simp_all
   |simp_all
 cases m with
 |cons x w2=>
  cases w2;cases x with
  |list v f=>exact⟨_,_,ns,rfl,rfl,v,Bx ns _ f,hlen⟩
theorem LD (l:OpenLaw) (args:List WData):l.row.toRowW.claim.post args (.bool true) args=true:=
 postW_of
  ((rfl))
  ((w_eq_bool (w_res rfl) w_lit)) rfl
theorem HZ {l:OpenLaw} {q:Program} (hn:l.most=some n) (u:d.params.defaults= []) (call: ∀(w:World) (s₀ i:Shared) (mg z:Str->Option Value) (fa:Addr) (o:Obj) (pm cd doc:Value) (a:Addr) (vs:List Value) (ns:List Int),
   Ground q loose [] XP w s₀ mg z i.heap->YP w i.heap->
   i.heap.get? fa=some o->o.data = .func (docDef d.name d.params d.body d.scope pm cd doc)->i.heap.CodeRec cd d.name->mg d.name=some (.ref fa)->
   i.heap.get? a=some {cls:= .type "list",data:= .seq vs.toArray}->IntsAre vs ns->ns.length<=n->i.gens = #[]->
   codeAny (model l.prog w) callerA (.call (.ref fa) ⟨[.ref a],[]⟩) (fun r m=>r = .ok (.ret (.bool true))/\OldK i.heap m.heap/\m.os=i.os/\AllBare m.gens) i):
  WalkO q loose XP YP l.row.toRowW d [] (fun f vs=>PySem.call f vs):=by
 intro w s₀ i mg z G Y fa o pm cd doc I kV F hd x hD y hg args vals as hpre C hrd v H;obtain rfl:I = .none:=Dflts.none hD u;obtain rfl:kV = .none:=Dflts.noKw hD;obtain⟨a,vs,ns,rfl,rfl,j,hints,hlen⟩:=K_ hn hpre v;refine enter_call (codeAny_mono (call w _ _ mg z fa o pm cd _ a vs ns G Y F (fd_plain hd) x y j hints hlen hg) fun r m O=>?_);obtain⟨rfl,E,J,P⟩:=O;exact⟨.inl ⟨_,_,[],rfl,fun _=>rfl,.bool _,LD l _,fun _=>⟨List.Pairwise.nil,fun _ hm=>(nomatch hm)⟩⟩,E,J,P⟩
end Att
namespace L2
open PySem PySem.Spec PyProof.Rows
theorem EC: ∀{vs:List Value} {ns:List Int},IntsAre vs ns->Vals (ns.map V.int) vs
 |_,_,.nil=> .nil
 |_,_,.cons n t h=> .cons ⟨t,rfl⟩ (EC h)
def P1 (H:Hp):Prop:= ∀b,H b=none\/∃o xs,H b=some (.frz o (.lst xs))
theorem Oe {K:W.Frag} (KX:K.In s₁.heap) (I:s₁.heap.Ns mainGlobals mg) (C:s₁.heap.Ns builtinsNs mb) (hbb: ∀x:Str,x≠ "__name__" ->mb x=bootBuiltins x) (G:s₁.heap.NoLimit) (hg:s₁.gens = #[]) (ha:s₁.heap.get? a=some {cls:= .type "list",data:= .seq vs.toArray}) (hi:IntsAre vs ns) (hl:ns.length<=sizeLine) (hr:dz k callerA) (F: ∀base:Heap,K.In base->base.Ns mainGlobals mg->yZ P w K mg base CX k fa fd [x] sp) (y: ∀(s:Shared) (u:Value),BindsTo s fd ⟨[u],[]⟩ [(x,u)]) (U: ∀H:Hp,P1 H->cQ K H a (ns.map V.int)->sp [.ref a] H (fun v _=>v = .bl true) fun _ _ _=>False) (X: ∀H e i,CX [] H s₁ (fun _ _ _=>False) e i->False):
  codeAny (model P w) callerA (.call (.ref fa) ⟨[.ref a],[]⟩) (fun r i=>r = .ok (.ret (.bool true))/\OldK s₁.heap i.heap/\i.os=s₁.os/\AllBare i.gens) s₁:=by
 have rv:=EC hi;have lenV:=hi.length

 have core: ∀H,P1 H->cQ K H a (ns.map V.int)->xO P w H s₁.heap->(∀b,H b≠none->b=a)->(H a≠none->K.lookup a=none)->
   codeAny (model P w) callerA (.call (.ref fa) ⟨[.ref a],[]⟩) (fun r i=>r = .ok (.ret (.bool true))/\OldK s₁.heap i.heap/\i.os=s₁.os/\AllBare i.gens) s₁:=by
  intro H hO hS hok hA hK;have f: ∀{b:Addr} {o:Obj},s₁.heap.get? b=some o->H b=none->(Me _ H).get? b=some o:=fun e n=>O6 e n;have Z: ∀{b:Addr} {o:Obj} {es:Array _} {O:Nat},s₁.heap.get? b=some o->o.data = .dict es O->H b=none:=fun{b o es O} e d=>by
   grind
  have j: ∀{b:Addr} {m:Str->Option _},s₁.heap.Ns b m->(Me _ H).Ns b m:=fun{b m} ⟨o,es,O,e,d,r⟩=>⟨o,es,O,f e (Z e d),d,r⟩;have E:=fun b o e=>f (KX b o e) (by
   grind)
  have hM:Mod K mg _:=⟨E,j I,⟨mb,j C,hbb⟩,let ⟨mc,h1,h2⟩:=G;⟨mc,j h1,h2⟩⟩;have e0:JC P w K mg _ callerA [] _ H:=⟨rfl,hM,fun b o e=>Ri e,Nat.le_of_eq (Md _ _),trivial,fun b C=>absurd (show b∈([]) from C) (by simp),hok,.of_eq hg⟩;refine codeAny_mono ((F _ E (j I)).run _ [] _ H _ [.ref a] [.ref a] _ _ hr e0 (y _ _) (.cons rfl .nil) (U H hO hS)) fun r i h=>?_;cases r with
  |error e=>exact(X H e i h).elim
  |ok fl=>
   cases fl with
   |next=>trivial
   |brk=>trivial
   |cont=>trivial
   |ret u=>
    obtain⟨v,H',os,bare,un,J,r',q⟩:=h;have q':=q;subst q';obtain rfl:u=Value.bool _:=r';refine⟨rfl,OldK.of_keep fun b o e=>?_,os,bare⟩;cases q:H b with
    |none=>exact un.keep b o e q (by intro z;exact absurd (show b∈([]) from z) (by simp)) (by simp)
    |some u=>
     rcases hO b with z|⟨ob,xs,z⟩
     ·simp_all
     ·
      have z2:=un.frzs b ob _ z;obtain⟨e1,_⟩:=hok b _ z;obtain⟨e2,_⟩:=J b _ z2;rw[e] at e1;cases e1;exact e2
 cases hk:K.lookup a with
 |some o=>

  have e:=KX a o hk;rw[ha] at e;cases e;refine core _ (fun _=> .inl rfl) (.inr ⟨_,_,_,hk,rfl,rfl,rfl,by simp_all,by trivial⟩) (fun b u z=>by trivial) (fun b z=>absurd rfl z) fun z=>absurd rfl z
 |none=>
  refine core (fun b=>if b=a then some _ else none) (fun b=>?_) (.inl (.inr ⟨{cls:= .type "list",data:= .seq vs.toArray},if_pos rfl⟩)) (fun b u z=>?_) (fun b z=>?_) fun _=>hk
  ·grind
  ·
   by_cases C:b=a
   ·
    have z':=(if_pos C).symm.trans z;cases z';subst C;exact⟨ha,by simp_all,vs,_,rv,ha⟩
   ·simp_all
  ·simp_all
theorem Qh {l:W.OpenLaw} {q:Program} {K:Params->W.Frag} {O:World->Ie} {sp:World->Sp} (hn:l.most=some n) (C:n<=sizeLine) (z:d.params.defaults= []) (hr:dz k callerA) (X: ∀(w:World) (h:Heap),YP w h->(K w.params).In h) (F: ∀(w:World) (mg:Str->Option Value) (fa:Addr) (h:Heap),(K w.params).In h->h.Ns mainGlobals mg->mg d.name=some (.ref fa)->
   ∃m:FuncData,(∀(s:Shared) (u:Value),BindsTo s m ⟨[u],[]⟩ [(x,u)])/\
    ∀base:Heap,(K w.params).In base->base.Ns mainGlobals mg->yZ l.prog w (K w.params) mg base (O w) k fa m [x] (sp w)) (j: ∀(w:World) (H:Hp) (a:Addr) (ns:List Int),ns.length<=n->P1 H->cQ (K w.params) H a (ns.map V.int)->sp w [.ref a] H (fun v _=>v = .bl true) fun _ _ _=>False) (E: ∀(w:World) (H:Hp) (s:Shared) (e:Value) (y:Shared),O w [] H s (fun _ _ _=>False) e y->False):
  W.WalkO q loose XP YP l.row.toRowW d [] (fun f vs=>PySem.call f vs):=by
 refine Att.HZ hn z fun w s₀ J mg mb fa o pm cd doc a vs ns G Y ho hd Z I i hints hlen hg=>?_;have P:=X w _ Y;obtain⟨m,hb,hF⟩:=F w mg fa _ P G.T.g I;exact Oe P G.T.g G.T.b G.T.builtins G.T.nolimit hg i hints (Nat.le_trans hlen C) hr hF hb (fun H U hS=>j w H a ns hlen U hS) fun H e y=>E w H _ e y
theorem MD {l:W.OpenLaw} {q:Program} {K:Params->W.Frag} {sp:W.Frag->Sp} (hn:l.most=some n) (y:n<=sizeLine) (m:d.params.defaults= []) (J:dz k callerA) (G: ∀(w:World) (h:Heap),YP w h->(K w.params).In h) (F: ∀(w:World) (mg:Str->Option Value) (fa:Addr) (h:Heap),(K w.params).In h->h.Ns mainGlobals mg->mg d.name=some (.ref fa)->
   ∃C:FuncData,(∀(s:Shared) (u:Value),BindsTo s C ⟨[u],[]⟩ [(x,u)])/\
    ∀base:Heap,(K w.params).In base->base.Ns mainGlobals mg->yZ l.prog w (K w.params) mg base CX k fa C [x] (sp (K w.params))) (i: ∀(K:W.Frag) (H:Hp) (a:Addr) (ns:List Int),ns.length<=n->P1 H->cQ K H a (ns.map V.int)->sp K [.ref a] H (fun v _=>v = .bl true) fun _ _ _=>False) (z: ∀(H:Hp) (s:Shared) (e:Value) (j:Shared),CX [] H s (fun _ _ _=>False) e j->False):
  W.WalkO q loose XP YP l.row.toRowW d [] (fun f vs=>PySem.call f vs):=
 Qh hn y m J G F (fun w H a ns h1 E I=>i _ H a ns h1 E I) fun _ H s e j=>z H s e j
end L2
namespace L2
open PySem PySem.Spec PyProof.Rows
noncomputable def inClass (s:Stmt) (j:Nat):Stmt:=match s with
 | .ClassDef _ _ _ body _ _ _ _ _ _ _=>body.getD j (.Pass ⟨0,0,0,0⟩)
 |_=> .Pass ⟨0,0,0,0⟩
noncomputable def fP (s:Stmt):Arguments:=match s with
 | .FunctionDef _ a _ _ _ _ _ _ _ _=>a
 |_=>{posonlyargs:=[],args:=[],vararg:=none,kwonlyargs:=[],kw_defaults:=[],kwarg:=none,defaults:=[]}
noncomputable def dq (s:Stmt):List Stmt:=match s with
 | .FunctionDef _ _ b _ _ _ _ _ _ _=>b
 |_=>[]
noncomputable def bN (s:Stmt):Scope:=match s with
 | .FunctionDef _ _ _ _ _ _ sc _ _ _=>sc
 |_=>{kind:= .function,names:=[],isGenerator:=false,isCoroutine:=false}
abbrev CX0:Ie:=fun _ _ _ _ _ _=>False
abbrev E0:XK:=fun _ _ _=>False
theorem YE:Passes CX0 X E0:=fun _ _ _ _ _ _ _ h=>h.elim
structure Fun (K:W.Frag) (x qual:Str) (st:Stmt) (f:Addr) (fd:FuncData):Prop where
 ex: ∃(oc:Value) (od:Option Addr) (kV doc pm:Value) (an:Option Addr) (cdv ct:Value) (osl:Array (Option Value)),
  fd=W.fnOf x qual (fP st) (dq st) (bN st) .none kV doc pm an cdv ct/\K.lookup f=some ⟨oc,od,.func fd,osl⟩/\W.codeIn K cdv qual=true
 kp:W.keepIn K (.ref f)=true
section
variable {K:W.Frag}
theorem Fun.binds {st:Stmt} (F:Fun K x qual st f fd) (h: ∀(kV doc pm:Value) (an:Option Addr) (d ct:Value) (us:List Value),us.length=ps.length->bindArgs (W.fnOf x qual (fP st) (dq st) (bN st) .none kV doc pm an d ct) ⟨us,[]⟩=pure (ps.zip us)):Binds K fd ps []:=by
 obtain⟨m,od,kV,doc,pm,an,d,ct,i,rfl,lk,j⟩:=F.ex;exact .all (h kV _ pm an _ ct)
theorem Pc {st:Stmt} {kV:Value} (l:K.lookup f=some ⟨oc,od,.func (W.fnOf x qual (fP st) (dq st) (bN st) .none kV doc pm an cdv ct),osl⟩) (c:W.codeIn K cdv qual=true) (k:W.keepIn K (.ref f)=true):Fun K x qual st f (W.fnOf x qual (fP st) (dq st) (bN st) .none kV doc pm an cdv ct):=⟨⟨oc,od,kV,doc,pm,an,cdv,ct,osl,rfl,l,c⟩,k⟩
end
section
theorem pv (i:Nat) (j:X.N[i]?=some x:=by rfl) (f:Vis X.env.scope x:=by first|exact Or.inl rfl|exact Or.inr (Or.inl rfl)|exact Or.inr (Or.inr rfl)) (hd:(x == ("__debug__" : Str))=false:=by decide) (d:(x == ("__classdict__" : Str))=false:=by decide):PE X (.Name x pos) (GS i):=UR j f hd d
end
def aW (H H':Hp):Prop:= ∀b o,H b=some o->H' b=some o
theorem aW.refl (H:Hp):aW H H:=fun _ _ h=>h
theorem aW.trans (a:aW H H1) (b:aW H1 H2):aW H H2:=fun c o h=>b c o (a c o h)
theorem aW.seq {K:W.Frag} (e:aW H H') (h:cQ K H a xs):cQ K H' a xs:=by
 rcases h with(h|⟨o,h⟩)|h
 ·exact .inl (.inl (e _ _ h))
 ·exact .inl (.inr ⟨o,e _ _ h⟩)
 ·exact .inr h
section
variable {κ:Type} [DecidableEq κ]
noncomputable def bJ (d:List (κ×V)) (k:κ):Option V:=(d.find? fun f=>decide (f.1=k)).map (·.2)
noncomputable def putK (d:List (κ×V)) (k:κ) (v:V):List (κ×V):=
 if(d.any fun f=>decide (f.1=k))=true then d.map (fun f=>if f.1=k then(f.1,v) else f) else d++ [(k,v)]
noncomputable def t8 (d:List (κ×V)) (k:κ):List (κ×V):=d.filter fun f=>decide (f.1≠k)
theorem e_ {k:κ} (e:p.1=k):bJ (p::r) k=some p.2:=by simp[bJ,e]
theorem fb {k:κ} (e: ¬p.1=k):bJ (p::r) k=bJ r k:=by simp[bJ,e]
theorem qe (k:κ): ∀d:List (κ×V),(d.any fun f=>decide (f.1=k))=(bJ d k).isSome
 | []=>rfl
 |p::r=>by
  rw[List.any_cons];by_cases e:p.1=k
  ·simp only[e_ e,decide_eq_true e,Bool.true_or,Option.isSome_some]
  ·rw[fb e,decide_eq_false e];exact qe k r
theorem GK (k j:κ) (y:V): ∀d:List (κ×V),bJ (d.map fun f=>if f.1=k then(f.1,y) else f) j=(bJ d j).map fun x=>if j=k then y else x
 | []=>rfl
 |p::r=>by
  have i:=GK k j y r;rw[List.map_cons];by_cases h:p.1=k
  ·
   rw[if_pos h];by_cases e:p.1=j
   ·rw[e_ (p:=(p.1,y)) e,e_ e,Option.map_some,if_pos (e.symm.trans h)]
   ·rw[fb (p:=(p.1,y)) e,fb e,i]
  ·
   rw[if_neg h];by_cases e:p.1=j
   ·rw[e_ e,e_ e,Option.map_some,if_neg (fun z=>h (e.trans z))]
   ·rw[fb e,fb e,i]
theorem ED (k j:κ) (y:V): ∀d:List (κ×V),bJ d k=none->bJ (d++ [(k,y)]) j=if j=k then some y else bJ d j
 | [],_=>by
  by_cases e:k=j
  ·rw[if_pos e.symm];exact e_ e
  ·rw[if_neg (fun z=>e z.symm)];exact fb e
 |p::r,hn=>by
  rw[List.cons_append];have hk: ¬p.1=k:=fun z=>by rw[e_ z] at hn;cases hn
  rw[fb hk] at hn;have f:=ED k j y r hn;by_cases e:p.1=j
  ·rw[e_ e,e_ e,if_neg (fun z=>hk (e.trans z))]
  ·rw[fb e,fb e,f]
theorem xT (d:List (κ×V)) (k j:κ) (y:V):bJ (putK d k y) j=if j=k then some y else bJ d j:=by
 unfold putK;by_cases a:(d.any fun f=>decide (f.1=k))=true
 ·
  rw[if_pos a,GK];rw[qe] at a;by_cases e:j=k
  ·
   obtain⟨x,hx⟩:=Option.isSome_iff_exists.mp a;rw[if_pos e,e,hx,Option.map_some,if_pos rfl]
  ·simp_all
 ·
  rw[if_neg a];refine ED k j y _ ?_;rw[qe] at a;cases q:bJ _ k<;>simp_all
theorem pz (d:List (κ×V)) (k:κ) (v:V):(putK d k v).length<=d.length+1:=by
 unfold putK;split
 ·simp_all
 ·simp_all
theorem He {k:κ} (v:V) (h:bJ kvs k=none):putK kvs k v=kvs++ [(k,v)]:=by
 unfold putK;rw[qe,h];exact if_neg (by decide)
theorem sQ.qw (r:sQ o u):o.isSome=u.isSome:=by
 cases o with
 |none=>cases u with
  |none=>rfl
  |some _=>trivial
 |some _=>cases u with
  |none=>trivial
  |some _=>rfl
theorem KV.val (r:KV kvs vs) (k:κ):sQ (bJ kvs k) (valueAt vs k):=by
 induction r with
 |nil=>trivial
 | @cons p q m d h t j=>
  obtain⟨h1,i⟩:=h;by_cases e:p.1=k
  ·
   have f:=h1.symm.trans e;have b:valueAt (q::d) k=some q.2:=by simp[valueAt,f]
   rw[e_ e,b];exact i
  ·
   have f: ¬q.1=k:=fun z=>e (h1.trans z);have b:valueAt (q::d) k=valueAt d k:=by simp[valueAt,f]
   rw[fb e,b];exact j
theorem KV.any (r:KV kvs vs) (k:κ):(kvs.any fun d=>decide (d.1=k))=vs.any fun d=>decide (d.1=k):=by
 induction r<;>simp_all
theorem KV.repl (r:KV kvs vs) (k:κ) (j:RelV y u):
  KV (kvs.map fun d=>if d.1=k then(d.1,y) else d) (vs.map fun d=>if d.1=k then(d.1,u) else d):=by
 induction r with
 |nil=>exact .nil
 | @cons p q i m h t f=>
  refine .cons ?_ f;by_cases e:p.1=k
  ·simp_all
  ·simp_all
theorem KV.put (r:KV kvs vs) (k:κ) (d:RelV y u):KV (putK kvs k y) (stored vs k u):=by
 unfold putK stored;rw[r.any k];by_cases e:(vs.any fun f=>decide (f.1=k))=true
 ·rw[if_pos e,if_pos e];exact r.repl k d
 ·rw[if_neg e,if_neg e];exact Paired.snoc r ⟨rfl,d⟩
theorem KV.drop (r:KV kvs vs) (k:κ):KV (t8 kvs k) (without vs k):=by
 unfold t8 without
 induction r with
 |nil=>exact .nil
 | @cons p q i j h t f=>
  obtain⟨h1,d⟩:=h;rw[List.filter_cons,List.filter_cons];by_cases e:p.1=k
  ·simp_all
  ·
   have a:decide (p.1≠k)=true:=by simp[e]
   have b:decide (q.1≠k)=true:=by simp_all
   rw[if_pos a,if_pos b];exact .cons ⟨h1,d⟩ f
theorem KV.length {d:List (κ×V)} {vs:List (κ×Value)} (r:KV d vs):d.length=vs.length:=Paired.length r
theorem Pj (d:List (κ×V)) (k:κ):(t8 d k).length<=d.length:=List.length_filter_le _ _
end
theorem ET (r:RelV (kV k) u):(fM P w).is k u=true:=by
 cases k with
 |inl i=>obtain⟨t,e⟩:=((r));subst e;exact Hv P w i t
 |inr x=>obtain⟨t,e⟩:=((r));subst e;exact Hu P w x t
theorem EU: ∀{d:List Key} {us:List Value},Vals (d.map kV) us->ItemsAre (fM P w) d us
 | [],_,r=>by cases r;exact .nil
 |k::d,_,r=>by
  cases r with
  |cons h t=>exact .cons (ET h) (EU t)
abbrev KT (H:Hp):List (List Key×V)->List (List Key×Addr×Value)->Prop:=Paired fun p q=>p.1=q.1/\H q.2.1=some (.tup (p.1.map kV))/\RelV p.2 q.2.2
theorem KT.val (r:KT H kvs xs) (k:List Key):sQ (bJ kvs k) ((atKey xs k).map (·.2)):=by
 induction r with
 |nil=>trivial
 | @cons p q m d h t j=>
  obtain⟨h1,_,i⟩:=h;by_cases e:p.1=k
  ·
   have f:=h1.symm.trans e;have b:atKey (q::d) k=some q.2:=by simp[atKey,f]
   rw[e_ e,b];exact i
  ·
   have f: ¬q.1=k:=fun z=>e (h1.trans z);have b:atKey (q::d) k=atKey d k:=by simp[atKey,f]
   rw[fb e,b];exact j
theorem KT.repl (r:KT H kvs xs) (k:List Key) (j:RelV y u):
  KT H (kvs.map fun d=>if d.1=k then(d.1,y) else d) (xs.map (putAt k u)):=by
 induction r with
 |nil=>exact .nil
 | @cons p q i m h t f=>
  refine .cons ?_ f;unfold putAt;by_cases e:p.1=k
  ·simp_all
  ·simp_all
theorem KT.put (r:KT H kvs xs) (k:List Key) (f:H b=some (.tup (k.map kV))) (d:RelV y u):
  KT H (putK kvs k y) (storedH xs k b u):=by
 have e:(kvs.any fun i=>decide (i.1=k))=(atKey xs k).isSome:=by
  rw[qe,(r.val k).qw,Option.isSome_map]
 unfold putK storedH;rw[e];by_cases q:(atKey xs k).isSome=true
 ·rw[if_pos q,if_pos q];exact r.repl k d
 ·rw[if_neg q,if_neg q];exact Paired.snoc r ⟨rfl,f,d⟩
theorem KT.keeps (r:KT H kvs xs) (ht: ∀b d,H b=some (.tup d)->H' b=some (.tup d)):KT H' kvs xs:=
 Paired.Va r fun _ _ z=>⟨z.1,ht _ _ z.2.1,z.2.2⟩
section
theorem Sm (ok:xO P w H h) (e:Rd H a u):dN P w H h a u:=e.ok ok
theorem E2 (ok:xO P w H h) (e:Rd H a (.dK kvs)):kvs.length<=sizeLine/\(a == sysModules)=false/\∃vs,KV kvs vs/\h.DictOf (fM P w) a vs:=
 (Sm ok e)
theorem Ue (ok:xO P w H h) (e:H a=some (.dK kvs)):kvs.length<=sizeLine/\(a == sysModules)=false/\∃vs,KV kvs vs/\h.DictOf (fM P w) a vs:=E2 ok (.inl e)
theorem CQ (ok:xO P w H h) (e:H a=some (.tup (ks.map kV))):(tupleKind (fM P w)).is h ks a:=by
 obtain⟨_,i,r,o,h1,f,n,d⟩:=((ok a _ e));exact⟨o,_,n,h1,f,d,by simpa using EU r⟩
theorem E1 (ok:xO P w H h) (e:Rd H a (.dT kvs)):kvs.length<=sizeLine/\(a == sysModules)=false/\
  ∃xs,KT H kvs xs/\h.DictOfH (tupleKind (fM P w)) a xs:=by
 obtain⟨z,y,xs,r,o,es,u,h1,d,j,v,f⟩:=((Sm ok e));refine⟨z,y,xs,r,o,es,u,h1,d,j,v,fun x hx=>?_,f⟩;have all: ∀{l:List _} {m:List _},KT H l m->∀x∈m,(tupleKind (fM P w)).is h x.1 x.2.1:=by
  intro l m q
  induction q with
  |nil=>intro x hx;exact nomatch hx
  | @cons p q E F C t i=>
   intro x hx;rcases List.mem_cons.mp hx with e|hx
   ·exact CQ ok (by simp_all)
   ·exact i x hx
 exact all r x hx
theorem afG (ok:xO P w H h) (e:H a=some (.dT kvs)):kvs.length<=sizeLine/\(a == sysModules)=false/\
  ∃xs,KT H kvs xs/\h.DictOfH (tupleKind (fM P w)) a xs:=E1 ok (.inl e)
end
def GH (H:Hp) (a:Addr) (y:V) (r:Option V):Prop:=
 (∃d k,Rd H a (.dK d)/\y=kV k/\r=bJ d k)\/∃d k b,Rd H a (.dT d)/\y = .ref b/\H b=some (.tup (k.map kV))/\r=bJ d k
def R_ (H:Hp) (a:Addr) (y v:V) (H':Hp):Prop:=
 (∃d k,H a=some (.dK d)/\y=kV k/\d.length<sizeLine/\H'=upd H a (.dK (putK d k v)))\/
 ∃d k b,H a=some (.dT d)/\y = .ref b/\H b=some (.tup (k.map kV))/\d.length<sizeLine/\H'=upd H a (.dT (putK d k v))
theorem GH.k {k:Key} (e:H a=some (.dK kvs)):GH H a (kV k) (bJ kvs k):= .inl ⟨kvs,k,.inl e,rfl,rfl⟩
theorem R_.k {k:Key} (e:H a=some (.dK kvs)) (hl:kvs.length<sizeLine):R_ H a (kV k) v (upd H a (.dK (putK kvs k v))):= .inl ⟨kvs,k,e,rfl,hl,rfl⟩
section
theorem Inv.big (I:Inv X pins σ H s):sysModules<s.heap.objs.size:=by
 have h:=(I.mod.glob.keeps I.bk).lt;exact Nat.lt_trans (by decide) h
theorem Mp (G:A.units+1<cLine) (I:Inv X pins σ H s) (g:GH H a y (some v)) (C:RelV y u) (h: ∀f x,Inv X pins σ H x->RelV v f->Q f x):
  wpAny (model X.prog X.w) A (getItem (.ref a) u) Q E s:=by
 rcases g with⟨m,k,e,i,l⟩|⟨m,k,b,e,i,F,l⟩
 ·
  subst i;obtain⟨z,hd,vs,rel,dd⟩:=E2 I.hok e;obtain⟨f,hw,d⟩:=sQ.some_of (by rw[l];exact rel.val k);exact wpAny_getItem_of (ET C) dd.mapOf hw (h f _ (I.tok _) d)
 ·
  subst i;cases((C));obtain⟨z,hd,xs,rel,dd⟩:=E1 I.hok e;obtain⟨f,hw,d⟩:=sQ.some_of (by rw[l];exact rel.val k);obtain⟨p,hp,j⟩:=Option.map_eq_some_iff.mp hw;refine wpAny_getItem_heap (tupleKind_room_in1 G) (CQ I.hok F) dd hp ?_;rw[j];exact h f _ (I.tok _) d
theorem aj6 (v:A.units+1<cLine) (I:Inv X pins σ H s) (g:GH H a y o) (j:RelV y u) (h: ∀i,Inv X pins σ H i->Q (.bool o.isSome) i):
  wpAny (model X.prog X.w) A (compareOp .In u (.ref a)) Q E s:=by
 rcases g with⟨f,k,e,d,l⟩|⟨f,k,b,e,d,m,l⟩
 ·
  subst d;obtain⟨z,hd,vs,rel,dd⟩:=E2 I.hok e;refine wpAny_in_of (ET j) hd dd.mapOf ?_;rw[<-(rel.val k).qw,<-l];exact h _ (I.tok _)
 ·
  subst d;cases((j));obtain⟨z,hd,xs,rel,dd⟩:=E1 I.hok e;refine wpAny_in_heap (tupleKind_room_in1 v) (CQ I.hok m) hd dd ?_;have q:=(rel.val k).qw;rw[Option.isSome_map] at q;rw[<-q,<-l];exact h _ (I.tok _)
theorem RW (v:A.units+1<cLine) (I:Inv X pins σ H s) (g:GH H a y o) (j:RelV y u) (h: ∀i,Inv X pins σ H i->Q (.bool (!o.isSome)) i):
  wpAny (model X.prog X.w) A (compareOp .NotIn u (.ref a)) Q E s:=by
 rcases g with⟨f,k,e,d,l⟩|⟨f,k,b,e,d,m,l⟩
 ·
  subst d;obtain⟨z,hd,vs,rel,dd⟩:=E2 I.hok e;refine wpAny_notIn_of (ET j) hd dd.mapOf ?_;rw[<-(rel.val k).qw,<-l];exact h _ (I.tok _)
 ·
  subst d;cases((j));obtain⟨z,hd,xs,rel,dd⟩:=E1 I.hok e;refine wpAny_notIn_heap (tupleKind_room_in1 v) (CQ I.hok m) hd dd ?_;have q:=(rel.val k).qw;rw[Option.isSome_map] at q;rw[<-q,<-l];exact h _ (I.tok _)
theorem Gm (I:Inv X pins σ H s) (f:Mut (H a)) (hs:Heap.SameBut a s.heap d) (he: ∃q,d.get? a=some q) (new:dN X.prog X.w (upd H a ob) d a ob):
  Inv X pins σ (upd H a ob) {s with heap:=d,toks:=t'}:=
 I.write f (.inl rfl) (fun b q i z=>(hs.2 b i).trans z) he new
theorem Pl (z:kvs.length<=sizeLine) (hd:(a == sysModules)=false) (rel:KV kvs vs) (dd:h'.DictOf (fM P w) a vs):
  dN P w H' h' a (.dK kvs):=⟨z,hd,vs,rel,dd⟩
theorem Mo (Z:A.units+1<cLine) (I:Inv X pins σ H s) (g:R_ H a y v H') (O:RelV y u) (G:RelV v r) (h: ∀x,Inv X pins σ H' x->Q () x):
  wpAny (model X.prog X.w) A (setItem (.ref a) u r) Q E s:=by
 rcases g with⟨d,k,e,j,l,m⟩|⟨d,k,b,e,j,F,l,m⟩
 ·
  subst j m;obtain⟨z,hd,vs,rel,dd⟩:=Ue I.hok e;have hz:vs.length<=sizeLine:=by rw[<-rel.length];exact z
  have hl:(putK d k v).length<=sizeLine:=by have:=pz d k v;lia
  refine wpAny_setItem_pairs (ET O) dd fun C f hs=>h _ ?_;have he: ∃q,C.get? a=some q:=let ⟨q,_,_,i,_⟩:=f;⟨q,i⟩;exact Gm I (by rw[e];exact True.intro) hs he (Pl hl hd (rel.put k G) f)
 ·
  subst j m;cases((O));obtain⟨z,hd,xs,rel,dd⟩:=afG I.hok e;have hz:xs.length<=sizeLine:=by rw[<-Paired.length rel];exact z
  have hl:(putK d k v).length<=sizeLine:=by have:=pz d k v;lia
  refine wpAny_setItem_heap (tupleKind_room_in1 Z) (CQ I.hok F) dd fun C f hs=>h _ ?_;obtain⟨q,es,ep,i,P,h3,h4,_,U⟩:=f;refine Gm I (by rw[e];exact True.intro) hs ⟨q,i⟩ ⟨hl,hd,_,(rel.put k F G).keeps fun c ys J=>?_,q,es,ep,i,P,h3,h4,U⟩;rw[aj (bX J e (fun z=>nomatch z))];exact J
end
section
theorem afL (I:Inv X pins σ H s) (e:H a=some (.dK kvs)) (m:RelV (kV k) u) (l:bJ kvs k=some v) (hm:more= []\/∃x,more= [x]) (h: ∀d y,Inv X pins σ (upd H a (.dK (t8 kvs k))) y->RelV v d->Q d y):wpAny (model X.prog X.w) A (call (.builtin "dict.pop") (.ref a::u::more)) Q E s:=by
 obtain⟨z,hd,vs,rel,dd⟩:=Ue I.hok e;obtain⟨d,hw,j⟩:=sQ.some_of (by rw[<-l];exact rel.val k);have hp:(keyPart u).isSome=true:=by
  cases k with
  |inl i=>obtain⟨t,q⟩:=((m));subst q;rfl
  |inr x=>obtain⟨t,q⟩:=((m));subst q;rfl
 have ha:argsOk "dict.pop" ⟨.ref a::u::more,[]⟩:=by
  rcases hm with q|⟨x,q⟩
  ·subst q;exact PySem.F.args_dict_pop_2 _ _
  ·subst q;exact PySem.F.args_dict_pop_3 _ _ _
 refine call_meetsIn PySem.F.slot_dict_pop dd.typeIs PySem.F.entry_dict_pop ha (meets_dict_pop_there _ a (ET m) _ hm hp)
  ⟨vs,d,dd,by rw[<-rel.length];exact z,hw,fun C f hs=>h d _ ?_ j⟩
 have he: ∃q,C.get? a=some q:=let ⟨q,_,_,hq,_⟩:=f;⟨q,hq⟩;exact Gm I (by rw[e];exact True.intro) hs he (Pl (Nat.le_trans (Pj _ k) z) hd (rel.drop k) f)
end
def afW (i:Expr):Prop:= ∀f d,subscripted i false f d=operate [f,d] (getItem f d)
theorem Qt {prog:Program} {w:World} {A:Around} {E:Value->Shared->Prop} {s:Shared} {env:Env} {value slice:Expr} {pos:Pos} {T id:String} {Q:Value->Shared->Prop}
  (hl:typeLookup (.type T) "__getitem__" = pure (some (.builtin id))) (hs:afW slice)
  (h:wpAny (model prog w) A (eval value env) (fun o m=>wpAny (model prog w) A (eval slice env) (fun i d=>d.TypeIs o T/\wpAny (model prog w) A (getItem o i) Q E d) E m) E s):
  wpAny (model prog w) A (eval (.Subscript value slice pos) env) Q E s:=by
 refine Subscript_ (wpAny_mono h (fun o m u=>wpAny_mono u (fun i d f=>?_) fun _ _ x=>x) fun _ _ x=>x);obtain⟨y,f⟩:=f;refine wpAny_bind ?_;refine wpAny_bind (wpAny_specialOf y hl ?_);have fin:wpAny (model prog w) A (subscripted slice false o i) (fun r j=>wpAny (model prog w) A (letTemporaryGo value o r >>= fun _=>pure r) Q E j) E d:=by
  rw[hs o i];exact wpAny_operating (wpAny_mono f (fun r j v=>wpAny_bind (wpAny_letTemporaryGo (wpAny_pure v))) fun _ _ x=>x)
 first
  |exact wpAny_pure (wpAny_bind fin)
  |rfl
  |rfl
theorem HV (I:Inv X pins σ H s) (g:GH H a y o):s.TypeIs (.ref a) "dict" :=by
 rcases g with⟨d,k,e,_,_⟩|⟨d,k,b,e,_,_,_⟩
 ·
  obtain⟨_,_,vs,_,dd⟩:=E2 I.hok e;exact dd.typeIs
 ·
  obtain⟨_,_,xs,_,dd⟩:=E1 I.hok e;exact dd.typeIs
theorem Pn (h:Heap) (d:sysModules<h.objs.size):dN P w H (h.push {cls:= .type "dict",data:= .dict #[]}) h.objs.size (.dK []):=
 ⟨Nat.zero_le _,beq_eq_false_iff_ne.mpr (Ne.symm (Nat.ne_of_lt d)),[],.nil,Heap.DictOf.new h⟩
def MR:TE:=fun _ H Q=> ∀p,H p=none->Q (.ref p) (upd H p (.dK []))
section
theorem yh:PE X (.Dict [] [] pos) MR:=fun d s σ H Q I h=>
 wpAny_Dict_empty ⟨.ref _,_,I.laid (fun _ _ q=>Heap.get?_push_of_some _ q) (Nat.le_refl _) (Pn _ I.big),rfl,h _ (I.hok.fresh (Nat.le_refl _))⟩
end
def IsD (H:Hp) (a:Addr):Prop:=(∃d,Rd H a (.dK d))\/∃d,Rd H a (.dT d)
theorem W3 (I:Inv X pins σ H s) (d:IsD H a):
  s.TypeIs (.ref a) "dict" /\(∀b,Value.ref a = .ref b->∃ob,s.heap.get? b=some ob/\ob.dict=none)/\(a == sysModules)=false:=by
 rcases d with⟨i,e⟩|⟨i,e⟩
 ·
  obtain⟨_,hd,vs,_,dd⟩:=E2 I.hok e;refine⟨dd.typeIs,fun b q=>?_,hd⟩;cases q;obtain⟨ob,_,_,h1,f,_⟩:=dd;exact⟨ob,h1,f.2.1⟩
 ·
  obtain⟨_,hd,xs,_,dd⟩:=E1 I.hok e;refine⟨dd.typeIs,fun b q=>?_,hd⟩;cases q;obtain⟨ob,_,_,h1,f,_⟩:=dd;exact⟨ob,h1,f.2.1⟩
section
variable {κ:Type} [DecidableEq κ]
theorem ME {k:κ} (h:bJ kvs k=none): ¬k∈kvs.map (·.1):=by
 intro m;obtain⟨p,hp,e⟩:=List.mem_map.mp m;have q:(kvs.any fun d=>decide (d.1=k))=true:=List.any_eq_true.mpr ⟨p,hp,decide_eq_true e⟩;rw[qe,h] at q;exact absurd q (by simp)
theorem yw: ∀{l:List κ} {k:κ},l.Nodup->¬k∈l->(l++ [k]).Nodup
 | [],k,_,_=>by simp
 |a::r,k,h,hk=>by
  grind
theorem Rk {k:κ} (v:V) (hn:(kvs.map (·.1)).Nodup) (h:bJ kvs k=none):((putK kvs k v).map (·.1)).Nodup:=by
 rw[He v h,List.map_append];exact yw hn (ME h)
end
def FnAt (P:Program) (w:World) (K:W.Frag) (mg:Str->Option Value) (base:Heap) (u:Ie) (x:Str) (k:Nat) (j:List Str) (sp:Sp):Prop:=
 ∃f d,yZ P w K mg base u k f d j sp/\mg x=some (.ref f)/\W.keepIn K (.ref f)=true/\Binds K d j []/\∃m od i,K.lookup f=some ⟨m,od,.func d,i⟩
def cB (K:W.Frag) (mg:Str->Option Value) (x:Str) (st:Stmt):Prop:= ∃f d,Fun K x x st f d/\mg x=some (.ref f)
class Quiet (CX:Ie):Prop where
 pass: ∀(X:Cx),Passes CX X E0
noncomputable instance:Quiet CX0:=⟨fun _=>YE⟩
theorem Pq {K:W.Frag} {st:Stmt} {kV:Value} (X:K.In h) (G:h.Ns mainGlobals mg) (a:W.nsIn K mainGlobals x=some (some (.ref f))) (l:K.lookup f=some ⟨oc,od,.func (W.fnOf x x (fP st) (dq st) (bN st) .none kV doc pm an cdv ct),osl⟩) (c:W.codeIn K cdv x=true) (k:W.keepIn K (.ref f)=true):cB K mg x st:=
 ⟨f,_,Pc l c k,W.mg_of X G a⟩
section
theorem cB.fn {K:W.Frag} {st:Stmt} (F:cB K mg x st) (S:pC N ps (bN st)) (z: ∀(kV doc pm:Value) (an:Option Addr) (d ct:Value) (us:List Value),us.length=ps.length->bindArgs (W.fnOf x x (fP st) (dq st) (bN st) .none kV doc pm an d ct) ⟨us,[]⟩=pure (ps.zip us)) (len: ∀vs H Q E,sp vs H Q E->vs.length=ps.length) (i: ∀(f:Addr) (d:Value) (A:Around) (outer:List Env) (s:Shared) (H:Hp) (vs:List V) (Q:VK) (E:XK),dz k (A.deeper (envOfC x (bN st) s.heap.objs.size f d))->sp vs H Q E->
   ∃t,Cj (Dz CX P w K mg base N x (bN st) f d A outer s H E).nox (dq st) t/\t {nx:=fun _ H'=>Q .non H',rt:=Q} (start N vs) H):FnAt P w K mg base CX x (k+1) ps sp:=by
 obtain⟨f,C,F,hm⟩:=F;have bd:=F.binds z;have kp:=F.kp;obtain⟨v,od,kV,doc,pm,an,d,ct,u,rfl,lk,m⟩:=F.ex;refine⟨f,_,Kv lk m S len fun A outer s H vs Q E y j=>?_,hm,kp,bd,v,od,u,lk⟩;obtain⟨t,h,q⟩:=i f _ A _ s H vs Q E y j;exact⟨t,h.nox,q⟩
end
section
theorem YD [Quiet CX] (G:FnAt X.prog X.w X.K X.mg X.base CX x k ps sp) (j:dz n X.A) (hk:k<=n) (hg:Gl X x) (ha:PA X (e::es) t) (d:(x == ("__debug__" : Str))=false:=by decide) (he:starEach (e::es) X.env=(false,eval e X.env)::starEach es X.env:=by rfl) (i:(backTo pos (starEach es X.env)).any (·.1)=false:=by rfl):
  PE X (.Call (.Name x p) (e::es) [] pos) (GV sp [] E0 t):=by
 obtain⟨f,m,F,hm,kp,b,_⟩:=G;exact Kf F (j.mono hk) hg hm kp b .nil (Quiet.pass X) ha d he i
def gG (mg:Str->Option Value) (x:Str) (v:V):Prop:= ∃u,mg x=some u/\RelV v u
theorem cy (hg:Gl X x) (h:gG X.mg x v) (hd:(x == ("__debug__" : Str))=false:=by decide):PE X (.Name x pos) (tC v):=by
 obtain⟨u,hm,r⟩:=h;exact Q5 hg hm r hd
end
noncomputable def Ic (lo c:Int) (n:Nat):It:=⟨fun i _=>i<n,fun i H x H'=>H'=H/\x = .int (lo+i*c),fun i _=>n<=i⟩
theorem GN {P:Program} {w:World} {K:W.Frag} {tg:Expr} (it:Addr) (lo c:Int) (n:Nat):Turn P w K tg (Ic lo c n) [it] it (fun i h=>IsRangeIter h it (lo+(i:Nat)*c) ((n:Int) - (i:Nat)) c) where
 mem:=by simp
 obj:=fun i h st b d=>by
  simp_all
 keep:=fun i h m st k=>k it (by simp) _ st
 item:=by
  intro X z hw C hc i j s σ H E I hf st hg;subst z hw C;obtain⟨f0,f1,U,y,u,x⟩:=hf it (by simp);have W:=Walks.range (prog:=X.prog) (w:=X.w) (I.ok.hd hc) it lo c n;refine W.item i s _ _ hg st fun v m tk J f F=>?_;obtain⟨t,rfl⟩:=J;have O:Inv X _ σ H {s with heap:=m,toks:=tk}:=I.turned (fun b o d e=>F b o (by simp_all) e) f0 f1 y u x;exact⟨_,rfl,HH f rfl rfl (by decide) ⟨.int _,H,O,⟨t,rfl⟩,⟨rfl,rfl⟩,f,fun b d=>(hf b d).1⟩⟩
 done:=by
  intro X z hw C hc i j s σ H E I hf st hg;obtain⟨f0,f1,U,y,u,x⟩:=hf it (by simp);exact wpAny_pyNext_range_end (I.ok.hd hc) st (by have:n<=i:=hg;lia) fun m G=>⟨rfl,I.turned (fun b o d e=>G b o d e) f0 f1 y u x⟩
 self:=fun _ _ _ _ _ st h=>wpAny_pyIter_rangeiter st h
noncomputable def rcount (lo hi c:Int):Nat:=(Builtin.Range.rangeSize lo hi c).toNat
theorem G5 (lo hi c:Int) (hc:0<c):0<=Builtin.Range.rangeSize lo hi c:=by
 unfold Builtin.Range.rangeSize;rw[if_pos hc];split
 ·
  have:=Int.ediv_nonneg (a:=hi - lo - 1) (b:=c) (by lia) (by lia);lia
 ·trivial
theorem Qu (ha : -(2 ^ 61)<=a) (i:a<2 ^ 61) (j : -(2 ^ 61)<=b) (f:b<2 ^ 61) (hc:0<c) (d:c<2 ^ 61):Builtin.Range.small a b c=true:=by
 have h0:=G5 a b c hc;have h1:Builtin.Range.rangeSize a b c<=2 ^ 62:=by
  unfold Builtin.Range.rangeSize;rw[if_pos hc];split
  ·
   have:=Int.ediv_le_self (a:=b - a - 1) c (by lia);lia
  ·decide
 unfold Builtin.Range.small;simp only[Builtin.Range.rangeFitsLong,Bool.and_eq_true,Bool.or_eq_true];rw[if_pos hc];simp only[Bool.and_eq_true,decide_eq_true_eq];lia
section
theorem Le {X:Cx} {tg:Expr} {d:List (Addr×Obj)} {σ:St} {H:Hp} {s:Shared} {R:It->Hp->Prop} {E:Value->Shared->Prop} {lo hi c:Int} {t u v:Tok} {tk:Nat} (I:Inv X d σ H s) (hs:Builtin.Range.small lo hi c=true) (hc:0<c)
  (q:R (Ic lo c (rcount lo hi c)) H):wpAny (model X.prog X.w) X.A (pyIter (.ref s.heap.objs.size)) (PIE X d σ tg R) E {s with heap:=s.heap.push {cls:= .type "range",data:= .fields #[.int lo t,.int hi u,.int c v]},toks:=tk}:=by
 refine wpAny_pyIter_range (IsRange.new ..) hs ?_;have f:Inv X _ σ H {s with heap:=s.heap.push {cls:= .type "range",data:= .fields #[.int lo t,.int hi u,.int c v]},toks:=tk}:=I.kept fun b o e=>Heap.get?_push_of_some _ e;refine⟨_,_,_,_,H,rfl,
  f.kept fun b o e=>Heap.get?_push_of_some _ e,GN _ lo c _,?_,fun b j=>?_,q⟩
 ·
  have e1:lo+((0:Nat))*c=lo:=by simp
  have i:((rcount lo hi c)) - ((0:Nat))=Builtin.Range.rangeSize lo hi c:=by
   have:=G5 lo hi c hc;unfold rcount;lia
  rw[e1,i];exact Heap.get?_push_size _ rfl
 ·
  have e:b=(s.heap.push {cls:= .type "range",data:= .fields #[.int lo t,.int hi u,.int c v]}).objs.size:=by simp_all
  subst e;exact f.Ji (Nat.le_refl _) (f.hok.fresh (Nat.le_refl _))
end
theorem Jj {lo:Int} {g:TG} {u:TS} {D:Ends} (Pv:Nat->St->Hp->Prop) (h0:Pv 0 σ H) (hs: ∀(i:Nat) σ H,i<n->Pv i σ H->g (.int (lo+i*c)) σ H fun d j=>u {D with nx:=Pv (i+1),ct:=Pv (i+1),bk:=D.nx} d j) (hd: ∀σ H,Pv n σ H->D.nx σ H):
  ∃W:Nat->Nat->St->Hp->Prop,(∃m,W 0 m σ H)/\∀i m σ H,W i m σ H->
   ((Ic lo c n).stop i H/\D.nx σ H)\/((Ic lo c n).go i H/\∃N:St->Hp->Prop,(∀f H',N f H'->∃v,v<m/\W (i+1) v f H')/\∀x H',(Ic lo c n).yld i H x H'->g x σ H' fun d j=>u {D with nx:=N,ct:=N,bk:=D.nx} d j):=by
 refine⟨fun i m σ H=>i<=n/\m=n - i/\Pv i σ H,⟨n,Nat.zero_le _,rfl,h0⟩,fun i m σ H ⟨hi,hm,hp⟩=>?_⟩;by_cases e:i=n
 ·
  subst e;exact .inl ⟨Nat.le_refl _,hd σ H hp⟩
 ·
  refine .inr ⟨(by show i<n;lia),_,fun f H' h=>⟨_,by lia,by lia,rfl,h⟩,fun x H' ⟨e1,y⟩=>?_⟩;subst e1 y;exact hs i σ _ (by lia) hp
section
theorem QO:IJ g (.int i) (.int j) H Q=Q (g i j) H:=rfl
theorem UI:rI C g (.int i) (.int j) H Q=(C i j/\Q (g i j) H):=rfl
theorem UD:rU f (.int i) H Q=Q (f i) H:=rfl
theorem afE {P:Bool->Prop}:(∃k,V.bl b = .bl k/\P k)=P b:=by
 simp_all
theorem QT:YA (.int i) (.int j) H Q=Q (.bl (decide (i=j))) H:=by
 have e:decide (V.int i=V.int j)=decide (i=j):=by
  simp_all
 unfold YA;rw[e];apply propext;exact⟨fun h=>h.2,fun h=>⟨rfl,h⟩⟩
theorem QG:Yt (.int i) (.int j) H Q=Q (.bl (!decide (i=j))) H:=by
 have e:decide (V.int i=V.int j)=decide (i=j):=by
  simp_all
 unfold Yt;rw[e];apply propext;exact⟨fun h=>h.2,fun h=>⟨rfl,h⟩⟩
theorem QR:YA (.str a) (.str b) H Q=Q (.bl (decide (a=b))) H:=by
 have e:decide (V.str a=V.str b)=decide (a=b):=by
  simp_all
 unfold YA;rw[e];apply propext;exact⟨fun h=>h.2,fun h=>⟨rfl,h⟩⟩
theorem QF:Yt (.str a) (.str b) H Q=Q (.bl (!decide (a=b))) H:=by
 have e:decide (V.str a=V.str b)=decide (a=b):=by
  simp_all
 unfold Yt;rw[e];apply propext;exact⟨fun h=>h.2,fun h=>⟨rfl,h⟩⟩
end
theorem iW.imp (h:iW X f r) (i: ∀x y H Q,r' x y H Q->r x y H Q):iW X f r':=
 fun d s σ H x y v u Q I j m q=>h _ s σ H x y v u Q I j m (i _ _ _ _ q)
theorem b9.imp (h:b9 X f r) (i: ∀xs H Q,r' xs H Q->r xs H Q):b9 X f r':=
 fun d s σ H xs us Q I rs q=>h _ s σ H xs us Q I rs (i _ _ _ q)
def EN (K:W.Frag):R2:=fun x y H Q=>match x,y with
 | .int i,.int j=>Q (.int (i+j)) H
 | .str a,.str b=>a.length+b.length<=sizeLine/\Q (.str (a++b)) H
 | .ref l,.ref b=>YB (.ref l) (.ref b) H Q\/Sn K (.ref l) (.ref b) H Q
 |_,_=>False
section
theorem Rc:iW X (binaryOp .Add) (EN X.K):=by
 refine iW.imp (U7.or (IQ.or (U6.or Rb))) fun x y H Q h=>?_;unfold EN at h;split at h
 ·exact .inl h
 ·simp_all
 ·exact .inr (.inr h)
 ·trivial
def P6 (i j:Int):Prop:=(0<=j/\j<=1000000)/\-(2 ^ 512)<i/\i<2 ^ 512
theorem P6.bits (h:P6 i j):(Builtin.Int.intBits i:Int)+j<=2 ^ 27:=by
 have m:Builtin.Int.intBits i<=512:=by
  unfold Builtin.Int.intBits;split
  ·lia
  ·
   rename_i d;have f:i≠0:=fun q=>d (by rw[q];rfl);have:i.natAbs.log2<512:=(Nat.log2_lt (by lia)).mpr (by have:=h.2;lia);lia
 have:=h.1.2;lia
theorem fK:iW X (binaryOp .LShift) (rI P6 fun i j=> .int (i*2 ^ j.toNat)):=So fun _ _ _ _ _ _ _ hc q=>lshift_int hc.1.1 hc.bits q
end
def Uk (i j:Int):Prop:=(0<=j/\j<=1000000)/\-(2 ^ 64)<i/\i<2 ^ 64
theorem Q9:iW X (binaryOp .Pow) (rI Uk fun i j=> .int (i ^ j.toNat)):=So fun _ _ _ _ _ _ _ hc q=>pow_int_small hc.1.1 hc.1.2 (by have:=hc.2;lia) q
def AW (K:W.Frag):List V->Hp->VK->Prop:=fun xs H Q=>match xs with
 | [.str z]=>z.length<=sizeLine/\Q (.int z.length) H
 | [.ref p]=> ∃d,(cQ K H p d\/dO K H p d)/\Q (.int d.length) H
 |_=>False
section
theorem Mv:b9 X (.builtin "len") (AW X.K):=by
 refine b9.imp (Gv.or Gu) fun xs H Q h=>?_;unfold AW at h;split at h
 ·exact .inr ⟨_,rfl,h.1,h.2⟩
 ·simp_all
 ·simp_all
def Nl:List V->Hp->VK->Prop:=fun xs H Q=>match xs with
 | [.int i,.int j]=>Q (.int (if j<i then j else i)) H
 |_=>False
def Nn:List V->Hp->VK->Prop:=fun xs H Q=>match xs with
 | [.int i,.int j]=>Q (.int (if i<j then j else i)) H
 |_=>False
theorem uV (hc:X.calm=true):b9 X (.builtin "min") Nl:=by
 refine b9.imp (Mt hc) fun xs H Q h=>?_;unfold Nl at h;split at h
 ·exact⟨_,_,rfl,h⟩
 ·trivial
theorem uW (hc:X.calm=true):b9 X (.builtin "max") Nn:=by
 refine b9.imp (Mu hc) fun xs H Q h=>?_;unfold Nn at h;split at h
 ·exact⟨_,_,rfl,h⟩
 ·trivial
noncomputable def aeV:V->String->Option Bool
 | .int _,"int" =>some true
 | .int _,"bool" =>some false
 | .int _,"str" =>some false
 | .bl _,"int" =>some true
 | .bl _,"bool" =>some true
 | .str _,"str" =>some true
 | .str _,"int" =>some false
 |_,_=>none
def zD (K:W.Frag):List V->Hp->VK->Prop:=fun xs H Q=>match xs with
 | [x,.ty T]=>(match aeV x T with
  |some b=>Q (.bl b) H
  |none=> ∃t b,yW K H x t/\W.kitOne K t (.type T)=some b/\Q (.bl b) H)
 |_=>False
theorem Vf (K:W.Frag):W.kitOne K (.type "int") (.type "int")=some true:=rfl
theorem Vg (K:W.Frag):W.kitOne K (.type "int") (.type "bool")=some false:=rfl
theorem kit_is (K:W.Frag):W.kitOne K (.type "int") (.type "str")=some false:=rfl
theorem Vh (K:W.Frag):W.kitOne K (.type "bool") (.type "int")=some true:=rfl
theorem Vi (K:W.Frag):W.kitOne K (.type "bool") (.type "bool")=some true:=rfl
theorem Vd (K:W.Frag):W.kitOne K (.type "str") (.type "str")=some true:=rfl
theorem Ve (K:W.Frag):W.kitOne K (.type "str") (.type "int")=some false:=rfl
theorem ajY (K:W.Frag):W.kitOne K (.type "list") (.type "list")=some true:=rfl
theorem Vc (K:W.Frag):W.kitOne K (.type "tuple") (.type "tuple")=some true:=rfl
theorem PB:b9 X (.builtin "isinstance") (zD X.K):=by
 intro d s σ H xs us Q I rs q;unfold zD at q;split at q
 ·
  rename_i x T;obtain⟨u,c,rfl,f,rc⟩:=vals2 rs;obtain rfl:c=Value.type T:=rc;have key: ∀{t b},yW _ H x t->W.kitOne _ t _=some b->Q _ H->wpAny _ X.A (call _ [u,.type T]) (EP X _ σ Q) X.xe s:=fun{t b} ty e h=>
   L9 I f ty e fun tk=>⟨.bl b,H,I.tok tk,rfl,h⟩
  split at q
  ·
   rename_i b e;have h:=q;unfold aeV at e;split at e<;>cases e
   ·exact key (.int _) (Vf _) h
   ·exact key (.int _) (Vg _) h
   ·exact key (.int _) (kit_is _) h
   ·exact key (.bl _) (Vh _) h
   ·exact key (.bl _) (Vi _) h
   ·exact key (.str _) (Vd _) h
   ·exact key (.str _) (Ve _) h
  ·
   obtain⟨t,b,ty,e,h⟩:=q;exact key ty e h
 ·trivial
theorem yf (hg:Gl X x) (hm:X.mg x=none) (d:bootBuiltins x=some (.type T)) (hn:x≠ "__name__" :=by decide) (hd:(x == ("__debug__" : Str))=false:=by decide):PE X (.Name x pos) (tC (.ty T)):=
 Q7 hg hm d rfl hn hd
end
theorem iR:bootBuiltins "len" = some (.builtin "len"):=by decide+kernel
theorem Gw:bootBuiltins "min" = some (.builtin "min"):=by decide+kernel
theorem DC:bootBuiltins "max" = some (.builtin "max"):=by decide+kernel
theorem XR:bootBuiltins "abs" = some (.builtin "abs"):=by decide+kernel
theorem XO:bootBuiltins "sum" = some (.builtin "sum"):=by decide+kernel
theorem Js:bootBuiltins "all" = some (.builtin "all"):=by decide+kernel
theorem cK:bootBuiltins "isinstance" = some (.builtin "isinstance"):=by decide+kernel
theorem XQ:bootBuiltins "int" = some (.type "int"):=by decide+kernel
theorem R3:bootBuiltins "bool" = some (.type "bool"):=by decide+kernel
theorem PK:bootBuiltins "str" = some (.type "str"):=by decide+kernel
theorem RZ:bootBuiltins "list" = some (.type "list"):=by decide+kernel
theorem oV:bootBuiltins "tuple" = some (.type "tuple"):=by decide+kernel
section
variable {K:W.Frag}
theorem LA:EN K (.int i) (.int j) H Q=Q (.int (i+j)) H:=rfl
theorem Lz:EN K (.str i) (.str j) H Q=(i.length+j.length<=sizeLine/\Q (.str (i++j)) H):=rfl
theorem Lm:AW K [.str z] H Q=(z.length<=sizeLine/\Q (.int z.length) H):=rfl
theorem Ln:AW K [.ref p] H Q=(∃d,(cQ K H p d\/dO K H p d)/\Q (.int d.length) H):=rfl
theorem QK:zD K [.int i,.ty "int"] H Q=Q (.bl true) H:=rfl
theorem QL:zD K [.int i,.ty "bool"] H Q=Q (.bl false) H:=rfl
theorem QJ:zD K [.str i,.ty "str"] H Q=Q (.bl true) H:=rfl
theorem Lh:Nl [.int i,.int j] H Q=Q (.int (if j<i then j else i)) H:=rfl
theorem Lj:Nn [.int i,.int j] H Q=Q (.int (if i<j then j else i)) H:=rfl
end
theorem XI {d:Ie} {P:Program} {w:World} {K:W.Frag} {mg:Str->Option Value} {base:Heap} {N:List Str} {qual:Str} {scope:Scope} {f:Addr} {cd:Value} {A:Around} {outer:List Env} {s:Shared} {H:Hp} {E:XK}:
  (Dz d P w K mg base N qual scope f cd A outer s H E).K=K:=rfl
theorem law_fin {K:W.Frag} {st:Stmt} (j:mg nm=some (.ref fa)) (D:cB K mg nm st) (G: ∀(kV doc pm:Value) (an:Option Addr) (i ct:Value) (us:List Value),us.length=([x]:List Str).length->bindArgs (W.fnOf nm nm (fP st) (dq st) (bN st) .none kV doc pm an i ct) ⟨us,[]⟩=pure (([x]:List Str).zip us)) (ok: ∀base:Heap,FnAt P w K mg base CX nm k [x] sp):
  ∃v:FuncData,(∀(s:Shared) (u:Value),BindsTo s v ⟨[u],[]⟩ [(x,u)])/\∀base:Heap,K.In base->base.Ns mainGlobals mg->yZ P w K mg base CX k fa v [x] sp:=by
 obtain⟨f,v,F,hm⟩:=D;rw[j] at hm;cases hm;obtain⟨J,od,kV,doc,pm,an,i,ct,H,e,lk,E⟩:=F.ex;refine⟨v,fun s u=>?_,fun base _ _=>?_⟩
 ·
  rw[e];exact .of_eq (G kV _ pm an _ ct _ rfl)
 ·
  obtain⟨O,I,h,m,_,_,z,C,y,d⟩:=ok _;rw[j] at m;cases m;rw[lk] at d;cases d;exact h
def GY (K:W.Frag):Sp:=fun vs H Q _=>match vs with
 | [.ref a]=> ∃ns:List Int,cQ K H a (ns.map V.int)/\ns.length<=63/\P1 H/\∀H',Q (.bl true) H'
 |_=>False
theorem Od {l:W.OpenLaw} {q:Program} {K:Params->W.Frag} (hn:l.most=some 63) (i:d.params.defaults= []) (C:dz k callerA) (v: ∀(w:World) (h:Heap),YP w h->(K w.params).In h) (F: ∀(w:World) (mg:Str->Option Value) (fa:Addr) (h:Heap),(K w.params).In h->h.Ns mainGlobals mg->mg d.name=some (.ref fa)->
   ∃j:FuncData,(∀(s:Shared) (u:Value),BindsTo s j ⟨[u],[]⟩ [(x,u)])/\∀base:Heap,(K w.params).In base->base.Ns mainGlobals mg->yZ l.prog w (K w.params) mg base CX0 k fa j [x] (GY (K w.params))):
  W.WalkO q loose XP YP l.row.toRowW d [] (fun f vs=>PySem.call f vs):=
 L2.MD hn (by decide) i C v F (fun K H a ns hl m y=>⟨ns,y,hl,m,fun _=>rfl⟩) fun _ _ _ _ z=>z
noncomputable def Cx.comp (X:Cx) (scope:Scope) (cl:List (Str×Addr)) (C:Addr) (N:List Str) (s:Shared) (H:Hp) (ex:List Addr):Cx:=
 {prog:=X.prog,w:=X.w,K:=X.K,mg:=X.mg,base:=X.base,A:=X.A,N:=N,s₀:=s,H₀:=H,env:=compEnvC scope cl C X.env,outer:=X.stack,stack:=X.stack,ex:=ex,fn:=fun _=>false,calm:=X.calm,pn:=[],xe:=fun _ _=>False}
theorem Jp (h: ∀y∈scope.names,y.2 = .free->∃c,env.cells.lookup y.1=some c):
  ∃cl,closureFor scope env=pure cl/\(∀y c,cl.lookup y=some c->env.cells.lookup y=some c)/\∀y∈scope.names,y.2 = .free->∃c,cl.lookup y.1=some c:=by
 have key: ∀(l:List _) (acc:List (Str×Addr)),(∀y∈l,y.2 = .free->∃c,env.cells.lookup y.1=some c)->(∀y c,acc.lookup y=some c->env.cells.lookup y=some c)->
   ∃cl,(forIn l acc fun(x:Str×NameKind) (cs:List (Str×Addr))=>if(x.2 == NameKind.free)=true then do let a<-cellOf env x.1;pure (ForInStep.yield ((x.1,a)::cs)) else pure (ForInStep.yield cs))=(pure cl:Sem (List (Str×Addr)))/\
    (∀y c,cl.lookup y=some c->env.cells.lookup y=some c)/\(∀y c,acc.lookup y=some c->∃c,cl.lookup y=some c)/\∀y∈l,y.2 = .free->∃c,cl.lookup y.1=some c:=by
  intro l
  induction l with
  |nil=>intro acc _ ha;exact⟨acc,rfl,ha,fun y c e=>⟨c,e⟩,fun y f=>nomatch f⟩
  |cons x r u=>
   intro acc hl ha;obtain⟨n,k⟩:=x;by_cases hk:k = .free
   ·
    subst hk;obtain⟨c,hc⟩:=hl (n,.free) List.mem_cons_self rfl;have m: ∀y d,((n,c)::acc).lookup y=some d->env.cells.lookup y=some d:=fun y d e=>by
     simp only[List.lookup_cons] at e;cases q:y == n<;>simp_all
    obtain⟨cl,e,h1,j,i⟩:=u ((n,c)::acc) (fun y f=>hl y (List.mem_cons_of_mem _ f)) m;have top: ∃d,cl.lookup n=some d:=j n c (by simp_all);refine⟨cl,?_,h1,fun y d q=>?_,fun y f hf=>?_⟩
    ·
     rw[List.forIn_cons];have v:cellOf env n=pure c:=by unfold cellOf;rw[hc]
     show((if(NameKind.free == NameKind.free)=true then(do let a<-cellOf env n;pure (ForInStep.yield ((n,a)::acc))) else _) >>= _)=_;rw[v];exact e
    ·
     cases z:y == n with
     |true=>simp_all
     |false=>exact j y d (by simp only[List.lookup_cons,z];exact q)
    ·
     rcases List.mem_cons.mp f with rfl|f
     ·trivial
     ·exact i y f hf
   ·
    have C:(k == NameKind.free)=false:=by simpa using hk
    obtain⟨cl,e,h1,j,i⟩:=u acc (fun y f=>hl y (List.mem_cons_of_mem _ f)) ha;refine⟨cl,?_,h1,j,fun y f hf=>?_⟩
    ·
     rw[List.forIn_cons];show((if(k == NameKind.free)=true then _ else pure (ForInStep.yield acc)) >>= _)=_;rw[C,if_neg Bool.false_ne_true];exact e
    ·
     rcases List.mem_cons.mp f with rfl|f
     ·exact absurd hf hk
     ·exact i y f hf
 obtain⟨cl,e,h1,_,i⟩:=key scope.names [] h (fun y c q=>by simp at q);refine⟨cl,?_,h1,i⟩;unfold closureFor;exact(bind_congr (fun _=>rfl)).trans (by rw[e];rfl)
theorem rh (h:(relabel scope env).names.lookup x=some k):scope.names.lookup x=some k\/(scope.names.lookup x=some .free/\k = .cell):=by
 have key: ∀l:List _,(l.map fun(n,k)=>if(k == NameKind.free&&env.scope.kind == .function&&env.kindOf n == some .cell) then(n,NameKind.cell) else(n,k)).lookup x=some k->l.lookup x=some k\/(l.lookup x=some .free/\k = .cell):=by
  intro l
  induction l with
  |nil=>simp
  |cons y r f=>
   obtain⟨n,j⟩:=y;intro h;rw[List.map_cons] at h;simp only[List.lookup_cons];cases q:x == n with
   |true=>
    by_cases hc:(j == NameKind.free&&env.scope.kind == .function&&env.kindOf n == some .cell)=true
    ·simp_all
    ·simp_all
   |false=>
    by_cases hc:(j == NameKind.free&&env.scope.kind == .function&&env.kindOf n == some .cell)=true
    ·
     simp only[hc,if_true,List.lookup_cons,q] at h;exact f h
    ·
     have d:(j == NameKind.free&&env.scope.kind == .function&&env.kindOf n == some .cell)=false:=by simpa using hc
     simp only[d,Bool.false_eq_true,if_false,List.lookup_cons,q] at h;exact f h
 exact key _ h
theorem Hw {h:Heap} (e:h.get? b=some o) (hn:h.objs.size<=n):b≠n:=Nat.ne_of_lt (Nat.lt_of_lt_of_le (Heap.lt_size e) hn)
structure DL (X:Cx) (scope:Scope) (N:List Str) (nv:Nat) (ix:List Nat):Prop where
 kind:scope.kind = .function
 nocell: ∀y∈scope.names,y.2≠ .cell
 names: ∀y∈scope.names,y.2 = .local->scope.names.lookup y.1=some .local
 fre: ∀y∈scope.names,y.2 = .free->X.env.kindOf y.1=some .cell\/X.env.kindOf y.1=some .free
 len:N.length=nv+ix.length
 at_: ∀j y,N[nv+j]?=some y->∃i,ix[j]?=some i/\X.N[i]?=some y/\(X.env.kindOf y=some .cell\/X.env.kindOf y=some .free)/\scope.names.lookup y=some .free
noncomputable def j6 (nv:Nat) (ix:List Nat) (σ:St):St:=List.replicate nv none++ix.map fun i=>(σ[i]?).join
section
theorem Jn (S:DL X scope N nv ix) (I:Inv X pins σ H s) (d: ∀y c,cl.lookup y=some c->X.env.cells.lookup y=some c) (F: ∀y∈scope.names,y.2 = .free->∃c,cl.lookup y.1=some c) (E: ∀b∈fp,DK X pins H b) (Z: ∀b∈fp,b<s.heap.objs.size) (hC:s.heap.objs.size<=C) (hD:s.heap.objs.size<=D) (hDC:D≠C) (old: ∀b o,s.heap.get? b=some o->h1.get? b=some o) (hm:h1.Ns C m) (hoD:h1.get? D=some oD) (P: ∀v,oD.data≠ .cell v):
  Inv (X.comp scope cl C N s H fp) [(D,oD)] (j6 nv ix σ) H {s with heap:=h1,toks:=tk}:=by
 refine⟨⟨I.ok.mod,S.kind,I.ok.glob,I.ok.blt,hC,fun x y c e1 U=>I.ok.inj x y c (d x c e1) (d y c U),fun x hx=>?_,fun _ _ z=>absurd z Bool.false_ne_true,I.ok.hd,I.ok.frames,.inl rfl,fun b J=>⟨fun z=>?_,fun x c e=>(E b J).2.2.2.2.1 x c (d x c e)⟩,I.bs,
  Nat.le_trans I.ok.bsz I.sz,fun b o e J=>?_,fun b J z=>?_,I.stack,I.B6⟩,rfl,I.bare,Un.kept old,⟨m,hm,fun i x v e1 U e3=>?_⟩,fun x c e=>?_,I.hok.fresh hC,fun x c e=>I.ou x c (d x c e),fun p hp=>?_,I.hok.kept old,?_⟩
 ·
  have hx':=hx;have fr:scope.names.lookup x=some .free:=by
   rcases hx' with z|z
   ·
    rcases rh z with q|q
    ·exact absurd rfl (S.nocell _ (PySem.mem_of_lookup q))
    ·exact q.1
   ·
    rcases rh z with q|q
    ·exact q
    ·simp_all
  exact F (x,.free) (PySem.mem_of_lookup fr) rfl
 ·exact Nat.ne_of_lt (Nat.lt_of_lt_of_le (Z b J) hC) z
 ·
  rcases(E b J).2.2.2.1 with z|z
  ·exact I.ok.noex b o e z
  ·exact Hw e (Nat.le_trans I.ok.bsz z) rfl
 ·
  rcases List.mem_cons.mp (I.Co b z) with q|q
  ·exact(E b J).2.1 q
  ·exact(E b J).2.2.1 q
 ·
  have e1':N[i]?=some x:=e1;by_cases hi:i<nv
  ·
   have f:(j6 nv ix σ)[i]?=some (some v):=U;unfold j6 at f;rw[List.getElem?_append_left (by simp_all),List.getElem?_replicate,if_pos hi] at f;cases f
  ·
   obtain⟨j,rfl⟩: ∃j,i=nv+j:=⟨i - nv,by lia⟩;obtain⟨k,hk,hN,hkd,hsc⟩:=S.at_ j x e1';have f:(j6 nv ix σ)[nv+j]?=some (some v):=U;unfold j6 at f;rw[List.getElem?_append_right (by simp),List.length_replicate,Nat.add_sub_cancel_left,List.getElem?_map,hk] at f;have e4:σ[k]?=some (some v):=by
    have e5:(σ[k]?).join=some v:=by simp_all
    cases q:σ[k]?<;>(simp_all)
   obtain⟨m0,_,hl⟩:=I.loc;have vis:Vis X.env.scope x:=by
    rcases hkd with z|z
    ·exact .inr (.inl z)
    ·exact .inr (.inr z)
   obtain⟨u,r,l⟩:=hl k x v hN e4 vis;refine⟨u,r,?_⟩;rcases l with⟨z,_⟩|⟨_,c,hc,G⟩
   ·simp_all
   ·
    obtain⟨c',O⟩:=F (x,.free) (PySem.mem_of_lookup hsc) rfl;have:=d x c' O;rw[hc] at this;cases this;refine .inr ⟨?_,c,O,G.keeps old⟩;rcases e3 with z|z|z
    ·
     rcases rh z with q|q
     ·simp_all
     ·cases q.2
    ·exact .inl z
    ·exact .inr z
 ·
  obtain⟨v,q⟩:=I.cell x c (d x c e);exact⟨v,q.keeps old⟩
 ·
  have hp':p∈[(D,oD)]:=hp;have e:p=(D,oD):=by simp_all
  subst e;refine⟨hoD,I.hok.fresh hD,hDC,fun z=>?_,P⟩;rcases List.mem_cons.mp (I.Co D z) with q|q
  ·exact Nat.ne_of_gt (Nat.lt_of_lt_of_le I.lt hD) q
  ·exact I.nofs hD q
 ·
  show(j6 nv ix σ).length=N.length;unfold j6;rw[List.length_append,List.length_replicate,List.length_map,S.len]
theorem Pu (I:Inv X pins σ H s) (d: ∀b∈fp,DK X pins H b) (hD:s.heap.objs.size<=D) (J:Inv (X.comp scope cl C N s H fp) [(D,{cls:= .type "list",data:= .seq its.toArray n})] σ' H' s') (r:Vals ys its) (hl:ys.length<=sizeLine):Inv X pins σ (upd H' D (.lst ys)) s':=by
 obtain⟨x,f,_⟩:=J.pin (D,{cls:= .type "list",data:= .seq its.toArray n}) (by simp[Cx.comp]);have U:=J.base;have j: ∀b o,s.heap.get? b=some o->b≠D:=fun b o e=>Hw e hD;refine I.call' J.os ⟨U.keep,U.slot,fun b o e n hx=>?_,U.there,fun b xs e=>?_,fun b o xs e=>?_,fun b m e=>?_⟩ (fun b u e=>?_) J.bare fun b i=>(d b i).2.2.2 |> fun z=>⟨z.1,(d b i).2.1,z.2.1,z.2.2⟩
 ·rw[aj (j b o e)];exact U.free b o e n hx
 ·
  have q:=U.tups b xs e;rw[aj (aL q f)];exact q
 ·
  have q:=U.frzs b o xs e;rw[aj (aL q f)];exact q
 ·
  obtain⟨more,q⟩:=U.tbls b m e;exact⟨_,by rw[aj (aL q f)];exact q⟩
 ·
  by_cases i:b=D
  ·
   subst i;rw[aq] at e;cases e;exact⟨hl,its,n,r,x⟩
  ·
   rw[aj i] at e;exact(J.hok b u e).stay (fun c v _ q=>q) (fun c q=>by rw[aj (aL q f)];exact q) fun c xs q=>by rw[aj (aL q f)];exact q
end
section
theorem Gp {prog:Program} {w:World} {A:Around} {R:Result->Shared->Prop} {s:Shared} {elt target iter:Expr} {ifs:List Expr} {scope:Scope} {pos:Pos} {it acc:Value} {env:Env} (I:Nat->Shared->Prop)
  (
   turn: ∀n s,I n s->wpAny (model prog w) A (pyNext it) (fun r f=>match r with
   |none=>R (.ok .next) f
   |
     some v=>wpAny (model prog w) A (letOwnedTupleGo target it v) (fun _ s₀=>wpAny (model prog w) A (assign target env v) (fun _ u=>
     wpAny (model prog w) A (forIn ifs true fun c r=>if r=true then do let ok<-isTrue c env (eval c env);pure (ForInStep.yield ok) else pure (ForInStep.yield r)) (fun ok d=>
      if ok=true then wpAny (model prog w) A (eval elt env) (fun x C=>
       wpAny (model prog w) A (call (.builtin "list.append") [acc,x]) (fun _ j=> ∃m,m<n/\I m j) (fun _ _=>False) C) (fun _ _=>False) d
      else∃m,m<n/\I m d) (fun _ _=>False) u) (fun _ _=>False) s₀) (fun _ _=>False) f) (fun _ _=>False) s)
  (n:Nat) (h:I n s):
  codeAny (model prog w) A (.compLoop (.ListComp elt [⟨target,iter,ifs,0⟩] scope pos) 0 it acc env) R s:=by
 refine codeAny_loop rfl I (fun n s H=>?_) n h;refine wpAny_noted ?_;rw[compTurn_list];refine wpAny_bind (wpAny_standAt (wpAny_bind (wpAny_mono (turn n s H) (fun r f y=>?_) fun _ _ i=>i.elim)));cases r with
 |none=>exact wpAny_pure y
 |some v=>
  refine wpAny_bind (wpAny_mono y (fun _ s₀ h₀=>?_) fun _ _ i=>i.elim);refine wpAny_bind (wpAny_mono h₀ (fun _ u F=>wpAny_bind (wpAny_mono F (fun ok d z=>?_) fun _ _ i=>i.elim)) fun _ _ i=>i.elim);cases ok with
  |false=>exact wpAny_pure ⟨rfl,z⟩
  |true=>
   exact wpAny_bind (wpAny_bind (wpAny_mono z (fun x C E=>wpAny_bind (wpAny_mono E (fun _ j G=>wpAny_pure (wpAny_pure ⟨rfl,G⟩)) fun _ _ i=>i.elim)) fun _ _ i=>i.elim))
end
def Yc:TT:=fun _ H Q=>Q true H
def sH (J:It) (g:TG) (tt:TT) (te:TE) (u:St) (I:Hp) (Q:List V->Hp->Prop):Prop:=
 ∃W:Nat->Nat->List V->St->Hp->Prop,(∃m,W 0 m [] u I)/\∀i m z C H',W i m z C H'->
  (
   J.stop i H'/\Q z H')\/(J.go i H'/\z.length<sizeLine/\∃N:List V->St->Hp->Prop,(∀v j d,N v j d->∃E,E<m/\W (i+1) E v j d)/\
   ∀x d,J.yld i H' x d->g x C d fun f H=>tt f H fun b F=>if b=true then te f F fun y G=>N (z++ [y]) f G else N z f F)
def GU (nv:Nat) (ix:List Nat) (wi:TI) (g:TG) (tt:TT) (te:TE):TE:=fun σ H Q=>wi σ H fun J f=>sH J g tt te (j6 nv ix σ) f fun d H'=>d.length<=sizeLine/\∀D,H' D=none->Q (.ref D) (upd H' D (.lst d))
section
def PTs (X:Cx) (ifs:List Expr) (tt:TT):Prop:=
 ∀(d:List (Addr×Obj)) (s:Shared) (σ:St) (H:Hp) (Q:Bool->Hp->Prop),Inv X d σ H s->tt σ H Q->
  wpAny (model X.prog X.w) X.A (forIn ifs true fun c r=>if r=true then do let ok<-isTrue c X.env (eval c X.env);pure (ForInStep.yield ok) else pure (ForInStep.yield r)) (TP X d σ Q) X.xe s
theorem nF:PTs X [] Yc:=fun _ _ _ H _ I h=>wpAny_tests_nil ⟨H,I,h⟩
theorem uO (h:PT X c tt):PTs X [c] tt:=fun d s σ H Q I hw=>wpAny_tests_one (h _ s σ H Q I hw)
theorem E4 {X:Cx} {tg elt iter:Expr} {ifs:List Expr} {scope:Scope} {N:List Str} {nv:Nat} {ix:List Nat} {pos:Pos} {wi:TI} {g:TG} {tt:TT} {te:TE} {use:Option (Value->Sem Unit)} {Qv:Value->Shared->Prop} {Z:List (Addr×Obj)} {s:Shared} {σ:St} {H:Hp} {Q:List V->Hp->Prop} (hc:X.calm=true) (S:DL X scope N nv ix) (hi:PI X tg iter wi)
  (hg: ∀cl C s H ex,PG (X.comp scope cl C N s H ex) tg g) (ht: ∀cl C s H ex,PTs (X.comp scope cl C N s H ex) ifs tt) (he: ∀cl C s H ex,PE (X.comp scope cl C N s H ex) elt te) (I:Inv X Z σ H s)
  (h:wi σ H fun J H1=>sH J g tt te (j6 nv ix σ) H1 fun ys H'=>ys.length<=sizeLine/\Q ys H')
  (fin: ∀ys D C H' s' (s2:Shared) (σ2:St),Q ys H'->H' D=none->D≠C->Inv X Z σ (upd H' D (.lst ys)) s'->(∃m,s'.heap.Ns C m)->(∀H'',H'' C=none->DK X Z H'' C)->H' C=none->compPost (model X.prog X.w) X.A X.xe use Qv (.ref D) C (.ok .next) s')
  (hs: ∀x,foldedSetIterable iter X.env x=pure x):
  wpAny (model X.prog X.w) X.A (comprehension (.ListComp elt [⟨tg,iter,ifs,0⟩] scope pos) scope X.env (firstIterPos [⟨tg,iter,ifs,0⟩] pos) (newList []) false (eval iter X.env) use) Qv X.xe s:=by
 obtain⟨cl,hclos,hcl,hcl2⟩:=Jp (scope:=scope) fun y hy hf=>I.ok.has y.1 (S.fre y hy hf);refine wpAny_comprehension_free (use:=use) rfl hs hclos S.kind S.names (thn (hi Z s σ H _ I h) fun v s1 h1=>thn h1 fun itv s2 h2=>?_);obtain⟨it,P,tn,J,H2,e,I2,T,st2,f2,W,⟨m0,w0⟩,turn⟩:=h2;subst e;refine wpAny_newObj_type (wpAny_newFunctionEnv S.nocell (by simp_all) (fun F E j=>?_) S.kind);dsimp only at E j⊢;generalize hH2:s2.heap.push {cls:= .type "list",dict:=none,data:= .seq ([]:List Value).toArray}=G2 at E j⊢;have hC:G2.objs.size=s2.heap.objs.size+1:=by rw[<-hH2,Heap.size_push]
 have hDC:s2.heap.objs.size≠G2.objs.size:=by simp_all
 have old: ∀b o,s2.heap.get? b=some o->F.get? b=some o:=fun b o e=>j.extBut b o (Hw e (by simp_all)) (Heap.get?_push_of_some _ (hH2▸Heap.get?_push_of_some _ e));have hacc:F.get? s2.heap.objs.size=some {cls:= .type "list",data:= .seq ([]:List Value).toArray 0}:=j.extBut _ _ hDC (Heap.get?_push_of_some _ (hH2▸Heap.get?_push_size _ rfl));have hob: ∀b∈P,b<s2.heap.objs.size:=fun b O=>by
  obtain⟨o,e,_⟩:=T.obj _ _ st2 b O;exact Heap.lt_size e
 have hCle:s2.heap.objs.size<=G2.objs.size:=by simp_all
 have I4: ∀tk,Inv (X.comp scope cl G2.objs.size N s2 H2 P) [(s2.heap.objs.size,{cls:= .type "list",data:= .seq ([]:List Value).toArray 0})] (j6 nv ix σ) H2 {s2 with heap:=F,toks:=tk}:=fun tk=>
  Jn S I2 hcl hcl2 f2 hob hCle (Nat.le_refl _) hDC old E hacc (fun v z=>by cases z)
 have U:tn 0 F:=T.keep _ _ _ st2 fun b _ o e=>old b o e;have stat: ∀{H':Hp} {pns:List (Addr×Obj)},(∀p∈pns,p.1=s2.heap.objs.size)->(∀b∈P,H' b=none)->∀b∈P,DK (X.comp scope cl G2.objs.size N s2 H2 P) pns H' b:=fun{H' pns} hp hn b O=>by
  obtain⟨f0,f1,f3,f4,f5,f6⟩:=f2 b O;have hlt:=hob b O;refine⟨hn b O,fun z=>?_,fun z=>?_,.inl O,fun x c e=>f5 x c (hcl x c e),fun p hp' z=>?_⟩
  ·exact Nat.ne_of_lt (Nat.lt_of_lt_of_le hlt hCle) z
  ·
   rcases List.mem_cons.mp (I2.Co b z) with q|q
   ·trivial
   ·trivial
  ·
   have hp'':p∈pns:=‹_›;exact Nat.ne_of_gt (by rw[hp p hp''];exact hlt) z
 have loop: ∀s₃:Shared,s₃={s2 with heap:=F,toks:=s2.toks+([]:List (Str×Value)).length}->
   codeAny (model X.prog X.w) X.A (.compLoop (.ListComp elt [⟨tg,iter,ifs,0⟩] scope pos) 0 (.ref it) (.ref s2.heap.objs.size) (compEnvC scope cl G2.objs.size X.env))
    (compPost (model X.prog X.w) X.A X.xe use Qv (.ref s2.heap.objs.size) G2.objs.size) s₃:=by
  rintro s₃ rfl;refine Gp (fun n s'=> ∃i ys f G H',Inv (X.comp scope cl G2.objs.size N s2 H2 P) [(s2.heap.objs.size,{cls:= .type "list",data:= .seq f.toArray f.length})] G H' s'/\tn i s'.heap/\(∀b∈P,H' b=none)/\Vals ys f/\W i n ys G H') ?_ m0
   ⟨0,[],[],_,H2,I4 _,U,fun b O=>(f2 b O).1,.nil,w0⟩
  rintro n s' ⟨i,ys,f,G,H',I',st',fr',rv,w'⟩;have pin1: ∀{o:Obj},∀p∈[(s2.heap.objs.size,o)],p.1=s2.heap.objs.size:=fun{o} p hp=>by
   simp_all
  rcases turn i n ys G H' w' with⟨stop,hl,qn⟩|⟨go,hlen,Nx,hN,step⟩
  ·
   refine thn (T.done (X.comp scope cl G2.objs.size N s2 H2 P) rfl rfl rfl hc i _ s' G H' (fun _ _=>False) I' (stat pin1 fr') st' stop) fun r s4 ⟨hr,I5⟩=>?_;subst hr;obtain⟨m5,hm5,_⟩:=I5.loc;have fD:=(I5.pin (s2.heap.objs.size,{cls:= .type "list",data:= .seq f.toArray f.length}) (List.mem_append_right _ (by simp))).2.1;exact fin ys _ _ H' s4 s2 G qn fD hDC (Pu I2 f2 (Nat.le_refl _) I5 rv hl) ⟨m5,hm5⟩ (fun H'' hn=>I2.Ji hCle hn) I5.free
  ·
   refine thn (T.item (X.comp scope cl G2.objs.size N s2 H2 P) rfl rfl rfl hc i _ s' G H' (fun _ _=>False) I' (stat pin1 fr') st' go) fun r s4 ⟨u,hr,h4⟩=>?_;subst hr;refine thn h4 fun _ s5 ⟨x,H5,I5,r5,y5,st5,fr5⟩=>?_;have I5':=I5.pinned (stat pin1 fr5) (T.obj _ _ st5);refine thn (hg _ _ _ _ _ _ s5 G H5 x u _ I5' r5 (step x H5 y5)) fun _ s6 ⟨σ6,H6,I6,q6⟩=>?_;refine thn (ht _ _ _ _ _ _ s6 σ6 H6 _ I6 q6) fun b s7 ⟨H7,I7,q7⟩=>?_;have back: ∀{σ8:St} {H8:Hp} {s8:Shared},Inv (X.comp scope cl G2.objs.size N s2 H2 P) ([(s2.heap.objs.size,{cls:= .type "list",data:= .seq f.toArray f.length})]++FI P s5.heap) σ8 H8 s8->tn (i+1) s8.heap/\∀b∈P,H8 b=none:=fun{σ8 H8 s8} J=>
    ⟨
     T.keep _ _ _ st5 fun b O o e=>(J.pin (b,o) (List.mem_append_right _ (List.mem_append_right _ (rC O e)))).1,fun b O=>by
     obtain⟨o,e,d⟩:=T.obj _ _ st5 b O;exact(J.pin (b,o) (List.mem_append_right _ (List.mem_append_right _ (rC O e)))).2.1⟩
   cases b with
   |false=>
    rw[if_neg Bool.false_ne_true] at q7;obtain⟨m',hm,w7⟩:=hN _ _ _ q7;exact⟨m',hm,i+1,ys,f,σ6,H7,I7.unpinned,(back I7).1,(back I7).2,rv,w7⟩
   |true=>
    rw[if_pos rfl] at q7;refine iY (he _ _ _ _ _ _ s7 σ6 H7 _ I7 q7) fun y s8 yv H8 I8 r8 q8=>?_;obtain⟨eD,fD,nD,nfD,dD⟩:=I8.pin (s2.heap.objs.size,{cls:= .type "list",data:= .seq f.toArray f.length}) (List.mem_append_right _ (by simp));refine append_at (hsz:=by rw[List.size_toArray,<-rv.length];exact Nat.le_of_lt hlen) eD fun h₅ hs₅ hD₅=>?_;obtain⟨m',hm,w8⟩:=hN _ _ _ q8;have fpD:s2.heap.objs.size ∉ P:=fun z=>Nat.lt_irrefl _ (hob _ z);have I9:Inv (X.comp scope cl G2.objs.size N s2 H2 P) [] σ6 H8 s8:=I8.B_ fun p hp=>absurd hp (by simp);have fk:=I2.Ji (H':=H8) (Nat.le_refl _) fD;have I10:Inv (X.comp scope cl G2.objs.size N s2 H2 P) [] σ6 H8 {s8 with heap:=h₅,toks:=s8.toks}:=
     I9.turned (it:=s2.heap.objs.size) (fun b o O e=>hs₅.extBut b o O e) fD nD (.inr (Nat.le_refl _)) (fun x c e=>fk.2.2.2.2.1 x c (hcl x c e)) (fun p hp=>absurd hp (by simp[Cx.comp]))
    refine⟨m',hm,i+1,ys++ [yv],f++ [y],σ6,H8,I10.B_ fun p hp=>?_,?_,(back I8).2,rv.append (.cons r8 .nil),w8⟩
    ·
     have e:p=(s2.heap.objs.size,{cls:= .type "list",data:= .seq (f++ [y]).toArray (f++ [y]).length}):=by simpa using hp
     subst e;refine⟨?_,fD,nD,nfD,fun v z=>by cases z⟩;show h₅.get? s2.heap.objs.size=_;rw[hD₅,List.push_toArray,List.length_append,List.length_singleton]
    ·exact T.keep _ _ _ (back I8).1 fun b O o e=>hs₅.extBut b o (fun z=>fpD (by have z':b=s2.heap.objs.size:=z;rw[<-z'];exact O)) e
 exact codeAny_compStart_list (loop _ rfl) (T.self _ 0 _ _ _ U (loop _ rfl))
theorem gM (hc:X.calm=true) (S:DL X scope N nv ix) (hi:PI X tg iter wi) (hg: ∀cl C s H ex,PG (X.comp scope cl C N s H ex) tg g) (ht: ∀cl C s H ex,PTs (X.comp scope cl C N s H ex) ifs tt) (he: ∀cl C s H ex,PE (X.comp scope cl C N s H ex) elt te) (hs: ∀x,foldedSetIterable iter X.env x=pure x:=by intro _;rfl):PE X (.ListComp elt [⟨tg,iter,ifs,0⟩] scope pos) (GU nv ix wi g tt te):=by
 intro j s σ H Q I h;refine E4 (Q:=fun f H'=> ∀D,H' D=none->Q (.ref D) (upd H' D (.lst f))) hc S hi hg ht he I ?_ (fun f D C H' U s2 u q G d J hm y v=>?_) hs
 ·exact h
 ·
  obtain⟨m,hm⟩:=hm;refine⟨m,hm,fun Z P=>⟨.ref D,_,?_,rfl,q D G⟩⟩;have i:upd H' D (.lst f) C=none:=by rw[aj (Ne.symm d)];exact v
  obtain⟨f0,f1,f2,F,z,E⟩:=y _ i;exact J.turned (fun b o O e=>P.extBut b o O e) f0 f1 F z E
theorem FF (hc:X.calm=true) (hN:X.N.Nodup) (j:X.N[i]?=some x) (hx:X.env.scope.names.lookup x=some .local) (S:DL X scope N nv ix) (hi:PI X tg iter wi) (hg: ∀cl C s H ex,PG (X.comp scope cl C N s H ex) tg g) (ht: ∀cl C s H ex,PTs (X.comp scope cl C N s H ex) ifs tt) (he: ∀cl C s H ex,PE (X.comp scope cl C N s H ex) elt te) (y:swapsWith (.ListComp elt [⟨tg,iter,ifs,0⟩] scope pos) (some (.Name x px)) spos.line X.env=pure true:=by rfl) (hs: ∀x,foldedSetIterable iter X.env x=pure x:=by intro _;rfl):PS X (.Assign [.Name x px] (.ListComp elt [⟨tg,iter,ifs,0⟩] scope pos) spos) (Iu (GU nv ix wi g tt te) (tP i)):=by
 intro G s σ H D I h;rw[exec_Assign_Name_used _ _ _ _ y];refine wpAny_bind (wpAny_standAt (wpAny_bind ?_));refine wpAny_bind (thn (E4 hc S hi hg ht he I h (fun U l C H' O s2 P q fD d J hm fk fC=>?_) hs)
  fun _ O hq=>wpAny_pure (wpAny_pure hq))
 obtain⟨m,hm⟩:=hm;have E:upd H' l (.lst U) C=none:=by rw[aj (Ne.symm d)];exact fC
 obtain⟨f0,f1,f2,f3,F,f5⟩:=fk _ E;refine wpAny_assign_Name (EH J hN j (.inl hx) (v:= .ref l) rfl (fun Z J' ⟨a,sb,ha⟩=>?_) (.inr hx));have u:C≠a:=by
  rcases ha with z|z
  ·simp_all
  ·exact Ne.symm (F x a z)
 refine⟨m,hm.sameBut sb u,fun h' f=>⟨_,_,?_,q l fD⟩⟩;exact J'.turned (fun b o hb e=>f.extBut b o hb e) f0 f1 f3 F f5
end
noncomputable def Its (x:Str):It:=⟨fun i _=>i<x.cps.size,fun i H v H'=>H'=H/\∃c,x.cps[i]?=some c/\v = .str ⟨#[c]⟩,fun i _=>x.cps.size<=i⟩
theorem GL {P:Program} {w:World} {K:W.Frag} {tg:Expr} (it:Addr) (x:Str) (t:Tok) (T:String) (G:T = "str_ascii_iterator" \/T = "str_iterator"):Turn P w K tg (Its x) [it] it (fun i h=>h.IsStrIter it T x t i) where
 mem:=by simp
 obj:=fun i h st b f=>by
  have e:b=it:=by simp_all
  subst e;obtain⟨o,e,c,d⟩:=st;exact⟨o,e,fun v z=>by simp_all⟩
 keep:=fun i h C st k=>by
  obtain⟨o,e,r⟩:=st;exact⟨o,k it (by simp) o e,r⟩
 item:=by
  intro X hP hw hK hc i y s σ H E I hf st hg;subst hP hw hK;obtain⟨f0,f1,f2,O,F,J⟩:=hf it (by simp);have j:=hg;have W:Walks X.prog X.w X.A it [it] [it] x.cps.size (SignAt x) (fun i h=>h.IsStrIter it T x t i):=by
   rcases G with rfl|rfl
   ·exact Walks.strAscii (I.ok.hd hc) it x t
   ·exact Walks.strWide (I.ok.hd hc) it x t
  refine W.item i s _ _ j st fun v C tk hv m kk=>?_;obtain⟨c,u,U,rfl⟩:=hv;have I1:Inv X _ σ H {s with heap:=C,toks:=tk}:=I.turned (fun b o f e=>kk b o (by simp_all) e) f0 f1 O F J;obtain⟨o,e,c',d⟩:=id m;refine⟨_,rfl,HH e c' d (by rcases G with rfl|rfl<;>decide) ⟨.str _,H,I1,⟨u,rfl⟩,⟨rfl,c,U,rfl⟩,m,fun b f=>(hf b f).1⟩⟩
 done:=by
  intro X hP hw hK hc i y s σ H E I hf st hg;obtain⟨f0,f1,f2,O,F,J⟩:=hf it (by simp);have j:x.cps.size<=i:=hg;have he:x.cps[i]?=none:=by simp_all
  rcases G with rfl|rfl
  ·exact wpAny_pyNext_ascii_end (I.ok.hd hc) st he fun C Z=>⟨rfl,I.turned (fun b o f e=>Z b o f e) f0 f1 O F J⟩
  ·exact wpAny_pyNext_wide_end (I.ok.hd hc) st he fun C Z=>⟨rfl,I.turned (fun b o f e=>Z b o f e) f0 f1 O F J⟩
 self:=fun _ _ _ _ _ st h=>by
  rcases G with rfl|rfl
  ·exact wpAny_pyIter_striter_ascii st h
  ·exact wpAny_pyIter_striter_wide st h
def DS (K:W.Frag) (x:V) (d:Hp) (R:It->Hp->Prop):Prop:=match x with
 | .ref a=>(∃xs,cQ K d a xs/\R (Itl K a) d)\/(∃xs,dO K d a xs/\R (Itt K a) d)
 | .str z=>R (Its z) d
 |_=>False
def RD (K:W.Frag) (tl:TE):TI:=fun σ H R=>tl σ H fun x d=>DS K x d R
theorem UN (hl:PE X l tl):PI X tg l (RD X.K tl):=by
 intro y s σ H R I h;refine iY (hl _ s σ H _ I h) fun v s1 x f d r1 q1=>?_;cases x with
 |ref a=>
  cases r1;rcases q1 with⟨xs,i,q⟩|⟨xs,i,q⟩
  ·
   obtain⟨j,C,p,E⟩:=d.list i;refine wpAny_pyIter_list p.isList ?_;refine⟨_,_,_,_,f,rfl,d.kept fun b o e=>Heap.get?_push_of_some _ e,KY a _,⟨_,Heap.get?_push_size _ rfl,rfl,rfl⟩,fun b u=>?_,q⟩;have e:b=s1.heap.objs.size:=by simp_all
   subst e;exact d.Ji (Nat.le_refl _) (d.hok.fresh (Nat.le_refl _))
  ·
   obtain⟨j,C,p,E⟩:=d.tuple i;refine wpAny_pyIter_tuple ((p)) ?_;refine⟨_,_,_,_,f,rfl,d.kept fun b o e=>Heap.get?_push_of_some _ e,Il a _,⟨_,Heap.get?_push_size _ rfl,rfl,rfl⟩,fun b u=>?_,q⟩;have e:b=s1.heap.objs.size:=by simp_all
   subst e;exact d.Ji (Nat.le_refl _) (d.hok.fresh (Nat.le_refl _))
 |str z=>
  obtain⟨t,rfl⟩:=r1;have m: ∀b∈[s1.heap.objs.size],DK X _ f b:=fun b u=>by
   have e:b=s1.heap.objs.size:=by simp_all
   subst e;exact d.Ji (Nat.le_refl _) (d.hok.fresh (Nat.le_refl _))
  cases ha:z.cps.all _
  ·exact wpAny_pyIter_wide ha ⟨_,_,_,_,f,rfl,d.kept fun b o e=>Heap.get?_push_of_some _ e,GL _ z t _ (.inr rfl),⟨_,Heap.get?_push_size _ rfl,rfl,rfl⟩,m,q1⟩
  ·exact wpAny_pyIter_ascii ha ⟨_,_,_,_,f,rfl,d.kept fun b o e=>Heap.get?_push_of_some _ e,GL _ z t _ (.inl rfl),⟨_,Heap.get?_push_size _ rfl,rfl,rfl⟩,m,q1⟩
 |_=>exact q1.elim
def forR (J:It) (g:TG) (v:TS) (D:Ends) (σ:St) (H:Hp):Prop:= ∃W:Nat->Nat->St->Hp->Prop,(∃m,W 0 m σ H)/\∀i m σ H,W i m σ H->
 (J.stop i H/\D.nx σ H)\/(J.go i H/\∃N:St->Hp->Prop,(∀d H',N d H'->∃j,j<m/\W (i+1) j d H')/\∀x H',J.yld i H x H'->g x σ H' fun f u=>v {D with nx:=N,ct:=N,bk:=D.nx} f u)
section
variable {K:W.Frag}
theorem MM:MN (RD K tl) g tb D σ H=tl σ H fun x d=>DS K x d fun J f=>forR J g tb D σ f:=rfl
theorem K2:GU nv ix (RD K tl) g tt te σ H Q=tl σ H fun x i=>DS K x i fun J f=>sH J g tt te (j6 nv ix σ) f fun d H'=>d.length<=sizeLine/\∀l,H' l=none->Q (.ref l) (upd H' l (.lst d)):=rfl
def EK (vs:List V) (d:Hp) (R:It->Hp->Prop):Prop:=match vs with
 | [.int j]=>(-(2 ^ 62)<=j/\j<2 ^ 62)/\R (P4 0 j.toNat) d
 |_=>False
def EJ (vs:List V) (d:Hp) (R:It->Hp->Prop):Prop:=match vs with
 | [.int i,.int j]=>(-(2 ^ 62)<=i/\i<2 ^ 62/\-(2 ^ 62)<=j/\j<2 ^ 62)/\R (P4 i (j - i).toNat) d
 |_=>False
def Oi (d:TA):TI:=fun σ H R=>d σ H fun vs f=>EK vs f R
def Oh (d:TA):TI:=fun σ H R=>d σ H fun vs f=>EJ vs f R
def G6 (vs:List V) (d:Hp) (R:It->Hp->Prop):Prop:=match vs with
 | [.int i,.int j,.int c]=>(-(2 ^ 61)<=i/\i<2 ^ 61/\-(2 ^ 61)<=j/\j<2 ^ 61/\0<c/\c<1000000)/\R (Ic i c (rcount i j c)) d
 |_=>False
def T2 (d:TA):TI:=fun σ H R=>d σ H fun vs f=>G6 vs f R
theorem K1:MN (Oi ta) g tb D σ H=ta σ H fun vs f=>EK vs f fun J d=>forR J g tb D σ d:=rfl
theorem K0:MN (Oh ta) g tb D σ H=ta σ H fun vs f=>EJ vs f fun J d=>forR J g tb D σ d:=rfl
theorem KZ:MN (T2 ta) g tb D σ H=ta σ H fun vs f=>G6 vs f fun J d=>forR J g tb D σ d:=rfl
theorem Iq:GU nv ix (Oi ta) g tt te σ H Q=ta σ H fun vs i=>EK vs i fun J f=>sH J g tt te (j6 nv ix σ) f fun d H'=>d.length<=sizeLine/\∀l,H' l=none->Q (.ref l) (upd H' l (.lst d)):=rfl
theorem Ip:GU nv ix (Oh ta) g tt te σ H Q=ta σ H fun vs i=>EJ vs i fun J f=>sH J g tt te (j6 nv ix σ) f fun d H'=>d.length<=sizeLine/\∀l,H' l=none->Q (.ref l) (upd H' l (.lst d)):=rfl
theorem Ld {R:It->Hp->Prop}:EK [.int j] H R=((-(2 ^ 62)<=j/\j<2 ^ 62)/\R (P4 0 j.toNat) H):=rfl
theorem Lc {R:It->Hp->Prop}:EJ [.int i,.int j] H R=((-(2 ^ 62)<=i/\i<2 ^ 62/\-(2 ^ 62)<=j/\j<2 ^ 62)/\R (P4 i (j - i).toNat) H):=rfl
theorem Lb {R:It->Hp->Prop}:G6 [.int i,.int j,.int c] H R=((-(2 ^ 61)<=i/\i<2 ^ 61/\-(2 ^ 61)<=j/\j<2 ^ 61/\0<c/\c<1000000)/\R (Ic i c (rcount i j c)) H):=rfl
end
section
theorem iT (hg:Gl X "range") (hm:X.mg "range" = none) (ha:PA X [a] ta) (hs:starEach [a] X.env= [(false,eval a X.env)]:=by rfl):PI X tg (.Call (.Name "range" p) [a] [] pos) (Oi ta):=by
 intro d s σ H R I h;refine Call_ (wW I hg hm boot_range (PyProof.Rows.callWith_type1 (iY (ha _ _ s σ H _ I h) fun us s1 vs f i r1 q1=>?_) hs rfl));replace q1:EK vs f R:=q1;unfold EK at q1;split at q1
 ·
  obtain⟨⟨q1,q2⟩,q⟩:=q1;cases r1 with
  |cons r j=>
   cases j;obtain⟨t,rfl⟩:=r;exact call_range_1 (G7 i (by lia) (by lia) q1 q2 (by simp_all))
 ·simp_all
theorem uQ (hg:Gl X "range") (hm:X.mg "range" = none) (ha:PA X [a,b] ta) (hs:starEach [a,b] X.env= [(false,eval a X.env),(false,eval b X.env)]:=by rfl) (d:starEach [b] X.env= [(false,eval b X.env)]:=by rfl):
  PI X tg (.Call (.Name "range" p) [a,b] [] pos) (Oh ta):=by
 intro i s σ H R I h;refine Call_ (wW I hg hm boot_range (PyProof.Rows.callWith_type1 (iY (ha _ _ s σ H _ I h) fun us s1 vs m u r1 q1=>?_) (by simp_all) (by rw[d];rfl)));replace q1:EJ vs m R:=q1;unfold EJ at q1;split at q1
 ·
  obtain⟨⟨q1,q2,q3,q4⟩,q⟩:=q1;cases r1 with
  |cons r f=>
   cases f with
   |cons j f=>
    cases f;obtain⟨t,rfl⟩:=r;obtain⟨t',rfl⟩:=j;exact call_range_2 (G7 u q1 q2 q3 q4 q)
 ·trivial
theorem LF (hg:Gl X "range") (hm:X.mg "range" = none) (ha:PA X [a,b,c] ta) (hs:starEach [a,b,c] X.env= [(false,eval a X.env),(false,eval b X.env),(false,eval c X.env)]:=by rfl) (f:starEach [b,c] X.env= [(false,eval b X.env),(false,eval c X.env)]:=by rfl):
  PI X tg (.Call (.Name "range" p) [a,b,c] [] pos) (T2 ta):=by
 intro j s σ H R I h;refine Call_ (wW I hg hm boot_range (PyProof.Rows.callWith_type1 (iY (ha _ _ s σ H _ I h) fun us s1 vs u x r1 q1=>?_) (by simp_all) (by rw[f];rfl)));replace q1:G6 vs u R:=q1;unfold G6 at q1;split at q1
 ·
  obtain⟨⟨q1,q2,q3,q4,q5,q6⟩,q⟩:=q1;cases r1 with
  |cons r d=>
   cases d with
   |cons m d=>
    cases d with
    |cons i d=>
     cases d;obtain⟨t,rfl⟩:=r;obtain⟨t',rfl⟩:=m;obtain⟨v,rfl⟩:=i;exact call_range_3 (by lia) (Le x (Qu q1 q2 q3 q4 q5 (by lia)) q5 q) (Or.inl (PyProof.noPylong_small (by lia)))
 ·trivial
end
section
variable {K:W.Frag}
theorem rG (j:cQ K H a xs) (Pv:Nat->St->Hp->Prop) (h0:Pv 0 σ H) (hl: ∀i σ H,i<=xs.length->Pv i σ H->cQ K H a xs) (hs: ∀i x σ H,xs[i]?=some x->Pv i σ H->g x σ H fun f d=>tb {D with nx:=Pv (i+1),ct:=Pv (i+1),bk:=D.nx} f d) (hd: ∀σ H,Pv xs.length σ H->D.nx σ H):
  DS K (.ref a) H fun J d=>forR J g tb D σ d:= .inl ⟨xs,j,Pe Pv h0 hl hs hd⟩
theorem Xr (j:dO K H a xs) (Pv:Nat->St->Hp->Prop) (h0:Pv 0 σ H) (hl: ∀i σ H,i<=xs.length->Pv i σ H->dO K H a xs) (hs: ∀i x σ H,xs[i]?=some x->Pv i σ H->g x σ H fun f d=>tb {D with nx:=Pv (i+1),ct:=Pv (i+1),bk:=D.nx} f d) (hd: ∀σ H,Pv xs.length σ H->D.nx σ H):
  DS K (.ref a) H fun J d=>forR J g tb D σ d:= .inr ⟨xs,j,RQ Pv h0 hl hs hd⟩
theorem Xs (Pv:Nat->St->Hp->Prop) (h0:Pv 0 σ H) (hs: ∀(i:Nat) (c:Nat) σ H,z.cps[i]?=some c->Pv i σ H->g (.str ⟨#[c]⟩) σ H fun f j=>tb {D with nx:=Pv (i+1),ct:=Pv (i+1),bk:=D.nx} f j) (hd: ∀σ H,Pv z.cps.size σ H->D.nx σ H):
  DS K (.str z) H fun J j=>forR J g tb D σ j:=by
 refine⟨fun i m σ H=>m=z.cps.size - i/\i<=z.cps.size/\Pv i σ H,⟨_,rfl,Nat.zero_le _,h0⟩,?_⟩;rintro i m σ H ⟨rfl,hi,p⟩;by_cases d:i<z.cps.size
 ·
  refine .inr ⟨d,_,fun v H' u=>⟨_,by lia,rfl,d,u⟩,fun x H' y=>?_⟩;obtain⟨e,c,hc,rfl⟩:=y;subst e;exact hs i c σ _ hc p
 ·
  have e:i=z.cps.size:=by lia
  subst e;exact .inl ⟨Nat.le_refl _,hd σ H p⟩
theorem tQ {g:TG} {f:TS} {D:Ends} {σ:St} {H:Hp} {lo:Int} {n:Nat} (Pv:Nat->St->Hp->Prop) (h0:Pv 0 σ H)
  (hs: ∀(i:Nat) σ H,i<n->Pv i σ H->g (.int (lo+i)) σ H fun d j=>f {D with nx:=Pv (i+1),ct:=Pv (i+1),bk:=D.nx} d j) (hd: ∀σ H,Pv n σ H->D.nx σ H):
  forR (P4 lo n) g f D σ H:=Ml Pv h0 hs hd
theorem RR {g:TG} {f:TS} {D:Ends} {σ:St} {H:Hp} {lo c:Int} {n:Nat} (Pv:Nat->St->Hp->Prop) (h0:Pv 0 σ H)
  (hs: ∀(i:Nat) σ H,i<n->Pv i σ H->g (.int (lo+i*c)) σ H fun d j=>f {D with nx:=Pv (i+1),ct:=Pv (i+1),bk:=D.nx} d j) (hd: ∀σ H,Pv n σ H->D.nx σ H):
  forR (Ic lo c n) g f D σ H:=Jj Pv h0 hs hd
end
section
variable {K:W.Frag}
theorem uU {tt:TT} {te:TE} {H:Hp} {tail:St} {Q:List V->Hp->Prop} {p:V->Bool} {f:V->V} {J:It} {n:Nat} {xs:List V} (hn:xs.length=n) (G:n<=sizeLine) (go: ∀i,i<n->J.go i H) (stop:J.stop n H) (F: ∀i x H',i<n->J.yld i H x H'->H'=H/\xs[i]?=some x)
  (ht: ∀x∈xs,∀Q:Bool->Hp->Prop,Q (p x) H->tt (some x::tail) H Q) (he: ∀x∈xs,p x=true->∀Q:VK,Q (f x) H->te (some x::tail) H Q) (q:Q ((xs.filter p).map f) H):
  sH J (tP 0) tt te (none::tail) H Q:=by
 refine⟨fun i m E C H'=>i<=n/\m=n - i/\E=((xs.take i).filter p).map f/\(∃v,C=v::tail)/\H'=H,⟨n,Nat.zero_le _,rfl,rfl,⟨_,rfl⟩,rfl⟩,?_⟩;rintro i m E C H' ⟨hi,rfl,rfl,⟨v,rfl⟩,rfl⟩;by_cases e:i=n
 ·
  subst e;refine .inl ⟨stop,?_⟩;rw[List.take_of_length_le (by lia)];exact q
 ·
  have z:i<n:=by lia
  refine .inr ⟨go i z,?_,fun u d j=>u=((xs.take _).filter p).map f/\(∃v,d=v::tail)/\j=H',fun u d j ⟨a,b,c⟩=>⟨_,by lia,‹_›,rfl,a,b,c⟩,fun x j y=>?_⟩
  ·grind
  ·
   obtain⟨rfl,hx⟩:=F i x _ z y;have hm:=List.mem_of_getElem? hx;have tk:xs.take (i+1)=xs.take i++ [x]:=by
    rw[List.take_succ,hx];rfl
   refine ht x hm _ ?_;cases hp:p x<;>simp_all
theorem KI (d:cQ K H a xs) (m:xs.length<=sizeLine) (ht: ∀x∈xs,∀Q:Bool->Hp->Prop,Q (p x) H->tt (some x::tail) H Q) (he: ∀x∈xs,p x=true->∀Q:VK,Q (f x) H->te (some x::tail) H Q) (q:Q ((xs.filter p).map f) H):
  DS K (.ref a) H fun J j=>sH J (tP 0) tt te (none::tail) j Q:=
 .inl ⟨xs,d,uU rfl m (fun i hi=>⟨xs,xs[i],d,by simp_all⟩) ⟨xs,d,Nat.le_refl _⟩ (fun i x H' hi y=>⟨y.1,y.2 xs d⟩) ht he q⟩
theorem AK (d:dO K H a xs) (m:xs.length<=sizeLine) (ht: ∀x∈xs,∀Q:Bool->Hp->Prop,Q (p x) H->tt (some x::tail) H Q) (he: ∀x∈xs,p x=true->∀Q:VK,Q (f x) H->te (some x::tail) H Q) (q:Q ((xs.filter p).map f) H):
  DS K (.ref a) H fun J j=>sH J (tP 0) tt te (none::tail) j Q:=
 .inr ⟨xs,d,uU rfl m (fun i hi=>⟨xs,xs[i],d,by simp_all⟩) ⟨xs,d,Nat.le_refl _⟩ (fun i x H' hi y=>⟨y.1,y.2 xs d⟩) ht he q⟩
noncomputable def eA (z:Str):List V:=z.cps.toList.map fun c=> .str ⟨#[c]⟩
theorem Pw (j:z.length<=sizeLine) (ht: ∀x∈eA z,∀Q:Bool->Hp->Prop,Q (p x) H->tt (some x::tail) H Q) (he: ∀x∈eA z,p x=true->∀Q:VK,Q (f x) H->te (some x::tail) H Q) (q:Q (((eA z).filter p).map f) H):
  DS K (.str z) H fun J d=>sH J (tP 0) tt te (none::tail) d Q:=by
 refine uU (n:=z.cps.size) (by simp[eA]) j (fun i hi=>hi) (Nat.le_refl _) (fun i x H' hi y=>?_) ht he q;obtain⟨e,c,hc,rfl⟩:=y;refine⟨e,?_⟩;unfold eA;rw[List.getElem?_map,Array.getElem?_toList,hc];rfl
noncomputable def oY (lo:Int) (n:Nat):List V:=(List.range n).map fun i:Nat=> .int (lo+(i:Int))
theorem Gr {tt:TT} {te:TE} {H:Hp} {tail:St} {Q:List V->Hp->Prop} {p:V->Bool} {f:V->V} {lo:Int} {n:Nat} (d:n<=sizeLine) (ht: ∀i:Nat,i<n->∀Q:Bool->Hp->Prop,Q (p (.int (lo+i))) H->tt (some (.int (lo+i))::tail) H Q) (he: ∀i:Nat,i<n->p (.int (lo+i))=true->∀Q:VK,Q (f (.int (lo+i))) H->te (some (.int (lo+i))::tail) H Q)
  (q:Q (((oY lo n).filter p).map f) H):sH (P4 lo n) (tP 0) tt te (none::tail) H Q:=by
 refine uU (by simp[oY]) d (fun i hi=>hi) (Nat.le_refl _) (fun i x H' hi y=>?_) (fun x hx=>?_) (fun x hx=>?_) q
 ·
  obtain⟨e,rfl⟩:=y;refine⟨e,?_⟩;unfold oY;rw[List.getElem?_map,List.getElem?_range hi];rfl
 ·
  obtain⟨i,hi,rfl⟩:=List.mem_map.mp hx;exact ht i (List.mem_range.mp hi)
 ·
  obtain⟨i,hi,rfl⟩:=List.mem_map.mp hx;exact he i (List.mem_range.mp hi)
theorem Jo:j6 1 ix σ=none::ix.map fun i=>(σ[i]?).join:=rfl
end
section
def Lu (neg:Bool):R2:=fun x y H Q=>match y with
 | .non=>Q (.bl (if neg then !decide (x = .non) else decide (x = .non))) H
 |_=>False
theorem lO:iW X (compareOp .Is) (Lu false):=iW.imp U2 fun x y H Q h=>by
 unfold Lu at h;split at h
 ·trivial
 ·trivial
theorem NX:iW X (compareOp .IsNot) (Lu true):=iW.imp Q_ fun x y H Q h=>by
 unfold Lu at h;split at h
 ·trivial
 ·trivial
theorem UG:Lu false x .non H Q=Q (.bl (decide (x = .non))) H:=rfl
theorem UE:Lu true x .non H Q=Q (.bl (!decide (x = .non))) H:=rfl
def ya:V->List V->Hp->VK->Prop:=fun x vs H Q=>match x,vs with
 | .int i,[]=>Q (.int ((Builtin.Int.intBits i:Nat):Int)) H
 |_,_=>False
theorem LR:P2 X "int.bit_length" ya:=by
 intro f s σ H x vs v us Q I i j h;unfold ya at h;split at h
 ·
  obtain⟨t,rfl⟩:=i;have d:=Vals.zero j;subst d;exact call_gives F.slot_int_bit_length (typeIs_int s _ t) F.entry_int_bit_length (F.args_int_bit_length_1 _) (AutoIntG2.int_bit_length_int_0 _ t) ((⟨.int _,H,I.tok _,⟨_,rfl⟩,h⟩))
 ·trivial
theorem LH (i:PE X o to) (f:attributeBase o "bit_length" X.env (eval o X.env)=eval o X.env:=by rfl) (d:(apos.endLine == cpos.line)=true:=by rfl):
  PE X (.Call (.Attribute o "bit_length" apos) [] [] cpos) (Qs X.K "int" ya to):=
 UW F.plainAttrs_int F.slot_int_bit_length F.type_int_bit_length LR i f d
theorem Qk {K:W.Frag}:Um K "int" (.int i) H=True:=by
 show("int" = "int")=True;simp
theorem Qj {K:W.Frag}:Um K "str" (.str z) H=True:=by
 show("str" = "str")=True;simp
theorem Hc:ya (.int i) [] H Q=Q (.int ((Builtin.Int.intBits i:Nat):Int)) H:=rfl
def agl:V->Option Int->Option Int->Hp->VK->Prop:=fun x lo hi H Q=> ∃z,x = .str z/\z.length<=sizeLine/\Q (.str (Txt.slice z lo hi)) H
theorem Hh (h:IsPart v o): ∃l:Option (Int×Tok),v=partValue l/\l.map (·.1)=o:=by
 cases h with
 |none=>exact⟨none,rfl,rfl⟩
 |int i t=>exact⟨some (i,t),rfl,rfl⟩
theorem Ux:KR X agl:=by
 intro d s σ H x v E G lo hi C Q I i hs pl pu h;obtain⟨z,rfl,j,q⟩:=h;obtain⟨t,rfl⟩:=i;obtain⟨l,rfl,f⟩:=Hh pl;obtain⟨u,rfl,y⟩:=Hh pu;refine⟨_,_,F.slot_str_getitem.lookup,typeIs_str _ _ _,wpAny_getItem_str_slice (st:=none) hs rfl ?_⟩;unfold sliceMade;have e:slicePicked z l u none=Builtin.Str.strSliceIndices lo hi 1 z.length:=by
  unfold slicePicked;rw[f,y];rfl
 rw[e];have m:Txt.slice z lo hi=if((1:Int) == 1&&(Builtin.Str.strSliceIndices lo hi 1 z.length).length == z.length)=true then z else⟨((Builtin.Str.strSliceIndices lo hi 1 z.length).filterMap (z.cps[·]?)).toArray⟩:=rfl;have hle:=Txt.slice_le z lo hi;rw[m] at q hle;show(if((1:Int) == 1&&(Builtin.Str.strSliceIndices lo hi 1 z.length).length == z.length)=true then Made.val (.str z t) else _).post _ s;by_cases c:((1:Int) == 1&&(Builtin.Str.strSliceIndices lo hi 1 z.length).length == z.length)=true
 ·
  rw[if_pos c] at q⊢;exact⟨.str z,H,I,⟨t,rfl⟩,q⟩
 ·
  rw[if_neg c] at q hle⊢;exact⟨Nat.le_trans hle j,.str _,H,I.tok _,⟨_,rfl⟩,q⟩
def Nh (K:W.Frag):V->Option Int->Option Int->Hp->VK->Prop:=fun x lo hi H Q=>match x with
 | .ref a=>(∃xs,cQ K H a xs/\∀p,H p=none->Q (.ref p) (upd H p (.lst (yR xs lo hi))))\/Ys K (.ref a) lo hi H Q
 | .str z=>z.length<=sizeLine/\Q (.str (Txt.slice z lo hi)) H
 |_=>False
theorem KR.imp (h:KR X r) (i: ∀x lo hi H Q,r' x lo hi H Q->r x lo hi H Q):KR X r':=
 fun d s σ H x v m u lo hi j Q I f hs pl pu q=>h _ s σ H x v m u lo hi j Q I f hs pl pu (i _ _ _ _ _ q)
theorem agi:KR X (Nh X.K):=by
 refine KR.imp (Qw.or (Uw.or Ux)) fun x lo hi H Q h=>?_;unfold Nh at h;split at h
 ·
  rcases h with⟨xs,h1,d⟩|h
  ·exact .inl ⟨_,xs,rfl,h1,d⟩
  ·simp_all
 ·exact .inr (.inr ⟨_,rfl,h.1,h.2⟩)
 ·trivial
theorem Ng {K:W.Frag} {lo:Option Int}:Nh K (.str z) lo hi H Q=(z.length<=sizeLine/\Q (.str (Txt.slice z lo hi)) H):=rfl
theorem zC {K:W.Frag} {lo:Option Int} (d:cQ K H a xs) (h: ∀p,H p=none->Q (.ref p) (upd H p (.lst (yR xs lo hi)))):Nh K (.ref a) lo hi H Q:= .inl ⟨xs,d,h⟩
def Nz (K:W.Frag) (neg:Bool):R2:=fun x y H Q=>match y with
 | .ref p=> ∃xs,(cQ K H p xs\/dO K H p xs)/\sG x=true/\xs.all sG=true/\Q (.bl (if neg then !Cd x xs else Cd x xs)) H
 | .str j=>(match x with
  | .str i=>Q (.bl (if neg then !(!(Builtin.Str.occurrences j i 0 j.length 1).isEmpty) else !(Builtin.Str.occurrences j i 0 j.length 1).isEmpty)) H
  |_=>False)
 |_=>False
theorem U4:iW X (compareOp .In) (Nz X.K false):=by
 refine iW.imp (iW.or LK LJ) fun x y H Q h=>?_;unfold Nz at h;split at h
 ·
  obtain⟨xs,h1,f,d,i⟩:=h;exact .inl ⟨_,xs,rfl,h1,f,d,i⟩
 ·
  split at h
  ·simp_all
  ·simp_all
 ·simp_all
theorem Ny {K:W.Frag}:Nz K neg x (.ref p) H Q=(∃xs,(cQ K H p xs\/dO K H p xs)/\sG x=true/\xs.all sG=true/\Q (.bl (if neg then !Cd x xs else Cd x xs)) H):=rfl
theorem Nw {K:W.Frag}:Nz K neg (.str i) (.str j) H Q=Q (.bl (if neg then !(!(Builtin.Str.occurrences j i 0 j.length 1).isEmpty) else !(Builtin.Str.occurrences j i 0 j.length 1).isEmpty)) H:=rfl
end
inductive Dt where
 |non|int (i:Int)|str (z:Str)|l (ds:List Dt)|t (ds:List Dt)
theorem Paired.get: ∀{xs:List α} {d:List β} {i:Nat} {x:α},Paired F xs d->xs[i]?=some x->∃y,d[i]?=some y/\F x y
 |_,_,_,_,.nil,e=>by trivial
 |_,_,0,_,.cons r _,e=>by simp_all
 |_,_,i+1,x,.cons _ t,e=>by
  obtain⟨u,h1,f⟩:=Paired.get t (‹_›);exact⟨u,‹_›,f⟩
open Classical in
theorem GB {α:Type} {xs d:List α} (hl:xs.length=d.length) (h: ∀j a b,xs[j]?=some a->d[j]?=some b->e j=decide (a=b)):(List.range xs.length).all e=decide (xs=d):=by
 rw[Bool.eq_iff_iff,List.all_eq_true,decide_eq_true_eq];constructor
 ·
  intro q;refine List.ext_getElem hl fun j h1 f=>?_;have:=q j (List.mem_range.mpr h1);rw[h j xs[j] d[j] (by simp) (by simp_all),decide_eq_true_eq] at this;exact this
 ·simp_all
section
variable {X:Cx} {pins:List (Addr×Obj)} {σ:St} {H:Hp} {s:Shared}
open Classical in
theorem wH: ∀{xs:List V} {ds es:List Dt},Paired F xs ds->Paired G xs es->(∀x d e,F x d->G x e->d=e)->ds=es
 |_,_,_,.nil,.nil,_=>rfl
 |_,_,_,.cons r t,.cons r' t',f=>by rw[f _ _ _ r r',wH t t' f]
theorem tK (I:Inv X pins σ H s) (h:cQ X.K H a xs) (m:dO X.K H a ys):False:=by
 obtain⟨u,_,p,_⟩:=I.list h;obtain⟨i,_,j,_⟩:=I.tuple m;obtain⟨o,n,e,c,_⟩:=p;obtain⟨v,f,d,_⟩:=j;rw[e] at f;cases f;rw[c] at d;injection d with z;exact absurd z (by decide)
theorem JO {f d:List Value} (h: ¬f.length=d.length):(f.toArray.size != d.toArray.size)=true:=by
 simp_all
open Classical in
open Classical in
theorem uY {es:List Dt} (hn:n=ds.length) (hl:ds.length=es.length):(List.range n).all (fun j=>decide (ds[j]?=es[j]?))=decide (ds=es):=by
 subst hn;exact GB hl fun j a b ha d=>by
  simp_all
open Classical in
end
section
open Classical in
open Classical in
end
noncomputable def afN (d scope:Scope) (f N:List Str) (nv:Nat) (ix:List Nat):Bool:=
 scope.kind == .function&&scope.names.all (fun y=>y.2 != .cell&&(y.2 != .local||scope.names.lookup y.1 == some .local)&&(y.2 != .free||(d.names.lookup y.1 == some .cell||d.names.lookup y.1 == some .free)))&&
  N.length == nv+ix.length&&(List.range ix.length).all fun j=>match N[nv+j]?,ix[j]? with
   |some y,some i=>f[i]? == some y&&(d.names.lookup y == some .cell||d.names.lookup y == some .free)&&scope.names.lookup y == some .free
   |_,_=>false
theorem oR (h:afN X.env.scope scope X.N N nv ix=true):DL X scope N nv ix:=by
 unfold afN at h;simp only[Bool.and_eq_true,beq_iff_eq,List.all_eq_true,List.mem_range,Bool.or_eq_true,bne_iff_ne] at h;obtain⟨⟨⟨h1,f⟩,m⟩,u⟩:=h;refine⟨h1,fun y d=>(f y d).1.1,fun y d hl=>?_,fun y d hf=>?_,m,fun j y e=>?_⟩
 ·
  rcases(f y d).1.2 with z|z
  ·trivial
  ·exact z
 ·
  rcases(f y d).2 with z|z
  ·trivial
  ·exact z
 ·have i:j<ix.length:=by
   have:=(List.getElem?_eq_some_iff.mp e).1;lia
  have q:=u j i;rw[e,List.getElem?_eq_getElem i] at q;simp only[Bool.and_eq_true,beq_iff_eq,Bool.or_eq_true] at q;exact⟨_,List.getElem?_eq_getElem i,q.1.1,q.1.2,q.2⟩
def TupAt (K:W.Frag) (mg:Str->Option Value) (x:Str) (vs:List V):Prop:=
 ∃(a:Addr) (o:Obj) (d:Array Value) (n:Nat),mg x=some (.ref a)/\K.lookup a=some o/\o.cls = .type "tuple" /\o.dict=none/\o.data = .seq d n/\d.size<=sizeLine/\Vals vs d.toList
def tTC (K:W.Frag) (vs:List V):TE:=fun _ H Q=> ∀a,(∀H,dO K H a vs)->(∀H,Um K "tuple" (.ref a) H)->Q (.ref a) H
theorem Q2 (hg:Gl X x) (h:TupAt X.K X.mg x vs) (hd:(x == ("__debug__" : Str))=false:=by decide):PE X (.Name x pos) (tTC X.K vs):=by
 obtain⟨a,o,f,n,hm,hk,hc,d,i,m,r⟩:=h;intro j s σ H Q I q;exact lS I hg hm ⟨.ref a,H,I,rfl,q a (fun H=> .inr ⟨o,f,n,hk,hc,i,m,r⟩) (fun H=> .inr (.inl ⟨rfl,o,hk,hc,d⟩))⟩ hd
theorem BZ (bs:List Bool):(List.range bs.length).all (fun i=>bs.getD i false)=bs.all id:=by
 rw[Bool.eq_iff_iff,List.all_eq_true,List.all_eq_true];constructor
 ·
  intro h b f;obtain⟨i,hi,rfl⟩:=List.getElem_of_mem f;have:=h i (List.mem_range.mpr hi);simpa [hi] using this
 ·
  intro h i hi;have d:=List.mem_range.mp hi;have:=h _ (List.getElem_mem d);simpa [d] using this
theorem preSum_eq (ns:List Int): ∀n,n<=ns.length->preSum (fun i=>ns.getD i 0) n=(ns.take n).sum
 |0,_=>rfl
 |n+1,h=>by
  rw[preSum,preSum_eq ns n (by lia),List.take_succ,List.sum_append];simp[show n<ns.length by lia]
section
def QV (K:W.Frag) (any:Bool):List V->Hp->VK->Prop:=fun xs H Q=>match xs with
 | [.ref p]=> ∃bs:List Bool,cQ K H p (bs.map V.bl)/\Q (.bl (if any then bs.any id else bs.all id)) H
 |_=>False
theorem GP {bs:List Bool} (r:Vals (bs.map V.bl) its):TruthOf prog w A (fun i v=>its.toArray[i]?=some v) (fun i=>bs.getD i false):=by
 intro i v s Q E y f;have d:its[i]?=some v:=by simp_all
 have hi:i<bs.length:=by
  have:=(List.getElem?_eq_some_iff.mp d).1;have l:=r.length;rw[List.length_map] at l;lia
 obtain⟨u,j,m⟩:=r.get (i:=i) (x:= .bl bs[i]) (by simp_all);rw[d] at j;cases j;cases m;have e:bs.getD i false=bs[i]:=by simp_all
 replace f:Q (bs.getD i _) s:=f;rw[e] at f;exact wpAny_truthy_bool f
theorem PD (hc:X.calm=true):b9 X (.builtin "all") (QV X.K false):=by
 intro f s σ H xs us Q I rs q;unfold QV at q;split at q
 ·
  rename_i p;obtain⟨u,rfl,j⟩:=vals1 rs;cases j;obtain⟨bs,i,q⟩:=q;obtain⟨m,r,pl,x⟩:=I.list i;have d:p<s.heap.objs.size:=by obtain⟨o,e,_⟩:=pl.isList;exact Heap.lt_size e
  have hlen:=r.length;rw[List.length_map] at hlen;refine call_all_walk (wpAny_pyIter_list pl.isList ⟨_,_,_,_,_,_,_,rfl,Walks.list (A:=X.A.in1) (I.ok.hd hc) _ p (Nat.ne_of_lt d) _,⟨⟨_,Heap.get?_push_size _ rfl,rfl,rfl⟩,pl.isList.push _⟩,GP r,fun v tk hk=>?_⟩);refine⟨_,H,I.kept fun b o e=>hk b o (fun z=>Hw e (Nat.le_refl _) (List.mem_singleton.mp z)) (Heap.get?_push_of_some _ e),?_,q⟩;rw[List.size_toArray,<-hlen,BZ];rfl
 ·trivial
def QD (K:W.Frag):List V->Hp->VK->Prop:=fun xs H Q=>match xs with
 | [.ref p]=> ∃ns:List Int,cQ K H p (ns.map V.int)/\Q (.int ns.sum) H
 |_=>False
theorem Pz (hc:X.calm=true):b9 X (.builtin "sum") (QD X.K):=by
 intro C s σ H xs us Q I rs q;unfold QD at q;split at q
 ·
  rename_i p;obtain⟨u,rfl,j⟩:=vals1 rs;cases j;obtain⟨ns,E,q⟩:=q;obtain⟨m,r,pl,J⟩:=I.list E;have d:p<s.heap.objs.size:=by obtain⟨o,e,_⟩:=pl.isList;exact Heap.lt_size e
  have hlen:=r.length;rw[List.length_map] at hlen;refine call_sum_walkG (wpAny_pyIter_list pl.isList ⟨_,_,_,_,_,_,fun i=>ns.getD i 0,rfl,Walks.list (A:=X.A.in1) (I.ok.hd hc) _ p (Nat.ne_of_lt d) _,⟨⟨_,Heap.get?_push_size _ rfl,rfl,rfl⟩,pl.isList.push _⟩,fun b O=>?_,fun i v G=>?_,fun F tk t' hk=>?_⟩)
  ·
   have:b=s.heap.objs.size\/b=p:=by simp_all
   rw[Heap.size_push];rcases this with rfl|rfl
   ·simp_all
   ·exact Nat.lt_succ_of_lt d
  ·
   have f:m[i]?=some v:=by simp_all
   have hi:i<ns.length:=by
    grind
   obtain⟨u,y,j⟩:=r.get (i:=i) (x:= .int ns[i]) (by simp);rw[f] at y;cases y;obtain⟨t,rfl⟩:=j;exact⟨t,by simp[hi]⟩
  ·
   refine⟨.int _,H,I.kept fun b o e=>hk b o (fun z=>Hw e (Nat.le_refl _) (List.mem_singleton.mp z)) (Heap.get?_push_of_some _ e),⟨t',?_⟩,q⟩;rw[List.size_toArray,<-hlen,preSum_eq ns _ (Nat.le_refl _),List.take_length]
 ·trivial
theorem NH {K:W.Frag}:QV K false [.ref p] H Q=(∃bs:List Bool,cQ K H p (bs.map V.bl)/\Q (.bl (bs.all id)) H):=rfl
theorem Nf {K:W.Frag}:QD K [.ref p] H Q=(∃ns:List Int,cQ K H p (ns.map V.int)/\Q (.int ns.sum) H):=rfl
def CB (K:W.Frag):List V->Hp->VK->Prop:=fun xs H Q=>match xs with
 | [.ref p]=> ∃d,(cQ K H p d\/dO K H p d)/\∀l,H l=none->Q (.ref l) (upd H l (.lst d))
 |_=>False
theorem Jr:b9 X (.type "list") (CB X.K):=b9.imp Gs fun xs H Q h=>by
 unfold CB at h;split at h
 ·simp_all
 ·simp_all
def B8 (K:W.Frag):List V->Hp->VK->Prop:=fun xs H Q=>match xs with
 | [.ref p]=> ∃d,(cQ K H p d/\∀l,H l=none->Q (.ref l) (upd H l (.tup d)))\/(dO K H p d/\Q (.ref p) H)
 |_=>False
theorem HX:b9 X (.type "tuple") (B8 X.K):=b9.imp Ey fun xs H Q h=>by
 unfold B8 at h;split at h
 ·simp_all
 ·simp_all
theorem G8 {K:W.Frag}:B8 K [.ref p] H Q=(∃d,(cQ K H p d/\∀l,H l=none->Q (.ref l) (upd H l (.tup d)))\/(dO K H p d/\Q (.ref p) H)):=rfl
def tf:V->List V->Hp->VK->Prop:=fun x vs H Q=>match x,vs with
 | .ref l,[y]=> ∃xs,H l=some (.lst xs)/\xs.length<sizeLine/\Q .non (upd H l (.lst (xs++ [y])))
 |_,_=>False
theorem I_:P2 X "list.append" tf:=by
 intro d s σ H x xs v us Q I f rs q;unfold tf at q;split at q
 ·
  obtain⟨m,h1,j,i⟩:=q;exact LS _ s σ H _ _ v us Q I f rs ⟨_,m,_,rfl,rfl,h1,j,i⟩
 ·trivial
theorem LI (m:PE X o to) (he:PE X e te) (i:attributeBase o "append" X.env (eval o X.env)=eval o X.env:=by rfl) (j:((backTo cpos (starEach [e] X.env)).all (fun x=>!x.1)&&(backToKw cpos (keywordEach [] X.env)).all (fun x=>x.1.isSome)
   &&decide ([e].length+([]:List Keyword).length+(if([]:List Keyword).isEmpty then 0 else 1)<30))=true:=by rfl) (f:(apos.endLine == cpos.line)=true:=by rfl) (hs:starEach [e] X.env=(false,eval e X.env)::starEach [] X.env:=by rfl) (d:(backTo cpos (starEach [] X.env)).any (·.1)=false:=by rfl):
  PE X (.Call (.Attribute o "append" apos) [e] [] cpos) (Yi X.K "list" tf to (EG te Io)):=
 NT F.plainAttrs_list F.slot_list_append F.type_list_append I_ m (Kg he aw hs) i j f hs d
theorem qf {K:W.Frag} (h:cQ K H a xs):Um K "list" (.ref a) H:= .inl ⟨rfl,xs,h⟩
theorem FE:tf (.ref l) [y] H Q=(∃xs,H l=some (.lst xs)/\xs.length<sizeLine/\Q .non (upd H l (.lst (xs++ [y])))):=rfl
def CC (K:W.Frag):R2:=fun x y H Q=>match x,y with
 | .ref p,.int i=> ∃xs v,(cQ K H p xs\/dO K H p xs)/\oW xs i=some v/\Q v H
 | .str z,.int i=> ∃c,z.length<=sizeLine/\oW z.cps.toList i=some c/\Q (.str ⟨#[c]⟩) H
 |_,_=>False
theorem Ib.imp (h:Ib X r) (i: ∀x y H Q,r' x y H Q->r x y H Q):Ib X r':=fun value slice d s σ H x y v u Q I f j q hs=>h _ _ _ s σ H x y v u Q I f j (i _ _ _ _ q) hs
theorem aj3:Ib X (CC X.K):=Ib.imp W0 fun x y H Q h=>by
 unfold CC at h;split at h
 ·
  obtain⟨xs,v,h1,f,d⟩:=h;rcases h1 with h1|h1
  ·exact .inl ⟨_,xs,_,v,rfl,rfl,h1,f,d⟩
  ·exact .inr (.inl ⟨_,xs,_,v,rfl,rfl,h1,f,d⟩)
 ·
  obtain⟨c,h1,f,d⟩:=h;exact .inr (.inr ⟨_,_,c,rfl,rfl,h1,f,d⟩)
 ·trivial
theorem Nr {K:W.Frag}:CC K (.str z) (.int i) H Q=(∃c,z.length<=sizeLine/\oW z.cps.toList i=some c/\Q (.str ⟨#[c]⟩) H):=rfl
theorem HC {K:W.Frag} (h:cQ K H p xs) (e:oW xs i=some v) (q:Q v H):CC K (.ref p) (.int i) H Q:=⟨xs,v,.inl h,e,q⟩
theorem dX {K:W.Frag} (h:dO K H p xs) (e:oW xs i=some v) (q:Q v H):CC K (.ref p) (.int i) H Q:=⟨xs,v,.inr h,e,q⟩
theorem OB {K:W.Frag} {ns:List Int} (f:cQ K H a (ns.map V.int)) (h0:0<=k) (h1:k<(ns.length:Int)) (q:Q (.int (ns.getD k.toNat 0)) H):CC K (.ref a) (.int k) H Q:=by
 refine HC f ?_ q;obtain⟨j,rfl⟩: ∃j:Nat,k=(j):=⟨k.toNat,by lia⟩;refine R5 ?_;have d:j<ns.length:=by lia
 simp[d]
end
section
theorem Jh:Pb t u (v::r) σ H Q=t v σ H fun d H'=>u r d H' Q:=by
 apply propext;constructor
 ·
  rintro⟨f,i,e,h⟩;cases e;exact h
 ·
  intro h;exact⟨v,r,rfl,h⟩
theorem Pa:afD [] σ H Q=Q σ H:=by
 apply propext;exact⟨fun h=>h.2,fun h=>⟨rfl,h⟩⟩
theorem Xy {P:Int->Prop}:(∃k,V.int i = .int k/\P k)=P i:=by
 simp_all
theorem Iz (h:n<=1000):(n<=sizeLine)=True:=by
 have:=sizeLine_eq;simp only[eq_iff_iff,iff_true];lia
end
section
variable {X:Cx} (K:W.Frag) (h:X.K=K)
theorem a_ (h:X.K=K):iW X (binaryOp .Add) (EN K):=h▸Rc
theorem lI (h:X.K=K):b9 X (.builtin "len") (AW K):=h▸Mv
theorem nO (h:X.K=K):b9 X (.builtin "isinstance") (zD K):=h▸PB
theorem FL (h:X.K=K):iW X (compareOp .In) (Nz K false):=h▸U4
theorem Qx (h:X.K=K):KR X (Nh K):=h▸agi
theorem qv (h:X.K=K):Ib X (CC K):=h▸aj3
theorem c7 (h:X.K=K) (hl:PE X l tl):PI X tg l (RD K tl):=h▸UN hl
theorem AM (h:X.K=K) (hc:X.calm=true):b9 X (.builtin "all") (QV K false):=h▸PD hc
theorem Ms (h:X.K=K) (hc:X.calm=true):b9 X (.builtin "sum") (QD K):=h▸Pz hc
theorem DB (h:X.K=K):b9 X (.type "list") (CB K):=h▸Jr
theorem A4 (h:X.K=K):b9 X (.type "tuple") (B8 K):=h▸HX
theorem lW (h:X.K=K) (hg:Gl X x) (ht:TupAt K X.mg x vs) (hd:(x == ("__debug__" : Str))=false:=by decide):PE X (.Name x pos) (tTC K vs):=by
 subst h;exact Q2 hg ht hd
theorem Q1 {es:List Expr} {k:Nat} {pos:Pos} {t:Ui} {n:Nat} (h:X.K=K) (hc:X.calm=true) (hh:Qc X es t)
  (hn:(assignEach es X.env).length=n:=by rfl) (d:(assignEach es X.env).findIdx? (·.1)=none:=by rfl):PG X (.Tuple es k pos) (Xp K n t):=h▸UP hc hh hn d
theorem IM (h:X.K=K) (i:PE X o to) (f:attributeBase o "bit_length" X.env (eval o X.env)=eval o X.env:=by rfl) (d:(apos.endLine == cpos.line)=true:=by rfl):
  PE X (.Call (.Attribute o "bit_length" apos) [] [] cpos) (Qs K "int" ya to):=h▸LH i f d
theorem FJ {o e:Expr} {es:List Expr} {to:TE} {t:TA} {name:Str} {apos d:Pos} {T id:String} {r:V->List V->Hp->VK->Prop} (h:X.K=K) (pa:PlainAttrs T) (slot:Slot T name id) (m:typeOf (.builtin id)=pure (.type "method_descriptor")) (hm:P2 X id r) (u:PE X o to) (ha:PA X (e::es) t)
  (j:attributeBase o name X.env (eval o X.env)=eval o X.env:=by rfl)
  (
   hfew:((backTo d (starEach (e::es) X.env)).all (fun x=>!x.1)&&(backToKw d (keywordEach [] X.env)).all (fun x=>x.1.isSome)
   &&decide ((e::es).length+([]:List Keyword).length+(if([]:List Keyword).isEmpty then 0 else 1)<30))=true:=by rfl)
  (i:(apos.endLine == d.line)=true:=by rfl) (hs:starEach (e::es) X.env=(false,eval e X.env)::starEach es X.env:=by rfl) (f:(backTo d (starEach es X.env)).any (·.1)=false:=by rfl):
  PE X (.Call (.Attribute o name apos) (e::es) [] d) (Yi K T r to t):=h▸NT pa slot m hm u ha j hfew i hs f
theorem rk (h:X.K=K) (m:PE X o to) (he:PE X e te) (i:attributeBase o "append" X.env (eval o X.env)=eval o X.env:=by rfl) (j:((backTo cpos (starEach [e] X.env)).all (fun x=>!x.1)&&(backToKw cpos (keywordEach [] X.env)).all (fun x=>x.1.isSome)
   &&decide ([e].length+([]:List Keyword).length+(if([]:List Keyword).isEmpty then 0 else 1)<30))=true:=by rfl) (f:(apos.endLine == cpos.line)=true:=by rfl) (hs:starEach [e] X.env=(false,eval e X.env)::starEach [] X.env:=by rfl) (d:(backTo cpos (starEach [] X.env)).any (·.1)=false:=by rfl):
  PE X (.Call (.Attribute o "append" apos) [e] [] cpos) (Yi K "list" tf to (EG te Io)):=h▸LI m he i j f hs d
end
def agg (t u:TS):TS:=fun D σ H=> ∃M:St->Hp->Prop,t {D with nx:=M} σ H/\∀d H',M d H'->u D d H'
theorem yd {st:Stmt} {rest:List Stmt} (h1:PS X st t) (j:Cj X rest u):Cj X (st::rest) (agg t u):=by
 intro d s σ H D I ⟨M,h,k⟩;refine wpAny_execs_cons (thn (h1 _ s σ H _ I h) fun f s1 q=>?_);cases f with
 |next=>
  obtain⟨m,H',i,q⟩:=q;exact j _ s1 _ H' D i (k _ H' q)
 |ret v=>exact q
 |brk=>exact q
 |cont=>exact q
noncomputable def isStar:Expr->Bool
 | .Starred .. =>true
 |_=>false
theorem cW (h:isStar e=false):starEach (e::es) env=(false,eval e env)::starEach es env:=by
 cases e<;>first|rfl|exact absurd h (by simp[isStar])
theorem nG {pos:Pos} {env:Env}: ∀{es:List Expr},es.any isStar=false->(backTo pos (starEach es env)).any (·.1)=false
 | [],_=>rfl
 |e::es,h=>by
  rw[List.any_cons,Bool.or_eq_false_iff] at h;rw[cW h.1];show(false||(backTo _ _).any _)=false;rw[nG h.2];rfl
theorem vS (h:isStar e=false):(assignEach (e::es) env).map (·.2)=assign e env::(assignEach es env).map (·.2):=by
 cases e<;>first|rfl|trivial
theorem oX {env:Env}: ∀{es:List Expr},(assignEach es env).length=es.length
 | []=>rfl
 |e::es=>by
  have d:=@oX env es;cases e<;>(show(assignEach es _).length+1=es.length+1;rw[d])
theorem j9 {env:Env}: ∀{es:List Expr},es.any isStar=false->(assignEach es env).findIdx? (·.1)=none
 | [],_=>rfl
 |e::es,h=>by
  rw[List.any_cons,Bool.or_eq_false_iff] at h;have d:=j9 (env:=env) h.2;have e1:assignEach (e::es) env=(false,assign e env)::assignEach es env:=by
   have:=h.1;cases e<;>first|rfl|trivial
  rw[e1,List.findIdx?_cons,d];rfl
noncomputable def zJ:Expr->Bool
 | .UnaryOp .Not _ _=>false
 | .BoolOp .. =>false
 | .IfExp .. =>false
 | .Compare .. =>false
 |_=>true
theorem L_ (h:zJ e=true) (whole:Sem Value):isTrue e env whole=(do let v<-whole;standAt e.pos;holding [v] (truthy v)):=by
 cases e with
 |UnaryOp op a p=>cases op<;>first|rfl|trivial
 |BoolOp=>trivial
 |IfExp=>trivial
 |Compare=>exact absurd h (by simp[zJ])
 |_=>rfl
section
theorem aE (ha:PE X e te) (d:PA X es t) (h:isStar e=false:=by rfl):PA X (e::es) (EG te t):=Kg ha d (cW h)
theorem bq [Quiet CX] (G:FnAt X.prog X.w X.K X.mg X.base CX x k ps sp) (f:dz n X.A) (hk:k<=n) (hg:Gl X x) (ha:PA X (e::es) t) (d:(x == ("__debug__" : Str))=false:=by decide) (h:(e::es).any isStar=false:=by rfl):PE X (.Call (.Name x p) (e::es) [] pos) (GV sp [] E0 t):=by
 rw[List.any_cons,Bool.or_eq_false_iff] at h;exact YD G f hk hg ha d (cW h.1) (nG h.2)
theorem a9 {X:Cx} {x:Str} {p pos:Pos} {e:Expr} {es:List Expr} {t:TA} {id:String} {r:List V->Hp->VK->Prop} (hc:b9 X (.builtin id) r) (hg:Gl X x) (hm:X.mg x=none) (f:bootBuiltins x=some (.builtin id)) (ha:PA X (e::es) t) (hn:x≠ "__name__" :=by decide) (d:(x == ("__debug__" : Str))=false:=by decide)
  (h:(e::es).any isStar=false:=by rfl):PE X (.Call (.Name x p) (e::es) [] pos) (Yh r t):=by
 rw[List.any_cons,Bool.or_eq_false_iff] at h;exact NS hc hg hm f ha hn d (cW h.1) (nG h.2)
theorem wG (hc:b9 X (.type T) r) (hg:Gl X x) (hm:X.mg x=none) (f:bootBuiltins x=some (.type T)) (ha:PA X (e::es) t) (hn:x≠ "__name__" :=by decide) (d:(x == ("__debug__" : Str))=false:=by decide) (h:(e::es).any isStar=false:=by rfl):PE X (.Call (.Name x p) (e::es) [] pos) (Yh r t):=by
 rw[List.any_cons,Bool.or_eq_false_iff] at h;exact LG hc hg hm f ha hn d (cW h.1) (nG h.2)
theorem ER (h1:PG X e g) (d:Qc X es u) (h:isStar e=false:=by rfl):Qc X (e::es) (Pb g u):=NP h1 d (vS h)
theorem Kb (K:W.Frag) (d:X.K=K) (hc:X.calm=true) (hh:Qc X es u) (hn:es.length=n:=by rfl) (h:es.any isStar=false:=by rfl):PG X (.Tuple es j pos) (Xp K n u):=
 Q1 K d hc hh (by rw[oX];exact hn) (j9 h)
theorem oh (he:PE X e te) (h:zJ e=true:=by rfl):PT X e (tB te):=UJ he (L_ h)
end
noncomputable def oq:Expr->Bool
 | .ListComp .. =>true
 | .SetComp .. =>true
 | .DictComp .. =>true
 |_=>false
noncomputable def isTup:Expr->Bool
 | .Tuple .. =>true
 |_=>false
noncomputable def OG:Expr->Bool
 | .Set .. =>true
 |_=>false
theorem nQ (h:oq e=false):swapsWith e tg l env=pure false:=by
 cases e<;>first|rfl|exact absurd h (by simp[oq])
theorem K3 (h:isTup e=false):swappedStores [tg] e env=pure none:=by
 cases e with
 |Tuple=>simp[isTup] at h
 |_=>cases tg<;>rfl
theorem jx (h:OG b=false):behindInMarks op b=false:=by
 cases b<;>first|rfl|exact absurd h (by simp[OG])
section
theorem QZ (he:PE X e te) (hg:PG X tg g) (h1:oq e=false:=by rfl) (f:isTup e=false:=by rfl) (d:isStar tg=false:=by rfl):PS X (.Assign [tg] e pos) (Iu te g):=
 UL he hg (nQ h1) (K3 f) (vS d)
theorem aP (d:X.N.Nodup) (hi:X.N[i]?=some x) (hx:Loc X.env.scope x) (he:PE X e te) (h:oq e=false:=by rfl) (hf:X.fn x=true\/X.env.scope.names.lookup x=some .local:=by first|exact .inl rfl|exact .inr rfl|assumption):
  PS X (.Assign [.Name x pos'] e pos) (Iu te (tP i)):=UK d hi hx he (nQ h) hf
theorem bL (he:PE X e te) (h:oq e=false:=by rfl):PS X (.Expr e pos) (MP te):=QY he (nQ h)
end
theorem GO {K:W.Frag} (X:K.In h) (G:h.Ns mainGlobals mg) (a:W.nsIn K mainGlobals x=some (some (.ref b))) (l:K.lookup b=some o) (c:o.cls = .type "tuple") (d:o.dict=none) (e:o.data = .seq its n) (z:its.size<=sizeLine) (r:Vals vs its.toList):TupAt K mg x vs:=
 ⟨b,o,its,n,W.mg_of X G a,l,c,d,e,z,r⟩
end L2
namespace BitM
theorem JF (a b:Nat):(a ^^^ b)+2*(a &&& b)=a+b:=by
 induction a using Nat.strongRecOn generalizing b with
 |_ a f=>
  by_cases h:a=0
  ·simp_all
  ·
   have i:=f (a / 2) (by lia) (b / 2);have m:(a ^^^ b) / 2=(a / 2) ^^^ (b / 2):=Nat.xor_div_two;have j:(a &&& b) / 2=(a / 2) &&& (b / 2):=Nat.and_div_two;have m1:(a ^^^ b) % 2=(a % 2+b % 2) % 2:=by
    have e:=Nat.xor_mod_two_pow (a:=a) (b:=b) (n:=1);simp only[Nat.pow_one] at e;rw[e];rcases(by lia:a % 2=0\/a % 2=1) with p|p<;>rcases(by lia:b % 2=0\/b % 2=1) with q|q<;>rw[p,q]<;>decide
   have d:(a &&& b) % 2=(a % 2)*(b % 2):=by
    have e:=Nat.and_mod_two_pow (a:=a) (b:=b) (n:=1);simp only[Nat.pow_one] at e;rw[e];rcases(by lia:a % 2=0\/a % 2=1) with p|p<;>rcases(by lia:b % 2=0\/b % 2=1) with q|q<;>rw[p,q]<;>decide
   rcases(by lia:a % 2=0\/a % 2=1) with p|p<;>rcases(by lia:b % 2=0\/b % 2=1) with q|q<;>rw[p,q] at m1 d<;>lia
theorem NV (a b:Nat):(a |||b)+(a &&& b)=a+b:=by
 induction a using Nat.strongRecOn generalizing b with
 |_ a f=>
  by_cases h:a=0
  ·simp_all
  ·
   have i:=f (a / 2) (by lia) (b / 2);have m:(a |||b) / 2=(a / 2) |||(b / 2):=Nat.or_div_two;have j:(a &&& b) / 2=(a / 2) &&& (b / 2):=Nat.and_div_two;have m1:(a |||b) % 2=(a % 2)+(b % 2) - (a % 2)*(b % 2):=by
    have e:=Nat.or_mod_two_pow (a:=a) (b:=b) (n:=1);rw[e];rcases(by lia:a % 2=0\/a % 2=1) with p|p<;>rcases(by lia:b % 2=0\/b % 2=1) with q|q<;>rw[p,q]<;>decide
   have d:(a &&& b) % 2=(a % 2)*(b % 2):=by
    have e:=Nat.and_mod_two_pow (a:=a) (b:=b) (n:=1);rw[e];rcases(by lia:a % 2=0\/a % 2=1) with p|p<;>rcases(by lia:b % 2=0\/b % 2=1) with q|q<;>rw[p,q]<;>decide
   rcases(by lia:a % 2=0\/a % 2=1) with p|p<;>rcases(by lia:b % 2=0\/b % 2=1) with q|q<;>rw[p,q] at m1 d<;>lia
end BitM
namespace Rem
noncomputable def st (r b:Nat):Nat:=if 2*r+b≥256 then(2*r+b) ^^^ 263 else 2*r+b
noncomputable def R (n:Nat):Nat:=if h:n=0 then 0 else st (R (n / 2)) (n % 2)
termination_by n
decreasing_by lia
theorem GD:R 0=0:=by rw[R];rfl
theorem Fe (n b:Nat) (i:b<2):R (2*n+b)=st (R n) b:=by
 by_cases h:2*n+b=0
 ·
  have h1:n=0:=by lia
  have d:b=0:=by lia
  subst h1;subst d;rw[GD];rfl
 ·
  rw[R,dif_neg h];have e1:(2*n+b) / 2=n:=by lia
  have f:(2*n+b) % 2=b:=by lia
  rw[e1,f]
theorem K6: ∀r:_root_.Fin 256,∀b:_root_.Fin 2,st r.val b.val<256:=by decide+kernel
theorem Ym (d:r<256) (f:b<2):st r b<256:=K6 ⟨r,d⟩ ⟨b,f⟩
theorem H_ (n:Nat):R n<256:=by
 induction n using Nat.strongRecOn with
 |_ n d=>
  by_cases h:n=0
  ·subst h;rw[GD];decide
  ·
   rw[R,dif_neg h];exact Ym (d _ (by lia)) (by lia)
theorem Ci (h:n<256):R n=n:=by
 induction n using Nat.strongRecOn with
 |_ n d=>
  by_cases h0:n=0
  ·subst h0;exact GD
  ·
   rw[R,dif_neg h0,d _ (by lia) (by lia)];unfold st;rw[if_neg (by lia)];lia
theorem JE (a b x y:Nat) (hx:x<2) (u:y<2):(2*a+x) ^^^ (2*b+y)=2*(a ^^^ b)+(x ^^^ y):=by
 have d:x=0\/x=1:=by lia
 have m:y=0\/y=1:=by lia
 apply Nat.eq_of_testBit_eq;intro i;cases i with
 |zero=>
  simp_all
 |succ i=>
  rw[Nat.testBit_xor,Nat.testBit_succ,Nat.testBit_succ,Nat.testBit_succ];have e1:(2*a+x) / 2=a:=by lia
  have f:(2*b+y) / 2=b:=by lia
  have j:(2*(a ^^^ b)+(x ^^^ y)) / 2=a ^^^ b:=by
   lia
  rw[e1,f,j,Nat.testBit_xor]
theorem Iw: ∀r:_root_.Fin 256,∀b:_root_.Fin 2,st r.val b.val=(2*r.val+b.val) ^^^ (263*(r.val / 128)):=by decide+kernel
theorem MW (d:r<256) (f:b<2):st r b=(2*r+b) ^^^ (263*(r / 128)):=Iw ⟨r,d⟩ ⟨b,f⟩
theorem Ii (ha:a<2 ^ k) (d:b<2 ^ k):a ^^^ b<2 ^ k:=Nat.xor_lt_two_pow ha d
theorem Kz (a b:Nat) (k:Nat):(a ^^^ b) / 2 ^ k=(a / 2 ^ k) ^^^ (b / 2 ^ k):=by
 apply Nat.eq_of_testBit_eq;intro i;rw[Nat.testBit_xor,Nat.testBit_div_two_pow,Nat.testBit_div_two_pow,Nat.testBit_div_two_pow,Nat.testBit_xor]
theorem Uv (j:r<256) (hs:s<256) (hx:x<2) (i:y<2):st (r ^^^ s) (x ^^^ y)=st r x ^^^ st s y:=by
 have h1:=Ii (k:=8) j hs;have u:=Ii (k:=1) hx i;rw[MW h1 u,MW j hx,MW hs i];have d:=Kz r s 7;have q1:r / 128=0\/r / 128=1:=by lia
 have q2:s / 128=0\/s / 128=1:=by lia
 rw[d,<-JE r s x y hx i];have m:263*((r / 128) ^^^ (s / 128))=(263*(r / 128)) ^^^ (263*(s / 128)):=by
  rcases q1 with e|e<;>rcases q2 with f|f<;>rw[e,f]<;>decide
 rw[m]
 ac_rfl
theorem PY (a b:Nat):R (a ^^^ b)=R a ^^^ R b:=by
 induction a using Nat.strongRecOn generalizing b with
 |_ a j=>
  by_cases h:a=0
  ·subst h;rw[Nat.zero_xor,GD,Nat.zero_xor]
  ·
   have f:a=2*(a / 2)+a % 2:=by lia
   have d:b=2*(b / 2)+b % 2:=by lia
   have e:a ^^^ b=2*((a / 2) ^^^ (b / 2))+((a % 2) ^^^ (b % 2)):=by
    conv=>lhs;rw[f,d]
    exact JE _ _ _ _ (by lia) (by lia)
   have i:(a % 2) ^^^ (b % 2)<2:=Ii (k:=1) (by lia) (by lia);rw[e,Fe _ _ i,j (a / 2) (by lia),Uv (H_ _) (H_ _) (by lia) (by lia),<-Fe _ _ (by lia),<-Fe _ _ (by lia),<-f,<-d]
theorem GF (h:R n=0) (k:Nat):R (n*2 ^ k)=0:=by
 induction k with
 |zero=>simp_all
 |succ k d=>
  have e:n*2 ^ (k+1)=2*(n*2 ^ k)+0:=by grind
  rw[e,Fe _ _ (by decide),d];rfl
theorem afU:R 263=0:=by
 have e:(263)=2*131+1:=rfl;rw[e,Fe _ _ (by decide),Ci (by decide)];decide
theorem XY (n k:Nat):R (n ^^^ (263*2 ^ k))=R n:=by
 rw[PY,GF afU,Nat.xor_zero]
theorem K5: ∀r:_root_.Fin 256,r.val≠0->st r.val 0≠0:=by decide+kernel
theorem Jy (h:R n≠0) (k:Nat):R (n*2 ^ k)≠0:=by
 induction k with
 |zero=>simp_all
 |succ k d=>
  have e:n*2 ^ (k+1)=2*(n*2 ^ k)+0:=by grind
  rw[e,Fe _ _ (by decide)];exact K5 ⟨_,H_ _⟩ d
theorem Ul (h:b≠0):a ^^^ b≠a:=by
 intro e;apply h;have:a ^^^ (a ^^^ b)=a ^^^ a:=by rw[e]
 rwa [<-Nat.xor_assoc,Nat.xor_self,Nat.zero_xor] at this
theorem Ql (h:2 ^ (k+8)<=n) (i:n<2 ^ (k+9)):n ^^^ (263*2 ^ k)<2 ^ (k+8):=by
 have e0:2 ^ (k+8)=256*2 ^ k:=by lia
 have f:2 ^ (k+9)=512*2 ^ k:=by lia
 have p:=Nat.two_pow_pos k;have hd:n / 2 ^ (k+8)=1:=by
  have a1:1<=n / 2 ^ (k+8):=(Nat.le_div_iff_mul_le (by lia)).mpr (by lia);have d:n / 2 ^ (k+8)<2:=(Nat.div_lt_iff_lt_mul (by lia)).mpr (by lia);lia
 have hd2:(263*2 ^ k) / 2 ^ (k+8)=1:=by
  have a1:1<=(263*2 ^ k) / 2 ^ (k+8):=(Nat.le_div_iff_mul_le (by lia)).mpr (by lia);have d:(263*2 ^ k) / 2 ^ (k+8)<2:=(Nat.div_lt_iff_lt_mul (by lia)).mpr (by lia);lia
 have hx:(n ^^^ (263*2 ^ k)) / 2 ^ (k+8)=0:=by
  rw[Kz,hd,hd2];decide
 rcases Nat.div_eq_zero_iff.mp hx with q|q
 ·lia
 ·exact q
end Rem
namespace BitI
open PySem L2
theorem not_eq (x:Int):Builtin.bitNot x = -x - 1:=by unfold Builtin.bitNot;lia
theorem KQ (a b:Nat):Builtin.bitAnd (a:Int) (b:Int)=((a &&& b:Nat):Int):=rfl
theorem FK (a b:Nat):Builtin.bitOr (a:Int) (b:Int)=((a |||b:Nat):Int):=by
 unfold Builtin.bitOr;rw[PyProof.Rows.bitAnd_nn (by rw[not_eq];lia) (by rw[not_eq];lia)];have e: ∀n,(Builtin.bitNot (Builtin.bitNot (n)))=(n):=fun n=>by rw[not_eq,not_eq];lia
 rw[e a,e b,e];simp
theorem JD (a b:Nat):Builtin.bitXor (a:Int) (b:Int)=((a ^^^ b:Nat):Int):=by
 unfold Builtin.bitXor;rw[FK,KQ];have h1:=BitM.JF a b;have d:=BitM.NV a b;lia
theorem PL {n:Nat} (h:0<n):Builtin.Int.intBits (n:Int)=n.log2+1:=by
 unfold Builtin.Int.intBits;rw[if_neg]
 ·simp
 ·lia
theorem Nd {n:Nat} (h:255<n): ∃k:Nat,(Builtin.Int.intBits (n:Int):Int) - 9=(k:Int)/\n ^^^ (263*2 ^ k)<n/\Rem.R (n ^^^ (263*2 ^ k))=Rem.R n/\k+9=n.log2+1:=by
 have d:=PL (show 0<n by lia);have f:8<=n.log2:=(Nat.le_log2 (by lia)).mpr (‹_›);refine⟨n.log2 - 8,by grind,?_,Rem.XY _ _,by lia⟩;have l1:2 ^ (n.log2 - 8+8)<=n:=by
  rw[show n.log2 - 8+8=n.log2 by lia];exact Nat.log2_self_le (by lia)
 have l2:n<2 ^ (n.log2 - 8+9):=by
  rw[show n.log2 - 8+9=n.log2+1 by lia];exact Nat.lt_log2_self
 exact Nat.lt_of_lt_of_le (Rem.Ql l1 l2) l1
end BitI
namespace RemM
open Rem
theorem yj (h:b<2 ^ p):(a*2 ^ p) |||b=a*2 ^ p+b:=by
 rw[<-Nat.shiftLeft_eq,Nat.shiftLeft_add_eq_or_of_lt h]
theorem DO (h:b<2 ^ p):(a*2 ^ p) ^^^ b=a*2 ^ p+b:=by
 have h1:=BitM.JF (a*2 ^ p) b;have f:=BitM.NV (a*2 ^ p) b;have d:=yj (a:=a) h;lia
theorem XZ (n:Nat):R (n ^^^ R n)=0:=by
 rw[PY,Ci (H_ n),Nat.xor_self]
theorem R7 (z:Nat):R ((z*256) |||R (z*256))=0:=by
 have h:R (z*256)<2 ^ 8:=H_ _;have e:(z*256) |||R (z*256)=(z*256) ^^^ R (z*256):=by
  rw[yj h,DO h]
 rw[e,XZ]
theorem afT (h0:0<a) (h1:a<256):R (a*2 ^ p)≠0:=Jy (by rw[Ci h1];lia) p
theorem PZ (h0:0<a) (h1:a<256):R (n ^^^ (a*2 ^ p))≠R n:=by
 rw[PY];exact Ul (afT h0 h1)
end RemM
namespace Held
theorem Cq: ∀{xs d:List Int},xs.Pairwise (· < ·)->d.Pairwise (· < ·)->(∀z,z∈xs↔z∈d)->xs=d
 | [],[],_,_,_=>rfl
 | [],y::d,_,_,h=>by have:=(h y).mpr (by simp);simp at this
 |x::xs,[],_,_,h=>by have:=(h x).mp (by simp);simp at this
 |x::xs,y::d,h1,h2,h=>by
  rw[List.pairwise_cons] at h1 h2;have f:x=y:=by
   have a:=(h x).mp (by simp);have b:=(h y).mpr (by simp);rcases List.mem_cons.mp a with e|e
   ·exact e
   ·grind
  subst f;have:=Cq h1.2 h2.2 fun z=>by
   grind
  rw[this]
noncomputable def dH:Int->List Int->Bool
 |_,[]=>true
 |l,x::xs=>decide (l+1<=x)&&decide (x<=15)&&dH x xs
theorem uR: ∀{l:Int} {xs:List Int},dH l xs=true↔(xs.Pairwise (· < ·)/\∀x∈xs,l<x/\x<=15)
 |l,[]=>by simp[dH]
 |l,x::xs=>by
  have i:=@uR x xs;simp only[dH,Bool.and_eq_true,decide_eq_true_eq,i,List.pairwise_cons,List.mem_cons];constructor
  ·
   rintro⟨⟨a,b⟩,c,d⟩;refine⟨⟨fun y f=>(d y f).1,c⟩,?_⟩;rintro y (rfl|f)
   ·lia
   ·have:=d y f;lia
  ·
   rintro⟨⟨a,c⟩,d⟩;have:=d x (.inl rfl);exact⟨⟨by lia,this.2⟩,c,fun y f=>⟨a y f,(d y (.inr f)).2⟩⟩
noncomputable def ones:List Int:=(List.range 15).map fun i:Nat=>(1:Int)+i
theorem Hj:ones.Pairwise (· < ·):=by decide
theorem N6:z∈ones↔(0<z/\z<=15):=by
 unfold ones;rw[List.mem_map];constructor
 ·
  rintro⟨i,hi,rfl⟩;have:=List.mem_range.mp hi;lia
 ·
  intro h;exact⟨(z - 1).toNat,List.mem_range.mpr (by lia),by lia⟩
theorem Jf (hx:hs[i]?=some x) (e:dH 0 hs=dH l (hs.drop i)):dH 0 hs=(decide (l+1<=x)&&decide (x<=15)&&dH x (hs.drop (i+1))):=by
 have hi:=(List.getElem?_eq_some_iff.mp hx).1;rw[e,List.drop_eq_getElem_cons hi];have:=(List.getElem?_eq_some_iff.mp hx).2;rw[this];rfl
end Held
namespace Com
open PySem L2
theorem aG (h:H p=none):aW H (upd H p o):=fun b u e=>by rw[aj (aL e h)];exact e
theorem n_ (e:aW H H') (h:cQ K H a xs):cQ K H' a xs:=e.seq h
theorem Pt {ns:List Int}:yR (ns.map V.int) lo hi=((ns.drop (HT.rg ns.length 0 lo)).take (HT.rg ns.length ns.length hi - HT.rg ns.length 0 lo)).map V.int:=by
 unfold yR;rw[List.length_map,List.map_take,List.map_drop]
theorem bQ {q:Addr} (h:H p=some x) (hn:H q=none):upd H q o p=some x:=by rw[aj (aL h hn)];exact h
theorem DG {zs:List V} (h1:H l=some (.lst xs)) (f:H b=some (.lst zs)) (d:xs.length+zs.length<=sizeLine) (q: ∀p,H p=none->Q (.ref p) (upd H p (.lst (xs++zs)))):EN K (.ref l) (.ref b) H Q:=
 .inl ⟨l,b,xs,zs,rfl,rfl,h1,f,d,q⟩
theorem tJ {ns:List Int} {i:Nat} (h:(ns.map V.int)[i]?=some x): ∃c,x = .int c/\ns[i]?=some c:=by
 cases e:ns[i]?<;>simp_all
theorem cshl (h0:0<=j) (h1:j<=1000000) (f:0<=i) (d:i<2 ^ 256):P6 i j:=by
 exact⟨⟨h0,h1⟩,by lia,by lia⟩
theorem bc (h:n<=1000):n<=sizeLine:=by rw[sizeLine_eq];lia
theorem OC (h:H a=some (.lst xs)) (q:Q (.bl true) H):zD K [.ref a,.ty "list"] H Q:=⟨_,_,.lst h,rfl,q⟩
theorem F_ (h:H a=some (.tup xs)) (q:Q (.bl true) H):zD K [.ref a,.ty "tuple"] H Q:=⟨_,_,.tup h,rfl,q⟩
theorem fresh_ne {q:Addr} (h:upd H p o q=none):q≠p:=fun e=>by
 subst e;rw[aq] at h;cases h
theorem sS {F:Prop} (h0:b=false->F) (h1:b=true->G):if b=true then G else F:=by
 simp_all
theorem MU {F:Prop} (h0:b=false->F) (h1:b=true->G):if b=false then F else G:=by
 simp_all
theorem La:oY 1 15=((List.range 15).map fun i:Nat=>(1:Int)+i).map V.int:=rfl
theorem HS {ns:List Int}:((ns.map V.int).filter p).map (fun x=>x)=(ns.filter fun i=>p (.int i)).map V.int:=by
 rw[List.map_id',List.filter_map];rfl
end Com
namespace L2
open PySem PySem.Spec PyProof.Rows
structure eZ (K:W.Frag) (mg:Str->Option Value) (x:Str) (C:Addr):Prop where
 TR:mg x=some (.ref C)
 cl:Uj K C
 mks:W.makesIn K C=true
 kp:W.keepIn K (.ref C)=true
def MethAt (K:W.Frag) (C:Addr) (m q:Str) (st:Stmt):Prop:= ∃f d,Fun K m q st f d/\Meth K C m f
def DJ (P:Program) (w:World) (K:W.Frag) (mg:Str->Option Value) (base:Heap) (j:Ie) (C:Addr) (m:Str) (k:Nat) (i:List Str) (sp:Sp):Prop:=
 ∃f d,yZ P w K mg base j k f d i sp/\Meth K C m f/\Binds K d i []
theorem Of {K:W.Frag} (X:K.In h) (G:h.Ns mainGlobals mg) (a:W.nsIn K mainGlobals x=some (some (.ref C))) (pg:W.plainGet K C Str.empty=true) (hd:W.hasDictIn K C=true) (po:W.plainOver K C=true) (sa:W.findIn K (.ref C) "__setattr__" = some (some (.builtin "object.__setattr__"))) (mk:W.makesIn K C=true) (kc:W.keepIn K (.ref C)=true):eZ K mg x C:=
 ⟨W.mg_of X G a,⟨pg,hd,po,sa⟩,mk,kc⟩
theorem LU {K:W.Frag} {q:Str} {st:Stmt} {kV:Value} (a:W.findIn K (.ref C) m=some (some (.ref f))) (i:W.isFn K (.ref f)=true) (l:K.lookup f=some ⟨oc,od,.func (W.fnOf m q (fP st) (dq st) (bN st) .none kV doc pm an cdv ct),osl⟩) (c:W.codeIn K cdv q=true) (k:W.keepIn K (.ref f)=true):MethAt K C m q st:=
 ⟨f,_,Pc l c k,⟨a,i,k⟩⟩
section
theorem MethAt.fn {K:W.Frag} {q:Str} {st:Stmt} (F:MethAt K C m q st) (S:pC N ps (bN st)) (x: ∀(kV doc pm:Value) (an:Option Addr) (d ct:Value) (us:List Value),us.length=ps.length->bindArgs (W.fnOf m q (fP st) (dq st) (bN st) .none kV doc pm an d ct) ⟨us,[]⟩=pure (ps.zip us)) (len: ∀vs H Q E,sp vs H Q E->vs.length=ps.length) (i: ∀(f:Addr) (d:Value) (A:Around) (outer:List Env) (s:Shared) (H:Hp) (vs:List V) (Q:VK) (E:XK),dz k (A.deeper (envOfC q (bN st) s.heap.objs.size f d))->sp vs H Q E->
   ∃t,Cj (Dz CX P w K mg base N q (bN st) f d A outer s H E).nox (dq st) t/\t {nx:=fun _ H'=>Q .non H',rt:=Q} (start N vs) H):DJ P w K mg base CX C m (k+1) ps sp:=by
 obtain⟨f,z,F,hm⟩:=F;have bd:=F.binds x;obtain⟨G,od,kV,doc,pm,an,d,ct,y,rfl,lk,u⟩:=F.ex;refine⟨f,_,Kv lk u S len fun A outer s H vs Q E v j=>?_,hm,bd⟩;obtain⟨t,h,q⟩:=i f _ A _ s H vs Q E v j;exact⟨t,h.nox,q⟩
end
def QQ (C:Addr) (f:Str) (x:V) (H:Hp) (Q:VK):Prop:=match x with
 | .ref a=> ∃dx fs,H a=some (.ins C dx fs)/\∃v,fs.lookup f=some v/\Q v H
 |_=>False
theorem QP (h:QQ C f x H Q): ∃a,x = .ref a/\∃dx fs,H a=some (.ins C dx fs)/\∃v,fs.lookup f=some v/\Q v H:=by
 unfold QQ at h;split at h
 ·exact⟨_,rfl,h⟩
 ·exact h.elim
def MO (C:Addr) (f:Str) (d:TE):TE:=fun σ H Q=>d σ H fun x i=>QQ C f x i Q
def JX (C:Addr) (f:Str) (y x:V) (H:Hp) (N:Hp->Prop):Prop:=match x with
 | .ref a=> ∃dx fs,H a=some (.ins C dx fs)/\fs.length<1000/\N (upd H a (.ins C dx (bS f y fs)))
 |_=>False
theorem Ni (h:JX C f y x H N): ∃a,x = .ref a/\∃dx fs,H a=some (.ins C dx fs)/\fs.length<1000/\N (upd H a (.ins C dx (bS f y fs))):=by
 unfold JX at h;split at h
 ·exact⟨_,rfl,h⟩
 ·exact h.elim
def Na (C:Addr) (f:Str) (i m:TE):TS:=fun D σ H=>m σ H fun y d=>i σ d fun x j=>JX C f y x j (D.nx σ)
def J4 (C:Addr) (f:Str) (x:V) (H:Hp) (K:V->(V->Hp->Prop)->Prop) (N:Hp->Prop):Prop:=match x with
 | .ref a=> ∃dx fs,H a=some (.ins C dx fs)/\∃v,fs.lookup f=some v/\
 K v fun z j=> ∃i d,j a=some (.ins C i d)/\d.length<1000/\N (upd j a (.ins C i (bS f z d)))
 |_=>False
theorem NG {K:V->(V->Hp->Prop)->Prop} (h:J4 C f x H K N): ∃a,x = .ref a/\∃dx fs,H a=some (.ins C dx fs)/\∃v,fs.lookup f=some v/\K v fun z j=> ∃i d,j a=some (.ins C i d)/\d.length<1000/\N (upd j a (.ins C i (bS f z d))):=by
 unfold J4 at h;split at h
 ·exact⟨_,rfl,h⟩
 ·exact h.elim
def Sl (C:Addr) (f:Str) (i u:TE) (m:R2):TS:=fun D σ H=>i σ H fun x d=>J4 C f x d (fun v R=>u σ d fun y j=>m v y j R) (D.nx σ)
def Yu (C:Addr) (m:Str) (x:V) (H:Hp) (N:Prop):Prop:=match x with
 | .ref a=> ∃dx fs,H a=some (.ins C dx fs)/\fs.lookup m=none/\N
 |_=>False
theorem FC (h:Yu C m x H N): ∃a,x = .ref a/\∃dx fs,H a=some (.ins C dx fs)/\fs.lookup m=none/\N:=by
 unfold Yu at h;split at h
 ·exact⟨_,rfl,h⟩
 ·exact h.elim
def Ut (C:Addr) (m:Str) (sp:Sp) (i:TE) (t:TA):TE:=fun σ H Q=>i σ H fun x d=>Yu C m x d (t σ d fun vs f=>sp (x::vs) f Q E0)
theorem NB:QQ C f (.ref a) H Q= ∃dx fs,H a=some (.ins C dx fs)/\∃v,fs.lookup f=some v/\Q v H:=rfl
theorem Lf:JX C f y (.ref a) H N= ∃dx fs,H a=some (.ins C dx fs)/\fs.length<1000/\N (upd H a (.ins C dx (bS f y fs))):=rfl
theorem Ly {K:V->(V->Hp->Prop)->Prop}:J4 C f (.ref a) H K N= ∃dx fs,H a=some (.ins C dx fs)/\∃v,fs.lookup f=some v/\
  K v fun z j=> ∃i d,j a=some (.ins C i d)/\d.length<1000/\N (upd j a (.ins C i (bS f z d))):=rfl
theorem QH:Yu C m (.ref a) H N= ∃dx fs,H a=some (.ins C dx fs)/\fs.lookup m=none/\N:=rfl
theorem Xz {N:Addr->List (Str×V)->Prop}:(∃dx fs,some (HO.ins C d l)=some (HO.ins C dx fs)/\N dx fs)=N d l:=by
 lia
theorem Xw {N:V->Prop}:(∃v,some x=some v/\N v)=N x:=by
 simp_all
theorem LN {K:W.Frag} (h:W.findIn K (.ref C) f=some none):bD K C f:=h
theorem cY (nx:H x=none) (nd:H dx=none):aW H (upd (upd H dx (.own x)) x (.ins C dx fs)):=fun b o e=>by
 rw[aj (aL e nx),aj (aL e nd)];exact e
theorem MG (h:H p=some o):upd H p o=H:=by
 funext b;unfold upd;split
 ·simp_all
 ·rfl
section
theorem av (he:PE X e ta) (c:eZ X.K X.mg x C) (nn:bD X.K C f) (E:attributeBase e f X.env (eval e X.env)=eval e X.env):PE X (.Attribute e f pos) (MO C f ta):=by
 intro d s σ H Q I h;refine R4 E (iY (he _ s σ H _ I h) fun u s1 x j m y G=>?_);obtain⟨a,ex,dx,fs,z,v,l,q⟩:=QP G;subst ex;obtain rfl:u=Value.ref a:=y;exact C5 m z c.cl nn l fun J s2 i F=>⟨v,j,i,F,q⟩
theorem aT (ha:PE X o ta) (j:PE X value tv) (c:eZ X.K X.mg x C) (nn:bD X.K C f) (hs:oq value=false:=by rfl):PS X (.Assign [.Attribute o f pos'] value pos) (Na C f ta tv):=by
 intro d s σ H D I h;refine plainObj_wpAny_Assign_Attribute (iY (j _ s σ H _ I h) fun u s1 y m v J q=>iY (ha _ s1 σ m _ v q) fun F s2 x P i z O=>?_) (nQ hs);obtain⟨a,ex,dx,fs,E,l,q2⟩:=Ni O;subst ex;obtain rfl:F=Value.ref a:=z;exact Ct i E c.cl nn l J fun s3 G=>⟨σ,_,G,q2⟩
theorem rj (ha:PE X o ta) (G:PE X value tv) (c:eZ X.K X.mg x C) (nn:bD X.K C f) (d:iW X (inplaceOp op) rd):PS X (.AugAssign (.Attribute o f tpos) op value pos) (Sl C f ta tv rd):=by
 intro j s σ H D I h;refine wpAny_AugAssign_AttributeAny (iY (ha _ s σ H _ I h) fun ov s1 x O P U qq=>?_);obtain⟨a,ex,dx,fs,ea,v,l,q⟩:=NG qq;subst ex;obtain rfl:ov=Value.ref a:=U;refine C5 P ea c.cl nn l fun u s2 E ru=>iY (G _ s2 σ O _ E q) fun w3 s3 y F I3 ry q3=>thn (d _ s3 σ F v y u w3 _ I3 ru ry q3) fun w4 s4 ⟨z,H3,Z,rz,dx',fs',i,J,q4⟩=>?_;exact Ct Z i c.cl nn J rz fun s5 m=>⟨σ,_,m,q4⟩
theorem bU [Quiet CX] (he:PE X o ta) (c:eZ X.K X.mg x C) (G:DJ X.prog X.w X.K X.mg X.base CX C m k ps sp) (J:dz n X.A) (hk:k<=n) (ha:PA X (e::es) t) (d:(e::es).any isStar=false:=by rfl) (ht:eval (.Call (.Attribute o m apos) (e::es) [] pos) X.env=(do
   let ov<-eval o X.env
   standAt apos.atName
   let (f,first)<-holding [ov] (getMethod ov m pl)
   callWith pos f first (backTo pos (starEach (e::es) X.env)) (backToKw pos (keywordEach [] X.env))):=by rfl):
  PE X (.Call (.Attribute o m apos) (e::es) [] pos) (Ut C m sp ta t):=by
 obtain⟨f,P,F,hm,b⟩:=G;rw[List.any_cons,Bool.or_eq_false_iff] at d;intro v s σ H Q I h;refine W.methodCall_KW (iY (he _ s σ H _ I h) fun u s1 x y j z O=>?_) ht;obtain⟨a,ex,dx,fs,E,l,q⟩:=FC O;subst ex;obtain rfl:u=Value.ref a:=z;refine ot j E c.cl hm l ?_;refine W.callWith_K I.ok.mod.kin hm.kp (iY (ha _ _ s1 σ y _ j q) fun us s2 vs U i r q2=>⟨i.nK,?_⟩) (cW d.1) (nG d.2);exact Fy (vs:= .ref a::vs) F (J.mono hk) b .nil (Quiet.pass X) i (.cons rfl r) (by simp_all)
theorem bK [Quiet CX] (he:PE X o ta) (c:eZ X.K X.mg x C) (G:DJ X.prog X.w X.K X.mg X.base CX C m k ps sp) (y:dz n X.A) (hk:k<=n) (ht:eval (.Call (.Attribute o m apos) [] [] pos) X.env=(do
   let ov<-eval o X.env
   standAt apos.atName
   let (f,first)<-holding [ov] (getMethod ov m pl)
   callWith pos f first (backTo pos (starEach [] X.env)) (backToKw pos (keywordEach [] X.env))):=by rfl):
  PE X (.Call (.Attribute o m apos) [] [] pos) (Ut C m sp ta Io):=by
 obtain⟨f,E,F,hm,b⟩:=G;intro i s σ H Q I h;refine W.methodCall_KW (iY (he _ s σ H _ I h) fun u s1 x J d j z=>?_) ht;obtain⟨a,ex,dx,fs,v,l,q⟩:=FC z;subst ex;obtain rfl:u=Value.ref a:=j;refine ot d v c.cl hm l ?_;exact W.callWith_K0 d.nK hm.kp (Fy (vs:=[.ref a]) F (y.mono hk) b .nil (Quiet.pass X) d (.cons rfl .nil) q)
theorem wF [Quiet CX] (c:eZ X.K X.mg x C) (G:DJ X.prog X.w X.K X.mg X.base CX C "__init__" k ps sp) (i:dz n X.A) (hk:k+1<=n) (hg:Gl X x) (ha:PA X (e::es) t) (d:(x == ("__debug__" : Str))=false:=by decide) (h:(e::es).any isStar=false:=by rfl):PE X (.Call (.Name x p) (e::es) [] pos) (ML C sp [] E0 t):=by
 obtain⟨f,j,F,hm,b⟩:=G;rw[List.any_cons,Bool.or_eq_false_iff] at h;exact Q4 ⟨c.mks,hm.at_,hm.fn,c.kp⟩ F (i.mono hk) hg c.TR b .nil (Quiet.pass X) ha d (cW h.1) (nG h.2)
end
def X9 (K:W.Frag) (p:Addr) (i:Int) (H:Hp) (Q:VK):Option HO->Prop
 |some (.lst xs)=> ∃v,oW xs i=some v/\Q v H
 |some (.tup xs)=> ∃v,oW xs i=some v/\Q v H
 |_=>CC K (.ref p) (.int i) H Q
def QI (K:W.Frag):R2:=fun x y H Q=>match x,y with
 | .ref p,.int i=>X9 K p i H Q (H p)
 |x,y=>CC K x y H Q
theorem Nq {K:W.Frag}:QI K (.ref p) (.int i) H Q=X9 K p i H Q (H p):=rfl
theorem Np {K:W.Frag}:QI K (.str z) (.int i) H Q=CC K (.str z) (.int i) H Q:=rfl
theorem Rw {K:W.Frag}:X9 K p i H Q (some (.lst xs))= ∃v,oW xs i=some v/\Q v H:=rfl
theorem Rv {K:W.Frag}:X9 K p i H Q (some (.tup xs))= ∃v,oW xs i=some v/\Q v H:=rfl
theorem Rx {K:W.Frag} (h:X9 K p i H Q (H p)):CC K (.ref p) (.int i) H Q:=by
 unfold X9 at h;split at h
 ·rename_i xs e;obtain⟨v,a,b⟩:=h;exact HC (cQ.of e) a b
 ·rename_i xs e;obtain⟨v,a,b⟩:=h;exact dX (dO.of e) a b
 ·exact h
theorem cH (K:W.Frag) (h:X.K=K):Ib X (QI K):=Ib.imp (qv K h) fun x y H Q h=>by
 unfold QI at h;split at h
 ·exact Rx h
 ·exact h
theorem sI {i:Nat} {x:α} (h:xs[i]?=some x):oW xs (i:Int)=some x:=by
 have hl:=(List.getElem?_eq_some_iff.mp h).1;unfold oW RA;rw[if_pos (by lia),if_pos (by lia)];exact h
theorem DF {l:List α}:oW (a::l) 0=some a:=sI (i:=0) rfl
theorem Fc {l:List α}:oW (a::b::l) 1=some b:=sI (i:=1) rfl
theorem PV {l:List α}:oW (a::b::c::l) 2=some c:=sI (i:=2) rfl
theorem PU {l:List α}:oW (a::b::c::d::l) 3=some d:=sI (i:=3) rfl
theorem afQ {l:List α}:oW (a::b::c::d::e::l) 4=some e:=sI rfl
theorem afP {l:List α}:oW (a::b::c::d::e::f::l) 5=some f:=sI rfl
def Oc (K:W.Frag) (p:Addr) (H:Hp) (Q:VK):Option HO->Prop
 |some (.lst xs)=>Q (.int xs.length) H
 |some (.tup xs)=>Q (.int xs.length) H
 |_=>AW K [.ref p] H Q
def JZ (K:W.Frag):List V->Hp->VK->Prop:=fun xs H Q=>match xs with
 | [.ref p]=>Oc K p H Q (H p)
 |xs=>AW K xs H Q
theorem Ll {K:W.Frag}:JZ K [.ref p] H Q=Oc K p H Q (H p):=rfl
theorem Lk {K:W.Frag}:JZ K [.str z] H Q=AW K [.str z] H Q:=rfl
theorem Oa {K:W.Frag}:Oc K p H Q (some (.lst xs))=Q (.int xs.length) H:=rfl
theorem N_ {K:W.Frag}:Oc K p H Q (some (.tup xs))=Q (.int xs.length) H:=rfl
theorem fQ (K:W.Frag) (h:X.K=K):b9 X (.builtin "len") (JZ K):=b9.imp (lI K h) fun xs H Q h=>by
 unfold JZ at h;split at h
 ·
  unfold Oc at h;split at h
  ·rename_i xs e;exact⟨xs,.inl (cQ.of e),h⟩
  ·rename_i xs e;exact⟨xs,.inr (dO.of e),h⟩
  ·exact h
 ·exact h
def OE (K:W.Frag) (p:Addr) (n:String) (H:Hp) (Q:VK):Option HO->Prop
 |some (.lst _)=>if n = "list" then Q (.bl true) H else zD K [.ref p,.ty n] H Q
 |some (.tup _)=>if n = "tuple" then Q (.bl true) H else zD K [.ref p,.ty n] H Q
 |_=>zD K [.ref p,.ty n] H Q
def G9 (K:W.Frag):List V->Hp->VK->Prop:=fun xs H Q=>match xs with
 | [.ref p,.ty n]=>OE K p n H Q (H p)
 |xs=>zD K xs H Q
theorem AL (K:W.Frag) (h:X.K=K):b9 X (.builtin "isinstance") (G9 K):=b9.imp (nO K h) fun xs H Q h=>by
 unfold G9 at h;split at h
 ·
  unfold OE at h;split at h
  ·
   rename_i xs e;split at h
   ·rename_i c;subst c;exact Com.OC e h
   ·exact h
  ·
   rename_i xs e;split at h
   ·rename_i c;subst c;exact Com.F_ e h
   ·exact h
  ·exact h
 ·exact h
theorem Ls {K:W.Frag}:G9 K [.ref p,.ty n] H Q=OE K p n H Q (H p):=rfl
theorem OD {K:W.Frag}:OE K p "tuple" H Q (some (.tup xs))=Q (.bl true) H:=by simp[OE]
theorem QM {K:W.Frag}:G9 K [.str i,.ty n] H Q=zD K [.str i,.ty n] H Q:=rfl
theorem Xx {N:List V->Prop}:(∃xs,some (HO.lst l)=some (HO.lst xs)/\N xs)=N l:=by
 simp_all
def lL (p:Addr) (H H':Hp):Prop:= ∀b o,H b=some o->b≠p->H' b=some o
theorem lL.refl:lL p H H:=fun _ _ h _=>h
theorem lL.upd {p:Addr} {H:Hp} {o:HO}:lL p H (upd H p o):=fun b x f d=>by rw[aj d];exact f
theorem lL.new {q:Addr} (h:lL p H H') (i:H' q=none):lL p H (L2.upd H' q o):=fun b x f d=>by
 rw[aj (aL (h b x f d) i)];exact h b x f d
end L2
namespace MeterM
noncomputable def mn (a b:Int):Int:=if b<a then b else a
noncomputable def hf (w:Int):Int:=if 1<w / 2 then w / 2 else 1
noncomputable def k1 (m k:Int) (s:Int×Int):Int×Int:=if s.1=m then s else if s.1<k then(s.1+1,s.2) else if s.2+1=s.1 then(s.1+1,0) else(s.1,s.2+1)
noncomputable def kn (m k:Int):Nat->Int×Int->Int×Int
 |0,s=>s
 |n+1,s=>k1 m k (kn m k n s)
theorem afb (h1:1<=w) (d:w<=m):1<=hf w/\hf w<=m:=by
 unfold hf;split<;>lia
def X0 (m:Int) (s:Int×Int):Prop:=1<=s.1/\s.1<=m/\0<=s.2/\s.2<s.1
theorem aj4 (s:Int×Int) (h:X0 m s):X0 m (k1 m k s):=by
 obtain⟨w,c⟩:=s;unfold X0 k1 at*
 (grind)<;>simp only<;>lia
theorem inb: ∀(n:Nat) (s:Int×Int),X0 m s->X0 m (kn m k n s)
 |0,s,h=>h
 |n+1,s,h=>aj4 _ (inb n s h)
end MeterM
namespace WaysM
noncomputable def lb (x:Nat):Nat:=x - (x &&& (x - 1))
theorem R6 (a b:Nat):(a &&& b) % 2=(a % 2)*(b % 2):=by
 have e:=Nat.and_mod_two_pow (a:=a) (b:=b) (n:=1);rw[e];rcases(by lia:a % 2=0\/a % 2=1) with p|p<;>rcases(by lia:b % 2=0\/b % 2=1) with q|q<;>rw[p,q]<;>decide
theorem UX (a b:Nat) (h:(a |||b) % 2=1):a % 2=1\/b % 2=1:=by
 simp_all
theorem Rr (x:Nat) (h:0<x): ∃k,lb x=2 ^ k/\x % 2 ^ k=0/\x / 2 ^ k % 2=1:=by
 induction x using Nat.strongRecOn with
 |_ x j=>
  have d:(x &&& (x - 1)) / 2=(x / 2) &&& ((x - 1) / 2):=Nat.and_div_two;have m:=R6 x (x - 1);rcases(by lia:x % 2=0\/x % 2=1) with p|p
  ·
   obtain⟨k,h1,i,f⟩:=j (x / 2) (by lia) (by lia);rw[show(x - 1) / 2=x / 2 - 1 by lia] at d;rw[p] at m;refine⟨k+1,?_,?_,?_⟩
   ·
    unfold lb at h1⊢;rw[Nat.pow_succ];have le:(x / 2 &&& (x / 2 - 1))<=x / 2:=Nat.and_le_left;lia
   ·
    rw[Nat.pow_succ,Nat.mul_comm,Nat.mod_mul];rw[i];lia
   ·rw[Nat.pow_succ,Nat.mul_comm,<-Nat.div_div_eq_div_mul];exact f
  ·
   refine⟨0,?_,by lia,by simpa using p⟩;unfold lb;rw[show(x - 1) / 2=x / 2 by lia,Nat.and_self] at d;rw[p,show(x - 1) % 2=0 by lia] at m;lia
theorem UY (a b k:Nat):(a |||b) / 2 ^ k=a / 2 ^ k |||b / 2 ^ k:=by
 rw[<-Nat.shiftRight_eq_div_pow,<-Nat.shiftRight_eq_div_pow,<-Nat.shiftRight_eq_div_pow];exact Nat.shiftRight_or_distrib
noncomputable def low (t b:Int):Int×Int:=(t / (lb (t.toNat |||b.toNat):Nat),b / (lb (t.toNat |||b.toNat):Nat))
structure af1 (t b t' b' s:Int):Prop where
 s0:0<s
 tt:t=s*t'
 bb:b=s*b'
 t0:0<=t'
 b0:0<b'
 od: ¬(t' % 2=0/\b' % 2=0)
 tl:t'<=t
 bl:b'<=b
theorem Ki (t b:Nat) (i:0<b): ∃k,lb (t |||b)=2 ^ k/\t % 2 ^ k=0/\b % 2 ^ k=0/\(t / 2 ^ k % 2=1\/b / 2 ^ k % 2=1):=by
 have hx:0<t |||b:=by
  simp_all
 obtain⟨k,h1,f,d⟩:=Rr _ hx;have e:(t % 2 ^ k) |||(b % 2 ^ k)=0:=by rw[<-Nat.or_mod_two_pow];exact f
 have e1:t % 2 ^ k<=(t % 2 ^ k) |||(b % 2 ^ k):=Nat.left_le_or;have j:b % 2 ^ k<=(t % 2 ^ k) |||(b % 2 ^ k):=Nat.right_le_or;refine⟨k,h1,by lia,by lia,?_⟩;rw[UY] at d;exact UX _ _ d
theorem qt (ht:0<=t) (j:0<b): ∃s,af1 t b (low t b).1 (low t b).2 s:=by
 obtain⟨t,rfl⟩:=Int.eq_ofNat_of_zero_le ht;obtain⟨b,rfl⟩:=Int.eq_ofNat_of_zero_le (Int.le_of_lt j);obtain⟨k,h1,d,i,v⟩:=Ki t b (by lia);have hp:=Nat.two_pow_pos k;have t1:=Nat.div_add_mod t (2 ^ k);have b1:=Nat.div_add_mod b (2 ^ k);rw[d,Nat.add_zero] at t1;rw[i,Nat.add_zero] at b1;have e1:(low (t) (b)).1=((t / 2 ^ k:Nat)):=by simp[low,h1]
 have f:(low (t) (b)).2=((b / 2 ^ k:Nat)):=by simp[low,h1]
 rw[e1,f];have l1:=Nat.div_le_self t (2 ^ k);have l2:=Nat.div_le_self b (2 ^ k);have m:0<b / 2 ^ k:=by
  lia
 generalize t / 2 ^ k=t' at*
 generalize b / 2 ^ k=u at*
 generalize 2 ^ k=s at*
 refine⟨(s),⟨by lia,?_,?_,by lia,by lia,by lia,by lia,by lia⟩⟩
 ·rw[<-Int.natCast_mul,t1]
 ·rw[<-Int.natCast_mul,b1]
theorem tw: ∀(n:Nat) (s b:Int),0<s->0<b->2 ^ n=s*b->∃j,j<=n/\b=2 ^ j
 |
   0,s,b,hs,hb,h=>⟨0,Nat.le_refl _,by
   have h1:s*b=1:=by simp_all
   have:b∣1:=⟨s,by rw[Int.mul_comm];exact h1.symm⟩;have:=Int.le_of_dvd (by decide) this;lia⟩
 |n+1,s,b,hs,hb,h=>by
  by_cases i:b % 2=0
  ·
   obtain⟨c,rfl⟩: ∃c,b=2*c:=⟨b / 2,by lia⟩;have:(2:Int) ^ n=s*c:=by
    lia
   obtain⟨j,d,e⟩:=tw n s c hs (by lia) this;exact⟨j+1,by lia,by rw[e,Int.pow_succ,Int.mul_comm]⟩
  ·
   by_cases f:s % 2=0
   ·
    obtain⟨c,rfl⟩: ∃c,s=2*c:=⟨s / 2,by lia⟩;have:(2:Int) ^ n=c*b:=by
     lia
    obtain⟨j,d,e⟩:=tw n c b (by lia) hb this;exact⟨j,by lia,e⟩
   ·
    have e1:(s*b) % 2=1:=by rw[Int.mul_emod];rw[show s % 2=1 by lia,show b % 2=1 by lia];decide
    rw[<-h] at e1;lia
end WaysM
namespace L2
open PySem PySem.Spec PyProof.Rows
def Bd (n:Nat) (x:Int):Prop:=x.natAbs<2 ^ n
theorem Bd.mul (h:Bd a x) (d:Bd b y):Bd (a+b) (x*y):=by
 unfold Bd;rw[Int.natAbs_mul,Nat.pow_add];exact Nat.mul_lt_mul'' h d
theorem Bd.up (h:Bd a x) (d:a<=b):Bd b x:=Nat.lt_of_lt_of_le h (Nat.pow_le_pow_right (by decide) d)
theorem Bd.add (h:Bd a x) (d:Bd a y):Bd (a+1) (x+y):=by
 unfold Bd at*
 have:=Int.natAbs_add_le x y;lia
theorem Bd.sub (h:Bd a x) (d:Bd a y):Bd (a+1) (x - y):=by
 unfold Bd at*
 lia
theorem Bd.of (h0:0<=x) (h:x<2 ^ a):Bd a x:=by
 unfold Bd;have e:((2 ^ a:Nat):Int)=2 ^ a:=rfl;lia
theorem Bd.le (h:Bd a y) (h0:0<=x) (hl:x<=y):Bd a x:=by
 unfold Bd at *;lia
theorem Bd.bits (h:Bd n x):Builtin.Int.intBits x<=n:=by
 unfold Builtin.Int.intBits;split
 ·lia
 ·
  have hx:x.natAbs≠0:=by simp_all
  have:=(Nat.log2_lt hx).mpr h;lia
def P7 (i j:Int):Prop:=P8 i j\/(Bd 8000 i/\Bd 8000 j)
def P9 (_ j:Int):Prop:=0<j/\Bd 8000 j
theorem pj:iW X (binaryOp .Mult) (rI P7 fun i j=> .int (i*j)):=So fun _ _ _ _ _ _ _ hc q=>mul_int q (by
 rcases hc with hc|⟨h1,d⟩
 ·exact hc.ok
 ·exact IntMulOk.of_bits (Nat.le_trans h1.bits (by decide)) (Nat.le_trans d.bits (by decide)))
theorem CJ:iW X (binaryOp .FloorDiv) (rI P9 fun i j=> .int (i / j)):=So fun i j _ _ _ _ _ hc q=>by
 have e:=Int.fdiv_eq_ediv_of_nonneg i (Int.le_of_lt hc.1);rw[<-e] at q;refine floordiv_int (Int.ne_of_gt hc.1) q (.inl (PyProof.noPylong_of_log2 ?_));have hx:j.natAbs≠0:=by have:=hc.1;lia
 exact Nat.lt_of_lt_of_le ((Nat.log2_lt hx).mpr hc.2) (by decide)
theorem U_ (h : -(2 ^ 64)<i/\i<2 ^ 64):P7 i j:= .inl (.inl h)
theorem wV (h:Bd a i) (d:Bd b j) (ha:a<=8000) (f:b<=8000):P7 i j:= .inr ⟨h.up ha,d.up f⟩
theorem XF (h0:0<j) (h:Bd a j) (ha:a<=8000):P9 i j:=⟨h0,h.up ha⟩
end L2
namespace L2
theorem aj_ (x:Int):(if x<0 then -x else x)=(x.natAbs:Int):=by split<;>lia
theorem Bd.abs (h:Bd n x):Bd n (x.natAbs:Int):=by unfold Bd at *;simpa using h
theorem Bd.c {k:Nat} (h:k<2 ^ n):Bd n (k:Int):=by unfold Bd;simpa using h
end L2
namespace WaysI
open PySem L2
theorem lowbit (ht:0<=t) (d:0<b):Builtin.bitAnd (Builtin.bitOr t b) (-(Builtin.bitOr t b))=(WaysM.lb (t.toNat |||b.toNat):Nat):=by
 obtain⟨t,rfl⟩:=Int.eq_ofNat_of_zero_le ht;obtain⟨b,rfl⟩:=Int.eq_ofNat_of_zero_le (Int.le_of_lt d);rw[BitI.FK];have hx:0<t |||b:=by
  simp_all
 rw[PyProof.Rows.bitAnd_pn (by lia) (by lia)];have e:(Builtin.bitNot (-((t |||b:Nat)))).toNat=(t |||b) - 1:=by rw[BitI.not_eq];lia
 rw[e];simp only[Int.toNat_natCast,WaysM.lb];have le:((t |||b) &&& ((t |||b) - 1))<=t |||b:=Nat.and_le_left;lia
theorem Vb {t:Int} (ht:0<=t) (d:0<b):0<((WaysM.lb (t.toNat |||b.toNat):Nat):Int)/\((WaysM.lb (t.toNat |||b.toNat):Nat):Int)<=b:=by
 obtain⟨t,rfl⟩:=Int.eq_ofNat_of_zero_le ht;obtain⟨b,rfl⟩:=Int.eq_ofNat_of_zero_le (Int.le_of_lt d);obtain⟨k,h1,i,f,j⟩:=WaysM.Ki t b (by lia);simp only[Int.toNat_natCast];rw[h1];have hp:=Nat.two_pow_pos k;have:=Nat.le_of_dvd (by lia) (Nat.dvd_of_mod_eq_zero f);lia
end WaysI
namespace L2
open PySem PySem.Spec PyProof.Rows
theorem HD: ∀{ns:List Int} {d:List Value},Vals (ns.map V.int) d->IntsAre d ns
 | [],_,.nil=> .nil
 |n::ns,_,.cons r rr=>by
  obtain⟨t,rfl⟩:=r;exact .cons n t (HD rr)
def Nm (K:W.Frag):List V->Hp->VK->Prop:=fun xs H Q=>match xs with
 | [.int i,.int j]=>Q (.int (if i<j then j else i)) H
 | [.ref p]=> ∃ns:List Int,cQ K H p (ns.map V.int)/\0<ns.length/\∀M,M∈ns->(∀a,a∈ns->a<=M)->Q (.int M) H
 |_=>False
theorem E5 (K:W.Frag) (F:X.K=K) (hc:X.calm=true):b9 X (.builtin "max") (Nm K):=by
 subst F;intro f s σ H xs us Q I rs q;unfold Nm at q;split at q
 ·exact uW hc _ s σ H _ us Q I rs q
 ·
  obtain⟨u,rfl,z⟩:=vals1 rs;cases z;obtain⟨ns,y,C,q⟩:=q;obtain⟨E,r,pl,J⟩:=I.list y;have hi:=HD r;have hl:=pl.isList;obtain⟨xs,e⟩:=hi.allInts.items;have d:ns=xs.toList.map (·.1):=by rw[<-hi.numsOf,<-nums_intItems,<-e]
  have hsz:0<xs.size:=by
   simp_all
  rw[e] at hl;refine max_intList (I.ok.hd hc) hl hsz fun v G tk m hk=>?_;obtain⟨t,rfl⟩:=intItems_at m;obtain⟨h1,i⟩:=argBest_gt (numAt xs) (xs.size - 1);refine⟨.int _,H,I.kept hk,⟨t,rfl⟩,q _ ?_ fun a ha=>?_⟩
  ·rw[d,numAt_eq];exact getD_mem (by rw[List.length_map,Array.length_toList];lia)
  ·
   rw[d] at ha;obtain⟨j,x,rfl⟩:=mem_getD ha;rw[List.length_map,Array.length_toList] at x;rw[<-numAt_eq];exact i j (by lia)
 ·trivial
theorem Li {K:W.Frag}:Nm K [.ref p] H Q= ∃ns:List Int,cQ K H p (ns.map V.int)/\0<ns.length/\∀M,M∈ns->(∀a,a∈ns->a<=M)->Q (.int M) H:=rfl
noncomputable abbrev ik (i:Int):Key:=Sum.inl i
def Po (neg:Bool) (i:Int) (H:Hp) (Q:VK):Option HO->Prop
 |some (.dK kvs)=>Q (.bl (if neg then !(bJ kvs (ik i)).isSome else(bJ kvs (ik i)).isSome)) H
 |_=>False
def NF (neg:Bool):R2:=fun y x H Q=>match y,x with
 | .int i,.ref a=>Po neg i H Q (H a)
 |_,_=>False
theorem ND:NF neg (.int i) (.ref a) H Q=Po neg i H Q (H a):=rfl
theorem XG:Po true i H Q (some (.dK kvs))=Q (.bl (!(bJ kvs (ik i)).isSome)) H:=rfl
theorem XH:Po false i H Q (some (.dK kvs))=Q (.bl (bJ kvs (ik i)).isSome) H:=rfl
def dgO (i:Int) (H:Hp) (Q:VK):Option HO->Prop
 |some (.dK kvs)=> ∃v,bJ kvs (ik i)=some v/\Q v H
 |_=>False
def J3:R2:=fun x y H Q=>match x,y with
 | .ref a,.int i=>dgO i H Q (H a)
 |_,_=>False
theorem Lx:J3 (.ref a) (.int i) H Q=dgO i H Q (H a):=rfl
theorem afK:dgO i H Q (some (.dK kvs))= ∃v,bJ kvs (ik i)=some v/\Q v H:=rfl
def dpO (a:Addr) (i:Int) (v:V) (H:Hp) (N:Hp->Prop):Option HO->Prop
 |some (.dK kvs)=>kvs.length<sizeLine/\N (upd H a (.dK (putK kvs (ik i) v)))
 |_=>False
def J1 (x y v:V) (H:Hp) (N:Hp->Prop):Prop:=match x,y with
 | .ref a,.int i=>dpO a i v H N (H a)
 |_,_=>False
def Nb (to d m:TE):TS:=fun D σ H=>m σ H fun v j=>to σ j fun x f=>d σ f fun y i=>J1 x y v i (D.nx σ)
theorem Lv:J1 (.ref a) (.int i) v H N=dpO a i v H N (H a):=rfl
theorem afH:dpO a i v H N (some (.dK kvs))=(kvs.length<sizeLine/\N (upd H a (.dK (putK kvs (ik i) v)))):=rfl
def RB:Option HO->Prop
 |some (.dK _)=>True
 |_=>False
def RU (a:Addr) (i:Int) (H:Hp) (Q:VK):Option HO->Prop
 |some (.dK kvs)=> ∃v,bJ kvs (ik i)=some v/\Q v (upd H a (.dK (t8 kvs (ik i))))
 |_=>False
def J2 (x y:V) (H:Hp) (Q:VK):Prop:=match x,y with
 | .ref a,.int i=>RU a i H Q (H a)
 |_,_=>False
def UH (x:V) (H:Hp):Prop:=match x with
 | .ref a=>RB (H a)
 |_=>False
def MQ (to f:TE):TE:=fun σ H Q=>to σ H fun x d=>UH x d/\f σ d fun y i=>J2 x y i Q
theorem Nu:UH (.ref a) H=RB (H a):=rfl
theorem W4:RB (some (.dK kvs))=True:=rfl
theorem Lw:J2 (.ref a) (.int i) H Q=RU a i H Q (H a):=rfl
theorem XD:RU a i H Q (some (.dK kvs))= ∃v,bJ kvs (ik i)=some v/\Q v (upd H a (.dK (t8 kvs (ik i)))):=rfl
section
theorem E3 (q:NF neg y x H Q): ∃j a d,y = .int j/\x = .ref a/\H a=some (.dK d)/\Q (.bl (if neg then !(bJ d (ik j)).isSome else(bJ d (ik j)).isSome)) H:=by
 unfold NF at q;split at q
 ·
  rename_i j a;unfold Po at q;split at q
  ·rename_i d e1;exact⟨j,a,d,rfl,rfl,e1,q⟩
  ·trivial
 ·trivial
theorem NU (Z:X.A.units+64<cLine) (hi:PE X i ti) (v:PE X o to):PC X .In i o (Qq (NF false) ti to):=by
 intro f s σ H Q I h;have d:X.A.units+1<cLine:=by lia
 refine iY (hi _ s σ H _ I h) fun P s1 y E F O q1=>iY (v _ s1 σ E _ F q1) fun u s2 x C m G q2=>?_;obtain⟨j,a,J,rfl,rfl,e1,q⟩:=E3 q2;obtain rfl:u=Value.ref a:=G;exact aj6 d m (GH.k (k:=ik j) e1) O fun U z=>⟨.bl _,C,z,rfl,q⟩
theorem IP (Z:X.A.units+64<cLine) (hi:PE X i ti) (v:PE X o to):PC X .NotIn i o (Qq (NF true) ti to):=by
 intro f s σ H Q I h;have d:X.A.units+1<cLine:=by lia
 refine iY (hi _ s σ H _ I h) fun P s1 y E F O q1=>iY (v _ s1 σ E _ F q1) fun u s2 x C m G q2=>?_;obtain⟨j,a,J,rfl,rfl,e1,q⟩:=E3 q2;obtain rfl:u=Value.ref a:=G;exact RW d m (GH.k (k:=ik j) e1) O fun U z=>⟨.bl _,C,z,rfl,q⟩
theorem Pp (q:J3 x y H Q): ∃j a d v,y = .int j/\x = .ref a/\H a=some (.dK d)/\bJ d (ik j)=some v/\Q v H:=by
 unfold J3 at q;split at q
 ·
  unfold dgO at q;split at q
  ·simp_all
  ·simp_all
 ·simp_all
theorem NR (hu:X.A.units+64<cLine) (E:PE X o to) (hi:PE X i ti) (hs:afW i):PE X (.Subscript o i pos) (Qq J3 to ti):=by
 intro z s σ H Q I h;have f:X.A.units+1<cLine:=by lia
 refine Qt PySem.F.slot_dict_getitem.lookup hs (iY (E _ s σ H _ I h) fun u s1 x J O P q1=>iY (hi _ s1 σ J _ O q1) fun iv s2 y G m ry q2=>?_);obtain⟨j,a,U,v,rfl,rfl,e1,C,q⟩:=Pp q2;obtain rfl:u=Value.ref a:=P;have g:=C▸GH.k e1;exact⟨HV m g,Mp f m g ry fun w' s3 Z d=>⟨v,G,Z,d,q⟩⟩
theorem Pk (q:J1 x y v H N): ∃j a d,y = .int j/\x = .ref a/\H a=some (.dK d)/\d.length<sizeLine/\N (upd H a (.dK (putK d (ik j) v))):=by
 unfold J1 at q;split at q
 ·
  unfold dpO at q;split at q
  ·simp_all
  ·simp_all
 ·simp_all
theorem FG (hu:X.A.units+64<cLine) (z:PE X o to) (hi:PE X i ti) (E:PE X value tv) (hs:oq value=false:=by rfl):PS X (.Assign [.Subscript o i pos'] value pos) (Nb to ti tv):=by
 intro f s σ H D I h;have d:X.A.units+1<cLine:=by lia
 refine wpAny_Assign_Subscript (iY (E _ s σ H _ I h) fun r s1 v G J F q1=>iY (z _ s1 σ G _ J q1) fun u s2 x C m O q2=>iY (hi _ s2 σ C _ m q2) fun iv s3 y H3 Z ry q3=>?_) (nQ hs);obtain⟨j,a,U,rfl,rfl,e1,hl,q⟩:=Pk q3;obtain rfl:u=Value.ref a:=O;exact Mo d Z (R_.k (k:=ik j) e1 hl) ry F fun s4 P=>⟨σ,_,P,q⟩
theorem Mn (q:J2 x y H Q): ∃j a d v,y = .int j/\x = .ref a/\H a=some (.dK d)/\bJ d (ik j)=some v/\Q v (upd H a (.dK (t8 d (ik j)))):=by
 unfold J2 at q;split at q
 ·
  unfold RU at q;split at q
  ·simp_all
  ·simp_all
 ·simp_all
theorem Q6 {X:Cx} {o e:Expr} {to te:TE} {apos d:Pos} (P:PE X o to) (he:PE X e te) (hb:attributeBase o "pop" X.env (eval o X.env)=eval o X.env:=by rfl)
  (
   hfew:((backTo d (starEach [e] X.env)).all (fun x=>!x.1)&&(backToKw d (keywordEach [] X.env)).all (fun x=>x.1.isSome)
   &&decide (([e]:List Expr).length+([]:List Keyword).length+(if([]:List Keyword).isEmpty then 0 else 1)<30))=true:=by rfl)
  (f:(apos.endLine == d.line)=true:=by rfl) (ht:backTo d (starEach [e] X.env)= [(false,eval e X.env)]:=by rfl):PE X (.Call (.Attribute o "pop" apos) [e] [] d) (MQ to te):=by
 intro G s σ H Q I h;refine wpAny_Call_method hb hfew f PySem.F.plainAttrs_dict PySem.F.slot_dict_pop PySem.F.type_dict_pop (thn (P _ s σ H _ I h) fun u s1 ⟨x,C,E,U,hd,q1⟩=>?_);obtain⟨a,i,rfl,e0⟩: ∃a i,x = .ref a/\C a=some (.dK i):=by
  unfold UH at hd;split at hd
  ·
   unfold RB at hd;split at hd
   ·simp_all
   ·simp_all
  ·simp_all
 obtain rfl:u=Value.ref a:=U;obtain⟨t1,t2,_⟩:=W3 E (.inl ⟨i,.inl e0⟩);refine⟨t1,t2,?_⟩;rw[ht];refine Calls.callWith_builtin rfl (Calls.evalArgs_plain (Calls.spliced_cons (iY (he _ s1 σ C _ E q1) fun iv s2 y H2 J ry q2=>Calls.spliced_nil ?_)));obtain⟨j,a',z,v,rfl,Z,e1,O,q⟩:=Mn q2;cases Z;exact afL J e1 (k:=ik j) ry O (.inl rfl) fun w' s3 I3 m=>⟨v,_,I3,m,q⟩
end
def JY (vs:List V) (H:Hp) (Q:VK):Prop:=match vs with
 | [.int i,.int j]=>(-(2 ^ 62)<=i/\i<2 ^ 62/\-(2 ^ 62)<=j/\j<2 ^ 62)/\∀p,H p=none->Q (.ref p) (upd H p (.rng i j))
 |_=>False
def Sf (d:TA):TE:=fun σ H Q=>d σ H fun vs f=>JY vs f Q
theorem Lg:JY [.int i,.int j] H Q=((-(2 ^ 62)<=i/\i<2 ^ 62/\-(2 ^ 62)<=j/\j<2 ^ 62)/\∀p,H p=none->Q (.ref p) (upd H p (.rng i j))):=rfl
theorem Q3 (hg:Gl X "range") (hm:X.mg "range" = none) (ha:PA X [a,b] ta) (hs:starEach [a,b] X.env= [(false,eval a X.env),(false,eval b X.env)]:=by rfl) (d:starEach [b] X.env= [(false,eval b X.env)]:=by rfl):
  PE X (.Call (.Name "range" p) [a,b] [] pos) (Sf ta):=by
 intro m s σ H Q I h;refine Call_ (wW I hg hm boot_range (PyProof.Rows.callWith_type1 (iY (ha _ _ s σ H _ I h) fun us s1 vs v f r1 q1=>?_) (by simp_all) (by rw[d];rfl)));replace q1:JY vs v Q:=q1;unfold JY at q1;split at q1
 ·
  rename_i i j;obtain⟨x,y,rfl,⟨t,rfl⟩,⟨t',rfl⟩⟩:=vals2 r1;refine call_range_2 ?_;exact⟨.ref _,_,f.laid (fun b u e=>Heap.get?_push_of_some _ e) (Nat.le_refl _) (show dN _ _ _ _ _ (.rng i j) from⟨_,_,_,Heap.get?_push_size _ rfl⟩),rfl,q1.2 _ (f.hok.fresh (Nat.le_refl _))⟩
 ·trivial
def Kk (K:W.Frag) (p:Addr) (H:Hp) (Q:VK):Option HO->Prop
 |some (.rng i j)=>(-(2 ^ 62)<=i/\i<2 ^ 62/\-(2 ^ 62)<=j/\j<2 ^ 62)/\(j - i).toNat<=1000000/\∀l,H l=none->Q (.ref l) (upd H l (.lst (oY i (j - i).toNat)))
 |_=>CB K [.ref p] H Q
def II (K:W.Frag):List V->Hp->VK->Prop:=fun xs H Q=>match xs with
 | [.ref p]=>Kk K p H Q (H p)
 |xs=>CB K xs H Q
theorem IH {K:W.Frag}:II K [.ref p] H Q=Kk K p H Q (H p):=rfl
theorem LY {K:W.Frag}:Kk K p H Q (some (.rng i j))=((-(2 ^ 62)<=i/\i<2 ^ 62/\-(2 ^ 62)<=j/\j<2 ^ 62)/\(j - i).toNat<=1000000/\∀l,H l=none->Q (.ref l) (upd H l (.lst (oY i (j - i).toNat)))):=rfl
theorem JH: ∀{xs:List V} {us:List Value},xs.length=us.length->(∀(k:Nat) x u,xs[k]?=some x->us[k]?=some u->RelV x u)->Vals xs us
 | [],[],_,_=> .nil
 | [],_::_,h,_=>by trivial
 |_::_,[],h,_=>by trivial
 |x::xs,u::us,h,hr=> .cons (hr 0 x u rfl rfl) (JH (by simpa using h) fun k a b ha d=>hr (k+1) a b (‹_›) (‹_›))
theorem Jc (h:ItemsOf (fun k v=> ∃t,v = .int (i+k*1) t) acc n):Vals (oY i n) acc.toList:=by
 refine JH (by simp[oY,h.1]) fun k x u hx d=>?_;have hk:=by
  have:=(List.getElem?_eq_some_iff.mp hx).1;simpa [oY] using this
 obtain⟨t,rfl⟩:=h.2 k u (by simp_all);have:=by
  unfold oY at hx;rw[List.getElem?_map,List.getElem?_range hk] at hx;exact(Option.some.inj hx).symm
 rw[this];exact⟨t,by simp_all⟩
theorem Jq (K:W.Frag) (m:X.K=K) (hc:X.calm=true):b9 X (.type "list") (II K):=by
 intro f s σ H xs us Q I rs q;unfold II at q;split at q
 ·
  rename_i p;unfold Kk at q;split at q
  ·
   rename_i i j e;obtain⟨u,rfl,J⟩:=vals1 rs;cases J;obtain⟨⟨b1,F,x,C⟩,hn,q⟩:=q;obtain⟨t,u,v,G⟩:=((I.hok p _ e));refine call_list_range (n:=(j - i).toNat) (I.ok.hd hc) G (small_one b1 F x C) (by rw[rangeSize_one];split<;>lia) (by lia) fun y tk d E kp e1 it=>?_
   have z:=Jc it;exact⟨.ref _,_,I.laid kp (Nat.le_refl _) (show dN _ _ _ y _ (.lst _) from⟨by rw[sizeLine_eq];simp[oY];lia,_,E,z,‹_›⟩),rfl,q _ (I.hok.fresh (Nat.le_refl _))⟩
  ·exact DB K m _ s σ H _ us Q I rs q
 ·exact DB K m _ s σ H _ us Q I rs q
section
structure QE (X:Cx) (e:Expr) (t:TE):Prop where
 h:PE X e t
structure QS (X:Cx) (st:Stmt) (t:TS):Prop where
 h:PS X st t
structure MC (X:Cx) (l:List Stmt) (t:TS):Prop where
 h:Cj X l t
theorem nE {st:Stmt} (h1:QS X st t):MC X [st] t:=⟨ar h1.h⟩
theorem cn {st:Stmt} {rest:List Stmt} (h1:QS X st t) (d:MC X rest u):MC X (st::rest) (Uq t u):=⟨ao h1.h d.h⟩
theorem uN (d:X.N.Nodup) (hi:X.N[i]?=some x) (hx:Loc X.env.scope x) (he:QE X e te) (h:oq e=false:=by rfl) (hf:X.fn x=true\/X.env.scope.names.lookup x=some .local:=by first|exact .inl rfl|exact .inr rfl|assumption):
  QS X (.Assign [.Name x pos'] e pos) (Iu te (tP i)):=⟨aP d hi hx he.h h hf⟩
end
section
theorem XJ (Pv:Nat->List V->St->Hp->Prop) (h0:Pv 0 [] σ H) (O:n<=sizeLine) (hl: ∀i d σ H,Pv i d σ H->d.length<=i) (go: ∀i d σ H,i<n->Pv i d σ H->J.go i H) (stop: ∀d σ H,Pv n d σ H->J.stop n H) (step: ∀i d σ H x f,i<n->Pv i d σ H->J.yld i H x f->g x σ f fun j I=>tt j I fun b C=>if b=true then te j C fun y E=>Pv (i+1) (d++ [y]) j E else Pv (i+1) d j C) (q: ∀d σ H,Pv n d σ H->Q d H):sH J g tt te σ H Q:=by
 refine⟨fun i m d v H'=>i<=n/\m=n - i/\Pv i d v H',⟨n,Nat.zero_le _,rfl,h0⟩,?_⟩;rintro i m d v H' ⟨hi,rfl,hp⟩;by_cases e:i=n
 ·
  subst e;exact .inl ⟨stop _ _ _ hp,q _ _ _ hp⟩
 ·
  have u:i<n:=by lia
  refine .inr ⟨go i _ _ _ u hp,by grind,_,fun F z f G=>⟨_,by lia,by lia,rfl,G⟩,fun x f y=>step i d _ H' x _ u hp y⟩
theorem Px {K:W.Frag} (C:cQ K H a xs) (z:xs.length<=sizeLine) (Pv:Nat->List V->St->Hp->Prop) (h0:Pv 0 [] σ H) (hl: ∀i d σ H,Pv i d σ H->d.length<=i) (hk: ∀i d σ H,Pv i d σ H->cQ K H a xs) (step: ∀(i:Nat) x d σ H,xs[i]?=some x->Pv i d σ H->g x σ H fun f j=>tt f j fun b m=>if b=true then te f m fun y u=>Pv (i+1) (d++ [y]) f u else Pv (i+1) d f m) (q: ∀d σ H,Pv xs.length d σ H->Q d H):DS K (.ref a) H fun J j=>sH J g tt te σ j Q:=by
 refine .inl ⟨xs,C,XJ Pv h0 z hl (fun i d σ H hi hp=>⟨xs,xs[i],hk _ _ _ _ hp,by simp_all⟩) (fun d σ H hp=>⟨xs,hk _ _ _ _ hp,Nat.le_refl _⟩) (fun i d σ H x v hi hp y=>?_) q⟩;obtain⟨e,hx⟩:=y;subst e;exact step i x d σ _ (hx xs (hk _ _ _ _ hp)) hp
end
def P5 (h:Heap) (e:Addr) (cls:Value) (dx i:Option Addr):Prop:=
 ∃d vs,h.get? e=some d/\d.cls=cls/\d.dict=dx/\d.data = .fields vs/\1<vs.size/\(match i with
  |none=>vs[1]?=some .none
  |some T=>vs[1]?=some (.ref T)/\T≠e/\∃f ts,h.get? T=some f/\f.data = .fields ts/\ts[3]?=some .none)
structure Lft (S:List Addr) (e:Addr) (tb:Option Addr) (h h':Heap):Prop where
 keep: ∀b o,b ∉ S->b≠e->(∀T,tb=some T->b≠T)->h.get? b=some o->h'.get? b=some o
 slot: ∀b o,b∈S->h.get? b=some o->∃sl,h'.get? b=some {o with slots:=sl}
 there: ∀b o,h.get? b=some o->∃o',h'.get? b=some o'
section
theorem Dx (f:Array Value->Array Value) (o:Obj):(Obj.mapFields f o).dict=o.dict:=by
 unfold Obj.mapFields;split<;>rfl
noncomputable abbrev Uz (top:Value) (L:Addr) (d:List Value):Obj:={cls:= .type "traceback",dict:=none,data:= .fields ([top,.ref L,.none,rawInt L,.none]++(if d.isEmpty then List.replicate 6 Value.none else d)).toArray}
theorem Kx {top:Value} (v:A.frames=some (env::outer)) (hl:s.heap.FunFrames base (env::outer)) (hf:env.frame=some L) (he:s.heap.get? e=some oe) (hd:oe.data = .fields vs) (hsz:1<vs.size) (h: ∀u,P5 u e oe.cls oe.dict (some s.heap.objs.size)->Lft ((env::outer).filterMap (·.frame)) e none s.heap u->Q () {s with heap:=u}):
  wpAny M A (do let a<-frameOf env;let pl<-entryPlaceOf L had;let b<-EntryCells.newEntry top a .none (rawInt L) .none pl;setField (.ref e) 1 b) (fun _ U=>wpAny M A (setFlight (.ref e) none) Q E U) E s:=by
 have out:e ∉ (env::outer).filterMap _:=fun hm=>by
  obtain⟨_,X,I,no⟩:=hl.mem hm;cases he.symm.trans I;exact no vs hd
 refine wpAny_bind (wpAny_frameOf_fun v hl hf fun k j=>wpAny_bind (wpAny_entryPlaceOf fun G F=>?_));refine wpAny_bind (wpAny_newObj_type ?_ (F.sizeOk5 _ _ _ _ _));have J:=(j.2.1 e out).trans he;have d:=Nat.ne_of_gt (Heap.lt_size J);have C:=j.1;have y:=Obj.data_mapFields hd (·.setIfInBounds 1 (Value.ref k.objs.size));have e1:=Heap.get?_push_of_some (Uz top L G) J;have m:=Heap.get?_update_self _ e1 (Obj.isFreed_of_fields y);have r2:=(Heap.get?_update_other (k.push (Uz top L G)) (Obj.mapFields (·.setIfInBounds 1 (Value.ref k.objs.size))) (Ne.symm d)).trans (Heap.get?_push_size k rfl);refine wpAny_setField e1 hd hsz ?_;refine wpAny_bind (wpAny_field m y (x:= .ref k.objs.size) (by simp[hsz]) ?_);have P:=Heap.get?_update_self (Obj.mapFields (·.setIfInBounds 3 ((none).elim Value.none fun f=>rawInt f))) r2 (Obj.isFreed_of_fields (Obj.data_mapFields rfl _));refine wpAny_setField r2 rfl (by simp_all) (h _ ?_ ?_)
 ·
  rw[<-C];refine⟨_,_,?_,Obj.cls_mapFields _ _,Dx _ _,y,by simp[hsz],by simp[hsz],d,_,_,P,rfl,?_⟩
  ·rw[Heap.get?_update_other _ _ d];exact m
  ·rfl
 ·have keep: ∀b o,b≠e->k.get? b=some o->(((k.push (Uz top L G)).update e (Obj.mapFields (·.setIfInBounds 1 (Value.ref k.objs.size)))).update _ (Obj.mapFields (·.setIfInBounds 3 ((none).elim Value.none fun f=>rawInt f)))).get? b=some o:=fun b o ne i=>by
   rw[Heap.get?_update_other _ _ (Nat.ne_of_gt (Heap.lt_size i)),Heap.get?_update_other _ _ (Ne.symm ne)];exact Heap.get?_push_of_some _ i
  refine⟨fun b o H ne _ i=>keep b o ne ((j.2.1 b H).trans i),fun b o H i=>?_,fun b o i=>?_⟩
  ·
   obtain⟨O,q⟩:=j.2.2 b o i;exact⟨O,keep b _ (fun z=>out (z▸H)) q⟩
  ·
   by_cases z:b=e
   ·
    subst z;rw[Heap.get?_update_other _ _ d];exact⟨_,m⟩
   ·
    obtain⟨O,q⟩:=j.2.2 b o i;exact⟨_,keep b _ z q⟩
theorem NY (j:A.frames=some (env::outer)) (hl:s.heap.FunFrames base (env::outer)) (hf:env.frame=some L) (hx:P5 s.heap e cls dx y) (h: ∀i,P5 i e cls dx (some s.heap.objs.size)->Lft ((env::outer).filterMap (·.frame)) e y s.heap i->Q () {s with heap:=i}):wpAny M A (noteFrame (.ref e) env) (fun _ F=>wpAny M A (setFlight (.ref e) none) Q E F) E s:=by
 obtain⟨J,vs,he,rfl,rfl,hd,hsz,ht⟩:=hx;unfold noteFrame;simp only[hf];cases y with
 |none=>
  refine wpAny_bind (wpAny_field he hd ht ?_);exact Kx j hl hf he hd hsz h
 |some T=>
  obtain⟨h1,ne,I,ts,u,dT,C⟩:=ht;have apart: ∀b o,s.heap.get? b=some o->(∀ws,o.data≠ .fields ws)->b≠T:=fun b o f no z=>by
   simp_all
  have out:T ∉ (env::outer).filterMap _:=fun hm=>by
   obtain⟨_,H,v,no⟩:=hl.mem hm;exact apart T H v no rfl
  refine wpAny_bind (wpAny_field he hd h1 ?_);refine wpAny_bind (wpAny_field u dT C ?_);refine wpAny_bind (wpAny_setField u dT (Array.getElem?_eq_some_iff.mp C).1 ?_);have d: ∀b,b≠T->(s.heap.update T (Obj.mapFields (·.setIfInBounds 3 Value.none))).get? b=s.heap.get? b:=fun b z=>Heap.get?_update_other _ _ (Ne.symm z);have self:=Heap.get?_update_self (Obj.mapFields (·.setIfInBounds 3 Value.none)) u (Obj.isFreed_of_fields (Obj.data_mapFields dT _));have fr:=hl.of_keeps fun b o f no=>⟨o,(d b (apart b o f no)).trans f,rfl⟩;refine Kx j fr hf ((d e (Ne.symm ne)).trans he) hd hsz fun i x k=>?_;have sz:(s.heap.update T (Obj.mapFields (·.setIfInBounds 3 Value.none))).objs.size=s.heap.objs.size:=Heap.size_update ..;rw[sz] at x;refine h i x ⟨fun b o m z G f=>k.keep b o m z (fun _ q=>by cases q) ((d b (G T rfl)).trans f),fun b o m f=>k.slot b o m ((d b (fun q=>out (q▸m))).trans f),fun b o f=>?_⟩;by_cases q:b=T
  ·exact q▸k.there _ _ self
  ·exact k.there b o ((d b q).trans f)
theorem LZ (f:A.frames=some (env::outer)) (hl:s.heap.FunFrames base (env::outer)) (hf:env.frame=some L) (hx:P5 s.heap e cls dx tb) (h: ∀d,P5 d e cls dx (some s.heap.objs.size)->Lft ((env::outer).filterMap (·.frame)) e tb s.heap d->Q () {s with heap:=d}):wpAny M A (leaving env (.ref e)) Q E s:=wpAny_bind (NY f hl hf hx h)
end
def Ig (P:Program) (w:World):Ie:=fun outer H s E e d=> ∃f cls dx T H',e = .ref f/\d.os=s.os/\AllBare d.gens/\Un (frs outer) [] H H' s.heap d.heap/\xO P w H' d.heap/\P5 d.heap f cls dx (some T)/\
 (s.heap.get? f=none/\s.heap.get? T=none/\H' f=none/\H' T=none)/\E cls dx H'
noncomputable instance {P:Program} {w:World}:Quiet (Ig P w):=⟨fun X pins σ H s e s' I h=>by
 obtain⟨_,_,_,_,_,_,_,_,_,_,_,_,h⟩:=h;exact h.elim⟩
structure R9 (X:Cx) (pins:List (Addr×Obj)) (σ:St) (H:Hp) (s:Shared) (ea:Addr) (cls:Value) (dx tb:Option Addr):Prop where
 inv:Inv X pins σ H s
 ex:P5 s.heap ea cls dx tb
 n0:X.s₀.heap.get? ea=none
 nH:H ea=none
 tbs: ∀T,tb=some T->X.s₀.heap.get? T=none/\H T=none
 apart: ∀p∈X.pn++pins,p.1≠ea/\∀T,tb=some T->p.1≠T
def Rz (X:Cx) (E:XK):Prop:= ∀d σ H s f cls dx i,R9 X d σ H s f cls dx i->E cls dx H->X.xe (.ref f) s
section
theorem o_ {H:Hp} {s:Shared} {P:Program} {w:World} {K:W.Frag} {mg:Str->Option Value} {base:Heap} {N:List Str} {qual:Str} {scope:Scope} {f:Addr} {cd:Value} {A:Around} {outer:List Env} {E:XK}:Rz (Dz (Ig P w) P w K mg base N qual scope f cd A outer s H E) E:=by
  intro X σ U s1 m cls dx O F hE;have I:=F.inv;refine LZ (by have:=I.ok.frames;exact this) (by have:=I.stack;exact this) rfl F.ex fun h' hx hk=>?_;have i:=I.B6;have J: ∀b,b∈(envOfC qual scope _ f cd::outer).filterMap (·.frame)->b=s.heap.objs.size\/b∈frs _:=fun b j=>by
    exact(List.mem_cons.mp j).elim .inl .inr
  have G: ∀b o,s.heap.get? b=some o->b≠m/\(∀T,O=some T->b≠T)/\b≠s.heap.objs.size:=fun b o e=>
    ⟨
     fun q=>(by have h1:s.heap.get? m=none:=F.n0;rw[q,h1] at e;cases e),
     fun T x q=>(by have h1:s.heap.get? T=none:=(F.tbs T x).1;rw[q,h1] at e;cases e),
     Nat.ne_of_lt (Heap.lt_size e)⟩
  have B:=I.base;refine⟨m,cls,dx,_,U,rfl,I.os,I.bare,⟨fun b o q n j hx=>?_,fun b o q n j hx=>?_,B.free,fun b o q hx=>?_,B.tups,B.frzs,B.tbls⟩,fun b o q=>?_,hx,⟨F.n0,?_,F.nH,I.hok.fresh (Nat.le_refl _)⟩,hE⟩
  ·
    obtain⟨n1,Z,n3⟩:=G b o q;exact hk.keep b o (fun hm=>(J b hm).elim n3 j) n1 Z (B.keep b o q n j hx)
  ·
    obtain⟨sl,e⟩:=B.slot b o q n j hx;obtain⟨v,e'⟩:=hk.slot b _ (by exact List.mem_cons_of_mem _ j) e;exact⟨v,e'⟩
  ·
    obtain⟨o',e⟩:=B.there b o q hx;exact hk.there b o' e
  · have d: ∀c u,U c=some u->c ∉ (envOfC _ _ _ f cd::outer).filterMap _/\c≠m/\∀T,O=some T->c≠T:=fun c u e=>
      ⟨fun hm=>(by rw[i c hm] at e;cases e),fun z=>(by rw[z,F.nH] at e;cases e),fun T x z=>(by rw[z,(F.tbs T x).2] at e;cases e)⟩
    refine(I.hok b o q).stay (fun c u hc e=>?_) (fun c e=>e) (fun c xs e=>e);rcases hc with z|z
    ·
      obtain⟨m1,y,C⟩:=d b o q;subst z;exact hk.keep _ u m1 y C e
    ·
      obtain⟨m1,y,C⟩:=d c _ z;exact hk.keep c u m1 y C e
  · exact Heap.get?_none_of_le I.sz
end
section
theorem Pf (hex:X.ex= []) (I:Inv X pins σ H s) (h:Ig X.prog X.w X.stack H s E e s'): ∃d cls dx T H',e = .ref d/\R9 X pins σ H' s' d cls dx (some T)/\E cls dx H':=by
 obtain⟨d,cls,dx,T,H',rfl,os,bare,un,hok,hx,⟨n1,f,v,x⟩,m⟩:=h;have i:=I.call' os un hok bare (fun b z=>absurd z (by simp));have old: ∀b,s.heap.get? b=none->X.s₀.heap.get? b=none:=fun b u=>by
  cases q:X.s₀.heap.get? b with
  |none=>rfl
  |some o=>
   obtain⟨y,e⟩:=I.base.there b o q (by simp_all);rw[u] at e;cases e
 refine⟨d,cls,dx,T,H',rfl,⟨i,hx,old d n1,v,(fun j e=>by simp_all),fun p hp=>⟨fun z=>?_,fun j e z=>?_⟩⟩,m⟩
 ·
  have q:=(I.pin p hp).1;rw[z,n1] at q;cases q
 ·
  cases e;have q:=(I.pin p hp).1;rw[z,f] at q;cases q
theorem Rz.passes (hex:X.ex= []) (h:Rz X E):Passes (Ig X.prog X.w) X E:=fun d σ H s e i I q=>by
 obtain⟨j,cls,dx,T,H',rfl,F,f⟩:=Pf hex I q;exact h _ _ _ _ _ _ _ _ F f
end
theorem cB.fnX {K:W.Frag} {st:Stmt} (F:cB K mg x st) (S:pC N ps (bN st)) (z: ∀(kV doc pm:Value) (an:Option Addr) (d ct:Value) (us:List Value),us.length=ps.length->bindArgs (W.fnOf x x (fP st) (dq st) (bN st) .none kV doc pm an d ct) ⟨us,[]⟩=pure (ps.zip us)) (len: ∀vs H Q E,sp vs H Q E->vs.length=ps.length) (i: ∀(f:Addr) (d:Value) (A:Around) (outer:List Env) (s:Shared) (H:Hp) (vs:List V) (Q:VK) (E:XK),dz k (A.deeper (envOfC x (bN st) s.heap.objs.size f d))->sp vs H Q E->
   ∃t,Cj (Dz CX P w K mg base N x (bN st) f d A outer s H E) (dq st) t/\t {nx:=fun _ H'=>Q .non H',rt:=Q} (start N vs) H):FnAt P w K mg base CX x (k+1) ps sp:=by
 obtain⟨f,C,F,hm⟩:=F;have bd:=F.binds z;have kp:=F.kp;obtain⟨v,od,kV,doc,pm,an,d,ct,u,rfl,lk,m⟩:=F.ex;exact⟨f,_,Kv lk m S len fun A outer s H vs Q E y j=>i f _ A _ s H vs Q E y j,hm,kp,bd,v,od,u,lk⟩
theorem dN.there (x:dN P w H h a o): ∃u,h.get? a=some u:=by
 cases o with
 |lst xs=>obtain⟨_,_,_,_,e⟩:=x;exact⟨_,e⟩
 |tup xs=>obtain⟨_,_,_,⟨o,e,_⟩⟩:=x;exact⟨_,e⟩
 |dK d=>obtain⟨_,_,_,_,o,_,_,e,_⟩:=x;exact⟨_,e⟩
 |dT d=>obtain⟨_,_,_,_,o,_,_,e,_⟩:=x;exact⟨_,e⟩
 |set S n=>obtain⟨o,_,_,_,e,_⟩:=x;exact⟨_,e⟩
 |ins C dx fs=>obtain⟨_,_,_,e,_⟩:=x;exact⟨_,e⟩
 |own y=>trivial
 |xd fs=>obtain⟨_,⟨_,_,_,e,_⟩,_⟩:=x;exact⟨_,e⟩
 |rng lo hi=>obtain⟨_,_,_,e⟩:=x;exact⟨_,e⟩
 |frz ob u=>obtain⟨e,_⟩:=x;exact⟨_,e⟩
 |tbl i=>exact⟨_,((x))⟩
 |met f y=>exact⟨_,((x))⟩
 |ext j=>obtain⟨_,e,_⟩:=x;exact e
noncomputable abbrev Ff:List Value:=[.type "ValueError",.type "Exception",.type "BaseException",.type "object"]
structure DH (K:W.Frag) (mg:Str->Option Value) (x:Str) (C R:Addr) (ini:Option Value):Prop where
 TR:mg x=some (.ref C)
 cls: ∃N nm q bs sn sub ab col dd k0 k1 k2 k3 k5,K.lookup C=some (excClassObj nm q C N bs (.ref R::Ff) true sn sub ab col dd k0 k1 k2 k3 k5 "ValueError.__new__")/\W.nsOkIn K N=true/\W.nsIn K N "__init__" = some ini/\W.nsIn K N "__setattr__" = some none
 road: ∃c0 dd cd sl,K.lookup R=some {cls:=c0,dict:=dd,data:= .cls cd,slots:=sl}/\W.nsOkIn K cd.ns=true/\W.nsIn K cd.ns "__init__" = some none/\W.nsIn K cd.ns "__setattr__" = some none
theorem JG {K:W.Frag} {R:Addr} {q:Str} {k1:Option Value} {cd:ClassData} (X:K.In h) (G:h.Ns mainGlobals mg) (a:W.nsIn K mainGlobals x=some (some (.ref C))) (l:K.lookup C=some (excClassObj nm q C N bs (.ref R::Ff) true sn sub ab col dd k0 k1 k2 k3 k5 "ValueError.__new__")) (o:W.nsOkIn K N=true) (i:W.nsIn K N "__init__" = some ini) (t:W.nsIn K N "__setattr__" = some none) (f:K.lookup R=some {cls:=c0,dict:=ddR,data:= .cls cd,slots:=sl}) (j:W.nsOkIn K cd.ns=true) (d:W.nsIn K cd.ns "__init__" = some none) (t':W.nsIn K cd.ns "__setattr__" = some none):DH K mg x C R ini:=
 ⟨W.mg_of X G a,⟨N,nm,q,bs,sn,sub,ab,col,dd,k0,k1,k2,k3,k5,l,o,i,t⟩,⟨c0,ddR,cd,sl,f,j,d,t'⟩⟩
theorem DH.tail {K:W.Frag} {R:Addr} (c:DH K mg x C R ini) (X:K.In h):OwnTail h Ff (.ref R::Ff):=by
 obtain⟨c0,dd,cd,d,l,o,i,_⟩:=c.road;exact .own (X _ _ l) (.of_isNs (W.isNs_of_in X o)) (W.nsMap_none_of_in X o i) .base
section
theorem RS (hex:X.ex= []) (I:Inv X pins σ H s) (hm:Heap.MadeExcOf s.heap f e cls args):R9 X pins σ H {s with heap:=f} e cls none none:=by
 have hn:=hm.new;obtain⟨t,he,_,_⟩:=hm.there;refine⟨I.kept hm.keeps,⟨_,_,he,rfl,rfl,rfl,by show 1<6;decide,rfl⟩,?_,?_,(fun T q=>by cases q),fun p hp=>⟨fun z=>?_,fun T q=>by cases q⟩⟩
 ·
  cases q:X.s₀.heap.get? e with
  |none=>rfl
  |some o=>
   obtain⟨i,d⟩:=I.base.there e o q (by simp_all);rw[hn] at d;cases d
 ·
  cases q:H e with
  |none=>rfl
  |some u=>
   obtain⟨i,d⟩:=(I.hok e u q).there;rw[hn] at d;cases d
 ·
  have q:=(I.pin p hp).1;rw[z,hn] at q;cases q
def JK (E:XK) (C:Addr):TS:=fun _ _ H=>E (.ref C) none H
theorem zH {R:Addr} (c:DH X.K X.mg x C R none) (j:Rz X E) (hc:X.calm=true) (hex:X.ex= []) (hg:Gl X x) (d:(x == ("__debug__" : Str))=false:=by decide):
  PS X (.Raise (some (.Call (.Name x np) [] [] cpos)) none pos) (JK E C):=by
 intro f s σ H D I h;obtain⟨N,nm,q,bs,sn,sub,ab,col,dd,k0,k1,k2,k3,k5,l,o,i,_⟩:=c.cls;have T:=c.tail I.nK;refine wpAny_Raise_call_subT PySem.F.excBase_ValueError (T.hasType (rfl)) (I.ok.hd hc) rfl (W.nsMap_none_of_in I.nK o i) (lS I hg c.TR ⟨rfl,evalArgs_nil3 ⟨rfl,Nat.zero_le _,I.nK _ _ l,.of_isNs (W.isNs_of_in I.nK o),T,fun m e hx=>?_⟩⟩ d);exact j _ _ _ _ _ _ _ _ (RS hex I hx) h
end
section
theorem Yo {K:W.Frag} {R:Addr} {cd:ClassData} (X:K.In s.heap) (hx:s.heap.get? x=some ⟨.ref C,none,.fields vs,#[]⟩) (hc:W.clsIn K C=some cd) (hm:cd.mro = .ref C :: .ref R::Ff) (hd:cd.hasDict=true) (hs:W.findIn K (.ref C) "__setattr__" = some (some (.builtin "object.__setattr__"))) (ha:W.findIn K (.ref C) name=some none) (h: ∀f t',f.get? x=some ⟨.ref C,some s.heap.objs.size,.fields vs,#[]⟩->f.Ns1 s.heap.objs.size (fun y=>if y=name then some v else none)->(∀b o,b≠x->s.heap.get? b=some o->f.get? b=some o)->Q () {s with heap:=f,toks:=t'}):
  wpAny (model prog w) A (setAttr (.ref x) name v) Q E s:=by
 have I:W.InstAt s.heap x ⟨.ref C,none,.fields vs,#[]⟩ C none:=⟨hx,rfl,rfl,True.intro⟩;have F:=PySem.F.store_object;have lc:W.Looks (model prog w) s.heap (classData C) cd:=W.looks_clsIn X hc;have sub:W.Looks (model prog w) s.heap (isInstance (.ref x) (.type "object")) true:=I.type.andThen (W.looks_mroIn X (by unfold W.mroIn;rw[hc,Option.bind_some,hm];rfl));have mro:W.Looks (model prog w) s.heap (mroOf (.ref C)) cd.mro:=lc.andThen .now;refine W.set_plain X I hs ?_;refine codeAny_call_builtin F.slot.plain F.entry ?_;refine @W.check_slot (model prog w) _ _ {s with toks:=s.toks+1} "object.__setattr__" "object" "__setattr__" (.ref x) [.str name s.toks,v] [] _ F.kind F.split sub (F.args (.ref x) (.str name s.toks) v) ?_;rw[W.osa_eq,refuse_eq];refine wpAny_bind (wpAny_bind (I.type.here (s:={s with toks:=s.toks+1}) (wpAny_bind (mro.here (s:={s with toks:=s.toks+1}) ?_))));rw[hm,refuseLoop_ref,refuseLoop_ref,PySem.F.store_ValueError.passes];refine wpAny_pure (wpAny_bind (I.type.here (s:={s with toks:=s.toks+1}) (wpAny_bind ((W.looks_findIn X ha).here (s:={s with toks:=s.toks+1}) (wpAny_bind (wpAny_pure ?_))))));refine wpAny_bind (wpAny_pure (wpAny_bind (wpAny_bind (wpAny_loadPart (s:={s with toks:=s.toks+1}) hx (wpAny_bind (lc.here (s:={s with toks:=s.toks+1}) ?_))))));rw[hd,if_neg (by decide)];have u:x≠s.heap.objs.size:=Nat.ne_of_lt (Heap.lt_size hx);have h1:(s.heap.push {cls:= .type "dict",data:= .dict #[]}).get? x=some ⟨.ref C,none,.fields vs,#[]⟩:=Heap.get?_push_of_some _ hx;have O:=Heap.get?_update_self (fun o:Obj=>{cls:=o.cls,dict:=some s.heap.objs.size,data:=o.data,slots:=o.slots}) h1 rfl;have Z:((s.heap.push {cls:= .type "dict",data:= .dict #[]}).update x fun o=>{cls:=o.cls,dict:=some s.heap.objs.size,data:=o.data,slots:=o.slots}).get? s.heap.objs.size=some {cls:= .type "dict",data:= .dict #[]}:=
  (Heap.get?_update_other _ _ u).trans (Heap.get?_push_size _ rfl)
 have hn:((s.heap.push {cls:= .type "dict",data:= .dict #[]}).update x fun o=>{cls:=o.cls,dict:=some s.heap.objs.size,data:=o.data,slots:=o.slots}).Ns s.heap.objs.size (fun _=>none):=
  ⟨_,#[],_,Z,rfl,fun e he=>absurd he (by simp),fun _=>rfl⟩
 show wpAny _ _ (alloc {cls:= .type "dict",data:= .dict #[]} >>= fun d=>update x (fun o=>{cls:=o.cls,dict:=some d,data:=o.data,slots:=o.slots}) >>= fun _=>dictMade (.ref C) x d) _ _ _;refine wpAny_bind (wpAny_alloc ?_);refine wpAny_bind (wpAny_update (s:={s with heap:=s.heap.push {cls:= .type "dict",data:= .dict #[]},toks:=s.toks+1}) h1 ?_);refine wpAny_pure ?_;show wpAny _ _ (Builtin.ObjectAttr.storeInDict s.heap.objs.size (.str name s.toks) name v) _ _ _;unfold Builtin.ObjectAttr.storeInDict Builtin.ObjectAttr.newKeyGuard;refine wpAny_bind (wpAny_pure (wpAny_bind (wpAny_nsSet1 (Heap.Ns1.of_empty hn) fun f z H=>?_)));obtain⟨oD,J,U,i,m,j⟩:=z.count (PySem.Within.cons name v PySem.Within.nil);refine wpAny_bind (wpAny_lookBehind i (by rw[m];exact pastItsLine_dict (Nat.le_trans j (by rw[List.length_cons,List.length_nil,sizeLine_eq];lia))) ?_);refine wpAny_pure (h f _ ((H.2 x u).trans O) ?_ fun b o ne G=>?_)
 ·
  obtain⟨o',es,ep,e1,P,e3,eu,e4⟩:=z;exact⟨o',es,ep,e1,P,e3,eu,fun y=>by rw[e4 y]⟩
 ·exact(H.2 b (Nat.ne_of_lt (Heap.lt_size G))).trans ((Heap.get?_update_other _ _ (Ne.symm ne)).trans (Heap.get?_push_of_some _ G))
end
section
variable {os:OsState} {K:W.Frag} {q:Str} {k1:Option Value}
theorem Qn {rest:List Value} (X:K.In h) (T:OwnTail h Ff bm) (f:h.get? C=some (excClassObj nm q C N bs bm hdct sn sub ab col dd k0 k1 k2 k3 k5 "ValueError.__new__")) (hi:W.findIn K (.ref C) "__init__" = some (some (.ref fI))) (hf:W.typeIn K (.ref fI)=some (.type "function")) (i:rest.length<=sizeLine) (G: ∀v e,Heap.MadeExcOf h v e (.ref C) rest->wpAny (model prog w) A (call (.ref fI) (.ref e::rest)) (fun r u=>r = .none/\Q (.done (.ret (.ref e))) u) E ⟨v,g,d,t,os⟩):
  wpAny (model prog w) A (Builtin.«type.__call__» ⟨.ref C::rest,[]⟩) Q E ⟨h,g,d,t,os⟩:=by
 have F:=PySem.F.excBase_ValueError
 repeat (first|with_reducible refine wpAny_loadPart_at f ?_|with_reducible refine wpAny_madeBy_exc f ?_|wp_step)
 refine codeAny_call_builtin_code (Code.quiet_builtin _ F.quiet) (wpAny_check_new_subT F T f ?_);refine codeAny_exc_new_subT F T f ?_ i;show wpAny _ _ _ _ _ _;have up: ∀b o,h.get? b=some o->((h.push {cls:= .type "tuple",data:= .seq rest.toArray}).push {cls:= .ref C,data:= .fields #[.ref h.objs.size,.none,.none,.none,.bool false,.none]}).get? b=some o:=fun b o e=>Heap.get?_push_of_some _ (Heap.get?_push_of_some _ e);have I:=up _ _ f;have x:=X.keeps up;have m:((h.push {cls:= .type "tuple",data:= .seq rest.toArray}).push {cls:= .ref C,data:= .fields #[.ref h.objs.size,.none,.none,.none,.bool false,.none]}).get? (h.objs.size+1)=some {cls:= .ref C,data:= .fields #[.ref h.objs.size,.none,.none,.none,.bool false,.none]}:=by heap_get
 have t2:((h.push {cls:= .type "tuple",data:= .seq rest.toArray}).push {cls:= .ref C,data:= .fields #[.ref h.objs.size,.none,.none,.none,.bool false,.none]}).get? h.objs.size=some {cls:= .type "tuple",data:= .seq rest.toArray}:=Heap.get?_push_of_some _ (Heap.get?_push_at rfl rfl);have made:Heap.MadeExcOf h ((h.push {cls:= .type "tuple",data:= .seq rest.toArray}).push {cls:= .ref C,data:= .fields #[.ref h.objs.size,.none,.none,.none,.bool false,.none]}) (h.objs.size+1) (.ref C) rest:=
  ⟨up,Heap.get?_none_of_le (Nat.le_succ _),h.objs.size,m,Heap.get?_none_of_le (Nat.le_refl _),t2⟩
 have q2:=G _ _ made;have y:(Value.ref C::bm).contains (.ref C)=true:=by simp
 generalize(h.push {cls:= .type "tuple",data:= .seq rest.toArray}).push {cls:= .ref C,data:= .fields #[.ref h.objs.size,.none,.none,.none,.bool false,.none]}=j at*
 unfold isInstance
 repeat (first|with_reducible refine wpAny_loadPart_at m ?_|(with_reducible refine wpAny_isSubtype_exc I ?_;rw[y])|wp_step)
 show wpAny _ _ (typeLookup (.ref C) _) _ _ _;refine(W.looks_findIn x hi).here (s:=⟨j,g,d,t,os⟩) ?_;refine wpAny_holding (wpAny_bind ((W.bind_fn x _ hf).here (s:=⟨j,g,d,t,os⟩) (wpAny_bind (wpAny_mono q2 (fun r u i=>?_) fun _ _ z=>z))));obtain⟨rfl,H⟩:=i
 wp_walk
 exact H
theorem XN {rest:List Value} (X:K.In h) (T:OwnTail h Ff bm) (i:h.get? C=some (excClassObj nm q C N bs bm hdct sn sub ab col dd k0 k1 k2 k3 k5 "ValueError.__new__")) (hi:W.findIn K (.ref C) "__init__" = some (some (.ref fI))) (hf:W.typeIn K (.ref fI)=some (.type "function")) (j:rest.length<=sizeLine) (u: ∀f e,Heap.MadeExcOf h f e (.ref C) rest->wpAny (model prog w) (A.under (.builtin "type.__call__" ⟨.ref C::rest,[]⟩)) (call (.ref fI) (.ref e::rest)) (fun r m=>r = .none/\Q (.ref e) m) E ⟨f,g,d,t,os⟩):
  wpAny (model prog w) A (call (.ref C) rest) Q E ⟨h,g,d,t,os⟩:=by
 have f1:=tc_lookup;have v:=tc_bind (.ref C);have x:(⟨h,g,d,t,os⟩:Shared).TypeIs (.ref C) "type" :=⟨_,i,rfl⟩;refine wpAny_call (codeAny_of_tree ?_);show wpAny _ _ (callAny (.ref C) _) _ _ _
 repeat (any_goals (first|assumption|with_reducible refine wpAny_loadPart_at i ?_|wp_step))
 refine⟨rfl,?_⟩;refine codeAny_call_builtin_at (Code.quiet_builtin _ (by decide+kernel)) entry_typeCall (wpAny_check_type_call_sub i (Qn X T i hi hf j fun f e hm=>?_));exact u f e hm
theorem QC {prog:Program} {w:World} {A:Around} {E:Value->Shared->Prop} {nm:Str} {C N:Addr} {bs bm:List Value} {hdct:Bool} {sn:List Str} {sub:List Value} {ab:Bool} {col:Option Bool} {dd:Option Addr} {k0 k2 k3 k5:Option Value} {s:Shared} {env:Env} {x:Sem Value} {Q:Flow->Shared->Prop} (i:bm.contains (.type "BaseException")=true) (hh:A.handled=none)
  (hx:wpAny (model prog w) A x (fun v f=> ∃e dx vs,v = .ref e/\f.heap.get? C=some (excClassObj nm q C N bs bm hdct sn sub ab col dd k0 k1 k2 k3 k5 "ValueError.__new__")/\f.heap.get? e=some ⟨.ref C,dx,.fields vs,#[]⟩/\vs[1]?=some .none/\E (.ref e) f) E s):
  wpAny (model prog w) A (raiseStmt env (some x) none) Q E s:=by
 have u:(Value.ref C::bm).contains (.type "BaseException")=true:=by rw[List.contains_cons,i,Bool.or_true]
 unfold raiseStmt;refine wpAny_bind (wpAny_mono hx (fun v f j=>?_) fun _ _ x=>x);obtain⟨e,dx,vs,rfl,m,he,h1,y⟩:=j;obtain⟨hp,g,d,tk,os⟩:=f
 repeat (first|with_reducible refine wpAny_loadPart_at he ?_|with_reducible refine wpAny_loadPart_at m ?_|(with_reducible refine wpAny_isSubtype_exc m ?_;rw[u])|wp_step)
 rw[h1];refine wpAny_pure ?_;rw[if_neg (by decide)];exact wpAny_pure (wpAny_raiseNew_none hh y)
end
def uT (e C:Addr) (dx:Option Addr):Heap->Prop:=fun h=> ∃vs:Array Value,h.get? e=some ⟨.ref C,dx,.fields vs,#[]⟩/\1<vs.size/\vs[1]?=some .none
theorem Pg (x:uT e C dx h):dN P w H h e (.ext (uT e C dx)):=
 ⟨x,x.elim fun vs q=>⟨_,q.1⟩,fun h1 f d k=>by obtain⟨vs,q,r⟩:=d;exact⟨vs,k _ q,r⟩⟩
noncomputable def pA (H:Hp) (e:Addr):Hp:=fun b=>if b=e then none else H b
theorem gF (n:b≠e):pA H e b=H b:=by unfold pA;rw[if_neg n]
theorem Dw:pA H e e=none:=by unfold pA;rw[if_pos rfl]
section
theorem Inv.drop (I:Inv X pins σ H s) (h:H e=some (.ext φ)):Inv X pins σ (pA H e) s:=by
 have ne: ∀{b:Addr} {o:HO},H b=some o->(∀d,o≠ .ext d)->b≠e:=fun{b o} q n z=>by
  grind
 refine I.un ⟨fun b o q n _ _=>q,fun b o q n _ _=>⟨_,q⟩,fun b o q n _=>?_,fun b o q _=>⟨o,q⟩,fun b xs q=>?_,fun b o u q=>?_,fun b f q=>⟨#[],?_⟩⟩ fun b o q=>?_
 ·
  unfold pA;split
  ·rfl
  ·exact n
 ·rw[gF (ne q (by simp))];exact q
 ·rw[gF (ne q (by simp))];exact q
 ·rw[gF (ne q (by simp)),q];simp
 ·
  have nb:b≠e:=fun z=>by rw[z,Dw] at q;cases q
  rw[gF nb] at q;exact(I.hok b o q).stay (fun c u _ z=>z) (fun c z=>by rw[gF (ne z (by simp))];exact z) fun c xs z=>by rw[gF (ne z (by simp))];exact z
theorem Inv.setx (I:Inv X pins σ H s) (F:H e=some (.ext (uT e C none))) (he:d.get? e=some ⟨.ref C,some s.heap.objs.size,.fields vs,#[]⟩) (v:1<vs.size) (m:vs[1]?=some .none) (hn:d.Ns1 s.heap.objs.size (fun z=>if z=f then some u else none)) (k: ∀b o,b≠e->s.heap.get? b=some o->d.get? b=some o) (x:RelV y u):
  Inv X pins σ (upd (upd H s.heap.objs.size (.xd [(f,y)])) e (.ext (uT e C (some s.heap.objs.size)))) {s with heap:=d,toks:=t'}:=by
 have E:=I.hok.fresh (Nat.le_refl _);have nn: ∀{b:Addr} {o:HO},H b=some o->b≠s.heap.objs.size:=fun{b o} q z=>by simp_all
 have ne: ∀{b:Addr} {o:HO},H b=some o->(∀j,o≠ .ext j)->b≠e:=fun{b o} q n z=>by
  grind
 have fr: ∀b,H b=none->b≠e:=fun b q z=>by lia
 refine I.un ⟨fun b o q n _ _=>k b o (fr b n) q,fun b o q n _ _=>⟨_,k b o (fr b n) q⟩,fun b o q n _=>?_,fun b o q _=>?_,fun b xs q=>?_,fun b o u q=>?_,fun b G q=>⟨#[],?_⟩⟩ fun b o q=>?_
 ·rw[aj (fr b n),aj (Nat.ne_of_lt (Heap.lt_size q))];exact n
 ·grind
 ·rw[aj (ne q (by simp)),aj (nn q)];exact q
 ·rw[aj (ne q (by simp)),aj (nn q)];exact q
 ·rw[aj (ne q (by simp)),aj (nn q),q];simp
 ·
  by_cases z:b=e
  ·
   subst z;rw[aq] at q;cases q;exact Pg ⟨vs,he,v,m⟩
  ·
   rw[aj z] at q;by_cases i:b=s.heap.objs.size
   ·
    subst i;rw[aq] at q;cases q;refine⟨_,hn,fun g=>?_⟩;by_cases c:g=f
    ·
     rw[c];simp only[List.lookup,BEq.rfl];exact x
    ·
     rw[if_neg c];have:=beq_eq_false_iff_ne.mpr c;simp only[List.lookup,this];exact True.intro
   ·
    rw[aj i] at q;refine(I.hok b o q).stay (fun c u hc g=>?_) (fun c g=>by rw[aj (ne g (by simp)),aj (nn g)];exact g) fun c xs g=>by rw[aj (ne g (by simp)),aj (nn g)];exact g
    rcases hc with r|r
    ·exact k c u (r▸z) g
    ·exact k c u (ne r (by simp)) g
end
structure GC (K:W.Frag) (C:Addr) (f:Str):Prop where
 sa:W.findIn K (.ref C) "__setattr__" = some (some (.builtin "object.__setattr__"))
 no:W.findIn K (.ref C) f=some none
def M_ (C:Addr) (j m:TE) (f:Str):TS:=fun D σ H=>m σ H fun y i=>j σ i fun x d=> ∃e,x = .ref e/\d e=some (.ext (uT e C none))/\∀dx,d dx=none->D.nx σ (upd (upd d dx (.xd [(f,y)])) e (.ext (uT e C (some dx))))
section
theorem DH.cd {K:W.Frag} {R:Addr} (c:DH K mg x C R ini): ∃cd:ClassData,W.clsIn K C=some cd/\cd.mro = .ref C :: .ref R::Ff/\cd.hasDict=true:=by
 obtain⟨N,nm,q,bs,sn,sub,ab,col,dd,k0,k1,k2,k3,k5,l,_⟩:=c.cls;unfold W.clsIn;rw[l];exact⟨_,rfl,rfl,rfl⟩
theorem QX {R:Addr} (c:DH X.K X.mg x C R ini) (m:GC X.K C f) (ha:PE X o ta) (E:PE X value tv) (hs:oq value=false:=by rfl):PS X (.Assign [.Attribute o f pos'] value pos) (M_ C ta tv f):=by
 intro j s σ H D I h;obtain⟨cd,hc,hm,hd⟩:=c.cd;refine plainObj_wpAny_Assign_Attribute (iY (E _ s σ H _ I h) fun u s1 y F G ry q=>thn (ha _ s1 σ F _ G q) fun Z s2 ⟨x,H2,d,O,e,ex,i,q2⟩=>?_) (nQ hs);subst ex;obtain rfl:Z=Value.ref e:=O;obtain⟨⟨vs,he,U,J⟩,_⟩:=d.hok e _ i;refine Yo d.nK he hc hm hd m.sa m.no fun h' t' z P v=>⟨σ,_,d.setx i z U J P v ry,q2 _ (d.hok.fresh (Nat.le_refl _))⟩
end
def Fh (C:Addr) (sp:Sp) (E:XK) (i:TA):TS:=fun _ σ H=>i σ H fun vs f=> ∀e,f e=none->sp (.ref e::vs) (upd f e (.ext (uT e C none))) (fun v d=>v = .non/\∃dx,d e=some (.ext (uT e C dx))/\E (.ref C) dx (pA d e)) E0
section
theorem Inv.newx (I:Inv X pins σ H s) (he:H e=none) (hm:Heap.MadeExcOf s.heap d e (.ref C) args):Inv X pins σ (upd H e (.ext (uT e C none))) {s with heap:=d}:=by
 obtain⟨t,f,_,_⟩:=hm.there;have ne: ∀{b:Addr} {o:HO},H b=some o->b≠e:=fun{b o} q z=>by simp_all
 refine I.un ⟨fun b o q n _ _=>hm.keeps b o q,fun b o q n _ _=>⟨_,hm.keeps b o q⟩,fun b o q n _=>?_,fun b o q _=>⟨o,hm.keeps b o q⟩,fun b xs q=>?_,fun b o u q=>?_,fun b i q=>⟨#[],?_⟩⟩ fun b o q=>?_
 ·rw[aj (fun z=>by rw[z,hm.new] at q;cases q)];exact n
 ·rw[aj (ne q)];exact q
 ·rw[aj (ne q)];exact q
 ·rw[aj (ne q),q];simp
 ·
  by_cases z:b=e
  ·
   subst z;rw[aq] at q;cases q;exact Pg ⟨_,f,by show 1<6;decide,rfl⟩
  ·
   rw[aj z] at q;exact(I.hok b o q).stay (fun c u _ g=>hm.keeps c u g) (fun c g=>by rw[aj (ne g)];exact g) fun c xs g=>by rw[aj (ne g)];exact g
theorem LB {R:Addr} [Quiet CX] (c:DH X.K X.mg x C R ini) (G:DJ X.prog X.w X.K X.mg X.base CX C "__init__" k ps sp) (kp:W.keepIn X.K (.ref C)=true) (hr:dz (k+1) X.A) (hz:Rz X E) (hc:X.calm=true) (hex:X.ex= []) (hg:Gl X x) (ha:PA X (a::es) ta) (J:(x == ("__debug__" : Str))=false:=by decide) (he:starEach (a::es) X.env=(false,eval a X.env)::starEach es X.env:=by rfl) (P:(backTo cpos (starEach es X.env)).any (·.1)=false:=by rfl) (hlen: ∀us:List Value,us.length+1=ps.length->us.length<=sizeLine:=by intro us h;simp at h;rw[sizeLine_eq];lia):
  PS X (.Raise (some (.Call (.Name x np) (a::es) [] cpos)) none pos) (Fh C sp E ta):=by
 intro pins s σ H D I h;obtain⟨f,fd,F,M,hb⟩:=G;obtain⟨N,nm,q,bs,sn,sub,ab,col,dd,k0,k1,k2,k3,k5,l,_⟩:=c.cls;refine wpAny_bind (wpAny_standAt ?_);refine QC (nm:=nm) (q:=q) (C:=C) (N:=N) (bs:=bs) (hdct:=true) (sn:=sn) (sub:=sub) (ab:=ab) (col:=col) (dd:=dd) (k0:=k0) (k1:=k1) (k2:=k2) (k3:=k3) (k5:=k5) ((c.tail I.nK).hasType (rfl)) (I.ok.hd hc) ?_;refine wpAny_bind (wpAny_mono (wpAny_Call_Name_kw (lS I hg c.TR (W.callWith_K I.ok.mod.kin kp (iY (ha _ _ s σ H _ I h) fun us s1 vs H1 d r q1=>⟨d.nK,?_⟩) he P) J)) (fun v s₃ j=>wpAny_bind (wpAny_standAt (wpAny_pure j))) fun _ _ z=>z);have T:=c.tail d.nK;have hC:=d.nK _ _ l;have O:=by
  have e0:=(q1 _ (d.hok.fresh (Nat.le_refl _)));have e1:=F.len _ _ _ _ e0;have e2:=r.length;rw[List.length_cons] at e1;exact hlen us (by lia)
 refine XN d.nK T hC M.at_ (beq_iff_eq.mp M.fn) O fun h' e hm=>?_;have e0:H1 e=none:=by
  cases z:H1 e with
  |none=>rfl
  |some u=>
   obtain⟨o',m⟩:=(d.hok e u z).there;rw[hm.new] at m;cases m
 have n0:X.s₀.heap.get? e=none:=by
  cases z:X.s₀.heap.get? e with
  |none=>rfl
  |some o=>
   obtain⟨o',m⟩:=d.base.there e o z (by simp_all);rw[hm.new] at m;cases m
 have y:=d.newx e0 hm;have Z:=q1 e e0;have r2:Vals (V.ref e::vs) _:= .cons rfl r;have hl:(Value.ref e::us++ []).length=ps.length:=by
  have z:=F.len _ _ _ _ Z;rw[List.append_nil,<-r2.length];exact z
 refine wpAny_call (codeAny_mono (F.run _ _ _ _ _ _ _ _ E0 (hr.make C us []) (y.RT.make C us []) (by have z:=hb _ _ y.nK hl;rw[List.append_nil] at z;exact z) r2 Z) fun r s' i=>?_);cases r with
 |error x=>exact Quiet.pass X _ σ _ _ x s' y i
 |ok fl=>
  cases fl with
  |ret u=>
   obtain⟨v,H',U,rv,ev,dx,eH,hE⟩:=y.after i;subst ev;obtain⟨⟨ws,oe,w1,w2⟩,_⟩:=U.hok e _ eH;exact⟨rv,e,dx,ws,rfl,U.nK _ _ l,oe,w2,hz _ _ _ _ _ _ _ none ⟨U.drop eH,⟨_,ws,oe,rfl,rfl,rfl,w1,w2⟩,n0,Dw,(fun T z=>by cases z),fun p hp=>⟨fun z=>(by have q:=(d.pin p hp).1;rw[z,hm.new] at q;cases q),fun T z=>by cases z⟩⟩ hE⟩
  |next=>trivial
  |brk=>trivial
  |cont=>trivial
end
def Mm (e:Addr) (cls:Value) (dx:Option Addr):Heap->Prop:=fun h=> ∃d vs,h.get? e=some d/\d.cls=cls/\d.dict=dx/\d.data = .fields vs
theorem XB (x:Mm e cls dx h):dN P w H h e (.ext (Mm e cls dx)):=
 ⟨x,x.elim fun d q=>q.elim fun vs q=>⟨_,q.1⟩,fun h1 i f k=>by obtain⟨d,vs,q,r⟩:=f;exact⟨d,vs,k _ q,r⟩⟩
def XA (T:Addr):Heap->Prop:=fun h=> ∃o,h.get? T=some o
theorem Jk (x:XA e h):dN P w H h e (.ext (XA e)):=
 ⟨x,x,fun h1 f d k=>by obtain⟨o,q⟩:=d;exact⟨o,k _ q⟩⟩
section
theorem Inv.track (I:Inv X pins σ H s) (n:H a=none) (n0:X.s₀.heap.get? a=none) (C: ∀p∈X.pn++pins,p.1≠a) (i: ∃o vs,s.heap.get? a=some o/\o.data = .fields vs) (k:dN X.prog X.w (upd H a (.ext φ)) s.heap a (.ext φ)):Inv X pins σ (upd H a (.ext φ)) s:=by
 obtain⟨o,vs,i,hd⟩:=i;have ne: ∀{b:Addr} {u:HO},H b=some u->b≠a:=fun{b u} q z=>by simp_all
 have nl:X.env.locals≠a:=fun z=>by
  obtain⟨m,⟨J,es,O,e1,f,_⟩,_⟩:=I.loc;rw[z,i] at e1;cases e1;rw[hd] at f;cases f
 have j: ∀x c,X.env.cells.lookup x=some c->c≠a:=fun x c e z=>by
  obtain⟨v,J,e1,f⟩:=I.cell x c e;rw[z,i] at e1;cases e1;rw[hd] at f;cases f
 refine⟨I.ok,I.os,I.bare,⟨I.base.keep,I.base.slot,fun b u q m hx=>?_,I.base.there,fun b xs q=>?_,fun b o u q=>?_,fun b F q=>?_⟩,I.loc,I.cell,?_,fun x c e=>?_,fun p hp=>?_,fun b u q=>?_,I.len⟩
 ·rw[aj (fun z=>by simp_all)];exact I.base.free b u q m hx
 ·
  have d:=I.base.tups b xs q;rw[aj (ne d)];exact d
 ·
  have d:=I.base.frzs b o u q;rw[aj (ne d)];exact d
 ·
  obtain⟨more,d⟩:=I.base.tbls b F q;exact⟨_,by rw[aj (ne d)];exact d⟩
 ·rw[aj nl];exact I.free
 ·rw[aj (j x c e)];exact I.ou x c e
 ·
  obtain⟨G,E,y⟩:=I.pin p hp;exact⟨G,by rw[aj (C p hp)];exact E,y⟩
 ·
  by_cases z:b=a
  ·
   subst z;rw[aq] at q;cases q;exact k
  ·
   rw[aj z] at q;exact(I.hok b u q).stay (fun c v _ g=>g) (fun c g=>by rw[aj (ne g)];exact g) fun c xs g=>by rw[aj (ne g)];exact g
theorem Inv.left (I:Inv X pins σ H s) (C: ∀t,T=some t->H t=some (.ext (XA t))) (he:H ea=some (.ext (XA ea))) (hk:Lft (frs X.stack) ea T s.heap i) (hx:Mm ea cls dx i):
  Inv X pins σ (upd H ea (.ext (Mm ea cls dx))) {s with heap:=i}:=by
 have ne: ∀{b:Addr} {o:HO},H b=some o->(∀y,o≠ .ext y)->b≠ea/\∀t,T=some t->b≠t:=fun{b o} q n=>⟨fun z=>by
  grind,fun t ht z=>by
  grind⟩
 have fr: ∀b,H b=none->b≠ea/\∀t,T=some t->b≠t:=fun b q=>⟨(fun z=>by lia),fun t ht z=>by grind⟩;refine I.call' (ch:=[]) rfl ⟨fun b o q n f _=>?_,fun b o q n f _=>hk.slot b o f q,fun b o q n _=>?_,fun b o q _=>hk.there b o q,fun b xs q=>?_,fun b o u q=>?_,fun b F q=>⟨#[],?_⟩⟩ (fun b o q=>?_) I.bare (fun b z=>absurd z (by simp))
 ·exact hk.keep b o f (fr b n).1 (fr b n).2 q
 ·rw[aj (fr b n).1];exact n
 ·rw[aj (ne q (by simp)).1];exact q
 ·rw[aj (ne q (by simp)).1];exact q
 ·rw[aj (ne q (by simp)).1,q];simp
 ·
  by_cases z:b=ea
  ·
   subst z;rw[aq] at q;cases q;exact XB hx
  ·
   rw[aj z] at q;by_cases j:T=some b
   ·
    have d:=C b j;rw[q] at d;injection d with d;subst d;obtain⟨⟨o,e1⟩,_⟩:=((I.hok b _ q));obtain⟨E,x⟩:=hk.there b o e1;exact Jk ⟨E,x⟩
   ·
    have v: ∀{c:Addr} {u:HO},H c=some u->c ∉ frs _:=fun{c u} g m=>by rw[I.B6 c m] at g;cases g
    refine(I.hok b o q).stay (fun c u hc g=>?_) (fun c g=>by rw[aj (ne g (by simp)).1];exact g) fun c xs g=>by rw[aj (ne g (by simp)).1];exact g
    rcases hc with r|r
    ·
     rw[r] at g⊢;exact hk.keep b u (v q) z (fun t ht e=>j (e▸ht)) g
    ·exact hk.keep c u (v r) (ne r (by simp)).1 (ne r (by simp)).2 g
theorem R9.land (F:R9 X pins σ H s ea cls dx u) (hk:Lft (frs X.stack) ea u s.heap m) (hx:P5 m ea cls dx (some T')):Inv X pins σ (upd H ea (.ext (Mm ea cls dx))) {s with heap:=m}:=by
 obtain⟨C,vs,he,hc,hd,d,hsz,j⟩:=F.ex;have f:Mm ea cls dx m:=by obtain⟨o,ws,e1,E,J,O,_⟩:=hx;exact⟨o,ws,e1,E,J,O⟩
 have v:=F.inv.track F.nH F.n0 (fun p hp=>(F.apart p hp).1) ⟨C,vs,he,d⟩ (Jk ⟨C,he⟩);cases u with
 |none=>
  have i:=v.left (fun t z=>by cases z) aq hk f;have e:upd (upd H ea (.ext (XA ea))) ea (.ext (Mm ea cls dx))=upd H ea (.ext (Mm ea cls dx)):=by
   funext b;unfold upd;split<;>rfl
  rw[e] at i;exact i
 |some T=>
  obtain⟨h1,ne,y,ts,j,dT,P⟩:=j;obtain⟨t0,G⟩:=F.tbs T rfl;have i:=v.track (by rw[aj ne];exact G) t0 (fun p hp=>(F.apart p hp).2 T rfl) ⟨y,ts,j,dT⟩ (Jk ⟨y,j⟩);have I:=i.left (fun t z=>by cases z;exact aq) (by rw[aj (Ne.symm ne)];exact aq) hk f;have x:=I.drop (by rw[aj ne];exact aq);have e:pA (upd (upd (upd H ea (.ext (XA ea))) T (.ext (XA T))) ea (.ext (Mm ea cls dx))) T=upd H ea (.ext (Mm ea cls dx)):=by
   funext b;unfold pA upd;by_cases z:b=T
   ·simp_all
   ·simp_all
  rw[e] at x;exact x
theorem RI {h:Heap} (e:h.get? a=some o):h.objs[a]?=some o:=by
 unfold Heap.get? at e;split at e
 ·cases e
 ·exact e
theorem CV {h:Heap} (e:h.get? a=some o) (i:f o=o):h.update a f=h:=by
 have d:=RI e;obtain⟨objs,l⟩:=h;have:objs.modify a f=objs:=by
  apply Array.ext (by simp);intro j h1 m;rw[Array.getElem_modify];split
  ·simp_all
  ·rfl
 show(⟨_,l⟩:Heap)=_;rw[this]
theorem HK (hx:P5 s.heap ea cls dx (some T)) (h:Q () s):wpAny M A (setFlight (.ref ea) none) Q E s:=by
 obtain⟨x,vs,he,_,_,hd,hsz,h1,ne,u,ts,f,dT,i⟩:=hx;refine wpAny_bind (wpAny_field he hd h1 ?_);refine wpAny_setField f dT (Array.getElem?_eq_some_iff.mp i).1 ?_;rw[CV f]
 ·exact h
 ·
  obtain⟨c,d,dt,m⟩:=u;obtain rfl:dt = .fields ts:=dT;show Obj.mk c d _ m=_;congr 1;congr 1;apply Array.ext (by simp);intro j h1 v;rw[Array.getElem_setIfInBounds];split
  ·simp_all
  ·rfl
end
noncomputable abbrev Cx.y7 (X:Cx) (pn:List (Addr×Obj)) (σ:St) (E:XK):Cx:={X with pn:=X.pn++pn,xe:=fun e s=> ∃d cls dx f H',e = .ref d/\R9 X pn σ H' s d cls dx f/\E cls dx H'}
noncomputable abbrev Cx.hand (X:Cx) (e:Value):Cx:={X with A:=X.A.mark (some e),calm:=false,xe:=fun _ _=>False}
section
variable {X:Cx} {pn:List (Addr×Obj)}
theorem Cx.Ok.y7 (ok:X.Ok):(X.y7 pn σ E).Ok:=
 ⟨ok.mod,ok.kind,ok.glob,ok.blt,ok.above,ok.inj,ok.has,ok.cab,ok.hd,ok.frames,ok.stk,ok.exf,ok.bs,ok.bsz,ok.noex,ok.exfs,ok.funs,ok.frf⟩
theorem Cx.Ok.untry (ok:(X.y7 pn σ E).Ok):X.Ok:=
 ⟨ok.mod,ok.kind,ok.glob,ok.blt,ok.above,ok.inj,ok.has,ok.cab,ok.hd,ok.frames,ok.stk,ok.exf,ok.bs,ok.bsz,ok.noex,ok.exfs,ok.funs,ok.frf⟩
theorem Cx.Ok.hand (ok:X.Ok):(X.hand e).Ok:=
 ⟨ok.mod,ok.kind,ok.glob,ok.blt,ok.above,ok.inj,ok.has,ok.cab,(fun z=>by cases z),ok.frames,ok.stk,ok.exf,ok.bs,ok.bsz,ok.noex,ok.exfs,ok.funs,ok.frf⟩
theorem Inv.y7 (I:Inv X pn σ H s):Inv (X.y7 pn σ0 E) [] σ H s:=⟨I.ok.y7,I.os,I.bare,I.base,I.loc,I.cell,I.free,I.ou,fun p hp=>I.pin p (by simp_all),I.hok,I.len⟩
theorem Inv.untry (I:Inv (X.y7 pn σ0 E) pins σ H s):Inv X pn σ H s:=⟨I.ok.untry,I.os,I.bare,I.base,I.loc,I.cell,I.free,I.ou,fun p hp=>I.pin p (List.mem_append_left _ hp),I.hok,I.len⟩
theorem Inv.hand (I:Inv X pins σ H s):Inv (X.hand e) pins σ H s:=⟨I.ok.hand,I.os,I.bare,I.base,I.loc,I.cell,I.free,I.ou,I.pin,I.hok,I.len⟩
theorem Inv.unhand (ok:X.Ok) (I:Inv (X.hand e) pins σ H s):Inv X pins σ H s:=⟨ok,I.os,I.bare,I.base,I.loc,I.cell,I.free,I.ou,I.pin,I.hok,I.len⟩
theorem R9.untry (F:R9 (X.y7 pn σ0 E) pins σ H s ea cls dx tb):R9 X pn σ H s ea cls dx tb:=⟨F.inv.untry,F.ex,F.n0,F.nH,F.tbs,fun p hp=>F.apart p (List.mem_append_left _ hp)⟩
theorem SP.untry (h:SP (X.y7 pn σ0 E) pins D f s'):SP X pn D f s':=by
 cases f with
 |next=>obtain⟨d,H',I,q⟩:=h;exact⟨d,H',I.untry,q⟩
 |brk=>obtain⟨d,H',I,q⟩:=h;exact⟨d,H',I.untry,q⟩
 |cont=>obtain⟨d,H',I,q⟩:=h;exact⟨d,H',I.untry,q⟩
 |ret u=>obtain⟨v,d,H',I,r,q⟩:=h;exact⟨v,d,H',I.untry,r,q⟩
def Ia (i:Ie) (X:Cx) (σ:St) (E:XK):Prop:= ∀(d:List (Addr×Obj)) (H:Hp) (s:Shared) (e:Value) (f:Shared),Inv X d σ H s->i X.stack H s E e f->X.xe e f
theorem yi (hex:X.ex= []):Ia (Ig X.prog X.w) (X.y7 pn σ E) σ E:=fun d H s e j I h=>by
 obtain⟨i,cls,dx,T,H',rfl,F,f⟩:=Pf (X:=X.y7 pn σ E) hex I h;exact⟨i,cls,dx,_,H',rfl,F.untry,f⟩
end
def MT (d:St) (sp:Sp) (E:XK) (t:TA):TE:=fun σ H Q=>σ=d/\t σ H fun vs f=>sp vs f Q E
def Us (d:St) (C:Addr) (m:Str) (sp:Sp) (E:XK) (j:TE) (t:TA):TE:=fun σ H Q=>σ=d/\j σ H fun x f=>Yu C m x f (t σ f fun vs i=>sp (x::vs) i Q E)
section
theorem Fx (F:yZ X.prog X.w X.K X.mg X.base CX k f fd ps sp) (i:dz k X.A) (j:Binds X.K fd ps []) (hx:Ia CX X σ0 E) (I:Inv X pins σ0 H s) (r:Vals vs us) (h:sp vs H Q E):wpAny (model X.prog X.w) X.A (call (.ref f) us) (EP X pins σ0 Q) X.xe s:=by
 have hl:(us++ []).length=ps.length:=by rw[List.append_nil,<-r.length];exact F.len _ _ _ _ h
 refine wpAny_call (codeAny_mono (F.run _ _ s H _ us vs Q E i I.RT (by have z:=j s us I.nK hl;rw[List.append_nil] at z;exact z) r h) fun r m d=>?_);cases r with
 |error e=>exact hx _ H s e m I d
 |ok v=>
  cases v with
  |ret u=>exact I.after d
  |next=>trivial
  |brk=>trivial
  |cont=>trivial
theorem UT (G:FnAt X.prog X.w X.K X.mg X.base CX x k ps sp) (u:dz n X.A) (hk:k<=n) (hg:Gl X x) (hx:Ia CX X σ0 E) (ha:PA X (e::es) t) (i:(x == ("__debug__" : Str))=false:=by decide) (he:starEach (e::es) X.env=(false,eval e X.env)::starEach es X.env:=by rfl) (d:(backTo pos (starEach es X.env)).any (·.1)=false:=by rfl):
  PE X (.Call (.Name x p) (e::es) [] pos) (MT σ0 sp E t):=by
 obtain⟨f,v,F,hm,kp,b,_⟩:=G;intro m s σ H Q I ⟨hσ,h⟩;subst hσ;refine wpAny_Call_Name_kw (lS I hg hm ?_ i);refine W.callWith_K I.ok.mod.kin kp (iY (ha _ _ s σ H _ I h) fun us s1 vs y j r q=>⟨j.nK,?_⟩) he d;exact Fx F (u.mono hk) b hx j r q
theorem US (he:PE X o ta) (c:eZ X.K X.mg x C) (G:DJ X.prog X.w X.K X.mg X.base CX C m k ps sp) (O:dz n X.A) (hk:k<=n) (hx:Ia CX X σ0 E) (ha:PA X (e::es) t) (d:(e::es).any isStar=false:=by rfl) (ht:eval (.Call (.Attribute o m apos) (e::es) [] pos) X.env=(do
   let ov<-eval o X.env
   standAt apos.atName
   let (f,first)<-holding [ov] (getMethod ov m pl)
   callWith pos f first (backTo pos (starEach (e::es) X.env)) (backToKw pos (keywordEach [] X.env))):=by rfl):
  PE X (.Call (.Attribute o m apos) (e::es) [] pos) (Us σ0 C m sp E ta t):=by
 obtain⟨f,U,F,hm,b⟩:=G;rw[List.any_cons,Bool.or_eq_false_iff] at d;intro v s σ H Q I ⟨hσ,h⟩;subst hσ;refine W.methodCall_KW (iY (he _ s σ H _ I h) fun u s1 x y j z P=>?_) ht;obtain⟨a,ex,dx,fs,J,l,q⟩:=FC P;subst ex;obtain rfl:u=Value.ref a:=z;refine ot j J c.cl hm l ?_;refine W.callWith_K I.ok.mod.kin hm.kp (iY (ha _ _ s1 σ y _ j q) fun us s2 vs Z i r q2=>⟨i.nK,?_⟩) (cW d.1) (nG d.2);exact Fx (vs:= .ref a::vs) F (O.mono hk) b hx i (.cons rfl r) q2
end
structure yV (K:W.Frag) (mg:Str->Option Value) (x:Str) (C:Addr):Prop where
 TR:mg x=some (.ref C)
 ty:W.typeIn K (.ref C)=some (.type "type")
 ex:W.mroIn K C (.type "BaseException")=some true
noncomputable def isx (K:W.Frag) (cls:Value) (C:Addr):Option Bool:=match cls with
 | .ref D=>W.mroIn K D (.ref C)
 |_=>none
def RE (o:Option Bool) (p q:Prop):Prop:=match o with
 |some true=>p
 |some false=>q
 |none=>False
theorem aeW {q:Prop}:RE (some true) p q=p:=rfl
theorem aeX {q:Prop}:RE (some false) p q=q:=rfl
section
theorem xmatch {K:W.Frag} (X:K.In s.heap) (he:s.heap.get? e=some oe) (m:yV K mg x C) (d:isx K oe.cls C=some b) (h:Q b s):
  wpAny (model prog w) A (excMatches (.ref e) (.ref C)) Q E s:=by
 have v:W.Looks (model prog w) _ (isInstance _ _) _:=(W.looks_typeIn X m.ty).andThen (W.Looks.of_pure tc_notTuple);have f:W.Looks (model prog w) _ _ _:=W.looks_mroIn X m.ex;have L2:W.Looks (model prog w) s.heap (isType (.ref C)) true:=by
  have z:=m.ex;obtain⟨cd,hc,_⟩:=Option.bind_eq_some_iff.mp z;unfold W.clsIn at hc;split at hc
  ·
   rename_i i;intro F G H y k q;exact wpAny_bind (wpAny_loadPart (k _ _ (X _ _ i)) (wpAny_pure q))
  ·cases hc
 have j:W.Looks (model prog w) _ (typeOf (.ref e)) _:=(W.Looks.ld he).andThen .now;have u:W.Looks (model prog w) s.heap (isSubtype oe.cls (.ref C)) b:=by
  unfold isx at d;split at d
  ·
   rename_i D hD;rw[hD];exact W.looks_mroIn X d
  ·cases d
 refine wpAny_bind (v.here ?_);dsimp only;refine wpAny_bind (wpAny_pure ?_);refine wpAny_bind (wpAny_bind (wpAny_bind ?_));refine wpAny_bind (L2.here ?_);refine f.here ?_;refine wpAny_pure ?_;refine wpAny_pure ?_;refine wpAny_bind (j.here ?_);refine wpAny_bind (wpAny_bind (wpAny_bind (u.here ?_)));cases b with
 |true=>exact wpAny_pure (wpAny_pure (wpAny_pure h))
 |false=>
  refine wpAny_pure ?_;exact wpAny_pure (wpAny_pure h)
end
noncomputable abbrev TH:=Ends->St->Value->Option Addr->Hp->Prop
def PH (X:Cx) (hs:List ExceptHandler) (t:TH):Prop:= ∀(d:List (Addr×Obj)) (s:Shared) (σ:St) (H:Hp) (D:Ends) (f:Addr) (cls:Value) (dx:Option Addr) (T:Addr),
 Inv X d σ (upd H f (.ext (Mm f cls dx))) s->P5 s.heap f cls dx (some T)->H f=none->t D σ cls dx H->wpAny (model X.prog X.w) X.A (handleBy (.ref f) X.env hs) (SP X d D) X.xe s
def tH0:TH:=fun _ _ _ _ _=>False
def Yd (d:St->XK->TS) (th:TH):TS:=fun D σ H=>d σ (fun cls dx H'=>th D σ cls dx H') D σ H
section
theorem NN:PH X [] tH0:=fun _ _ _ _ _ _ _ _ _ _ _ _ h=>h.elim
theorem NJ (y: ∀pn σ E,Cj (X.y7 pn σ E) body (j σ E)) (hh:PH X (h₀::hs) th) (d:X.stack=X.env::X.outer:=by rfl) (hf:X.env.frame=some X.env.locals:=by rfl):PS X (.Try body (h₀::hs) [] [] pos) (Yd j th):=by
 intro m s σ H D I h;refine wpAny_Try_except (wpAny_mono (y _ σ _ [] s σ H D I.y7 h) (fun f s1 q=>?_) fun e s1 q=>?_)
 ·
  have i:=q.untry;cases f with
  |next=>exact wpAny_execs_nil i
  |brk=>exact i
  |cont=>exact i
  |ret u=>exact i
 ·
  obtain⟨x,cls,dx,j,H',rfl,F,v⟩:=q;have Ok:=F.inv.ok;have fr:X.A.frames=some (X.env::X.outer):=by rw[<-d];exact Ok.frames
  have z:s1.heap.FunFrames X.base (X.env::X.outer):=by rw[<-d];exact F.inv.stack
  refine NY fr z hf F.ex fun C hx hk=>?_;rw[<-d] at hk;exact hh _ _ σ H' D x _ dx _ (F.land hk hx) hx F.nH v
end
structure H9 (K:W.Frag) (C:Addr):Prop where
 ga:W.findIn K (.ref C) "__getattribute__" = some (some (.builtin "BaseException.__getattribute__"))
 gh:W.findIn K (.ref C) "__getattr__" = some none
 bx:W.mroIn K C (.type "BaseException")=some true
 ob:W.mroIn K C (.type "object")=some true
 hd:W.hasDictIn K C=true
 kc:W.findIn K (.ref C) "__class__" = some (some (.builtin "object.__class__"))
 kg:W.specialIn K (.builtin "object.__class__") "__get__" = some (some (.builtin "getset_descriptor.__get__"))
 kt:W.takesIn K (.builtin "object.__class__")=some true
section
variable {X:Cx} {k n:Nat} {C R:Addr} {ps:List Str} {sp:Sp} {E:XK} {x:Str} {p pos:Pos} {e:Expr} {es:List Expr} {t:TA}
theorem PS.nox {st:Stmt} (h:PS X.nox st ts):PS X st ts:=fun d s σ H D I hw=>
 wpAny_mono (h _ s σ H D (I.wish _) hw) (fun _ _ q=>q.unwish) fun _ _ z=>False.elim z
theorem UU (G:FnAt X.prog X.w X.K X.mg X.base (Ig X.prog X.w) x k ps sp) (i:dz n X.A) (hk:k<=n) (hg:Gl X x) (j:Rz X E) (hex:X.ex= []) (ha:PA X (e::es) t)
  (d:(x == ("__debug__" : Str))=false:=by decide) (h:(e::es).any isStar=false:=by rfl):PE X (.Call (.Name x p) (e::es) [] pos) (GV sp [] E t):=by
 obtain⟨f,m,F,hm,kp,b,_⟩:=G;rw[List.any_cons,Bool.or_eq_false_iff] at h;exact Kf F (i.mono hk) hg hm kp b .nil (j.passes hex) ha d (cW h.1) (nG h.2)
def Uh (K:W.Frag) (mg:Str->Option Value) (x:Str) (C R:Addr):Prop:= ∃d,DH K mg x C R d
theorem fh {apos:Pos} {f:Ie} [Quiet f] (c:Uh X.K X.mg x C R) (G:DJ X.prog X.w X.K X.mg X.base f C "__init__" k ps sp) (kp:W.keepIn X.K (.ref C)=true) (i:dz n X.A) (hk:k+1<=n) (j:Rz X E) (hc:X.calm=true) (hex:X.ex= []) (hg:Gl X x) (ha:PA X (e::es) t)
  (d:(x == ("__debug__" : Str))=false:=by decide) (h:(e::es).any isStar=false:=by rfl) (hlen: ∀us:List Value,us.length+1=ps.length->us.length<=sizeLine:=by intro us h;simp at h;rw[sizeLine_eq];lia):
  PS X (.Raise (some (.Call (.Name x p) (e::es) [] apos)) none pos) (Fh C sp E t):=by
 obtain⟨m,c⟩:=c;rw[List.any_cons,Bool.or_eq_false_iff] at h;exact LB c G kp (i.mono hk) j hc hex hg ha d (cW h.1) (nG h.2) hlen
theorem tu {o:Expr} {d:TE} {value:Expr} {f:Str} {pos':Pos} {i:TE} (c:Uh X.K X.mg x C R) (m:GC X.K C f) (ha:PE X o d) (j:PE X value i) (hs:oq value=false:=by rfl):PS X (.Assign [.Attribute o f pos'] value pos) (M_ C d i f):=by
 obtain⟨u,c⟩:=c;exact QX c m ha j hs
end
theorem MethAt.fnX {K:W.Frag} {q:Str} {st:Stmt} (F:MethAt K C m q st) (S:pC N ps (bN st)) (x: ∀(kV doc pm:Value) (an:Option Addr) (d ct:Value) (us:List Value),us.length=ps.length->bindArgs (W.fnOf m q (fP st) (dq st) (bN st) .none kV doc pm an d ct) ⟨us,[]⟩=pure (ps.zip us)) (len: ∀vs H Q E,sp vs H Q E->vs.length=ps.length) (i: ∀(f:Addr) (d:Value) (A:Around) (outer:List Env) (s:Shared) (H:Hp) (vs:List V) (Q:VK) (E:XK),dz k (A.deeper (envOfC q (bN st) s.heap.objs.size f d))->sp vs H Q E->
   ∃t,Cj (Dz CX P w K mg base N q (bN st) f d A outer s H E) (dq st) t/\t {nx:=fun _ H'=>Q .non H',rt:=Q} (start N vs) H):DJ P w K mg base CX C m (k+1) ps sp:=by
 obtain⟨f,z,F,hm⟩:=F;have bd:=F.binds x;obtain⟨G,od,kV,doc,pm,an,d,ct,y,rfl,lk,u⟩:=F.ex;exact⟨f,_,Kv lk u S len fun A outer s H vs Q E v j=>i f _ A _ s H vs Q E v j,hm,bd⟩
theorem Qg {K:W.Frag} (ga:W.findIn K (.ref C) "__getattribute__" = some (some (.builtin "BaseException.__getattribute__"))) (gh:W.findIn K (.ref C) "__getattr__" = some none) (bx:W.mroIn K C (.type "BaseException")=some true) (ob:W.mroIn K C (.type "object")=some true) (hd:W.hasDictIn K C=true) (kc:W.findIn K (.ref C) "__class__" = some (some (.builtin "object.__class__"))) (kg:W.specialIn K (.builtin "object.__class__") "__get__" = some (some (.builtin "getset_descriptor.__get__"))) (kt:W.takesIn K (.builtin "object.__class__")=some true):H9 K C:=⟨ga,gh,bx,ob,hd,kc,kg,kt⟩
theorem Qf {K:W.Frag} (X:K.In h) (G:h.Ns mainGlobals mg) (a:W.nsIn K mainGlobals x=some (some (.ref C))) (t:W.typeIn K (.ref C)=some (.type "type")) (b:W.mroIn K C (.type "BaseException")=some true):yV K mg x C:=
 ⟨W.mg_of X G a,t,b⟩
def Dn (K:W.Frag) (H:Hp):Nat->V->Dt->Prop
 |0,x,d=>(x = .non/\d = .non)\/(∃i,x = .int i/\d = .int i)\/(∃z,x = .str z/\d = .str z)\/(∃b,x = .bl b/\d = .int (if b then 1 else 0))
 |n+1,x,d=>Dn K H n x d\/(∃a xs ds,x = .ref a/\d = .l ds/\cQ K H a xs/\Paired (Dn K H n) xs ds)\/(∃a xs ds,x = .ref a/\d = .t ds/\dO K H a xs/\Paired (Dn K H n) xs ds)
section
variable {X:Cx}
open Classical in
theorem yQ:decide (Dt.int i=Dt.int j)=(i == j):=by
 lia
theorem afO (a b:Bool):((if a then(1:Int) else 0) == (if b then 1 else 0))=(a == b):=by cases a<;>cases b<;>rfl
open Classical in
theorem RV (f:RelV x u) (m:RelV y v) (hx:Dn X.K H 0 x d) (C:Dn X.K H 0 y e):SeqAt.EqAt A s u v (decide (d=e)):=by
 rcases hx with⟨rfl,rfl⟩|⟨i,rfl,rfl⟩|⟨i,rfl,rfl⟩|⟨i,rfl,rfl⟩<;>rcases C with⟨rfl,rfl⟩|⟨j,rfl,rfl⟩|⟨j,rfl,rfl⟩|⟨j,rfl,rfl⟩
 ·cases f;cases m;rw[decide_eq_true rfl];exact SeqAt.EqAt.same _
 ·cases f;obtain⟨t,rfl⟩:=m;rw[decide_eq_false (fun z=>nomatch z)];exact SeqAt.EqAt.none_int _ _
 ·cases f;obtain⟨t,rfl⟩:=m;rw[decide_eq_false (fun z=>nomatch z)];exact SeqAt.EqAt.none_str _ _
 ·cases f;cases m;rw[decide_eq_false (fun z=>nomatch z)];exact SeqAt.EqAt.none_bool _
 ·obtain⟨t,rfl⟩:=f;cases m;rw[decide_eq_false (fun z=>nomatch z)];exact SeqAt.EqAt.int_none _ _
 ·obtain⟨t,rfl⟩:=f;obtain⟨t',rfl⟩:=m;rw[yQ];exact SeqAt.EqAt.int_int _ _ _ _
 ·obtain⟨t,rfl⟩:=f;obtain⟨t',rfl⟩:=m;rw[decide_eq_false (fun z=>nomatch z)];exact SeqAt.EqAt.int_str _ _ _ _
 ·obtain⟨t,rfl⟩:=f;cases m;rw[yQ];exact SeqAt.EqAt.int_bool _ _ _
 ·obtain⟨t,rfl⟩:=f;cases m;rw[decide_eq_false (fun z=>nomatch z)];exact SeqAt.EqAt.str_none _ _
 ·obtain⟨t,rfl⟩:=f;obtain⟨t',rfl⟩:=m;rw[decide_eq_false (fun z=>nomatch z)];exact SeqAt.EqAt.str_int _ _ _ _
 ·
  obtain⟨t,rfl⟩:=f;obtain⟨t',rfl⟩:=m;have e:decide (Dt.str i=Dt.str j)=(i == j):=by
   rw[Bool.eq_iff_iff,decide_eq_true_eq,beq_iff_eq];exact⟨fun q=>Dt.str.inj q,fun q=>by rw[q]⟩
  rw[e];exact SeqAt.EqAt.str_str _ _ _ _
 ·obtain⟨t,rfl⟩:=f;cases m;rw[decide_eq_false (fun z=>nomatch z)];exact SeqAt.EqAt.str_bool _ _ _
 ·cases f;cases m;rw[decide_eq_false (fun z=>nomatch z)];exact SeqAt.EqAt.bool_none _
 ·cases f;obtain⟨t,rfl⟩:=m;rw[yQ];exact SeqAt.EqAt.bool_int _ _ _
 ·cases f;obtain⟨t,rfl⟩:=m;rw[decide_eq_false (fun z=>nomatch z)];exact SeqAt.EqAt.bool_str _ _ _
 ·cases f;cases m;rw[yQ,afO];exact SeqAt.EqAt.bool_bool _ _
theorem Dn.cases {K:W.Frag}: ∀{n:Nat} {x:V} {d:Dt},Dn K H n x d->Dn K H 0 x d\/(∃m,m<n/\∃a xs ds,x = .ref a/\d = .l ds/\cQ K H a xs/\Paired (Dn K H m) xs ds)\/(∃m,m<n/\∃a xs ds,x = .ref a/\d = .t ds/\dO K H a xs/\Paired (Dn K H m) xs ds)
 |0,_,_,h=> .inl h
 |n+1,_,_,h=>by
  rcases h with h|h|h
  ·
   rcases Dn.cases h with q|⟨m,hm,q⟩|⟨m,hm,q⟩
   ·exact .inl q
   ·exact .inr (.inl ⟨m,by lia,q⟩)
   ·exact .inr (.inr ⟨m,by lia,q⟩)
  ·exact .inr (.inl ⟨n,by lia,h⟩)
  ·exact .inr (.inr ⟨n,by lia,h⟩)
theorem Dn.up {K:W.Frag} (h:Dn K H n x d) (hm:n<=m):Dn K H m x d:=by
 induction m with
 |zero=>simp_all
 |succ m f=>
  by_cases e:n=m+1
  ·simp_all
  ·exact .inl (f (by lia))
theorem XE (n:Nat): ∀{m:Nat} {x:V} {d e:Dt},Inv X pins σ H s->Dn X.K H n x d->Dn X.K H m x e->d=e:=by
 induction n using Nat.strongRecOn with
 |_ n C=>
 intro m x d e I hx f;rcases hx.cases with hx|⟨m1,hm,a,xs,ds,rfl,rfl,ha,pa⟩|⟨m1,hm,a,xs,ds,rfl,rfl,ha,pa⟩
 ·
  rcases f.cases with f|⟨k,hk,b,v,es,rfl,rfl,u,pb⟩|⟨k,hk,b,v,es,rfl,rfl,u,pb⟩
  ·rcases hx with⟨rfl,rfl⟩|⟨i,rfl,rfl⟩|⟨i,rfl,rfl⟩|⟨i,rfl,rfl⟩<;>rcases f with⟨z,rfl⟩|⟨j,z,rfl⟩|⟨j,z,rfl⟩|⟨j,z,rfl⟩<;>first|rfl|simp_all|cases z
  ·rcases hx with⟨z,_⟩|⟨i,z,_⟩|⟨i,z,_⟩|⟨i,z,_⟩<;>cases z
  ·rcases hx with⟨z,_⟩|⟨i,z,_⟩|⟨i,z,_⟩|⟨i,z,_⟩<;>cases z
 ·
  rcases f.cases with f|⟨k,hk,b,v,es,e1,rfl,u,pb⟩|⟨k,hk,b,v,es,e1,rfl,u,pb⟩
  ·rcases f with⟨z,_⟩|⟨i,z,_⟩|⟨i,z,_⟩|⟨i,z,_⟩<;>cases z
  ·
   cases e1;have:=I.HA ha u;subst this;rw[wH pa pb fun x d e h1 y=>C m1 hm I h1 y]
  ·
   cases e1;exact(tK I ha u).elim
 ·
  rcases f.cases with f|⟨k,hk,b,v,es,e1,rfl,u,pb⟩|⟨k,hk,b,v,es,e1,rfl,u,pb⟩
  ·rcases f with⟨z,_⟩|⟨i,z,_⟩|⟨i,z,_⟩|⟨i,z,_⟩<;>cases z
  ·
   cases e1;exact(tK I u ha).elim
  ·
   cases e1;have:=I.EE ha u;subst this;rw[wH pa pb fun x d e h1 y=>C m1 hm I h1 y]
open Classical in
theorem yP {n:Nat} (r1:Vals xs its) (r2:Vals ys its2) (pa:Paired (Dn X.K H m) xs ds) (pb:Paired (Dn X.K H k) ys es) (I: ∀x y u v d e,RelV x u->RelV y v->Dn X.K H m x d->Dn X.K H k y e->SeqAt.EqAt A s u v (decide (d=e))):
  ∀j (h1:j<its.toArray.size) (C:j<its2.toArray.size),SeqAt.EqAt A s its.toArray[j] its2.toArray[j] (decide (ds[j]?=es[j]?)):=by
 intro j h1 C;have G:j<its.length:=‹_›;have O:j<its2.length:=‹_›;have l1:=r1.length;have l2:=r2.length;have i:xs[j]?=some xs[j]:=by simp
 have f:ys[j]?=some ys[j]:=by simp
 obtain⟨z,Z,pd⟩:=Paired.get pa i;obtain⟨e',P,pe⟩:=Paired.get pb f;obtain⟨F,U,ru⟩:=r1.get i;obtain⟨v',hv1,J⟩:=r2.get f;have e1:its.toArray[j]=F:=by
  simp_all
 have E:its2.toArray[j]=v':=by
  simp_all
 have e3:decide (ds[j]?=es[j]?)=decide (z=e'):=by
  simp_all
 rw[e1,E,e3];exact I _ _ _ _ _ _ ru J pd pe
open Classical in
theorem Ky (n:Nat): ∀{A:Around} {x y:V} {u v:Value} {d e:Dt},Inv X pins σ H s->A.units+n<cLine->RelV x u->RelV y v->Dn X.K H n x d->Dn X.K H n y e->SeqAt.EqAt A s u v (decide (d=e))/\∀a b,x = .ref a->y = .ref b->SeqAt.RcAt A s (.ref a) (.ref b) (decide (d=e)):=by
 induction n using Nat.strongRecOn with
 |_ n ih=>
 intro A x y u v d e I hu G E hx hy;have lift: ∀{a b:Addr},x = .ref a->y = .ref b->SeqAt.RcAt A s _ (.ref b) (decide (d=e))->SeqAt.EqAt A s (.ref a) (.ref b) (decide (d=e)):=fun{a b} ea eb q=>by
  by_cases hab:a=b
  ·
   subst hab;subst ea;subst eb;rw[decide_eq_true (XE n I hx hy)];exact SeqAt.EqAt.same _
  ·exact SeqAt.EqAt.of_refs hab q
 have f:A.units<cLine:=by lia
 rcases hx.cases with U|⟨m,hm,a,xs,ds,rfl,rfl,ha,pa⟩|⟨m,hm,a,xs,ds,rfl,rfl,ha,pa⟩
 ·
  rcases hy.cases with J|⟨k,hk,b,ys,es,rfl,rfl,O,pb⟩|⟨k,hk,b,ys,es,rfl,rfl,O,pb⟩
  ·
   refine⟨RV G E U J,fun a b e1 Z=>?_⟩;subst e1;rcases U with⟨z,_⟩|⟨i,z,_⟩|⟨i,z,_⟩|⟨i,z,_⟩<;>cases z
  ·
   cases E;obtain⟨F,_,p,_⟩:=I.list O;rcases U with⟨rfl,rfl⟩|⟨i,rfl,rfl⟩|⟨i,rfl,rfl⟩|⟨i,rfl,rfl⟩
   ·cases G;rw[decide_eq_false (fun z=>nomatch z)];exact⟨SeqAt.EqAt.none_list p.isList f,fun a b z=>nomatch z⟩
   ·obtain⟨t,rfl⟩:=G;rw[decide_eq_false (fun z=>nomatch z)];exact⟨SeqAt.EqAt.int_list _ _ p.isList f,fun a b z=>nomatch z⟩
   ·obtain⟨t,rfl⟩:=G;rw[decide_eq_false (fun z=>nomatch z)];exact⟨SeqAt.EqAt.str_list _ _ p.isList f,fun a b z=>nomatch z⟩
   ·cases G;rw[decide_eq_false (fun z=>nomatch z)];exact⟨SeqAt.EqAt.bool_list _ p.isList f,fun a b z=>nomatch z⟩
  ·
   cases E;obtain⟨F,_,p,_⟩:=I.tuple O;rcases U with⟨rfl,rfl⟩|⟨i,rfl,rfl⟩|⟨i,rfl,rfl⟩|⟨i,rfl,rfl⟩
   ·cases G;rw[decide_eq_false (fun z=>nomatch z)];exact⟨SeqAt.EqAt.none_tuple p f,fun a b z=>nomatch z⟩
   ·obtain⟨t,rfl⟩:=G;rw[decide_eq_false (fun z=>nomatch z)];exact⟨SeqAt.EqAt.int_tuple _ _ p f,fun a b z=>nomatch z⟩
   ·obtain⟨t,rfl⟩:=G;rw[decide_eq_false (fun z=>nomatch z)];exact⟨SeqAt.EqAt.str_tuple _ _ p f,fun a b z=>nomatch z⟩
   ·cases G;rw[decide_eq_false (fun z=>nomatch z)];exact⟨SeqAt.EqAt.bool_tuple _ p f,fun a b z=>nomatch z⟩
 ·
  cases G;obtain⟨F,r1,p,hz⟩:=I.list ha;rcases hy.cases with J|⟨k,hk,b,ys,es,rfl,rfl,O,pb⟩|⟨k,hk,b,ys,es,rfl,rfl,O,pb⟩
  ·
   rcases J with⟨rfl,rfl⟩|⟨i,rfl,rfl⟩|⟨i,rfl,rfl⟩|⟨i,rfl,rfl⟩
   ·cases E;rw[decide_eq_false (fun z=>nomatch z)];exact⟨SeqAt.EqAt.list_none p.isList f,fun a b _ z=>nomatch z⟩
   ·obtain⟨t,rfl⟩:=E;rw[decide_eq_false (fun z=>nomatch z)];exact⟨SeqAt.EqAt.list_int _ _ p.isList f,fun a b _ z=>nomatch z⟩
   ·obtain⟨t,rfl⟩:=E;rw[decide_eq_false (fun z=>nomatch z)];exact⟨SeqAt.EqAt.list_str _ _ p.isList f,fun a b _ z=>nomatch z⟩
   ·cases E;rw[decide_eq_false (fun z=>nomatch z)];exact⟨SeqAt.EqAt.list_bool _ p.isList f,fun a b _ z=>nomatch z⟩
  ·
   cases E;obtain⟨C,r2,P,hz2⟩:=I.list O;have l1:=r1.length;have l2:=r2.length;have l3:=Paired.length pa;have l4:=Paired.length pb;have eqd:decide (Dt.l ds=Dt.l es)=decide (ds=es):=by
    rw[Bool.eq_iff_iff,decide_eq_true_eq,decide_eq_true_eq];exact⟨fun q=>Dt.l.inj q,fun q=>by rw[q]⟩
   have rc:SeqAt.RcAt A s (.ref a) (.ref b) (decide (Dt.l ds=Dt.l es)):=by
    rw[eqd];by_cases hl:F.length=C.length
    ·have key:=SeqAt.RcAt.lists (e:=fun j=>decide (ds[j]?=es[j]?)) p.isList P.isList (by simpa using hl) f (yP (n:=n) r1 r2 pa pb fun x y u v d e G E h1 h2=>
      (ih (max m k) (by lia) (A:=A.in1) I (by show A.units+1+max m k<cLine;lia) G E (h1.up (Nat.le_max_left _ _)) (h2.up (Nat.le_max_right _ _))).1)
     rw[uY (by rw[List.size_toArray];lia) (by lia)] at key;exact key
    ·
     have hne:ds≠es:=fun q=>hl (by rw[q] at l3;lia);rw[decide_eq_false hne];exact SeqAt.RcAt.lists_lengths p.isList P.isList (JO hl) f
   exact⟨lift rfl rfl rc,fun a' b' e1 Z=>by cases e1;cases Z;exact rc⟩
  ·
   cases E;obtain⟨C,r2,P,_⟩:=I.tuple O;rw[decide_eq_false (fun z=>nomatch z)];exact⟨SeqAt.EqAt.list_tuple p.isList P f,fun a' b' e1 Z=>by cases e1;cases Z;exact SeqAt.RcAt.list_tuple p.isList P f⟩
 ·
  cases G;obtain⟨F,r1,p,hz⟩:=I.tuple ha;rcases hy.cases with J|⟨k,hk,b,ys,es,rfl,rfl,O,pb⟩|⟨k,hk,b,ys,es,rfl,rfl,O,pb⟩
  ·
   rcases J with⟨rfl,rfl⟩|⟨i,rfl,rfl⟩|⟨i,rfl,rfl⟩|⟨i,rfl,rfl⟩
   ·cases E;rw[decide_eq_false (fun z=>nomatch z)];exact⟨SeqAt.EqAt.tuple_none p f,fun a b _ z=>nomatch z⟩
   ·obtain⟨t,rfl⟩:=E;rw[decide_eq_false (fun z=>nomatch z)];exact⟨SeqAt.EqAt.tuple_int _ _ p f,fun a b _ z=>nomatch z⟩
   ·obtain⟨t,rfl⟩:=E;rw[decide_eq_false (fun z=>nomatch z)];exact⟨SeqAt.EqAt.tuple_str _ _ p f,fun a b _ z=>nomatch z⟩
   ·cases E;rw[decide_eq_false (fun z=>nomatch z)];exact⟨SeqAt.EqAt.tuple_bool _ p f,fun a b _ z=>nomatch z⟩
  ·
   cases E;obtain⟨C,r2,P,_⟩:=I.list O;rw[decide_eq_false (fun z=>nomatch z)];exact⟨SeqAt.EqAt.tuple_list p P.isList f,fun a' b' e1 Z=>by cases e1;cases Z;exact SeqAt.RcAt.tuple_list p P.isList f⟩
  ·
   cases E;obtain⟨C,r2,P,hz2⟩:=I.tuple O;have l1:=r1.length;have l2:=r2.length;have l3:=Paired.length pa;have l4:=Paired.length pb;have eqd:decide (Dt.t ds=Dt.t es)=decide (ds=es):=by
    rw[Bool.eq_iff_iff,decide_eq_true_eq,decide_eq_true_eq];exact⟨fun q=>Dt.t.inj q,fun q=>by rw[q]⟩
   have rc:SeqAt.RcAt A s (.ref a) (.ref b) (decide (Dt.t ds=Dt.t es)):=by
    rw[eqd];have key:=SeqAt.RcAt.tuples (e:=fun j=>decide (ds[j]?=es[j]?)) p P f (yP (n:=n) r1 r2 pa pb fun x y u v d e G E h1 h2=>
      (ih (max m k) (by lia) (A:=A.in1) I (by show A.units+1+max m k<cLine;lia) G E (h1.up (Nat.le_max_left _ _)) (h2.up (Nat.le_max_right _ _))).1)
    by_cases hl:F.length=C.length
    ·
     rw[show min F.toArray.size C.toArray.size=ds.length by rw[List.size_toArray,List.size_toArray];lia,uY rfl (by lia),show(F.toArray.size == C.toArray.size)=true by rw[List.size_toArray,List.size_toArray,beq_iff_eq];exact hl,Bool.and_true] at key;exact key
    ·
     have hne:ds≠es:=fun q=>hl (by rw[q] at l3;lia);rw[decide_eq_false hne];rw[show(F.toArray.size == C.toArray.size)=false by rw[List.size_toArray,List.size_toArray,beq_eq_false_iff_ne];exact hl,Bool.and_false] at key;exact key
   exact⟨lift rfl rfl rc,fun a' b' e1 Z=>by cases e1;cases Z;exact rc⟩
end
def Bi (K:W.Frag) (neg:Bool):R2:=fun x y H Q=>match x,y with
 | .ref a,.ref b=> ∃n d e,n<=60/\Dn K H n (.ref a) d/\Dn K H n (.ref b) e/\((d=e/\Q (.bl (!neg)) H)\/(d≠e/\Q (.bl neg) H))
 |x,y=>scal x y=true/\Q (.bl (if neg then !decide (x=y) else decide (x=y))) H
section
open Classical in
theorem U5 (m:X.A.units+64<cLine):iW X (compareOp .Eq) (Bi X.K false):=by
 intro j s σ H x y v u Q I f i h;unfold Bi at h;split at h
 ·
  obtain⟨n,d,e,hn,hd,he,q⟩:=h;obtain⟨_,rc⟩:=Ky n (A:=X.A) I (by lia) f i hd he;cases f;cases i;have:=rc _ _ rfl rfl;refine(this _ _ _ _ ?_);rcases q with⟨c,q⟩|⟨c,q⟩
  ·rw[decide_eq_true c];exact⟨.bl _,H,I,rfl,q⟩
  ·rw[decide_eq_false c];exact⟨.bl _,H,I,rfl,q⟩
 ·exact YI _ s σ H _ _ v u Q I f i ⟨h.1,by simp_all⟩
open Classical in
theorem UZ (hu:X.A.units+64<cLine):iW X (compareOp .NotEq) (Bi X.K true):=by
 intro F s σ H x y v u Q I Z ry h;unfold Bi at h;split at h
 ·
  rename_i a b;obtain⟨n,d,e,hn,hd,he,q⟩:=h;cases Z;cases ry;have C:X.A.units<cLine:=by lia
  have fin:SeqAt.RcNeAt _ s (.ref a) (.ref b) (!decide (d=e))->wpAny (model X.prog X.w) X.A (compareOp .NotEq (.ref a) (.ref b)) (EP X F σ Q) X.xe s:=fun rc=>by
   refine(rc X.prog X.w _ _ ?_:wpAny (model X.prog X.w) X.A (richCompare .NotEq _ _) (EP X F σ Q) X.xe s);rcases q with⟨c,q⟩|⟨c,q⟩
   ·rw[decide_eq_true c];exact⟨.bl false,H,I,rfl,q⟩
   ·rw[decide_eq_false c];exact⟨.bl true,H,I,rfl,q⟩
  apply fin;clear fin q;rcases hd.cases with hx'|⟨m,hm,a',xs,ds,e1,rfl,ha,pa⟩|⟨m,hm,a',xs,ds,e1,rfl,ha,pa⟩
  ·rcases hx' with⟨z,_⟩|⟨i,z,_⟩|⟨i,z,_⟩|⟨i,z,_⟩<;>cases z
  ·
   cases e1;obtain⟨E,r1,p,hz⟩:=I.list ha;rcases he.cases with O|⟨k,hk,b',ys,es,J,rfl,P,pb⟩|⟨k,hk,b',ys,es,J,rfl,P,pb⟩
   ·rcases O with⟨z,_⟩|⟨i,z,_⟩|⟨i,z,_⟩|⟨i,z,_⟩<;>cases z
   ·
    cases J;obtain⟨f,r2,G,hz2⟩:=I.list P;have l1:=r1.length;have l2:=r2.length;have l3:=Paired.length pa;have l4:=Paired.length pb;have U:decide (Dt.l ds=Dt.l es)=decide (ds=es):=by
     simp_all
    rw[U];by_cases hl:E.length=f.length
    ·have key:=SeqAt.RcNeAt.lists (e:=fun j=>decide (ds[j]?=es[j]?)) p.isList G.isList (‹_›) C (yP (n:=n) r1 r2 pa pb fun x y u v d e Z ry h1 h2=>
      (Ky (max m k) (A:=X.A.in1) I (by show X.A.units+1+max m k<cLine;lia) Z ry (h1.up (Nat.le_max_left _ _)) (h2.up (Nat.le_max_right _ _))).1)
     rw[uY (by simp_all) (by lia)] at key;exact key
    ·
     have hne:ds≠es:=fun q=>hl (by simp_all);rw[decide_eq_false hne];exact SeqAt.RcNeAt.lists_lengths p.isList G.isList (JO hl) C
   ·
    cases J;obtain⟨f,r2,G,_⟩:=I.tuple P;rw[decide_eq_false (fun z=>nomatch z)];exact SeqAt.RcNeAt.list_tuple p.isList G C
  ·
   cases e1;obtain⟨E,r1,p,hz⟩:=I.tuple ha;rcases he.cases with O|⟨k,hk,b',ys,es,J,rfl,P,pb⟩|⟨k,hk,b',ys,es,J,rfl,P,pb⟩
   ·rcases O with⟨z,_⟩|⟨i,z,_⟩|⟨i,z,_⟩|⟨i,z,_⟩<;>cases z
   ·
    cases J;obtain⟨f,r2,G,_⟩:=I.list P;rw[decide_eq_false (fun z=>nomatch z)];exact SeqAt.RcNeAt.tuple_list p G.isList C
   ·
    cases J;obtain⟨f,r2,G,hz2⟩:=I.tuple P;have l1:=r1.length;have l2:=r2.length;have l3:=Paired.length pa;have l4:=Paired.length pb;have U:decide (Dt.t ds=Dt.t es)=decide (ds=es):=by
     simp_all
    rw[U];have key:=SeqAt.RcNeAt.tuples (e:=fun j=>decide (ds[j]?=es[j]?)) p G C (yP (n:=n) r1 r2 pa pb fun x y u v d e Z ry h1 h2=>
      (Ky (max m k) (A:=X.A.in1) I (by show X.A.units+1+max m k<cLine;lia) Z ry (h1.up (Nat.le_max_left _ _)) (h2.up (Nat.le_max_right _ _))).1)
    by_cases hl:E.length=f.length
    ·
     rw[show min E.toArray.size f.toArray.size=ds.length by simp_all,uY rfl (by lia),show(E.toArray.size == f.toArray.size)=true by simp_all,Bool.and_true] at key;exact key
    ·grind
 ·exact YH F s σ H _ _ v u Q I Z ry ⟨h.1,by simp_all⟩
end
section
variable {K:W.Frag}
theorem bT (K:W.Frag) (h:X.K=K) (d:X.A.units+64<cLine):iW X (compareOp .Eq) (Bi K false):=h▸U5 d
theorem rl (K:W.Frag) (h:X.K=K) (d:X.A.units+64<cLine):iW X (compareOp .NotEq) (Bi K true):=h▸UZ d
theorem Hb:Bi K false (.int i) (.int j) H Q=Q (.bl (decide (i=j))) H:=by
 exact QT
theorem Nk:Bi K true (.int i) (.int j) H Q=Q (.bl (!decide (i=j))) H:=by
 exact QG
theorem NC:Bi K false (.str i) (.str j) H Q=Q (.bl (decide (i=j))) H:=by
 exact QR
theorem Nj:Bi K true (.str i) (.str j) H Q=Q (.bl (!decide (i=j))) H:=by
 exact QF
theorem dy:Dn K H n (.int i) (.int i):=Dn.up (n:=0) (.inr (.inl ⟨i,rfl,rfl⟩)) (Nat.zero_le _)
theorem t9:Dn K H n (.str z) (.str z):=Dn.up (n:=0) (.inr (.inr (.inl ⟨z,rfl,rfl⟩))) (Nat.zero_le _)
theorem afJ:Dn K H n (.bl b) (.int (if b then 1 else 0)):=Dn.up (n:=0) (.inr (.inr (.inr ⟨b,rfl,rfl⟩))) (Nat.zero_le _)
theorem xF (h:H a=some (.lst xs)) (p:Paired (Dn K H n) xs ds):Dn K H (n+1) (.ref a) (.l ds):= .inr (.inl ⟨a,xs,ds,rfl,rfl,cQ.of h,p⟩)
theorem pX (h:H a=some (.tup xs)) (p:Paired (Dn K H n) xs ds):Dn K H (n+1) (.ref a) (.t ds):= .inr (.inr ⟨a,xs,ds,rfl,rfl,dO.of h,p⟩)
end
theorem UQ (hc:X.calm=true) (h:Qc X es t) (hn:es.length=n) (f:es.any isStar=false) (I:Inv X pins σ H s) (v:cQ X.K H a xs) (hl:xs.length=n) (hw:t xs σ H Q):
  wpAny (model X.prog X.w) X.A (assign (.Tuple es k pos) X.env (.ref a)) (fun _ j=> ∃d H',Inv X pins d H' j/\Q d H') X.xe s:=by
 obtain⟨i,m,hp,y⟩:=I.list v;refine wpAny_bind (wpAny_standAt ?_);unfold unpack;rw[show(assignEach es _).length=i.toArray.size by rw[oX,hn,<-hl,List.size_toArray,m.length],j9 f];refine wpAny_bind (wpAny_holding (W.kun_itemsOf (I.ok.hd hc) hp.isList fun x hx=>?_));have u:=I.kept (t':=s.toks) fun b o e=>hx b o (Nat.ne_of_lt (Heap.lt_size e)) e;exact h _ _ σ H xs _ Q u (‹_›) hw
def gOx (K:W.Frag) (n:Nat) (t:Ui) (a:Addr) (σ:St) (H:Hp) (Q:St->Hp->Prop):Option HO->Prop
 |some (.tup xs)=>xs.length=n/\t xs σ H Q
 |some (.lst xs)=>xs.length=n/\t xs σ H Q
 |_=> ∃xs,dO K H a xs/\xs.length=n/\t xs σ H Q
def O_ (K:W.Frag) (n:Nat) (t:Ui):TG:=fun v σ H Q=>match v with
 | .ref a=>gOx K n t a σ H Q (H a)
 |_=>False
theorem Mj {K:W.Frag}:O_ K n t (.ref a) σ H Q=gOx K n t a σ H Q (H a):=rfl
theorem RO {K:W.Frag}:gOx K n t a σ H Q (some (.tup xs))=(xs.length=n/\t xs σ H Q):=rfl
theorem Ka (K:W.Frag) (f:X.K=K) (hc:X.calm=true) (hh:Qc X es u) (hn:es.length=n:=by rfl) (h:es.any isStar=false:=by rfl):PG X (.Tuple es j pos) (O_ K n u):=by
 intro d s σ H v w Q I r q;unfold O_ at q;split at q
 ·
  rename_i a;unfold gOx at q;split at q
  ·rename_i xs e;exact Kb K f hc hh hn h _ s σ H _ w Q I r ⟨a,xs,rfl,dO.of e,q⟩
  ·
   rename_i xs e;obtain rfl:w=Value.ref a:=r;exact UQ hc hh hn h I (cQ.of e) q.1 q.2
  ·obtain⟨xs,h1,i⟩:=q;exact Kb K f hc hh hn h _ s σ H _ w Q I r ⟨a,xs,rfl,h1,i⟩
 ·trivial
structure QA (X:Cx) (es:List Expr) (t:TA):Prop where
 h:PA X es t
section
theorem my:QA X [] Io:=⟨aw⟩
theorem gY (ha:QE X e te) (d:QA X es t) (h:isStar e=false:=by rfl):QA X (e::es) (EG te t):=⟨aE ha.h d.h h⟩
theorem CD (h:QA X es t):QE X (.Tuple es k pos) (Up t):=⟨cI h.h⟩
theorem wC (h:QA X es t):QE X (.List es pos) (Uu t):=⟨jt h.h⟩
theorem NI (h:QE X e te):QS X (.Return (some e) pos) (Ur te):=⟨aK h.h⟩
theorem Hd (h:PT X e t) (ha:MC X a ta) (d:MC X b tb):QS X (.If e a b pos) (Qr t ta tb):=⟨bI h ha.h d.h⟩
theorem yc:MC X [] JM:=⟨aZ⟩
end
def FD:V->List V->Hp->VK->Prop:=fun x vs H Q=>match x,vs with
 | .str z,[.str y]=> ∃i r,Builtin.Str.occurrences z y 0 z.length 1=i::r/\Q (.int (i:Nat)) H
 |_,_=>False
noncomputable def Rq (z:Str) (i:Int):Str:=if i<=z.length then z else Builtin.Str.padded z 0 (i.toNat - z.length) 32
def IG:V->List V->Hp->VK->Prop:=fun x vs H Q=>match x,vs with
 | .str z,[.int i]=>(0<=i/\i<=1000)/\(Rq z i).length<=sizeLine/\Q (.str (Rq z i)) H
 |_,_=>False
section
theorem LP:P2 X "str.index" FD:=by
 intro d s σ H x vs v us Q I m f h;unfold FD at h;split at h
 ·
  obtain⟨i,r,e,h⟩:=h;obtain⟨t,rfl⟩:=m;cases f with
  |cons r1 j=>
  cases j;obtain⟨t',rfl⟩:=r1;exact call_gives F.slot_str_index (typeIs_str s _ t) F.entry_str_index (F.args_str_index_2 _ _) (gives_str_index _ _ t t' i r e) ((⟨.int _,H,I.tok _,⟨_,rfl⟩,h⟩))
 ·trivial
theorem N2:P2 X "str.ljust" IG:=by
 intro d s σ H x vs v us Q I m f h;unfold IG at h;split at h
 ·
  rename_i z i;obtain⟨⟨y,u⟩,hl,h⟩:=h;obtain⟨t,rfl⟩:=m;cases f with
  |cons r1 j=>
  cases j;obtain⟨t',rfl⟩:=r1;refine call_gives F.slot_str_ljust (typeIs_str s _ t) F.entry_str_ljust (F.args_str_ljust_2 _ _) (gives_str_ljust z i t t' ?_ ?_) ?_
  ·lia
  ·
   unfold Builtin.Str.tooLong sizeLine;exact decide_eq_false (by lia)
  ·
   unfold Rq at h hl;split
   ·rename_i c;rw[if_pos c] at h;exact((⟨.str _,H,I,⟨_,rfl⟩,h⟩))
   ·rename_i c;rw[if_neg c] at h hl;exact⟨hl,((⟨.str _,H,I.tok _,⟨_,rfl⟩,h⟩))⟩
 ·trivial
end
theorem GQ {d:Array Value} {x:Value} {e:Nat->Bool} {prog:Program} {w:World} {A:Around} {E:Value->Shared->Prop} {j:Nat} {f:Nat->Option Fin×Unit->Sem (ForInStep (Option Fin×Unit))}
    (hf:f
            = fun i _=>match d[i]? with
            |
              some y=>do
              let b<-eqBool y x
              if b=true then do
                  let r<-retInt ↑i
                  pure (ForInStep.done (some r,()))
                else pure (ForInStep.yield (none,()))
            |_=>pure (ForInStep.yield (none,())))
    (v:j<d.size) (hit:e j=true) (u: ∀m,m<j->e m=false): ∀(k i:Nat) (s:Shared) (Q:Option Fin×Unit->Shared->Prop),i+k=d.size->i<=j->
    (∀m (hm:m<d.size),SeqAt.EqAt A s d[m] x (e m))->
    Q (some (.done (.ret (.int j s.toks))),()) {s with toks:=s.toks+1}->wpAny (model prog w) A (forIn (List.range' i k) ((none:Option Fin),()) f) Q E s
  |0,i,s,Q,h1,h2,_,_=>absurd h1 (by lia)
  |
    k+1,i,s,Q,h1,h2,he,hq=>by
    have hi:i<d.size:=by lia
    rw[List.range'_succ,List.forIn_cons];refine wpAny_bind ?_;rw[hf];dsimp only;rw[(Array.getElem?_eq_getElem hi)];refine wpAny_bind (he i hi _ w _ _ ?_);by_cases c:i=j
    ·
      subst c;rw[hit];refine wpAny_bind ?_;exact wpAny_bind (wpAny_mkInt (wpAny_pure (wpAny_pure (wpAny_pure hq))))
    ·
      rw[u i (by lia)];refine wpAny_pure ?_;rw[<-hf];exact GQ hf v hit u k _ s Q (by lia) (by lia) he hq
theorem tix {e:Nat->Bool} (f:s.heap.get? t=some o) (hd:o.data = .seq its n) (i:j<its.size) (hit:e j=true) (d: ∀m,m<j->e m=false) (he: ∀m (hm:m<its.size),SeqAt.EqAt A s its[m] x (e m)) (u:Q (.done (.ret (.int j s.toks))) {s with toks:=s.toks+1}):wpAny (model prog w) A (Builtin.«tuple.index» ⟨[.ref t,x],[]⟩) Q E s:=by
 refine wpAny_bind (wpAny_of_eq (rfl) ?_);refine wpAny_bind (wpAny_bind (wpAny_seqItems f hd (wpAny_pure ?_)));refine wpAny_bind (wpAny_pure (wpAny_bind (wpAny_pure ?_)));refine wpAny_bind ?_;rw[Nat.min_self,Std.Legacy.Range.forIn_eq_forIn_range'];have sz: [:its.size].size=its.size:=by simp_all
 rw[sz];exact GQ rfl i hit d _ 0 s _ (by lia) (Nat.zero_le _) he (wpAny_pure u)
def HE (d:List Str) (y:Str) (j:Nat):Prop:=d[j]?=some y/\∀m,m<j->d[m]?≠some y
def B9 (K:W.Frag):V->List V->Hp->VK->Prop:=fun x vs H Q=>match x,vs with
 | .ref p,[.str y]=> ∃d:List Str,dO K H p (d.map V.str)/\∃j,HE d y j/\Q (.int (j:Nat)) H
 |_,_=>False
theorem GI: ∀{f:List Str} {d:List Value},Vals (f.map V.str) d->d.length=f.length/\∀m (h:m<d.length) y,f[m]?=some y->∃t,d[m] = .str y t
 | [],_,.nil=>⟨rfl,fun m h=>absurd h (by simp)⟩
 |z::f,_,.cons r rr=>by
  obtain⟨h1,i⟩:=GI rr;refine⟨by simp_all,fun m h y e=>?_⟩;cases m with
  |zero=>cases e;obtain⟨t,rfl⟩:=r;exact⟨t,rfl⟩
  |succ m=>exact i m (by simpa using h) y e
section
theorem Mb (f:Vals (ss.map V.str) its) (h:HE ss y j):
  j<its.toArray.size/\(decide (ss[j]?=some y))=true/\(∀m,m<j->(decide (ss[m]?=some y))=false)/\∀m (hm:m<its.toArray.size),SeqAt.EqAt A s its.toArray[m] (.str y u) (decide (ss[m]?=some y)):=by
 obtain⟨l1,l2⟩:=GI f;have x:=(List.getElem?_eq_some_iff.mp h.1).1;refine⟨by simp_all,decide_eq_true h.1,fun m hm=>decide_eq_false (h.2 m hm),fun m hm=>?_⟩;have i:m<its.length:=by trivial
 have hs:ss[m]?=some _:=List.getElem?_eq_getElem (by lia);obtain⟨t,e⟩:=l2 m _ _ hs;have d:its.toArray[m] = .str _ t:=‹_›;have v:decide (ss[m]?=some y)=(ss[m] == y):=by
  lia
 rw[d,v];exact SeqAt.EqAt.str_str _ _ _ _
theorem LO:P2 X "tuple.index" (B9 X.K):=by
 intro f s σ H x vs v us Q I C m h;unfold B9 at h;split at h
 ·
  rename_i p y;obtain⟨Z,G,j,i,h⟩:=h;obtain rfl:v=Value.ref p:=C;obtain⟨u,rfl,J⟩:=Vals.one m;obtain⟨t,rfl⟩:=J;obtain⟨P,r,⟨o,d,hc,n,hd⟩,U⟩:=I.tuple G;obtain⟨f1,O,E,z⟩:=Mb r i;exact wpAny_call (codeAny_call_builtin F.slot_tuple_index.plain F.entry_tuple_index (F.slot_tuple_index.check _ _ _ _ _ _ _ _ ⟨o,d,hc⟩ (F.args_tuple_index_2 _ _) (tix d hd f1 O E z ((⟨.int _,H,I.tok _,⟨_,rfl⟩,h⟩)))))
 ·trivial
end
def rJoin (K:W.Frag):V->List V->Hp->VK->Prop:=fun x vs H Q=>match x,vs with
 | .str z,[.ref p]=> ∃d:List Str,cQ K H p (d.map V.str)/\(d.map (·.length)).sum+d.length*z.length<=1000000/\Q (.str (Txt.join z d)) H
 |_,_=>False
theorem EB: ∀{f:List Str} {d:List Value},Vals (f.map V.str) d->StrsAre d f
 | [],_,.nil=> .nil
 |_::_,_,.cons r rr=>by
  obtain⟨t,rfl⟩:=r;exact .cons _ _ (EB rr)
theorem Rl:P2 X "str.join" (rJoin X.K):=by
 intro d s σ H x vs v us Q I i f h;unfold rJoin at h;split at h
 ·
  rename_i z p;obtain⟨E,j,hl,h⟩:=h;obtain⟨t,rfl⟩:=i;obtain⟨u,rfl,m⟩:=Vals.one f;obtain rfl:u=Value.ref p:=m;obtain⟨y,r,pl,C⟩:=I.list j;refine join_list pl.isList (by simpa using EB r) (by lia) fun t' k=>((⟨.str _,H,I.tok _,⟨_,rfl⟩,h⟩))
 ·trivial
section
variable {K:W.Frag}
theorem Ha:FD (.str z) [.str y] H Q= ∃i r,Builtin.Str.occurrences z y 0 z.length 1=i::r/\Q (.int (i:Nat)) H:=rfl
theorem IF:IG (.str z) [.int i] H Q=((0<=i/\i<=1000)/\(Rq z i).length<=sizeLine/\Q (.str (Rq z i)) H):=rfl
theorem G_:B9 K (.ref p) [.str y] H Q= ∃d:List Str,dO K H p (d.map V.str)/\∃j,HE d y j/\Q (.int (j:Nat)) H:=rfl
theorem Lq:rJoin K (.str z) [.ref p] H Q= ∃d:List Str,cQ K H p (d.map V.str)/\(d.map (·.length)).sum+d.length*z.length<=1000000/\Q (.str (Txt.join z d)) H:=rfl
end
section
variable {X:Cx} (K:W.Frag)
theorem I0 (h:X.K=K):P2 X "tuple.index" (B9 K):=h▸LO
theorem N3 (h:X.K=K):P2 X "str.join" (rJoin K):=h▸Rl
end
def yY (K:W.Frag) (C:Addr):Prop:=W.findIn K (.ref C) "__init__" = some (some (.builtin "object.__init__"))
theorem N0 {K:W.Frag} (h:W.findIn K (.ref C) "__init__" = some (some (.builtin "object.__init__"))):yY K C:=h
def Yg (C:Addr):TE:=fun _ H Q=> ∀x dx,H x=none->H dx=none->dx≠x->Q (.ref x) (upd (upd H dx (.own x)) x (.ins C dx []))
section
theorem mE (c:eZ X.K X.mg x C) (j:yY X.K C) (hg:Gl X x) (d:(x == ("__debug__" : Str))=false:=by decide):PE X (.Call (.Name x p) [] [] pos) (Yg C):=by
 intro f s σ H Q I h;refine wpAny_Call_Name_kw (lS I hg c.TR ?_ d);have m:=h (s.heap.objs.size+1) s.heap.objs.size (I.hok.fresh (Nat.le_succ _)) (I.hok.fresh (Nat.le_refl _)) (Nat.ne_of_lt (Nat.lt_succ_self _));have i:=Inv.made (C:=C) I;refine W.callWith_K0 (first:=[]) I.nK c.kp (wpAny_call (LW I.nK c.mks j (fun self=>W.Looks.of_pure (W.oi_bind self)) ?_))
 have Y:=W.makes_of (M:=model X.prog X.w) I.nK c.mks;have hx:((s.heap.push W.emptyDict).push (W.instObj C s.heap.objs.size)).get? (s.heap.objs.size+1)=some (W.instObj C s.heap.objs.size):=by heap_get
 have t1:W.Looks (model X.prog X.w) ((s.heap.push W.emptyDict).push (W.instObj C s.heap.objs.size)) (typeOf (.ref (s.heap.objs.size+1))) (.ref C):=(W.Looks.ld hx).andThen .now;have t2:W.Looks (model X.prog X.w) ((s.heap.push W.emptyDict).push (W.instObj C s.heap.objs.size)) (isInstance (.ref (s.heap.objs.size+1)) (.type "object")) true:=t1.andThen (Y.top.keeps fun b o e=>Heap.get?_push_of_some _ (Heap.get?_push_of_some _ e));refine codeAny_call_builtin W.oi_plain W.entry_oi (@W.check_slot (model X.prog X.w) _ _ _ "object.__init__" "object" "__init__" (.ref (s.heap.objs.size+1)) [] [] _ W.oi_kind W.oi_split t2 (W.oi_args (.ref (s.heap.objs.size+1))) ?_);rw[W.oi_run];exact wpAny_pure (And.intro rfl ⟨.ref _,_,i,rfl,m⟩)
def Ez (P:Program) (w:World) (K:W.Frag) (mg:Str->Option Value) (base:Heap) (f:Ie) (m:Str) (n:Nat) (sp:Sp):Prop:= ∀x H Q E,sp [x] H Q E->
 ∃a C dx fs k i d,x = .ref a/\H a=some (.ins C dx fs)/\fs.lookup m=none/\k<=n/\Uj K C/\DJ P w K mg base f C m k i d/\d [.ref a] H Q E
def MK (sp:Sp) (E:XK) (d:TE):TE:=fun σ H Q=>d σ H fun x f=>sp [x] f Q E
theorem Kc (he:PE X o ta) (G:Ez X.prog X.w X.K X.mg X.base CX m k sp) (J:dz n X.A) (hk:k<=n) (hp:Passes CX X E) (ht:eval (.Call (.Attribute o m apos) [] [] pos) X.env=(do
   let ov<-eval o X.env
   standAt apos.atName
   let (f,first)<-holding [ov] (getMethod ov m pl)
   callWith pos f first (backTo pos (starEach [] X.env)) (backToKw pos (keywordEach [] X.env)))):
  PE X (.Call (.Attribute o m apos) [] [] pos) (MK sp E ta):=by
 intro d s σ H Q I h;refine W.methodCall_KW (pl:=pl) (iY (he d s σ H _ I h) fun u s1 x U j y q=>?_) ht;obtain⟨a,C,dx,fs,P,Z,v,rfl,z,l,i,c,⟨f,O,F,hm,b⟩,q⟩:=G _ _ _ _ q;obtain rfl:u=Value.ref a:=y;refine ot j z c hm l ?_;exact W.callWith_K0 (first:=[.ref a]) j.nK hm.kp (Fy (us:=[.ref a]) (vs:=[.ref a]) F (J.mono (Nat.le_trans i hk)) b .nil hp j (.cons rfl .nil) q)
theorem wD [Quiet CX] (he:PE X o ta) (G:Ez X.prog X.w X.K X.mg X.base CX m k sp) (d:dz n X.A) (hk:k<=n) (ht:eval (.Call (.Attribute o m apos) [] [] pos) X.env=(do
   let ov<-eval o X.env
   standAt apos.atName
   let (f,first)<-holding [ov] (getMethod ov m pl)
   callWith pos f first (backTo pos (starEach [] X.env)) (backToKw pos (keywordEach [] X.env))):=by rfl):
  PE X (.Call (.Attribute o m apos) [] [] pos) (MK sp E0 ta):=Kc he G d hk (Quiet.pass X) ht
theorem Kd (he:PE X o ta) (G:Ez X.prog X.w X.K X.mg X.base (Ig X.prog X.w) m k sp) (d:dz n X.A) (hk:k<=n) (i:Rz X E) (hex:X.ex= []) (ht:eval (.Call (.Attribute o m apos) [] [] pos) X.env=(do
   let ov<-eval o X.env
   standAt apos.atName
   let (f,first)<-holding [ov] (getMethod ov m pl)
   callWith pos f first (backTo pos (starEach [] X.env)) (backToKw pos (keywordEach [] X.env))):=by rfl):
  PE X (.Call (.Attribute o m apos) [] [] pos) (MK sp E ta):=Kc he G d hk (i.passes hex) ht
end
structure akd (K:W.Frag) (D:Addr):Prop where
 hg:W.plainGet K D "__class__" = true
 hd:W.hasDictIn K D=true
 ha:W.findIn K (.ref D) "__class__" = some (some (.builtin "object.__class__"))
 hn:W.specialIn K (.builtin "object.__class__") "__get__" = some (some (.builtin "getset_descriptor.__get__"))
 htk:W.takesIn K (.builtin "object.__class__")=some true
 hm:W.mroIn K D (.type "object")=some true
theorem af8 {K:W.Frag} (a:W.plainGet K D "__class__" = true) (b:W.hasDictIn K D=true) (c:W.findIn K (.ref D) "__class__" = some (some (.builtin "object.__class__"))) (d:W.specialIn K (.builtin "object.__class__") "__get__" = some (some (.builtin "getset_descriptor.__get__"))) (e:W.takesIn K (.builtin "object.__class__")=some true) (f:W.mroIn K D (.type "object")=some true):akd K D:=⟨a,b,c,d,e,f⟩
section
theorem Uy {K:W.Frag} {R:Addr} {cd:ClassData} (X:K.In s.heap) (hx:s.heap.get? x=some ⟨.ref C,some dx,.fields vs,#[]⟩) (hn:s.heap.Ns1 dx m) (hw:PySem.Within m ns) (hl:ns.length<1000) (hc:W.clsIn K C=some cd) (hm:cd.mro = .ref C :: .ref R::Ff) (hd:cd.hasDict=true) (hs:W.findIn K (.ref C) "__setattr__" = some (some (.builtin "object.__setattr__"))) (ha:W.findIn K (.ref C) name=some none) (h: ∀d t',d.Ns1 dx (fun y=>if y=name then some v else m y)->(∀b o,b≠dx->s.heap.get? b=some o->d.get? b=some o)->Q () {s with heap:=d,toks:=t'}):
  wpAny (model prog w) A (setAttr (.ref x) name v) Q E s:=by
 obtain⟨od,es,U,i,_⟩:=id hn;have I:W.InstAt s.heap x ⟨.ref C,some dx,.fields vs,#[]⟩ C (some od):=⟨hx,rfl,rfl,i⟩;have F:=PySem.F.store_object;have lc:W.Looks (model prog w) s.heap (classData C) cd:=W.looks_clsIn X hc;have sub:W.Looks (model prog w) s.heap (isInstance (.ref x) (.type "object")) true:=I.type.andThen (W.looks_mroIn X (by unfold W.mroIn;rw[hc,Option.bind_some,hm];rfl));have mro:W.Looks (model prog w) s.heap (mroOf (.ref C)) cd.mro:=lc.andThen .now;refine W.set_plain X I hs ?_;refine codeAny_call_builtin F.slot.plain F.entry ?_;refine @W.check_slot (model prog w) _ _ {s with toks:=s.toks+1} "object.__setattr__" "object" "__setattr__" (.ref x) [.str name s.toks,v] [] _ F.kind F.split sub (F.args (.ref x) (.str name s.toks) v) ?_;rw[W.osa_eq,refuse_eq];refine wpAny_bind (wpAny_bind (I.type.here (s:={s with toks:=s.toks+1}) (wpAny_bind (mro.here (s:={s with toks:=s.toks+1}) ?_))));rw[hm,refuseLoop_ref,refuseLoop_ref,PySem.F.store_ValueError.passes];refine wpAny_pure (wpAny_bind (I.type.here (s:={s with toks:=s.toks+1}) (wpAny_bind ((W.looks_findIn X ha).here (s:={s with toks:=s.toks+1}) (wpAny_bind (wpAny_pure ?_))))));refine wpAny_bind (wpAny_pure (wpAny_bind (wpAny_bind (wpAny_loadPart (s:={s with toks:=s.toks+1}) hx (wpAny_bind (lc.here (s:={s with toks:=s.toks+1}) ?_))))));rw[hd,if_neg (by decide)];refine wpAny_pure ?_;show wpAny _ _ (Builtin.ObjectAttr.storeInDict dx (.str name s.toks) name v) _ _ _;unfold Builtin.ObjectAttr.storeInDict Builtin.ObjectAttr.newKeyGuard;refine wpAny_bind (wpAny_pure (wpAny_bind (wpAny_nsSet1 (s:={s with toks:=s.toks+1}) hn fun d z O=>?_)));obtain⟨P,G,H,f,u,j⟩:=z.count (PySem.Within.cons name v hw);refine wpAny_bind (wpAny_lookBehind f (by rw[u];exact pastItsLine_dict (Nat.le_trans j (by rw[List.length_cons,sizeLine_eq];lia))) ?_);exact wpAny_pure (h d _ z fun b o ne J=>(O.2 b ne).trans J)
end
section
theorem Hx: ∀{fs:List (Str×V)} {g:Str} {y:V},fs.lookup g=some y->g∈fs.map (·.1)
 | [],_,_,h=>by cases h
 |(k,z)::fs,g,y,h=>by
  simp only[List.lookup] at h;split at h
  ·
   rename_i e;rw[beq_iff_eq.mp e];exact List.mem_cons_self
  ·exact List.mem_cons_of_mem _ (Hx h)
theorem Hy: ∀{fs:List (Str×V)} {f g:Str} {y:V},fs.lookup f=none->(fs++ [(f,y)]).lookup g=if g=f then some y else fs.lookup g
 | [],f,g,y,_=>by
  show List.lookup g [(f,y)]=_;by_cases c:g=f
  ·rw[if_pos c,c];simp[List.lookup]
  ·
   have:(g == f)=false:=beq_eq_false_iff_ne.mpr c;rw[if_neg c];simp[List.lookup,this]
 |(k,z)::fs,f,g,y,h=>by
  simp only[List.lookup] at h;split at h
  ·cases h
  ·
   rename_i e;have d:=Hy (g:=g) (y:=y) h;show List.lookup g ((k,z)::(fs++ [(f,y)]))=_;simp only[List.lookup];split
   ·
    rename_i i;have:g≠f:=fun q=>by
     rw[<-q,i] at e;cases e
    rw[if_neg this]
   ·exact d
theorem Inv.Yn {m:Str->Option Value} (I:Inv X pins σ H s) (j:H dx=some (.xd fs)) (hf:fs.lookup f=none) (x: ∀g,sQ (fs.lookup g) (m g)) (hn:i.Ns1 dx (fun z=>if z=f then some u else m z)) (k: ∀b o,b≠dx->s.heap.get? b=some o->i.get? b=some o) (C:RelV y u):
  Inv X pins σ (upd H dx (.xd (fs++ [(f,y)]))) {s with heap:=i,toks:=t'}:=by
 have ne: ∀{b:Addr} {o:HO},H b=some o->(∀v,o≠ .xd v)->b≠dx:=fun{b o} q n z=>by
  subst z;rw[j] at q;injection q with q;exact n _ q.symm
 have fr: ∀b,H b=none->b≠dx:=fun b q z=>by rw[z,j] at q;cases q
 obtain⟨od,_,_,d,_⟩:=id hn;refine I.un (t':=t') ⟨fun b o q n _ _=>k b o (fr b n) q,fun b o q n _ _=>⟨o.slots,k b o (fr b n) q⟩,fun b o q n _=>?_,fun b o q _=>?_,fun b xs q=>?_,fun b o u q=>?_,fun b E q=>⟨#[],?_⟩⟩ fun b o q=>?_
 ·rw[aj (fr b n)];exact n
 ·
  by_cases z:b=dx
  ·exact⟨_,z▸d⟩
  ·exact⟨o,k b o z q⟩
 ·rw[aj (ne q (by simp))];exact q
 ·rw[aj (ne q (by simp))];exact q
 ·rw[aj (ne q (by simp)),q];simp
 ·
  by_cases z:b=dx
  ·
   subst z;rw[aq] at q;cases q;refine⟨_,hn,fun g=>?_⟩;rw[Hy hf];by_cases c:g=f
   ·
    rw[if_pos c,if_pos c];exact C
   ·
    rw[if_neg c,if_neg c];exact x g
  ·
   rw[aj z] at q;refine(I.hok b o q).stay (fun c u hc g=>?_) (fun c g=>by rw[aj (ne g (by simp))];exact g) fun c xs g=>by rw[aj (ne g (by simp))];exact g
   rcases hc with r|r
   ·exact k c u (r▸z) g
   ·exact k c u (ne r (by simp)) g
end
def M9 (C:Addr) (j m:TE) (f:Str):TS:=fun D σ H=>m σ H fun y i=>j σ i fun x d=> ∃e,x = .ref e/\∃dx fs,d e=some (.ext (uT e C (some dx)))/\d dx=some (.xd fs)/\fs.lookup f=none/\fs.length<1000/\D.nx σ (upd d dx (.xd (fs++ [(f,y)])))
section
theorem NK {R:Addr} (c:Uh X.K X.mg x C R) (m:GC X.K C f) (ha:PE X o ta) (F:PE X value tv) (hs:oq value=false:=by rfl):PS X (.Assign [.Attribute o f pos'] value pos) (M9 C ta tv f):=by
 intro d s σ H D I h;obtain⟨ini,c⟩:=c;obtain⟨cd,hc,hm,hd⟩:=c.cd;refine plainObj_wpAny_Assign_Attribute (iY (F d s σ H _ I h) fun u s1 y G J ry q=>thn (ha d s1 σ G _ J q) fun Z s2 ⟨x,E,i,O,e,ex,dx,fs,U,v,hf,hl,q2⟩=>?_) (nQ hs);subst ex;obtain rfl:Z=Value.ref e:=O;obtain⟨⟨vs,he,v1,v2⟩,_⟩:=i.hok e _ U;obtain⟨mA,hn,j⟩:=(show dN X.prog X.w E s2.heap dx (.xd fs) from i.hok dx _ v);refine Uy i.nK he hn (ns:=fs.map (·.1)) (fun g hg=>?_) (by rw[List.length_map];exact hl) hc hm hd m.sa m.no fun h' t' z P=>⟨σ,_,i.Yn v hf j z P ry,q2⟩;have:=j g;cases e1:fs.lookup g with
 |some y=>exact Hx e1
 |none=>
  rw[e1] at this;exact absurd (sQ.none_of this) hg
end
def tHn (K:W.Frag) (C:Addr) (th:TS) (f:TH):TH:=fun D σ cls dx H=>RE (isx K cls C) (∀d,H d=none->th D σ (upd H d (.ext (Mm d cls dx)))) (f D σ cls dx H)
section
theorem NO {X:Cx} {K:W.Frag} {x:Str} {C:Addr} {U pos:Pos} {i:Stmt} {body:List Stmt} {rest:List ExceptHandler} {th:TS} {G:TH} (hK:X.K=K) (m:yV X.K X.mg x C) (hg:Gl X x)
  (hs: ∀e,Cj (X.hand e) (i::body) th) (Z:PH X rest G) (E:(x == ("__debug__" : Str))=false:=by decide):PH X (.ExceptHandler (some (.Name x U)) none (i::body) pos::rest) (tHn K C th G):=by
 subst hK;intro O s σ H D y cls dx T I hx J h;have ok:=I.ok;have P:Inv (X.hand (.ref y)) _ σ _ s:=I.hand;obtain⟨oe,vs,he,hc,_⟩:=id hx;refine wpAny_handleBy_cons (codeAny_handlers_test (lS P hg m.TR ?_ E)) (by intro q;cases q);unfold tHn at h;cases F:isx _ _ C with
 |none=>rw[F] at h;exact h.elim
 |some b=>
  rw[F] at h;refine xmatch I.nK he m (by rw[hc];exact F) ?_;cases b with
  |false=>exact Z _ s σ H D y _ dx T I hx J h
  |true=>
   refine codeAny_handlers_suite (HK hx ?_);refine wpAny_mono (hs _ _ s _ _ _ P (h y J)) (fun f s2 q=>?_) fun _ _ z=>z.elim;cases f with
   |next=>obtain⟨d,H',j,q⟩:=q;exact⟨d,H',j.unhand ok,q⟩
   |brk=>obtain⟨d,H',j,q⟩:=q;exact⟨d,H',j.unhand ok,q⟩
   |cont=>obtain⟨d,H',j,q⟩:=q;exact⟨d,H',j.unhand ok,q⟩
   |ret u=>obtain⟨v,d,H',j,r,q⟩:=q;exact⟨v,d,H',j.unhand ok,r,q⟩
end
section
theorem Ke (he:PE X o ta) (c:eZ X.K X.mg x C) (G:DJ X.prog X.w X.K X.mg X.base CX C m k ps sp) (y:dz n X.A) (hk:k<=n) (hx:Ia CX X σ0 E) (ht:eval (.Call (.Attribute o m apos) [] [] pos) X.env=(do
   let ov<-eval o X.env
   standAt apos.atName
   let (f,first)<-holding [ov] (getMethod ov m pl)
   callWith pos f first (backTo pos (starEach [] X.env)) (backToKw pos (keywordEach [] X.env))):=by rfl):
  PE X (.Call (.Attribute o m apos) [] [] pos) (Us σ0 C m sp E ta Io):=by
 obtain⟨f,J,F,hm,b⟩:=G;intro i s σ H Q I ⟨hσ,h⟩;subst hσ;refine W.methodCall_KW (iY (he _ s σ H _ I h) fun u s1 x O d j z=>?_) ht;obtain⟨a,ex,dx,fs,v,l,q⟩:=FC z;subst ex;obtain rfl:u=Value.ref a:=j;refine ot d v c.cl hm l ?_;exact W.callWith_K0 d.nK hm.kp (Fx (vs:=[.ref a]) F (y.mono hk) b hx d (.cons rfl .nil) q)
end
def Nt (K:W.Frag):List V->Hp->VK->Prop:=fun xs H Q=>match xs with
 | [.ref p,.ty "tuple"]=>(∃d,dO K H p d)/\Q (.bl true) H
 |xs=>G9 K xs H Q
theorem Lr {K:W.Frag}:Nt K [.ref p,.ty "tuple"] H Q=((∃d,dO K H p d)/\Q (.bl true) H):=rfl
theorem E6 (K:W.Frag) (f:X.K=K):b9 X (.builtin "isinstance") (Nt K):=by
 intro d s σ H xs us Q I rs q;unfold Nt at q;split at q
 ·
  rename_i p;subst f;obtain⟨⟨x,j⟩,q⟩:=q;obtain⟨u,c,rfl,m,rc⟩:=vals2 rs;obtain rfl:u=Value.ref p:=m;obtain rfl:c=Value.type _:=rc;obtain⟨v,r,⟨o,h1,i,_⟩,y⟩:=I.tuple j;exact W.kia_one W.kitx_tuple I.nK ⟨o,h1,i⟩ (Vc _) (fun z=>nomatch z) fun tk=>⟨.bl _,H,I.tok tk,rfl,q⟩
 ·exact AL K f _ s σ H _ us Q I rs q
noncomputable def anyS:List (Option Bool)->Option Bool
 | []=>some false
 |some true::_=>some true
 |some false::r=>anyS r
 |none::_=>none
structure X_ (K:W.Frag) (C:Addr):Prop where
 ty:W.typeIn K (.ref C)=some (.type "type")
 ex:W.mroIn K C (.type "BaseException")=some true
theorem yV.c {K:W.Frag} (m:yV K mg x C):X_ K C:=⟨m.ty,m.ex⟩
section
variable {K:W.Frag}
theorem X_.exc (m:X_ K C) (X:K.In s.heap) (h:Q true s):wpAny (model prog w) A (isExcClass (.ref C)) Q E s:=by
 have d:W.Looks (model prog w) _ _ _:=W.looks_mroIn X m.ex;have L2:W.Looks (model prog w) s.heap (isType (.ref C)) true:=by
  have z:=m.ex;obtain⟨cd,hc,_⟩:=Option.bind_eq_some_iff.mp z;unfold W.clsIn at hc;split at hc
  ·
   rename_i f;intro j u v i k q;exact wpAny_bind (wpAny_loadPart (k _ _ (X _ _ f)) (wpAny_pure q))
  ·cases hc
 refine wpAny_bind (L2.here ?_);exact d.here h
theorem L8 {s:Shared} (X:K.In s.heap) (d:isx K cls C=some b):W.Looks (model prog w) s.heap (isSubtype cls (.ref C)) b:=by
 unfold isx at d;split at d
 ·exact W.looks_mroIn X d
 ·cases d
theorem Kw {g:Value->Sem (ForInStep PUnit)} (X:K.In s.heap): ∀{Cs:List Addr},(∀C∈Cs,X_ K C)->Q ⟨⟩ s->
  wpAny (model prog w) A (forIn (Cs.map Value.ref) PUnit.unit fun c _=>isExcClass c >>= fun y=>if(!y)=true then g c else pure (ForInStep.yield PUnit.unit)) Q E s
 | [],_,h=>by
  exact wpAny_pure h
 |C::Cs,hm,h=>by
  rw[List.map_cons,List.forIn_cons];refine wpAny_bind (wpAny_bind ((hm C (List.mem_cons_self ..)).exc X ?_));refine wpAny_pure ?_;exact Kw X (fun D hD=>hm D (List.mem_cons_of_mem _ hD)) h
theorem JN (X:K.In s.heap): ∀{Cs:List Addr},anyS (Cs.map (isx K cls))=some b->Q (if b then some true else none,()) s->
  wpAny (model prog w) A (forIn (Cs.map Value.ref) ((none,()):Option Bool×Unit) fun c _=>isSubtype cls c >>= fun y=>if y=true then pure (ForInStep.done (some true,())) else pure (ForInStep.yield (none,()))) Q E s
 | [],e,h=>by
  cases e;exact wpAny_pure h
 |C::Cs,e,h=>by
  rw[List.map_cons] at e;rw[List.map_cons,List.forIn_cons];cases e1:isx K _ C with
  |none=>rw[e1] at e;cases e
  |some c=>
   rw[e1] at e;refine wpAny_bind (wpAny_bind ((L8 X e1).here ?_));cases c with
   |true=>
    cases e;exact wpAny_pure (wpAny_pure h)
   |false=>
    refine wpAny_pure ?_;exact JN X e h
theorem Qe {Cs:List Addr} (X:K.In s.heap) (he:s.heap.get? e=some oe) (ht:s.heap.get? t=some ⟨.type "tuple",none,.seq (Cs.map Value.ref).toArray n,#[]⟩) (hm: ∀C∈Cs,X_ K C) (d:anyS (Cs.map (isx K oe.cls))=some b) (h:Q b s):
  wpAny (model prog w) A (excMatches (.ref e) (.ref t)) Q E s:=by
 have f:W.Looks (model prog w) s.heap (isInstance (.ref t) (.type "tuple")) true:=((W.Looks.ld ht).andThen .now).andThen (W.Looks.of_pure (rfl));have i:W.Looks (model prog w) s.heap (typeOf (.ref e)) oe.cls:=(W.Looks.ld he).andThen .now;refine wpAny_bind (f.here ?_);refine wpAny_bind (wpAny_seqItems ht rfl ?_);refine wpAny_bind (wpAny_pure ?_);refine wpAny_bind ?_;refine Kw (Cs:=Cs) X hm ?_;refine wpAny_bind (i.here ?_);refine wpAny_bind (JN (Cs:=Cs) X d ?_);cases b with
 |true=>exact wpAny_pure h
 |false=>exact wpAny_pure h
end
def NmL (X:Cx) (es:List Expr) (Cs:List Addr):Prop:=(∀C∈Cs,X_ X.K C)/\∀(e:Value) (pos:Pos) (d:List (Addr×Obj)) (s:Shared) (σ:St) (H:Hp) (Q:List Value->Shared->Prop) (E:Value->Shared->Prop),
 Inv (X.hand e) d σ H s->Q (Cs.map Value.ref) s->wpAny (model X.prog X.w) (X.hand e).A (spliced (backTo pos (starEach es X.env))) Q E s
section
theorem U9:NmL X [] []:=⟨(fun _ h=>nomatch h),fun _ _ _ _ _ _ _ _ _ h=>Calls.spliced_nil h⟩
theorem F5 (m:yV X.K X.mg x C) (hg:Gl X x) (f:NmL X es Cs) (d:(x == ("__debug__" : Str))=false:=by decide):NmL X (.Name x np::es) (C::Cs):=by
 refine⟨fun D hD=>?_,fun e pos i s σ H Q E I h=>?_⟩
 ·
  rcases List.mem_cons.mp hD with rfl|hD
  ·exact m.c
  ·exact f.1 D hD
 ·
  refine Calls.spliced_cons (lS I hg m.TR ?_ d);exact f.2 e _ _ s σ H _ E I h
def tHt (K:W.Frag) (Cs:List Addr) (th:TS) (f:TH):TH:=fun D σ cls dx H=> ∀t,H t=none->RE (anyS (Cs.map (isx K cls))) (∀d,upd H t (.tup (Cs.map V.ref)) d=none->th D σ (upd (upd H t (.tup (Cs.map V.ref))) d (.ext (Mm d cls dx)))) (f D σ cls dx (upd H t (.tup (Cs.map V.ref))))
theorem MH (h:a≠b):upd (upd H a o) b u=upd (upd H b u) a o:=by
 funext c;by_cases c1:c=b
 ·subst c1;rw[aq,aj (Ne.symm h),aq]
 ·
  rw[aj c1];by_cases d:c=a
  ·subst d;rw[aq,aq]
  ·rw[aj d,aj d,aj c1]
theorem EL: ∀{Cs:List Addr},Vals (Cs.map V.ref) (Cs.map Value.ref)
 | []=> .nil
 |_::_=> .cons rfl EL
theorem UO {X:Cx} {K:W.Frag} {es:List Expr} {Cs:List Addr} {j:_} {np pos:Pos} {i:Stmt} {body:List Stmt} {rest:List ExceptHandler} {th:TS} {tr:TH} (hK:X.K=K) (hn:NmL X es Cs) (hz:Cs.length<=100)
  (hs: ∀e,Cj (X.hand e) (i::body) th) (hr:PH X rest tr):PH X (.ExceptHandler (some (.Tuple es j np)) none (i::body) pos::rest) (tHt K Cs th tr):=by
 subst hK;intro pins s σ H D y cls dx T I hx hH h;have ok:=I.ok;have Ih:Inv (X.hand (.ref y)) _ σ _ s:=I.hand;obtain⟨oe,vs,he,hc,G⟩:=id hx;have hsz:Cs.length<=sizeLine:=by rw[sizeLine_eq];lia
 have x:=Heap.lt_size he;have nt:=Nat.ne_of_gt x;have fr:=I.hok.fresh (Nat.le_refl _);have J:=by rw[aj nt] at fr;exact fr
 refine wpAny_handleBy_cons (codeAny_handlers_test (wpAny_Tuple_spliced (hn.2 _ _ _ s σ _ _ _ Ih ⟨by simp_all,?_⟩))) (by intro q;cases q);have kp: ∀b u,s.heap.get? b=some u->(s.heap.push {cls:= .type "tuple",data:= .seq (Cs.map Value.ref).toArray}).get? b=some u:=fun b u e=>Heap.get?_push_of_some _ e;have F:Inv X _ σ (upd _ _ (.tup _)) {s with heap:=s.heap.push _,toks:=s.toks}:=
  I.laid kp (Nat.le_refl _) ⟨by simp_all,_,EL,⟨_,Heap.get?_push_size _ rfl,rfl,_,rfl⟩⟩
 rw[MH (Ne.symm nt)] at F;have E:P5 (s.heap.push {cls:= .type "tuple",data:= .seq (Cs.map Value.ref).toArray}) y cls dx (some T):=by
  obtain⟨Z,O,P,hv,hT,oT,ts,h1,h2,h3⟩:=G;exact⟨oe,vs,kp _ _ he,hc,Z,O,P,hv,hT,oT,ts,kp _ _ h1,h2,h3⟩
 have C:upd H s.heap.objs.size (.tup (Cs.map V.ref)) y=none:=by rw[aj (Ne.symm nt)];exact hH
 replace h:=h _ J;cases hb:anyS _ with
 |none=>rw[hb] at h;exact h.elim
 |some b=>
  rw[hb] at h;refine Qe F.nK (kp _ _ he) (Heap.get?_push_size _ rfl) hn.1 (by rw[hc];exact hb) ?_;cases b with
  |false=>exact hr _ _ σ _ D y _ dx T F E C h
  |true=>
   have U:Inv (X.hand (.ref y)) _ σ _ _:=F.hand;refine codeAny_handlers_suite (HK E ?_);refine wpAny_mono (hs _ _ _ _ _ _ U (h y C)) (fun f s2 q=>?_) fun _ _ z=>z.elim;cases f with
   |next=>obtain⟨d,H',m,q⟩:=q;exact⟨d,H',m.unhand ok,q⟩
   |brk=>obtain⟨d,H',m,q⟩:=q;exact⟨d,H',m.unhand ok,q⟩
   |cont=>obtain⟨d,H',m,q⟩:=q;exact⟨d,H',m.unhand ok,q⟩
   |ret u=>obtain⟨v,d,H',m,r,q⟩:=q;exact⟨v,d,H',m.unhand ok,r,q⟩
end
theorem XT {os:List (Option Bool)}:anyS (some true::os)=some true:=rfl
theorem XU {os:List (Option Bool)}:anyS (some false::os)=anyS os:=rfl
def QN (K:W.Frag):R2:=fun x y H Q=>match x,y with
 | .non,.ref p=> ∃(n:Nat) (as:List Addr) (ds:List Dt),n<=60/\cQ K H p (as.map V.ref)/\Paired (Dn K H n) (as.map V.ref) ds/\Q (.bl false) H
 |_,_=>False
theorem Cn: ∀{cs:List Addr} {d:List Value},Vals (cs.map V.ref) d->d=cs.map Value.ref
 | [],_,h=>by cases h;rfl
 |_::_,_,h=>by
  cases h with
  |cons a b=>cases a;rw[Cn b];rfl
theorem afI {K:W.Frag} (h:Dn K H n (.ref a) d):d≠ .non:=by
 rcases h.cases with h|⟨_,_,_,_,_,_,rfl,_⟩|⟨_,_,_,_,_,_,rfl,_⟩
 ·rcases h with⟨e,_⟩|⟨_,e,_⟩|⟨_,e,_⟩|⟨_,e,_⟩<;>cases e
 ·simp_all
 ·simp_all
section
open Classical in
theorem U3 (O:X.A.units+64<cLine):iW X (compareOp .In) (QN X.K):=by
 intro j s σ H x y v u Q I m F h;unfold QN at h;split at h;rotate_left
 ·trivial
 obtain⟨n,as,ds,hn,C,z,q⟩:=h;cases m;cases F;obtain⟨E,r,pl,P⟩:=I.list C;have G:=Cn r;refine SeqAt.in_listAt (fun v=>false) pl.isList (fun w hw=>?_) ⟨.bl _,H,I,rfl,?_⟩
 ·
  have f:w∈as.map Value.ref:=by simp_all
  obtain⟨a,ha,rfl⟩:=List.mem_map.mp f;obtain⟨i,hi⟩:=List.getElem?_of_mem ha;obtain⟨J,U,d⟩:=Paired.get z (show(as.map _)[i]?=some (.ref a) by simp_all);have eq:=(Ky n (A:=X.A.in1) I (by lia) (show RelV (.ref a) _ from rfl) (show RelV .non _ from rfl) d (Dn.up (n:=0) (.inl ⟨rfl,rfl⟩) (Nat.zero_le n))).1;rw[decide_eq_false (afI d)] at eq;exact eq
 ·grind
theorem Ra (K:W.Frag) (h:X.K=K) (d:X.A.units+64<cLine):iW X (compareOp .In) (QN K):=h▸U3 d
theorem Nv {K:W.Frag}:QN K .non (.ref p) H Q= ∃(n:Nat) (as:List Addr) (ds:List Dt),n<=60/\cQ K H p (as.map V.ref)/\Paired (Dn K H n) (as.map V.ref) ds/\Q (.bl false) H:=rfl
end
end L2
namespace WaysM
noncomputable def nsp (a A b B m:Int):Int×Int:=low (3*b*A+((a - m*A).natAbs:Int)*B) (4*(A*B))
noncomputable def nsm (a A m:Int):Int×Int:=low (3*a+m*A) (4*A)
structure St (n:Nat) (P S D a A b B:Int):Prop where
 p:P=4 ^ n
 s0:0<=S
 s1:S<=1000000*P
 d0:0<=D
 d1:D<=2000000*P
 sa:a*P=S*A
 db:b*(2*P)=D*B
 a0:0<=a
 b0:0<=b
 pa: ∃i,A=2 ^ i
 pb: ∃j,B=2 ^ j
 oa: ¬(a % 2=0/\A % 2=0)
 ob: ¬(b % 2=0/\B % 2=0)
theorem two_pos (i:Nat):(0:Int)<2 ^ i:=by
 have:((2 ^ i:Nat):Int)=2 ^ i:=rfl;have:=Nat.two_pow_pos i;lia
theorem Pd (i:Nat):(0:Int)<4 ^ i:=by
 have:((4 ^ i:Nat):Int)=4 ^ i:=rfl;have:0<4 ^ i:=Nat.pow_pos (by decide);lia
theorem St.A0 (h:St n P S D a A b B):0<A:=by obtain⟨i,e⟩:=h.pa;rw[e];exact two_pos i
theorem St.B0 (h:St n P S D a A b B):0<B:=by obtain⟨i,e⟩:=h.pb;rw[e];exact two_pos i
theorem St.P0 (h:St n P S D a A b B):0<P:=by rw[h.p];exact Pd n
theorem xX {D:Int} (i:B=2 ^ j) (h:b*2 ^ k=D*B) (o: ¬(b % 2=0/\B % 2=0)):B<=2 ^ k:=by
 by_cases m:j<=k
 ·
  rw[i];obtain⟨d,rfl⟩:=Nat.exists_eq_add_of_le m;have h1:=by have:=two_pos d;omega
  have f:=two_pos j;rw[Int.pow_add];have:=Int.mul_le_mul_of_nonneg_left h1 (Int.le_of_lt f);lia
 ·
  exfalso;obtain⟨d,rfl⟩:=Nat.exists_eq_add_of_le (show k+1<=j by lia);apply o;have e:(2:Int) ^ (k+1+d)=2 ^ k*(2*2 ^ d):=by rw[Int.pow_add,Int.pow_succ,Int.mul_assoc]
  rw[i,e] at h;have f:b=D*(2*2 ^ d):=by
   apply Int.eq_of_mul_eq_mul_left (Int.ne_of_gt (two_pos k));rw[Int.mul_comm,h];rw[Int.mul_left_comm]
  constructor
  ·rw[f,Int.mul_left_comm];exact Int.mul_emod_right _ _
  ·rw[i,e,Int.mul_left_comm];exact Int.mul_emod_right _ _
theorem yz (n:Nat):(4:Int) ^ n=2 ^ (2*n):=by rw[Int.pow_mul];rfl
theorem St.A1 (h:St n P S D a A b B):A<=P:=by
 obtain⟨i,e⟩:=h.pa;have h1:=h.sa;rw[h.p,yz] at h1;rw[h.p,yz];exact xX e h1 h.oa
theorem St.B1 (h:St n P S D a A b B):B<=2*P:=by
 obtain⟨i,e⟩:=h.pb;have h1:=h.db;have d:2*P=2 ^ (2*n+1):=by rw[h.p,yz];lia
 rw[d] at h1⊢;exact xX e h1 h.ob
theorem St.a1 (h:St n P S D a A b B):a<=S:=by
 have h1:=Int.mul_le_mul_of_nonneg_left h.A1 h.s0;rw[<-h.sa] at h1;exact Int.le_of_mul_le_mul_right h1 h.P0
theorem St.b1 (h:St n P S D a A b B):b<=D:=by
 have h1:=Int.mul_le_mul_of_nonneg_left h.B1 h.d0;rw[<-h.db] at h1;exact Int.le_of_mul_le_mul_right h1 (by have:=h.P0;lia)
theorem cancel {y:Int} (hs:0<s) (h:s*x=s*y):x=y:=Int.eq_of_mul_eq_mul_left (Int.ne_of_gt hs) h
theorem St.first (h0:0<=m) (h1:m<=1000000):St 0 1 m m m 1 (low m 2).1 (low m 2).2:=by
 obtain⟨s,L⟩:=qt (b:=2) h0 (by decide);obtain⟨j,_,d⟩:=tw 1 s _ L.s0 L.b0 (by simpa using L.bb);refine⟨rfl,h0,‹_›,h0,by lia,rfl,?_,h0,L.t0,⟨0,rfl⟩,⟨j,d⟩,by lia,L.od⟩;have e1:=L.tt;have f:=L.bb;generalize(low m 2).1=t at*
 generalize(low m 2).2=b at*
 rw[e1] at*
 grind
theorem St.step (h:St n P S D a A b B) (h0:0<=m) (h1:m<=1000000):
  St (n+1) (4*P) (3*S+m*P) (3*D+2*((S - m*P).natAbs:Int)) (nsm a A m).1 (nsm a A m).2 (nsp a A b B m).1 (nsp a A b B m).2:=by
 have A0:=h.A0;have B0:=h.B0;have P0:=h.P0;have a0:=h.a0;have b0:=h.b0;have sa:=h.sa;have db:=h.db;have s0:=h.s0;have s1:=h.s1;have d0:=h.d0;have d1:=h.d1;have Z:=Int.mul_nonneg h0 (Int.le_of_lt A0);have X:=Int.mul_nonneg h0 (Int.le_of_lt P0);have H:=Int.mul_le_mul_of_nonneg_right h1 (Int.le_of_lt P0);have O:=Int.mul_pos A0 B0;have U:=Int.mul_nonneg b0 (Int.le_of_lt A0);have J:=Int.mul_nonneg (Int.natCast_nonneg (a - m*A).natAbs) (Int.le_of_lt B0);obtain⟨s,L⟩:=qt (t:=3*a+m*A) (b:=4*A) (by lia) (by lia);obtain⟨r,M⟩:=qt (t:=3*b*A+((a - m*A).natAbs:Int)*B) (b:=4*(A*B)) (by lia) (by lia);obtain⟨i,z⟩:=h.pa;obtain⟨j,C⟩:=h.pb;have I:(2:Int) ^ (i+2)=s*(nsm a A m).2:=by
  refine Eq.trans ?_ L.bb;rw[z,Int.pow_add,Int.mul_comm];rfl
 have E:(2:Int) ^ (i+j+2)=r*(nsp a A b B m).2:=by
  refine Eq.trans ?_ M.bb;rw[z,C,<-Int.pow_add,Int.pow_add _ _ 2,Int.mul_comm];rfl
 obtain⟨F,_,d⟩:=tw _ _ _ L.s0 L.b0 I;obtain⟨G,_,v⟩:=tw _ _ _ M.s0 M.b0 E;refine⟨by rw[h.p,Int.pow_succ,Int.mul_comm],by lia,by lia,by lia,by lia,?_,?_,L.t0,M.t0,⟨F,d⟩,⟨G,v⟩,L.od,M.od⟩
 ·
  apply cancel L.s0;have e1:=L.tt;have f:=L.bb;unfold nsm;generalize(low (3*a+m*A) (4*A)).1=t at*
  generalize(low (3*a+m*A) (4*A)).2=u at*
  have k1:s*(t*(4*P))=(3*a+m*A)*(4*P):=by rw[e1];grind
  have k2:s*((3*S+m*P)*u)=(3*S+m*P)*(4*A):=by rw[f];grind
  rw[k1,k2];have:(3*a+m*A)*(4*P)=12*(a*P)+4*(m*A*P):=by grind
  rw[this,sa]
  grind
 ·
  apply cancel M.s0;have e1:=M.tt;have f:=M.bb;unfold nsp;have ab:((a - m*A).natAbs:Int)*P=((S - m*P).natAbs:Int)*A:=by
   have q1:((a - m*A)*P).natAbs=((S - m*P)*A).natAbs:=by
    have:(a - m*A)*P=(S - m*P)*A:=by
     rw[Int.sub_mul,Int.sub_mul,sa];grind
    rw[this]
   rw[Int.natAbs_mul,Int.natAbs_mul] at q1;have q2:((P.natAbs:Nat):Int)=P:=by lia
   have q3:((A.natAbs:Nat):Int)=A:=by lia
   have q4:(((a - m*A).natAbs*P.natAbs:Nat):Int)=(((S - m*P).natAbs*A.natAbs:Nat):Int):=by rw[q1]
   rw[Int.natCast_mul,Int.natCast_mul,q2,q3] at q4;exact q4
  generalize((a - m*A).natAbs:Int)=x at*
  generalize((S - m*P).natAbs:Int)=y at*
  generalize(low (3*b*A+x*B) (4*(A*B))).1=t at*
  generalize(low (3*b*A+x*B) (4*(A*B))).2=u at*
  have k1:r*(t*(2*(4*P)))=(3*b*A+x*B)*(2*(4*P)):=by rw[e1];grind
  have k2:r*((3*D+2*y)*u)=(3*D+2*y)*(4*(A*B)):=by rw[f];grind
  rw[k1,k2];have:(3*b*A+x*B)*(2*(4*P))=12*A*(b*(2*P))+8*B*(x*P):=by grind
  rw[this,db,ab]
  grind
end WaysM
namespace FrameM
open PySem L2 Com
noncomputable def xN:List V:=[.str "bare",.str "signs",.str "begin",.str "end",.str "ask"]
noncomputable def kC:Str:=" !\"#$&'()*+,-./0123456789:;<=>?@ABCDEFGHIJKLMNOPQRSTUVWXYZ[\\]^_`abcdefghijklmnopqrstuvwxyz{|}~"
noncomputable def N5:Str:=(" !\"#$&'()*+,-./0123456789:;<=>?@ABCDEFGHIJKLMNOPQRSTUVWXYZ[\\]^_`" : Str)++("abcdefghijklmnopqrstuvwxyz{|}~" : Str)
theorem af9:N5=kC:=by decide+kernel
noncomputable def MB (x:V):Bool:=match x with
 | .str i=>!(Builtin.Str.occurrences kC i 0 kC.length 1).isEmpty
 |_=>false
noncomputable def d6 (v l h:Int):Bool:=decide (l<=v)&&decide (v<=h)
noncomputable def pO (k d:Str):Bool:=if k = "signs" then(decide (1<=d.length)&&decide (d.length<=4)&&(eA d).all MB) else decide (d = "")
noncomputable def cD (k:Str) (n a r:Int) (hs:List Int) (d:Str):Bool:=
 Cd (.str k) xN&&d6 n 0 (if Cd (.str k) [.str "bare",.str "ask"]=true then 0 else 63)&&d6 a 0 63&&d6 r 0 16&&Held.dH 0 hs&&pO k d
def sj (H:Hp) (t:Addr) (k:Str) (n a r:Int) (hs:List Int) (d:Str):Prop:=
 ∃h,H t=some (.tup [.str k,.int n,.int a,.int r,.ref h,.str d])/\H h=some (.tup (hs.map V.int))/\hs.length<=1000/\d.length<=1000
theorem zK {x y:Nat} (h:y<2 ^ k):Builtin.bitOr ((x:Int)*2 ^ k) (y:Int)=((x*2 ^ k+y:Nat):Int):=by
 have e:(x)*2 ^ k=((x*2 ^ k:Nat):Int):=rfl;rw[e,BitI.FK,RemM.yj h]
theorem YF {x y:Nat} (h:y<64):Builtin.bitOr ((x:Int)*64) (y:Int)=((x*64+y:Nat):Int):=zK (k:=6) h
theorem ago {x y:Nat} (h:y<32):Builtin.bitOr ((x:Int)*32) (y:Int)=((x*32+y:Nat):Int):=zK (k:=5) h
theorem or8 {x y:Nat} (h:y<8):Builtin.bitOr ((x:Int)*8) (y:Int)=((x*8+y:Nat):Int):=zK (k:=3) h
theorem YG {x y:Nat} (h:y<128):Builtin.bitOr ((x:Int)*128) (y:Int)=((x*128+y:Nat):Int):=zK (k:=7) h
theorem Q8 {x y:Nat} (h:y<32768):Builtin.bitOr ((x:Int)*32768) (y:Int)=((x*32768+y:Nat):Int):=zK (k:=15) h
theorem agp {x y:Nat} (h:y<268435456):Builtin.bitOr ((x:Int)*268435456) (y:Int)=((x*268435456+y:Nat):Int):=zK (k:=28) h
noncomputable def kinds:List Str:=["bare","signs","begin","end","ask"]
noncomputable def kidx (k:Str):Nat:=kinds.idxOf k
theorem L0 (h:Cd (.str k) xN=true):k∈kinds:=by
 unfold Cd xN at h;simp only[List.any_cons,List.any_nil,Bool.or_false,Bool.or_eq_true,Qa,beq_iff_eq] at h;unfold kinds;rcases h with h|h|h|h|h<;>simp[h]
theorem F9 (h:Cd (.str k) xN=true):HE kinds k (kidx k)/\kidx k<5:=by
 have hm:=L0 h;have e: ∀z∈kinds,HE kinds z (kidx z)/\kidx z<5:=by
  intro z u;have d: ∀i:_root_.Fin 5,kinds[kidx (kinds.getD i "")]?=some (kinds.getD i "")/\kidx (kinds.getD i "")=i.val/\∀m:_root_.Fin 5,m.val<i.val->kinds[m.val]?≠some (kinds.getD i ""):=by trivial
  obtain⟨i,hi,rfl⟩:=List.mem_iff_getElem.mp u;have j:i<5:=hi;have e1:kinds.getD i "" = kinds[i]:=by rw[List.getD_eq_getElem?_getD,List.getElem?_eq_getElem hi];rfl
  have f:=d ⟨i,j⟩;simp only[e1] at f;refine⟨⟨f.1,fun m hm=>f.2.2 ⟨m,by lia⟩ (by lia)⟩,by lia⟩
 exact e k hm
noncomputable def fU (hs:List Int):Nat:=(hs.map fun h=>2 ^ (h - 1).toNat).sum
theorem EY: ∀hs:List Int,(hs.map fun h=>(1:Int)*2 ^ (h - 1).toNat).sum=(fU hs:Nat)
 | []=>rfl
 |x::xs=>by
  have d:=EY xs;unfold fU at d⊢;rw[List.map_cons,List.sum_cons,d];simp
theorem HG: ∀{hs:List Int} {l:Nat},Held.dH (l:Int) hs=true->l<=15->fU hs+2 ^ l<=32768
 | [],l,_,hl=>by
  have:(2) ^ l<=2 ^ 15:=Nat.pow_le_pow_right (by decide) hl;unfold fU;simpa using this
 |x::xs,l,h,hl=>by
  unfold Held.dH at h;rw[Bool.and_eq_true,Bool.and_eq_true,decide_eq_true_eq,decide_eq_true_eq] at h;obtain⟨⟨h1,f⟩,d⟩:=h;obtain⟨j,rfl⟩: ∃j:Nat,x=(j)+1:=⟨(x - 1).toNat,by lia⟩;have i:=HG (l:=j+1) (‹_›) (by lia);have e:fU (((j)+1)::xs)=2 ^ j+fU xs:=by
   unfold fU;rw[List.map_cons,List.sum_cons];congr 2;lia
  have p:(2) ^ l<=2 ^ j:=Nat.pow_le_pow_right (by decide) (by lia);lia
noncomputable def sgl:List Nat:=kC.cps.toList
theorem JQ:sgl.length=94:=by decide+kernel
noncomputable def sgn (c:Nat):Nat:=sgl.idxOf c
theorem Rj: ∀j:_root_.Fin 94,Builtin.Str.occurrences kC ⟨#[sgl.getD j 0]⟩ 0 kC.length 1= [sgn (sgl.getD j 0)]/\sgn (sgl.getD j 0)=j.val:=by decide+kernel
theorem pq (h:c∈sgl):Builtin.Str.occurrences kC ⟨#[c]⟩ 0 kC.length 1= [sgn c]/\sgn c<94/\sgl[sgn c]?=some c:=by
 obtain⟨i,hi,rfl⟩:=List.mem_iff_getElem.mp h;have f:i<94:=‹_›;have e1:sgl.getD i 0=sgl[i]:=by rw[List.getD_eq_getElem?_getD,List.getElem?_eq_getElem hi];rfl
 have d:=Rj ⟨i,f⟩;simp only[e1] at d;have m:=d.2;refine⟨d.1,by lia,?_⟩;generalize sgn sgl[i]=j at m;subst m;exact List.getElem?_eq_getElem hi
theorem RC (h:MB (.str ⟨#[c]⟩)=true):c∈sgl:=by
 have d:(!(Builtin.Str.occurrences _ _ 0 _ 1).isEmpty)=true:=h;rw[StrLaws.found_one,decide_eq_true_eq] at d;exact d
theorem MZ:32∈sgl:=by decide+kernel
noncomputable def DR (b:Nat) (cs:List Nat):Nat:=cs.foldl (fun b c=>b*128+sgn c) b
theorem K9:DR b (cs++ [c])=DR b cs*128+sgn c:=by unfold DR;rw[List.foldl_append];rfl
theorem GZ: ∀(cs:List Nat) (b:Nat),(∀c∈cs,c∈sgl)->DR b cs<(b+1)*128 ^ cs.length
 | [],b,_=>by show b<(b+1)*1;lia
 |c::cs,b,h=>by
  have i:=GZ cs (b*128+sgn c) fun c hc=>h c (List.mem_cons_of_mem _ hc);have s:=(pq (h c (by simp))).2.1;rw[List.length_cons,Nat.pow_succ,Nat.mul_comm _ 128,<-Nat.mul_assoc];exact Nat.lt_of_lt_of_le i (Nat.mul_le_mul_right _ (by lia))
theorem JP (h: ∀c∈cs,c∈sgl):DR 0 cs<128 ^ cs.length:=by
 have:=GZ cs 0 h;lia
noncomputable def vj (d:Str):List Nat:=d.cps.toList++List.replicate (4 - d.length) 32
noncomputable def K8 (d:Str):Nat:=DR 0 (vj d)
theorem aeH (h:sg.length<=4):(Rq sg 4).cps.toList=vj sg/\(Rq sg 4).length=4:=by
 unfold Rq vj;have hl:sg.cps.toList.length=sg.length:=rfl;by_cases c:(4:Int)<=sg.length
 ·
  rw[if_pos c];have:4 - sg.length=0:=by lia
  rw[this];exact⟨by simp,by lia⟩
 ·
  rw[if_neg c];unfold Builtin.Str.padded;refine⟨?_,?_⟩
  ·simp
  ·
   have e: ∀z:Str,z.length=z.cps.toList.length:=fun z=>rfl;rw[e];simp;have:=hl;simp at this;lia
noncomputable def KN (ki n a r h len s:Nat):Nat:=(((((ki*2 ^ 6+n)*2 ^ 6+a)*2 ^ 5+r)*2 ^ 15+h)*2 ^ 3+len)*2 ^ 28+s
noncomputable def fV (k:Str) (n a r:Int) (hs:List Int) (d:Str):Nat:=KN (kidx k) n.toNat a.toNat r.toNat (fU hs) d.length (K8 d)
noncomputable def iw (k:Str) (n a r:Int) (hs:List Int) (d:Str):Nat:=fV k n a r hs d*256 |||Rem.R (fV k n a r hs d*256)
structure sk (k:Str) (n a r:Int) (hs:List Int) (sg:Str):Prop where
 hk:Cd (.str k) xN=true
 n0:0<=n/\n<=63
 a0:0<=a/\a<=63
 r0:0<=r/\r<=16
 hh:Held.dH 0 hs=true
 hl:sg.length<=4
 hs: ∀c∈sg.cps.toList,c∈sgl
theorem ye (h:cD k n a r hs sg=true):sk k n a r hs sg:=by
 unfold cD d6 at h;simp only[Bool.and_eq_true,decide_eq_true_eq] at h;obtain⟨⟨⟨⟨⟨h1,j⟩,i⟩,u⟩,m⟩,d⟩:=h;have f:sg.length<=4/\∀c∈sg.cps.toList,c∈sgl:=by
  unfold pO at d;split at d
  ·
   simp only[Bool.and_eq_true,decide_eq_true_eq] at d;refine⟨d.1.2,fun c hc=>?_⟩;have:=List.all_eq_true.mp d.2 _ (List.mem_map.mpr ⟨c,hc,rfl⟩);exact RC this
  ·
   rw[decide_eq_true_eq] at d;subst d;exact⟨by decide,by decide⟩
 exact⟨h1,⟨j.1,by lia⟩,i,u,m,f.1,f.2⟩
theorem sk.pad {hs:List Int} (p:sk k n a r hs sg):(∀c∈vj sg,c∈sgl)/\(vj sg).length=4:=by
 refine⟨fun c hc=>?_,?_⟩
 ·
  rcases List.mem_append.mp hc with h|h
  ·exact p.hs c h
  ·rw[(List.mem_replicate.mp h).2];exact MZ
 ·
  unfold vj;have hl:sg.cps.toList.length=sg.length:=rfl;rw[List.length_append,List.length_replicate,hl];have:=p.hl;lia
structure Jz (ki n a r h len s:Nat):Prop where
 ki:ki<8
 n:n<64
 a:a<64
 r:r<32
 h:h<32768
 len:len<8
 s:s<268435456
theorem sk.parts {hs:List Int} (p:sk k n a r hs sg):Jz (kidx k) n.toNat a.toNat r.toNat (fU hs) sg.length (K8 sg):=by
 have h1:=(F9 p.hk).2;have f:=HG (l:=0) (by exact_mod_cast p.hh) (by decide);have d:=JP p.pad.1;rw[p.pad.2] at d;have:=p.n0;have:=p.a0;have:=p.r0;have:=p.hl;exact⟨by lia,by lia,by lia,by lia,‹_›,by lia,d⟩
theorem Jz.lt {ki n a r h len s:Nat} (p:Jz ki n a r h len s):KN ki n a r h len s<2 ^ 66:=by
 obtain⟨h1,j,d,m,u,f,i⟩:=p;unfold KN;lia
theorem EZ:iw k n a r hs sg=fV k n a r hs sg*256+Rem.R (fV k n a r hs sg*256):=by
 exact RemM.yj (p:=8) (Rem.H_ _)
theorem sk.HI {hs:List Int} (p:sk k n a r hs sg):iw k n a r hs sg<2 ^ 74:=by
 have h1:=p.parts.lt;have d:=Rem.H_ (fV k n a r hs sg*256);rw[EZ];unfold fV at*
 lia
theorem HJ:Rem.R (iw k n a r hs sg)=0:=RemM.R7 _
theorem dropx (S:aW H H1) (he:H1 e=none) (hd:upd H1 e o d=none):aW H (pA (upd (upd (upd H1 e o) d (.xd [(f,v)])) e (.ext (uT e C (some d)))) e)/\pA (upd (upd (upd H1 e o) d (.xd [(f,v)])) e (.ext (uT e C (some d)))) e d=some (.xd [(f,v)]):=by
 have nd:d≠e:=fun z=>by rw[z,aq] at hd;cases hd
 refine⟨fun b u i=>?_,?_⟩
 ·
  have h1:=S b u i;have nb:=aL h1 he;rw[gF nb,aj nb,aj (fun z=>?_),aj nb];exact h1;rw[z] at h1;rw[aj nd] at hd;rw[h1] at hd;cases hd
 ·rw[gF nd,aj nd,aq]
theorem sj.same (h:sj H t k n a r hs sg) (e:aW H H'):sj H' t k n a r hs sg:=by
 obtain⟨hh,h1,f,d⟩:=h;exact⟨hh,e _ _ h1,e _ _ f,d⟩
theorem Og (h:k∈kinds):Cd (.str k) xN=true:=by
 unfold kinds at h;simp only[List.mem_cons,List.not_mem_nil,or_false] at h;rcases h with rfl|rfl|rfl|rfl|rfl<;>decide+kernel
theorem Rm (h:c∈N5.cps.toList):MB (.str ⟨#[c]⟩)=true:=by
 show(!(Builtin.Str.occurrences _ _ 0 _ 1).isEmpty)=true;rw[StrLaws.found_one,decide_eq_true_eq];exact h
theorem N4 {d:Str} (hk:k∈kinds) (hn:0<=n/\n<=63) (f:k = "bare" \/k = "ask" ->n=0) (ha:0<=a/\a<=63) (i:0<=r/\r<=16) (hh:Held.dH 0 hs=true) (h1:k = "signs" ->1<=d.length/\d.length<=4/\∀c∈d.cps.toList,c∈N5.cps.toList) (u:k≠ "signs" ->d = ""):cD k n a r hs d=true:=by
 unfold cD d6;simp only[Bool.and_eq_true,decide_eq_true_eq];refine⟨⟨⟨⟨⟨Og hk,⟨hn.1,?_⟩⟩,ha⟩,i⟩,hh⟩,?_⟩
 ·
  split
  ·
   rename_i c;have:k = "bare" \/k = "ask" :=by
    unfold Cd at c;simp only[List.any_cons,Bool.or_eq_true,Qa] at c;rcases c with c|c
    ·simp_all
    ·simp_all
   have:=f this;lia
  ·exact hn.2
 ·
  unfold pO;split
  ·
   rename_i c;obtain⟨l1,l2,j⟩:=h1 c;simp only[Bool.and_eq_true,decide_eq_true_eq];refine⟨⟨l1,l2⟩,List.all_eq_true.mpr fun v m=>?_⟩;obtain⟨x,hx,rfl⟩:=List.mem_map.mp m;exact Rm (j x hx)
  ·simp_all
end FrameM
namespace StM
end StM
set_option backward.eqns.nonrecursive false
namespace K66
open PySem L2 Com FrameM
def ax (u:TS):TS:=u
theorem aH (h:Cj X l u):Cj X l (ax u):=h
theorem cL (h:MC X l u):MC X l (ax u):=⟨h.h⟩
theorem O9 {u:TS} (h: ∀d,d=D->u d σ H):u D σ H:=h D rfl
noncomputable def top (i:Nat):Stmt:=Challenge.pw_slowroad_k66_spoilt_frames.main.body.getD i (.Pass ⟨0,0,0,0⟩)
abbrev BdT (f:List Str) (x y:Str) (s:Stmt):Prop:= ∀(kV doc pm:Value) (an:Option Addr) (d ct:Value) (us:List Value),us.length=f.length->bindArgs (W.fnOf x y (fP s) (dq s) (bN s) .none kV doc pm an d ct) ⟨us,[]⟩=pure (f.zip us)
theorem TY {α:Type} {us:List α} (h:us.length=1): ∃a0,us= [a0]:=List.length_eq_one_iff.mp h
theorem TX {α:Type} {us:List α} (h:us.length=2): ∃a0 a1,us= [a0,a1]:=by
 obtain⟨a,t,rfl⟩:=List.exists_cons_of_length_eq_add_one h;obtain⟨b0,rfl⟩:=TY (Nat.succ.inj h);exact⟨a,b0,rfl⟩
theorem TV {α:Type} {us:List α} (h:us.length=3): ∃a0 a1 d,us= [a0,a1,d]:=by
 obtain⟨a,t,rfl⟩:=List.exists_cons_of_length_eq_add_one h;obtain⟨b0,b1,rfl⟩:=TX (Nat.succ.inj h);exact⟨a,b0,b1,rfl⟩
theorem aeJ {α:Type} {us:List α} (h:us.length=4): ∃a0 a1 d i,us= [a0,a1,d,i]:=by
 obtain⟨a,t,rfl⟩:=List.exists_cons_of_length_eq_add_one h;obtain⟨b0,b1,f,rfl⟩:=TV (Nat.succ.inj h);exact⟨a,b0,b1,f,rfl⟩
theorem TU {α:Type} {us:List α} (h:us.length=5): ∃a0 a1 d m j,us= [a0,a1,d,m,j]:=by
 obtain⟨a,t,rfl⟩:=List.exists_cons_of_length_eq_add_one h;obtain⟨b0,b1,f,i,rfl⟩:=aeJ (Nat.succ.inj h);exact⟨a,b0,b1,f,i,rfl⟩
theorem aeI {α:Type} {us:List α} (h:us.length=6): ∃a0 a1 d m j u,us= [a0,a1,d,m,j,u]:=by
 obtain⟨a,t,rfl⟩:=List.exists_cons_of_length_eq_add_one h;obtain⟨b0,b1,f,i,v,rfl⟩:=TU (Nat.succ.inj h);exact⟨a,b0,b1,f,i,v,rfl⟩
abbrev FA (P:Program) (w:World) (K:W.Frag) (mg:Str->Option Value) (base:Heap) (x:Str) (k:Nat) (d:List Str) (sp:Sp):Prop:=FnAt P w K mg base (Ig P w) x k d sp
abbrev MA (P:Program) (w:World) (K:W.Frag) (mg:Str->Option Value) (base:Heap) (C:Addr) (x:Str) (k:Nat) (d:List Str) (sp:Sp):Prop:=DJ P w K mg base (Ig P w) C x k d sp
noncomputable abbrev ic (i j:Nat):Stmt:=inClass (top i) j
abbrev SB (N d:List Str) (x y:Str) (s:Stmt):Prop:=pC N d (bN s)/\BdT d x y s
abbrev SC (d:List Str) (x y:Str) (s:Stmt):Prop:=pC d d (bN s)/\BdT d x y s
set_option hygiene false in
local macro_rules | `(tactic| exists 2) => `(tactic| (refine⟨⟨rfl,rfl,rfl,by decide +kernel,rfl,by decide +kernel,by decide +kernel⟩, ?_⟩; intro _ _ _ _ _ _ us hl; first | (obtain⟨_,rfl⟩ := TY hl; rfl) | (obtain⟨_,_,rfl⟩ := TX hl; rfl) | (obtain⟨_,_,_,rfl⟩ := TV hl; rfl) | (obtain⟨_,_,_,_,_,rfl⟩ := TU hl; rfl) | (obtain⟨_,_,_,_,_,_,rfl⟩ := aeI hl; rfl)))
theorem vf:SC ["self","frame"] "__init__" "NoFrame.__init__" (ic 2 0):=by exists 2
theorem wj:SC ["self","frame"] "__init__" "Spoilt.__init__" (ic 3 0):=by exists 2
theorem ve:SC ["self","what"] "__init__" "NoPiece.__init__" (ic 4 0):=by exists 2
theorem vd:SC ["self","least"] "__init__" "NotWide.__init__" (ic 6 0):=by exists 2
theorem wu:SC ["self","state","wish"] "__init__" "NotNow.__init__" (ic 8 0):=by exists 2
theorem ID:SC ["value","low","high"] "is_from" "is_from" (top 10):=by exists 2
theorem AU:SB ["thing","kind"] ["thing"] "is_piece" "is_piece" (top 26):=by exists 2
theorem qW:SB ["held","last","step"] ["held"] "is_held" "is_held" (top 27):=by exists 2
theorem Fp:SC ["kind","signs"] "are_signs" "are_signs" (top 28):=by exists 2
theorem qV:SB ["bits","left"] ["bits"] "remainder" "remainder" (top 29):=by exists 2
theorem Cv:SB ["piece","unchecked"] ["piece"] "written" "written" (top 30):=by exists 2
theorem gX:SB ["piece","body"] ["piece"] "body_of" "body_of" (top 31):=by exists 2
theorem A8:SC ["held"] "bits_of_held" "bits_of_held" (top 32):=by exists 2
theorem fF:SB ["signs","bits","sign"] ["signs"] "bits_of_signs" "bits_of_signs" (top 33):=by exists 2
theorem G1:SC ["number"] "is_frame" "is_frame" (top 34):=by exists 2
theorem JT:SB ["frame","piece"] ["frame"] "read" "read" (top 35):=by exists 2
theorem A7:SC ["body"] "likely_piece" "likely_piece" (top 36):=by exists 2
theorem IB:SC ["code"] "kind_of" "kind_of" (top 37):=by exists 2
theorem IE:SC ["bits"] "held_of" "held_of" (top 38):=by exists 2
theorem G0:SC ["bits"] "signs_of" "signs_of" (top 39):=by exists 2
theorem IA:SC ["code"] "sign_of" "sign_of" (top 40):=by exists 2
theorem x9:SC ["self","most"] "__init__" "Meter.__init__" (ic 42 0):=by exists 2
theorem td:SB ["self","many","piece"] ["self","many"] "known" "Meter.known" (ic 42 1):=by exists 2
theorem x8:SC ["self"] "know_one" "Meter.know_one" (ic 42 2):=by exists 2
theorem DW:SC ["self"] "half" "Meter.half" (ic 42 3):=by exists 2
theorem zr:SC ["self"] "ran_out" "Meter.ran_out" (ic 42 4):=by exists 2
theorem zu:SC ["self"] "hurried" "Meter.hurried" (ic 42 5):=by exists 2
theorem M8:SC ["ring","one","other"] "ahead" "ahead" (top 44):=by exists 2
theorem EI:SB ["top","bottom","shared"] ["top","bottom"] "lowest" "lowest" (top 47):=by exists 2
theorem zh:SC ["self","first","longest"] "__init__" "Ways.__init__" (ic 48 0):=by exists 2
theorem zg:SC ["self","m"] "measured" "Ways.measured" (ic 48 1):=by exists 2
theorem gi:SB ["self","m","bottoms","away"] ["self","m"] "next_spread" "Ways.next_spread" (ic 48 2):=by exists 2
theorem u9:SC ["self","m"] "next_smooth" "Ways.next_smooth" (ic 48 3):=by exists 2
theorem n8:SB ["self","top"] ["self"] "least_wait" "Ways.least_wait" (ic 48 4):=by exists 2
theorem A_:SC ["self"] "ran_out" "Ways.ran_out" (ic 48 5):=by exists 2
theorem wq:SC ["self","ring","first","longest","most"] "__init__" "Sender.__init__" (ic 51 0):=by exists 2
theorem DU:SC ["self","thing"] "put" "Sender.put" (ic 51 1):=by exists 2
theorem CA:SC ["self"] "many" "Sender.many" (ic 51 2):=by exists 2
theorem Bb:SC ["self","place"] "thing" "Sender.thing" (ic 51 3):=by exists 2
theorem gK:SB ["self","number","room","held","turn","steps","fresh","place"] ["self","number","room","held","turn"] "heard" "Sender.heard" (ic 51 4):=by exists 2
theorem nj:SB ["self","steps","low"] ["self","steps"] "grow_base" "Sender.grow_base" (ic 51 5):=by exists 2
theorem vc:SC ["self","held"] "note_held" "Sender.note_held" (ic 51 6):=by exists 2
theorem eC:SB ["self","places","fresh","place"] ["self","places"] "newly_known" "Sender.newly_known" (ic 51 7):=by exists 2
theorem n9:SC ["self"] "known_above_base" "Sender.known_above_base" (ic 51 8):=by exists 2
theorem va:SC ["self"] "under_way" "Sender.under_way" (ic 51 9):=by exists 2
theorem sJ:SC ["self"] "thing_waits" "Sender.thing_waits" (ic 51 10):=by exists 2
theorem qY:SC ["self","turn"] "clock_is_out" "Sender.clock_is_out" (ic 51 11):=by exists 2
theorem qX:SC ["self"] "hurry_is_due" "Sender.hurry_is_due" (ic 51 12):=by exists 2
theorem s_:SC ["self"] "new_may_go" "Sender.new_may_go" (ic 51 13):=by exists 2
theorem Ft:SC ["self","turn"] "go" "Sender.go" (ic 51 14):=by exists 2
theorem vb:SC ["self","turn"] "set_clock" "Sender.set_clock" (ic 51 15):=by exists 2
theorem wo:SC ["self","turn"] "go_again" "Sender.go_again" (ic 51 16):=by exists 2
theorem qm:SB ["self","turn","place"] ["self","turn"] "go_new" "Sender.go_new" (ic 51 17):=by exists 2
theorem qZ:SC ["self","turn"] "ask_for_room" "Sender.ask_for_room" (ic 51 18):=by exists 2
theorem u_:SC ["self"] "wish_begin" "State.wish_begin" (ic 53 1):=by exists 2
theorem xZ:SC ["self"] "wish_end" "State.wish_end" (ic 53 2):=by exists 2
theorem zk:SC ["self"] "may_put" "State.may_put" (ic 53 3):=by exists 2
theorem Cz:SC ["self"] "begun" "State.begun" (ic 53 4):=by exists 2
theorem Cy:SC ["self"] "ended" "State.ended" (ic 53 5):=by exists 2
theorem x6:SC ["self"] "answered" "State.answered" (ic 53 6):=by exists 2
theorem Fs:SC ["self"] "name" "Shut.name" (ic 54 0):=by exists 2
theorem wk:SC ["self"] "wish_begin" "Shut.wish_begin" (ic 54 1):=by exists 2
theorem DT:SC ["self"] "begun" "Shut.begun" (ic 54 2):=by exists 2
theorem Bh:SC ["self"] "name" "Calling.name" (ic 55 0):=by exists 2
theorem vi:SC ["self"] "wish_end" "Calling.wish_end" (ic 55 1):=by exists 2
theorem wx:SC ["self"] "may_put" "Calling.may_put" (ic 55 2):=by exists 2
theorem zB:SC ["self"] "begun" "Calling.begun" (ic 55 3):=by exists 2
theorem Fu:SC ["self"] "name" "Open.name" (ic 56 0):=by exists 2
theorem zp:SC ["self"] "wish_end" "Open.wish_end" (ic 56 1):=by exists 2
theorem Bc:SC ["self"] "may_put" "Open.may_put" (ic 56 2):=by exists 2
theorem DV:SC ["self"] "ended" "Open.ended" (ic 56 3):=by exists 2
theorem Fv:SC ["self"] "name" "Left.name" (ic 57 0):=by exists 2
theorem zv:SC ["self"] "wish_end" "Left.wish_end" (ic 57 1):=by exists 2
theorem Be:SC ["self"] "may_put" "Left.may_put" (ic 57 2):=by exists 2
theorem Bf:SC ["self"] "name" "Leaving.name" (ic 58 0):=by exists 2
theorem zw:SC ["self"] "ended" "Leaving.ended" (ic 58 1):=by exists 2
theorem vg:SC ["self"] "answered" "Leaving.answered" (ic 58 2):=by exists 2
theorem Ba:SC ["self"] "name" "Waiting.name" (ic 59 0):=by exists 2
theorem zj:SC ["self"] "ended" "Waiting.ended" (ic 59 1):=by exists 2
theorem Bg:SC ["self"] "name" "Closing.name" (ic 60 0):=by exists 2
theorem vh:SC ["self"] "answered" "Closing.answered" (ic 60 1):=by exists 2
theorem xY:SC ["self","ring","room"] "__init__" "Taker.__init__" (ic 62 0):=by exists 2
theorem wg:SC ["self"] "room_left" "Taker.room_left" (ic 62 1):=by exists 2
theorem pP:SB ["self","number","thing","steps","place"] ["self","number","thing"] "take" "Taker.take" (ic 62 2):=by exists 2
theorem iS:SB ["self","things"] ["self"] "stand_in_order" "Taker.stand_in_order" (ic 62 3):=by exists 2
theorem sC:SB ["self","held"] ["self"] "answer" "Taker.answer" (ic 62 4):=by exists 2
theorem pQ:SB ["self","most","things","place"] ["self","most"] "read" "Taker.read" (ic 62 5):=by exists 2
theorem IC:SC ["text"] "is_text" "is_text" (top 67):=by exists 2
theorem A6:SC ["frame"] "read_or_none" "read_or_none" (top 68):=by exists 2
theorem zA:SC ["self","side","terms"] "__init__" "Hand.__init__" (ic 69 0):=by exists 2
theorem Fw:SC ["self"] "name" "Hand.name" (ic 69 1):=by exists 2
theorem DY:SC ["self"] "begin" "Hand.begin" (ic 69 2):=by exists 2
theorem G3:SC ["self"] "end" "Hand.end" (ic 69 3):=by exists 2
theorem AV:SB ["self","text","at"] ["self","text"] "put" "Hand.put" (ic 69 4):=by exists 2
theorem q_:SB ["self","many","had_room","things"] ["self","many"] "read" "Hand.read" (ic 69 5):=by exists 2
theorem x_:SB ["self","frame","turn","piece"] ["self","frame","turn"] "come" "Hand.come" (ic 69 6):=by exists 2
theorem rf:SB ["self","piece","turn","low","place"] ["self","piece","turn"] "hear" "Hand.hear" (ic 69 7):=by exists 2
theorem mx:SB ["self","number","thing","taken","in_order"] ["self","number","thing"] "take_in" "Hand.take_in" (ic 69 8):=by exists 2
theorem zy:SC ["self","kind"] "stand_to" "Hand.stand_to" (ic 69 9):=by exists 2
theorem nC:SB ["self","turn","what","word","place"] ["self","turn"] "send" "Hand.send" (ic 69 10):=by exists 2
theorem kD:SB ["self","word","place","answer","thing"] ["self","word","place"] "piece_of" "Hand.piece_of" (ic 69 11):=by exists 2
theorem DX:SC ["self"] "quiet" "Hand.quiet" (ic 69 12):=by exists 2
theorem QB:SC ["room","lag"] "need" "need" (top 71):=by exists 2
theorem Fq:SC ["rooms"] "are_rooms" "are_rooms" (top 78):=by exists 2
theorem Fo:SC ["first","longest"] "are_waits" "are_waits" (top 79):=by exists 2
theorem o9:SB ["self","ring","rooms","lag","first","longest","least"] ["self","ring","rooms","lag","first","longest"] "__init__" "Terms.__init__" (ic 80 0):=by exists 2
theorem A9:SC ["_law_script","_law_k"] "_law_cell_at" "_law_cell_at" (top 82):=by exists 2
theorem lM:SB ["_law_cell","_law_k","_law_number","_law_turn"] ["_law_cell","_law_k"] "_law_mixed" "_law_mixed" (top 83):=by exists 2
theorem cJ:SB ["_law_cell","_law_other","_law_rooms","_law_lag","_law_least","_law_first","_law_ring"] ["_law_cell","_law_other"] "_law_terms" "_law_terms" (top 84):=by exists 2
theorem fG:SB ["_law_cell","_law_size","_law_some","_law_signs","_law_k"] ["_law_cell","_law_size"] "_law_text" "_law_text" (top 85):=by exists 2
theorem i9:SB ["_law_hand","_law_cell","_law_size","_law_told"] ["_law_hand","_law_cell"] "_law_wish" "_law_wish" (top 86):=by exists 2
theorem Cw:SC ["_law_hand"] "_law_things" "_law_things" (top 87):=by exists 2
theorem dS:SB ["_law_hand","_law_turn","_law_sent_here","_law_frame","_law_word","_law_place","_law_due","_law_found"] ["_law_hand","_law_turn","_law_sent_here"] "_law_come" "_law_come" (top 88):=by exists 2
theorem i_:SB ["_law_hand","_law_turn","_law_found","_law_frame","_law_word","_law_place"] ["_law_hand","_law_turn"] "_law_sent" "_law_sent" (top 89):=by exists 2
theorem fe:SB ["_law_hand","_law_sender","_law_ways","_law_meter","_law_counts"] ["_law_hand"] "_law_stands" "_law_stands" (top 90):=by exists 2
theorem dr:SB ["_law_cell","_law_ring","_law_frames","_law_far","_law_kind","_law_number","_law_answer"] ["_law_cell","_law_ring","_law_frames"] "_law_noise" "_law_noise" (top 91):=by exists 2
theorem n6:SB ["_law_hand","_law_frame","_law_turn","_law_before","_law_found"] ["_law_hand","_law_frame","_law_turn"] "_law_spoilt" "_law_spoilt" (top 92):=by exists 2
theorem gf:SB ["_law_script","_law_terms_here","_law_hands","_law_outs","_law_way","_law_frames","_law_turn","_law_cell","_law_number","_law_side"] ["_law_script"] "law" "law" (top 93):=by exists 2
section
variable {x v0 v1 v2 v3 v4 v5 v6 v7 v8 v9 v10 v11:V}
noncomputable def xC (v0:V):List (Str×V):=[("most",v0)]
theorem Ds:(xC v0).length<1000:=by show 1<1000;decide
theorem Dr:bS "most" v0 []=xC v0:=by kernel_rfl
noncomputable def xA (v0 v1:V):List (Str×V):=[("most",v0),("window",v1)]
theorem Dq:(xA v0 v1).length<1000:=by show 2<1000;decide
theorem Dp:bS "window" v1 (xC v0)=xA v0 v1:=by kernel_rfl
noncomputable def xy (v0 v1 v2:V):List (Str×V):=[("most",v0),("window",v1),("knee",v2)]
theorem Dm:(xy v0 v1 v2).length<1000:=by show 3<1000;decide
theorem Dl:bS "knee" v2 (xA v0 v1)=xy v0 v1 v2:=by kernel_rfl
noncomputable def ba (v0 v1 v2 v3:V):List (Str×V):=[("most",v0),("window",v1),("knee",v2),("counted",v3)]
theorem Gj:(ba v0 v1 v2 v3).length<1000:=by show 4<1000;decide
theorem Gi:bS "counted" v3 (xy v0 v1 v2)=ba v0 v1 v2 v3:=by kernel_rfl
theorem yJ:(ba v0 v1 v2 v3).lookup ("most" : Str)=some v0:=by kernel_rfl
theorem vG:(ba v0 v1 v2 v3).lookup ("window" : Str)=some v1:=by kernel_rfl
theorem yK:(ba v0 v1 v2 v3).lookup ("knee" : Str)=some v2:=by kernel_rfl
theorem t7:(ba v0 v1 v2 v3).lookup ("counted" : Str)=some v3:=by kernel_rfl
theorem vD:bS "window" x (ba v0 v1 v2 v3)=ba v0 x v2 v3:=by kernel_rfl
theorem yH:bS "knee" x (ba v0 v1 v2 v3)=ba v0 v1 x v3:=by kernel_rfl
theorem tZ:bS "counted" x (ba v0 v1 v2 v3)=ba v0 v1 v2 x:=by kernel_rfl
theorem yI:(ba v0 v1 v2 v3).lookup ("known" : Str)=none:=by kernel_rfl
theorem t6:(ba v0 v1 v2 v3).lookup ("know_one" : Str)=none:=by kernel_rfl
theorem Au:(ba v0 v1 v2 v3).lookup ("half" : Str)=none:=by kernel_rfl
theorem vE:(ba v0 v1 v2 v3).lookup ("ran_out" : Str)=none:=by kernel_rfl
theorem vF:(ba v0 v1 v2 v3).lookup ("hurried" : Str)=none:=by kernel_rfl
noncomputable def Ah (v0:V):List (Str×V):=[("longest",v0)]
theorem Eh:(Ah v0).length<1000:=by show 1<1000;decide
theorem Eg:bS "longest" v0 []=Ah v0:=by kernel_rfl
noncomputable def Af (v0 v1:V):List (Str×V):=[("longest",v0),("smooth",v1)]
theorem Ef:(Af v0 v1).length<1000:=by show 2<1000;decide
theorem Ee:bS "smooth" v1 (Ah v0)=Af v0 v1:=by kernel_rfl
noncomputable def Ae (v0 v1 v2:V):List (Str×V):=[("longest",v0),("smooth",v1),("spread",v2)]
theorem Ed:(Ae v0 v1 v2).length<1000:=by show 3<1000;decide
theorem Ec:bS "spread" v2 (Af v0 v1)=Ae v0 v1 v2:=by kernel_rfl
noncomputable def bB (v0 v1 v2 v3:V):List (Str×V):=[("longest",v0),("smooth",v1),("spread",v2),("wait",v3)]
theorem HN:(bB v0 v1 v2 v3).length<1000:=by show 4<1000;decide
theorem HL:bS "wait" v3 (Ae v0 v1 v2)=bB v0 v1 v2 v3:=by kernel_rfl
theorem vy:(bB v0 v1 v2 v3).lookup ("longest" : Str)=some v0:=by kernel_rfl
theorem xb:(bB v0 v1 v2 v3).lookup ("smooth" : Str)=some v1:=by kernel_rfl
theorem xa:(bB v0 v1 v2 v3).lookup ("spread" : Str)=some v2:=by kernel_rfl
theorem Ac:(bB v0 v1 v2 v3).lookup ("wait" : Str)=some v3:=by kernel_rfl
theorem w6:bS "smooth" x (bB v0 v1 v2 v3)=bB v0 x v2 v3:=by kernel_rfl
theorem w5:bS "spread" x (bB v0 v1 v2 v3)=bB v0 v1 x v3:=by kernel_rfl
theorem Ab:bS "wait" x (bB v0 v1 v2 v3)=bB v0 v1 v2 x:=by kernel_rfl
theorem vx:(bB v0 v1 v2 v3).lookup ("measured" : Str)=none:=by kernel_rfl
theorem rH:(bB v0 v1 v2 v3).lookup ("next_spread" : Str)=none:=by kernel_rfl
theorem rJ:(bB v0 v1 v2 v3).lookup ("next_smooth" : Str)=none:=by kernel_rfl
theorem sM:(bB v0 v1 v2 v3).lookup ("least_wait" : Str)=none:=by kernel_rfl
theorem w_:(bB v0 v1 v2 v3).lookup ("ran_out" : Str)=none:=by kernel_rfl
noncomputable def iV (v0:V):List (Str×V):=[("ring",v0)]
theorem BS:(iV v0).length<1000:=by show 1<1000;decide
theorem BR:bS "ring" v0 []=iV v0:=by kernel_rfl
noncomputable def l8 (v0 v1:V):List (Str×V):=[("ring",v0),("ways",v1)]
theorem BQ:(l8 v0 v1).length<1000:=by show 2<1000;decide
theorem BP:bS "ways" v1 (iV v0)=l8 v0 v1:=by kernel_rfl
noncomputable def l7 (v0 v1 v2:V):List (Str×V):=[("ring",v0),("ways",v1),("meter",v2)]
theorem BO:(l7 v0 v1 v2).length<1000:=by show 3<1000;decide
theorem BN:bS "meter" v2 (l8 v0 v1)=l7 v0 v1 v2:=by kernel_rfl
noncomputable def tY (v0 v1 v2 v3:V):List (Str×V):=[("ring",v0),("ways",v1),("meter",v2),("things",v3)]
theorem BM:(tY v0 v1 v2 v3).length<1000:=by show 4<1000;decide
theorem BL:bS "things" v3 (l7 v0 v1 v2)=tY v0 v1 v2 v3:=by kernel_rfl
noncomputable def tX (v0 v1 v2 v3 v4:V):List (Str×V):=[("ring",v0),("ways",v1),("meter",v2),("things",v3),("base",v4)]
theorem BK:(tX v0 v1 v2 v3 v4).length<1000:=by show 5<1000;decide
theorem BJ:bS "base" v4 (tY v0 v1 v2 v3)=tX v0 v1 v2 v3 v4:=by kernel_rfl
noncomputable def tW (v0 v1 v2 v3 v4 v5:V):List (Str×V):=[("ring",v0),("ways",v1),("meter",v2),("things",v3),("base",v4),("top",v5)]
theorem BI:(tW v0 v1 v2 v3 v4 v5).length<1000:=by show 6<1000;decide
theorem BH:bS "top" v5 (tX v0 v1 v2 v3 v4)=tW v0 v1 v2 v3 v4 v5:=by kernel_rfl
noncomputable def tV (v0 v1 v2 v3 v4 v5 v6:V):List (Str×V):=[("ring",v0),("ways",v1),("meter",v2),("things",v3),("base",v4),("top",v5),("edge",v6)]
theorem BG:(tV v0 v1 v2 v3 v4 v5 v6).length<1000:=by show 7<1000;decide
theorem BF:bS "edge" v6 (tW v0 v1 v2 v3 v4 v5)=tV v0 v1 v2 v3 v4 v5 v6:=rfl
noncomputable def tU (v0 v1 v2 v3 v4 v5 v6 v7:V):List (Str×V):=[("ring",v0),("ways",v1),("meter",v2),("things",v3),("base",v4),("top",v5),("edge",v6),("clock",v7)]
theorem BE:(tU v0 v1 v2 v3 v4 v5 v6 v7).length<1000:=by show 8<1000;decide
theorem BD:bS "clock" v7 (tV v0 v1 v2 v3 v4 v5 v6)=tU v0 v1 v2 v3 v4 v5 v6 v7:=rfl
noncomputable def lZ (v0 v1 v2 v3 v4 v5 v6 v7 v8:V):List (Str×V):=[("ring",v0),("ways",v1),("meter",v2),("things",v3),("base",v4),("top",v5),("edge",v6),("clock",v7),("base_hurried",v8)]
theorem BC:(lZ v0 v1 v2 v3 v4 v5 v6 v7 v8).length<1000:=by show 9<1000;decide
theorem BB:bS "base_hurried" v8 (tU v0 v1 v2 v3 v4 v5 v6 v7)=lZ v0 v1 v2 v3 v4 v5 v6 v7 v8:=rfl
noncomputable def jV (v0 v1 v2 v3 v4 v5 v6 v7 v8 v9:V):List (Str×V):=[("ring",v0),("ways",v1),("meter",v2),("things",v3),("base",v4),("top",v5),("edge",v6),("clock",v7),("base_hurried",v8),("known_places",v9)]
theorem As:(jV v0 v1 v2 v3 v4 v5 v6 v7 v8 v9).length<1000:=by show 10<1000;decide
theorem Ar:bS "known_places" v9 (lZ v0 v1 v2 v3 v4 v5 v6 v7 v8)=jV v0 v1 v2 v3 v4 v5 v6 v7 v8 v9:=rfl
noncomputable def jU (v0 v1 v2 v3 v4 v5 v6 v7 v8 v9 v10:V):List (Str×V):=[("ring",v0),("ways",v1),("meter",v2),("things",v3),("base",v4),("top",v5),("edge",v6),("clock",v7),("base_hurried",v8),("known_places",v9),("first_turns",v10)]
theorem Aq:(jU v0 v1 v2 v3 v4 v5 v6 v7 v8 v9 v10).length<1000:=by show 11<1000;decide
theorem Ap:bS "first_turns" v10 (jV v0 v1 v2 v3 v4 v5 v6 v7 v8 v9)=jU v0 v1 v2 v3 v4 v5 v6 v7 v8 v9 v10:=rfl
noncomputable def aN (v0 v1 v2 v3 v4 v5 v6 v7 v8 v9 v10 v11:V):List (Str×V):=[("ring",v0),("ways",v1),("meter",v2),("things",v3),("base",v4),("top",v5),("edge",v6),("clock",v7),("base_hurried",v8),("known_places",v9),("first_turns",v10),("gone_again",v11)]
theorem Ej:(aN v0 v1 v2 v3 v4 v5 v6 v7 v8 v9 v10 v11).length<1000:=by show 12<1000;decide
theorem Ei:bS "gone_again" v11 (jU v0 v1 v2 v3 v4 v5 v6 v7 v8 v9 v10)=aN v0 v1 v2 v3 v4 v5 v6 v7 v8 v9 v10 v11:=rfl
theorem xu:(aN v0 v1 v2 v3 v4 v5 v6 v7 v8 v9 v10 v11).lookup ("ring" : Str)=some v0:=rfl
theorem xt:(aN v0 v1 v2 v3 v4 v5 v6 v7 v8 v9 v10 v11).lookup ("ways" : Str)=some v1:=rfl
theorem vB:(aN v0 v1 v2 v3 v4 v5 v6 v7 v8 v9 v10 v11).lookup ("meter" : Str)=some v2:=rfl
theorem tT:(aN v0 v1 v2 v3 v4 v5 v6 v7 v8 v9 v10 v11).lookup ("things" : Str)=some v3:=rfl
theorem xx:(aN v0 v1 v2 v3 v4 v5 v6 v7 v8 v9 v10 v11).lookup ("base" : Str)=some v4:=rfl
theorem yG:(aN v0 v1 v2 v3 v4 v5 v6 v7 v8 v9 v10 v11).lookup ("top" : Str)=some v5:=rfl
theorem xv:(aN v0 v1 v2 v3 v4 v5 v6 v7 v8 v9 v10 v11).lookup ("edge" : Str)=some v6:=rfl
theorem vC:(aN v0 v1 v2 v3 v4 v5 v6 v7 v8 v9 v10 v11).lookup ("clock" : Str)=some v7:=rfl
theorem oz:(aN v0 v1 v2 v3 v4 v5 v6 v7 v8 v9 v10 v11).lookup ("base_hurried" : Str)=some v8:=rfl
theorem oy:(aN v0 v1 v2 v3 v4 v5 v6 v7 v8 v9 v10 v11).lookup ("known_places" : Str)=some v9:=rfl
theorem o5:(aN v0 v1 v2 v3 v4 v5 v6 v7 v8 v9 v10 v11).lookup ("first_turns" : Str)=some v10:=rfl
theorem pW:(aN v0 v1 v2 v3 v4 v5 v6 v7 v8 v9 v10 v11).lookup ("gone_again" : Str)=some v11:=rfl
theorem xp:bS "base" x (aN v0 v1 v2 v3 v4 v5 v6 v7 v8 v9 v10 v11)=aN v0 v1 v2 v3 x v5 v6 v7 v8 v9 v10 v11:=rfl
theorem yE:bS "top" x (aN v0 v1 v2 v3 v4 v5 v6 v7 v8 v9 v10 v11)=aN v0 v1 v2 v3 v4 x v6 v7 v8 v9 v10 v11:=rfl
theorem xo:bS "edge" x (aN v0 v1 v2 v3 v4 v5 v6 v7 v8 v9 v10 v11)=aN v0 v1 v2 v3 v4 v5 x v7 v8 v9 v10 v11:=rfl
theorem vz:bS "clock" x (aN v0 v1 v2 v3 v4 v5 v6 v7 v8 v9 v10 v11)=aN v0 v1 v2 v3 v4 v5 v6 x v8 v9 v10 v11:=rfl
theorem ox:bS "base_hurried" x (aN v0 v1 v2 v3 v4 v5 v6 v7 v8 v9 v10 v11)=aN v0 v1 v2 v3 v4 v5 v6 v7 x v9 v10 v11:=rfl
theorem qy:(aN v0 v1 v2 v3 v4 v5 v6 v7 v8 v9 v10 v11).lookup ("put" : Str)=none:=rfl
theorem yF:(aN v0 v1 v2 v3 v4 v5 v6 v7 v8 v9 v10 v11).lookup ("many" : Str)=none:=rfl
theorem xq:(aN v0 v1 v2 v3 v4 v5 v6 v7 v8 v9 v10 v11).lookup ("thing" : Str)=none:=rfl
theorem xr:(aN v0 v1 v2 v3 v4 v5 v6 v7 v8 v9 v10 v11).lookup ("heard" : Str)=none:=rfl
theorem rN:(aN v0 v1 v2 v3 v4 v5 v6 v7 v8 v9 v10 v11).lookup ("grow_base" : Str)=none:=rfl
theorem rM:(aN v0 v1 v2 v3 v4 v5 v6 v7 v8 v9 v10 v11).lookup ("note_held" : Str)=none:=rfl
theorem pV:(aN v0 v1 v2 v3 v4 v5 v6 v7 v8 v9 v10 v11).lookup ("newly_known" : Str)=none:=rfl
theorem lY:(aN v0 v1 v2 v3 v4 v5 v6 v7 v8 v9 v10 v11).lookup ("known_above_base" : Str)=none:=rfl
theorem rK:(aN v0 v1 v2 v3 v4 v5 v6 v7 v8 v9 v10 v11).lookup ("under_way" : Str)=none:=rfl
theorem pU:(aN v0 v1 v2 v3 v4 v5 v6 v7 v8 v9 v10 v11).lookup ("thing_waits" : Str)=none:=rfl
theorem o3:(aN v0 v1 v2 v3 v4 v5 v6 v7 v8 v9 v10 v11).lookup ("clock_is_out" : Str)=none:=rfl
theorem oZ:(aN v0 v1 v2 v3 v4 v5 v6 v7 v8 v9 v10 v11).lookup ("hurry_is_due" : Str)=none:=rfl
theorem qz:(aN v0 v1 v2 v3 v4 v5 v6 v7 v8 v9 v10 v11).lookup ("new_may_go" : Str)=none:=rfl
theorem BA:(aN v0 v1 v2 v3 v4 v5 v6 v7 v8 v9 v10 v11).lookup ("go" : Str)=none:=by kernel_rfl
theorem rL:(aN v0 v1 v2 v3 v4 v5 v6 v7 v8 v9 v10 v11).lookup ("set_clock" : Str)=none:=rfl
theorem sP:(aN v0 v1 v2 v3 v4 v5 v6 v7 v8 v9 v10 v11).lookup ("go_again" : Str)=none:=rfl
theorem vA:(aN v0 v1 v2 v3 v4 v5 v6 v7 v8 v9 v10 v11).lookup ("go_new" : Str)=none:=rfl
theorem o4:(aN v0 v1 v2 v3 v4 v5 v6 v7 v8 v9 v10 v11).lookup ("ask_for_room" : Str)=none:=rfl
noncomputable def xn (v0 v1:V):List (Str×V):=[("ring",v0),("room",v1)]
theorem Dk:(xn v0 v1).length<1000:=by show 2<1000;decide
theorem Dj:bS "room" v1 (iV v0)=xn v0 v1:=by kernel_rfl
noncomputable def xl (v0 v1 v2:V):List (Str×V):=[("ring",v0),("room",v1),("got",v2)]
theorem Di:(xl v0 v1 v2).length<1000:=by show 3<1000;decide
theorem Dh:bS "got" v2 (xn v0 v1)=xl v0 v1 v2:=by kernel_rfl
noncomputable def xk (v0 v1 v2 v3:V):List (Str×V):=[("ring",v0),("room",v1),("got",v2),("out",v3)]
theorem Dg:(xk v0 v1 v2 v3).length<1000:=by show 4<1000;decide
theorem Df:bS "out" v3 (xl v0 v1 v2)=xk v0 v1 v2 v3:=by kernel_rfl
noncomputable def bY (v0 v1 v2 v3 v4:V):List (Str×V):=[("ring",v0),("room",v1),("got",v2),("out",v3),("kept",v4)]
theorem Gh:(bY v0 v1 v2 v3 v4).length<1000:=by show 5<1000;decide
theorem Gg:bS "kept" v4 (xk v0 v1 v2 v3)=bY v0 v1 v2 v3 v4:=by kernel_rfl
theorem yC:(bY v0 v1 v2 v3 v4).lookup ("ring" : Str)=some v0:=by kernel_rfl
theorem yB:(bY v0 v1 v2 v3 v4).lookup ("room" : Str)=some v1:=by kernel_rfl
theorem Ao:(bY v0 v1 v2 v3 v4).lookup ("got" : Str)=some v2:=by kernel_rfl
theorem An:(bY v0 v1 v2 v3 v4).lookup ("out" : Str)=some v3:=by kernel_rfl
theorem yD:(bY v0 v1 v2 v3 v4).lookup ("kept" : Str)=some v4:=by kernel_rfl
theorem Aj:bS "got" x (bY v0 v1 v2 v3 v4)=bY v0 v1 x v3 v4:=by kernel_rfl
theorem Ai:bS "out" x (bY v0 v1 v2 v3 v4)=bY v0 v1 v2 x v4:=by kernel_rfl
theorem sN:(bY v0 v1 v2 v3 v4).lookup ("room_left" : Str)=none:=by kernel_rfl
theorem Ak:(bY v0 v1 v2 v3 v4).lookup ("take" : Str)=none:=by kernel_rfl
theorem ow:(bY v0 v1 v2 v3 v4).lookup ("stand_in_order" : Str)=none:=by kernel_rfl
theorem xj:(bY v0 v1 v2 v3 v4).lookup ("answer" : Str)=none:=by kernel_rfl
theorem Am:(bY v0 v1 v2 v3 v4).lookup ("read" : Str)=none:=by kernel_rfl
noncomputable def Az (v0:V):List (Str×V):=[("side",v0)]
theorem Ex:(Az v0).length<1000:=by show 1<1000;decide
theorem Ew:bS "side" v0 []=Az v0:=by kernel_rfl
noncomputable def qA (v0 v1:V):List (Str×V):=[("side",v0),("ring",v1)]
theorem Eu:(qA v0 v1).length<1000:=by show 2<1000;decide
theorem Et:bS "ring" v1 (Az v0)=qA v0 v1:=by kernel_rfl
noncomputable def d9 (v0 v1 v2:V):List (Str×V):=[("side",v0),("ring",v1),("taker",v2)]
theorem Es:(d9 v0 v1 v2).length<1000:=by show 3<1000;decide
theorem Er:bS "taker" v2 (qA v0 v1)=d9 v0 v1 v2:=by kernel_rfl
noncomputable def dJ (v0 v1 v2 v3:V):List (Str×V):=[("side",v0),("ring",v1),("taker",v2),("sender",v3)]
theorem Ep:(dJ v0 v1 v2 v3).length<1000:=by show 4<1000;decide
theorem Eo:bS "sender" v3 (d9 v0 v1 v2)=dJ v0 v1 v2 v3:=by kernel_rfl
noncomputable def Ay (v0 v1 v2 v3 v4:V):List (Str×V):=[("side",v0),("ring",v1),("taker",v2),("sender",v3),("state",v4)]
theorem En:(Ay v0 v1 v2 v3 v4).length<1000:=by show 5<1000;decide
theorem Em:bS "state" v4 (dJ v0 v1 v2 v3)=Ay v0 v1 v2 v3 v4:=by kernel_rfl
noncomputable def uS (v0 v1 v2 v3 v4 v5:V):List (Str×V):=[("side",v0),("ring",v1),("taker",v2),("sender",v3),("state",v4),("answer_due",v5)]
theorem El:(uS v0 v1 v2 v3 v4 v5).length<1000:=by show 6<1000;decide
theorem Ek:bS "answer_due" v5 (Ay v0 v1 v2 v3 v4)=uS v0 v1 v2 v3 v4 v5:=by kernel_rfl
noncomputable def aX (v0 v1 v2 v3 v4 v5 v6:V):List (Str×V):=[("side",v0),("ring",v1),("taker",v2),("sender",v3),("state",v4),("answer_due",v5),("end_places",v6)]
theorem HQ:(aX v0 v1 v2 v3 v4 v5 v6).length<1000:=by show 7<1000;decide
theorem HP:bS "end_places" v6 (uS v0 v1 v2 v3 v4 v5)=aX v0 v1 v2 v3 v4 v5 v6:=rfl
theorem Ax:(aX v0 v1 v2 v3 v4 v5 v6).lookup ("ring" : Str)=some v1:=by kernel_rfl
theorem yM:(aX v0 v1 v2 v3 v4 v5 v6).lookup ("taker" : Str)=some v2:=by kernel_rfl
theorem xE:(aX v0 v1 v2 v3 v4 v5 v6).lookup ("sender" : Str)=some v3:=by kernel_rfl
theorem yN:(aX v0 v1 v2 v3 v4 v5 v6).lookup ("state" : Str)=some v4:=by kernel_rfl
theorem rQ:(aX v0 v1 v2 v3 v4 v5 v6).lookup ("answer_due" : Str)=some v5:=by kernel_rfl
theorem rP:(aX v0 v1 v2 v3 v4 v5 v6).lookup ("end_places" : Str)=some v6:=by kernel_rfl
theorem yL:bS "state" x (aX v0 v1 v2 v3 v4 v5 v6)=aX v0 v1 v2 v3 x v5 v6:=rfl
theorem rO:bS "answer_due" x (aX v0 v1 v2 v3 v4 v5 v6)=aX v0 v1 v2 v3 v4 x v6:=rfl
theorem BW:(aX v0 v1 v2 v3 v4 v5 v6).lookup ("name" : Str)=none:=by kernel_rfl
theorem Aw:(aX v0 v1 v2 v3 v4 v5 v6).lookup ("begin" : Str)=none:=by kernel_rfl
theorem Dv:(aX v0 v1 v2 v3 v4 v5 v6).lookup ("end" : Str)=none:=by kernel_rfl
theorem Du:(aX v0 v1 v2 v3 v4 v5 v6).lookup ("put" : Str)=none:=by kernel_rfl
theorem BV:(aX v0 v1 v2 v3 v4 v5 v6).lookup ("read" : Str)=none:=by kernel_rfl
theorem BY:(aX v0 v1 v2 v3 v4 v5 v6).lookup ("come" : Str)=none:=by kernel_rfl
theorem BX:(aX v0 v1 v2 v3 v4 v5 v6).lookup ("hear" : Str)=none:=by kernel_rfl
theorem xD:(aX v0 v1 v2 v3 v4 v5 v6).lookup ("take_in" : Str)=none:=by kernel_rfl
theorem vH:(aX v0 v1 v2 v3 v4 v5 v6).lookup ("stand_to" : Str)=none:=by kernel_rfl
theorem BU:(aX v0 v1 v2 v3 v4 v5 v6).lookup ("send" : Str)=none:=by kernel_rfl
theorem vI:(aX v0 v1 v2 v3 v4 v5 v6).lookup ("piece_of" : Str)=none:=by kernel_rfl
theorem Av:(aX v0 v1 v2 v3 v4 v5 v6).lookup ("quiet" : Str)=none:=by kernel_rfl
noncomputable def xi (v0 v1:V):List (Str×V):=[("ring",v0),("rooms",v1)]
theorem De:(xi v0 v1).length<1000:=by show 2<1000;decide
theorem Dd:bS "rooms" v1 (iV v0)=xi v0 v1:=by kernel_rfl
noncomputable def xh (v0 v1 v2:V):List (Str×V):=[("ring",v0),("rooms",v1),("lag",v2)]
theorem Dc:(xh v0 v1 v2).length<1000:=by show 3<1000;decide
theorem C_:bS "lag" v2 (xi v0 v1)=xh v0 v1 v2:=by kernel_rfl
noncomputable def xg (v0 v1 v2 v3:V):List (Str×V):=[("ring",v0),("rooms",v1),("lag",v2),("first",v3)]
theorem C9:(xg v0 v1 v2 v3).length<1000:=by show 4<1000;decide
theorem C8:bS "first" v3 (xh v0 v1 v2)=xg v0 v1 v2 v3:=by kernel_rfl
noncomputable def jT (v0 v1 v2 v3 v4:V):List (Str×V):=[("ring",v0),("rooms",v1),("lag",v2),("first",v3),("longest",v4)]
theorem Gf:bS "longest" v4 (xg v0 v1 v2 v3)=jT v0 v1 v2 v3 v4:=by kernel_rfl
theorem yA:(jT v0 v1 v2 v3 v4).lookup ("ring" : Str)=some v0:=by kernel_rfl
theorem xc:(jT v0 v1 v2 v3 v4).lookup ("rooms" : Str)=some v1:=by kernel_rfl
theorem xf:(jT v0 v1 v2 v3 v4).lookup ("first" : Str)=some v3:=by kernel_rfl
theorem tS:(jT v0 v1 v2 v3 v4).lookup ("longest" : Str)=some v4:=by kernel_rfl
end
abbrev ai:Addr:=304
abbrev au:Addr:=374
abbrev aa:Addr:=515
abbrev az:Addr:=863
abbrev aC:Addr:=982
abbrev bR:Addr:=1020
abbrev br:Addr:=24
abbrev aO:Addr:=44
abbrev aR:Addr:=63
abbrev aI:Addr:=82
abbrev aU:Addr:=94
abbrev aS:Addr:=113
abbrev aY:Addr:=125
abbrev aM:Addr:=144
abbrev Sb:Addr:=578
abbrev aA:Addr:=613
abbrev ae:Addr:=653
abbrev aB:Addr:=693
abbrev aD:Addr:=726
abbrev af:Addr:=759
abbrev ag:Addr:=785
abbrev ah:Addr:=811
structure Txt (K:W.Frag) (mg:Str->Option Value):Prop where
 bG:eZ K mg "Meter" ai
 nJ:bD K ai "most"
 bM:bD K ai "window"
 dh:bD K ai "knee"
 cu:bD K ai "counted"
 bF:eZ K mg "Ways" au
 fu:bD K au "longest"
 bw:bD K au "smooth"
 bW:bD K au "spread"
 df:bD K au "wait"
 ay:eZ K mg "Sender" aa
 lR:bD K aa "ring"
 cp:bD K aa "ways"
 cq:bD K aa "meter"
 c_:bD K aa "things"
 a8:bD K aa "base"
 bu:bD K aa "top"
 dv:bD K aa "edge"
 cO:bD K aa "clock"
 cg:bD K aa "base_hurried"
 cb:bD K aa "known_places"
 cN:bD K aa "first_turns"
 cU:bD K aa "gone_again"
 bp:eZ K mg "Taker" az
 jy:bD K az "ring"
 nI:bD K az "room"
 cA:bD K az "got"
 dg:bD K az "out"
 cV:bD K az "kept"
 aV:eZ K mg "Hand" aC
 tI:bD K aC "side"
 iU:bD K aC "ring"
 cv:bD K aC "taker"
 bh:bD K aC "sender"
 bP:bD K aC "state"
 b8:bD K aC "answer_due"
 di:bD K aC "end_places"
 dB:eZ K mg "Terms" bR
 dW:bD K bR "ring"
 gE:bD K bR "rooms"
 tG:bD K bR "lag"
 lQ:bD K bR "first"
 gN:bD K bR "longest"
 xQ:yV K mg "RoadError" br
 vU:yV K mg "NoFrame" aO
 y2:yV K mg "Spoilt" aR
 vT:yV K mg "NoPiece" aI
 AS:yV K mg "BadTerms" aU
 Ck:yV K mg "NotWide" aS
 Cm:yV K mg "BadText" aY
 y3:yV K mg "NotNow" aM
 uL:Uh K mg "NoFrame" aO br
 z9:H9 K aO
 wY:W.keepIn K (.ref aO)=true
 fB:GC K aO "frame"
 wA:W.kitOne K (.ref aO) (.type "ValueError")=some true
 gn:W.kitOne K (.ref aO) (.ref br)=some true
 gv:isx K (.ref aO) br=some true
 eU:W.kitOne K (.ref aO) (.ref aO)=some true
 eY:isx K (.ref aO) aO=some true
 kP:W.kitOne K (.ref aO) (.ref aR)=some false
 k_:isx K (.ref aO) aR=some false
 jk:W.kitOne K (.ref aO) (.ref aI)=some false
 jK:isx K (.ref aO) aI=some false
 g_:W.kitOne K (.ref aO) (.ref aU)=some false
 ig:isx K (.ref aO) aU=some false
 jj:W.kitOne K (.ref aO) (.ref aS)=some false
 jJ:isx K (.ref aO) aS=some false
 jl:W.kitOne K (.ref aO) (.ref aY)=some false
 jL:isx K (.ref aO) aY=some false
 kQ:W.kitOne K (.ref aO) (.ref aM)=some false
 lg:isx K (.ref aO) aM=some false
 xR:Uh K mg "Spoilt" aR br
 C6:H9 K aR
 z5:W.keepIn K (.ref aR)=true
 gH:GC K aR "frame"
 zE:W.kitOne K (.ref aR) (.type "ValueError")=some true
 gZ:W.kitOne K (.ref aR) (.ref br)=some true
 h9:isx K (.ref aR) br=some true
 fH:W.kitOne K (.ref aR) (.ref aO)=some false
 fN:isx K (.ref aR) aO=some false
 gL:W.kitOne K (.ref aR) (.ref aR)=some true
 gO:isx K (.ref aR) aR=some true
 kG:W.kitOne K (.ref aR) (.ref aI)=some false
 kU:isx K (.ref aR) aI=some false
 ja:W.kitOne K (.ref aR) (.ref aU)=some false
 jB:isx K (.ref aR) aU=some false
 kE:W.kitOne K (.ref aR) (.ref aS)=some false
 kT:isx K (.ref aR) aS=some false
 kH:W.kitOne K (.ref aR) (.ref aY)=some false
 kW:isx K (.ref aR) aY=some false
 mz:W.kitOne K (.ref aR) (.ref aM)=some false
 mI:isx K (.ref aR) aM=some false
 qd:Uh K mg "NoPiece" aI br
 z8:H9 K aI
 rD:W.keepIn K (.ref aI)=true
 gJ:GC K aI "what"
 wz:W.kitOne K (.ref aI) (.type "ValueError")=some true
 gm:W.kitOne K (.ref aI) (.ref br)=some true
 gu:isx K (.ref aI) br=some true
 eS:W.kitOne K (.ref aI) (.ref aO)=some false
 eX:isx K (.ref aI) aO=some false
 fJ:W.kitOne K (.ref aI) (.ref aR)=some false
 fO:isx K (.ref aI) aR=some false
 eQ:W.kitOne K (.ref aI) (.ref aI)=some true
 eW:isx K (.ref aI) aI=some true
 g9:W.kitOne K (.ref aI) (.ref aU)=some false
 ie:isx K (.ref aI) aU=some false
 jh:W.kitOne K (.ref aI) (.ref aS)=some false
 jH:isx K (.ref aI) aS=some false
 ji:W.kitOne K (.ref aI) (.ref aY)=some false
 jI:isx K (.ref aI) aY=some false
 kO:W.kitOne K (.ref aI) (.ref aM)=some false
 k9:isx K (.ref aI) aM=some false
 qD:DH K mg "BadTerms" aU br none
 wZ:H9 K aU
 tj:W.kitOne K (.ref aU) (.type "ValueError")=some true
 fg:W.kitOne K (.ref aU) (.ref br)=some true
 fv:isx K (.ref aU) br=some true
 hV:W.kitOne K (.ref aU) (.ref aO)=some false
 ir:isx K (.ref aU) aO=some false
 jr:W.kitOne K (.ref aU) (.ref aR)=some false
 jQ:isx K (.ref aU) aR=some false
 hU:W.kitOne K (.ref aU) (.ref aI)=some false
 iq:isx K (.ref aU) aI=some false
 gq:W.kitOne K (.ref aU) (.ref aU)=some true
 gx:isx K (.ref aU) aU=some true
 hJ:W.kitOne K (.ref aU) (.ref aS)=some false
 ip:isx K (.ref aU) aS=some false
 hX:W.kitOne K (.ref aU) (.ref aY)=some false
 iu:isx K (.ref aU) aY=some false
 js:W.kitOne K (.ref aU) (.ref aM)=some false
 jR:isx K (.ref aU) aM=some false
 uK:Uh K mg "NotWide" aS br
 z7:H9 K aS
 wX:W.keepIn K (.ref aS)=true
 fA:GC K aS "least"
 wy:W.kitOne K (.ref aS) (.type "ValueError")=some true
 gj:W.kitOne K (.ref aS) (.ref br)=some true
 gs:isx K (.ref aS) br=some true
 je:W.kitOne K (.ref aS) (.ref aO)=some false
 jE:isx K (.ref aS) aO=some false
 kI:W.kitOne K (.ref aS) (.ref aR)=some false
 kX:isx K (.ref aS) aR=some false
 jd:W.kitOne K (.ref aS) (.ref aI)=some false
 jD:isx K (.ref aS) aI=some false
 g7:W.kitOne K (.ref aS) (.ref aU)=some false
 h_:isx K (.ref aS) aU=some false
 jc:W.kitOne K (.ref aS) (.ref aS)=some true
 jC:isx K (.ref aS) aS=some true
 jf:W.kitOne K (.ref aS) (.ref aY)=some false
 jF:isx K (.ref aS) aY=some false
 kJ:W.kitOne K (.ref aS) (.ref aM)=some false
 kY:isx K (.ref aS) aM=some false
 y4:DH K mg "BadText" aY br none
 z_:H9 K aY
 wB:W.kitOne K (.ref aY) (.type "ValueError")=some true
 gp:W.kitOne K (.ref aY) (.ref br)=some true
 gw:isx K (.ref aY) br=some true
 jo:W.kitOne K (.ref aY) (.ref aO)=some false
 jO:isx K (.ref aY) aO=some false
 kR:W.kitOne K (.ref aY) (.ref aR)=some false
 lh:isx K (.ref aY) aR=some false
 jn:W.kitOne K (.ref aY) (.ref aI)=some false
 jN:isx K (.ref aY) aI=some false
 hG:W.kitOne K (.ref aY) (.ref aU)=some false
 ij:isx K (.ref aY) aU=some false
 jm:W.kitOne K (.ref aY) (.ref aS)=some false
 jM:isx K (.ref aY) aS=some false
 jq:W.kitOne K (.ref aY) (.ref aY)=some true
 jP:isx K (.ref aY) aY=some true
 kS:W.kitOne K (.ref aY) (.ref aM)=some false
 lp:isx K (.ref aY) aM=some false
 nP:Uh K mg "NotNow" aM br
 C7:H9 K aM
 qu:W.keepIn K (.ref aM)=true
 gI:GC K aM "state"
 iZ:GC K aM "wish"
 zF:W.kitOne K (.ref aM) (.type "ValueError")=some true
 g8:W.kitOne K (.ref aM) (.ref br)=some true
 ia:isx K (.ref aM) br=some true
 kM:W.kitOne K (.ref aM) (.ref aO)=some false
 k7:isx K (.ref aM) aO=some false
 mC:W.kitOne K (.ref aM) (.ref aR)=some false
 mJ:isx K (.ref aM) aR=some false
 kL:W.kitOne K (.ref aM) (.ref aI)=some false
 k6:isx K (.ref aM) aI=some false
 jg:W.kitOne K (.ref aM) (.ref aU)=some false
 jG:isx K (.ref aM) aU=some false
 kK:W.kitOne K (.ref aM) (.ref aS)=some false
 kZ:isx K (.ref aM) aS=some false
 kN:W.kitOne K (.ref aM) (.ref aY)=some false
 k8:isx K (.ref aM) aY=some false
 mD:W.kitOne K (.ref aM) (.ref aM)=some true
 mK:isx K (.ref aM) aM=some true
 Kl:eZ K mg "State" Sb
 mL:eZ K mg "Shut" aA
 d8:eZ K mg "Calling" ae
 oo:eZ K mg "Open" aB
 pT:eZ K mg "Left" aD
 dF:eZ K mg "Leaving" af
 d7:eZ K mg "Waiting" ag
 dG:eZ K mg "Closing" ah
 yu:yY K aA
 lr:MethAt K aA "wish_end" "State.wish_end" (ic 53 2)
 mM:MethAt K aA "may_put" "State.may_put" (ic 53 3)
 pY:MethAt K aA "ended" "State.ended" (ic 53 5)
 lu:MethAt K aA "answered" "State.answered" (ic 53 6)
 wR:yY K ae
 eK:MethAt K ae "wish_begin" "State.wish_begin" (ic 53 1)
 lD:MethAt K ae "ended" "State.ended" (ic 53 5)
 gC:MethAt K ae "answered" "State.answered" (ic 53 6)
 Ca:yY K aB
 iz:MethAt K aB "wish_begin" "State.wish_begin" (ic 53 1)
 pZ:MethAt K aB "begun" "State.begun" (ic 53 4)
 lx:MethAt K aB "answered" "State.answered" (ic 53 6)
 F7:yY K aD
 iB:MethAt K aD "wish_begin" "State.wish_begin" (ic 53 1)
 p8:MethAt K aD "begun" "State.begun" (ic 53 4)
 p7:MethAt K aD "ended" "State.ended" (ic 53 5)
 ly:MethAt K aD "answered" "State.answered" (ic 53 6)
 rA:yY K af
 eI:MethAt K af "wish_begin" "State.wish_begin" (ic 53 1)
 gA:MethAt K af "wish_end" "State.wish_end" (ic 53 2)
 iC:MethAt K af "may_put" "State.may_put" (ic 53 3)
 lA:MethAt K af "begun" "State.begun" (ic 53 4)
 wQ:yY K ag
 eG:MethAt K ag "wish_begin" "State.wish_begin" (ic 53 1)
 gy:MethAt K ag "wish_end" "State.wish_end" (ic 53 2)
 iy:MethAt K ag "may_put" "State.may_put" (ic 53 3)
 lq:MethAt K ag "begun" "State.begun" (ic 53 4)
 gz:MethAt K ag "answered" "State.answered" (ic 53 6)
 rB:yY K ah
 eJ:MethAt K ah "wish_begin" "State.wish_begin" (ic 53 1)
 gB:MethAt K ah "wish_end" "State.wish_end" (ic 53 2)
 iD:MethAt K ah "may_put" "State.may_put" (ic 53 3)
 lC:MethAt K ah "begun" "State.begun" (ic 53 4)
 lB:MethAt K ah "ended" "State.ended" (ic 53 5)
 iM:MethAt K aO "__init__" "NoFrame.__init__" (ic 2 0)
 jY:MethAt K aR "__init__" "Spoilt.__init__" (ic 3 0)
 iL:MethAt K aI "__init__" "NoPiece.__init__" (ic 4 0)
 iK:MethAt K aS "__init__" "NotWide.__init__" (ic 6 0)
 j4:MethAt K aM "__init__" "NotNow.__init__" (ic 8 0)
 AH:cB K mg "is_from" (top 10)
 xH:cB K mg "is_piece" (top 26)
 AG:cB K mg "is_held" (top 27)
 uo:cB K mg "are_signs" (top 28)
 t_:cB K mg "remainder" (top 29)
 AA:cB K mg "written" (top 30)
 AJ:cB K mg "body_of" (top 31)
 oC:cB K mg "bits_of_held" (top 32)
 mN:cB K mg "bits_of_signs" (top 33)
 xI:cB K mg "is_frame" (top 34)
 Jl:cB K mg "read" (top 35)
 oB:cB K mg "likely_piece" (top 36)
 AE:cB K mg "kind_of" (top 37)
 AI:cB K mg "held_of" (top 38)
 xG:cB K mg "signs_of" (top 39)
 AD:cB K mg "sign_of" (top 40)
 lH:MethAt K ai "__init__" "Meter.__init__" (ic 42 0)
 qc:MethAt K ai "known" "Meter.known" (ic 42 1)
 lG:MethAt K ai "know_one" "Meter.know_one" (ic 42 2)
 r6:MethAt K ai "half" "Meter.half" (ic 42 3)
 mU:MethAt K ai "ran_out" "Meter.ran_out" (ic 42 4)
 mV:MethAt K ai "hurried" "Meter.hurried" (ic 42 5)
 Gn:cB K mg "ahead" (top 44)
 Dy:cB K mg "lowest" (top 47)
 mQ:MethAt K au "__init__" "Ways.__init__" (ic 48 0)
 mO:MethAt K au "measured" "Ways.measured" (ic 48 1)
 iE:MethAt K au "next_spread" "Ways.next_spread" (ic 48 2)
 iF:MethAt K au "next_smooth" "Ways.next_smooth" (ic 48 3)
 jW:MethAt K au "least_wait" "Ways.least_wait" (ic 48 4)
 oF:MethAt K au "ran_out" "Ways.ran_out" (ic 48 5)
 j3:MethAt K aa "__init__" "Sender.__init__" (ic 51 0)
 rY:MethAt K aa "put" "Sender.put" (ic 51 1)
 qb:MethAt K aa "many" "Sender.many" (ic 51 2)
 oI:MethAt K aa "thing" "Sender.thing" (ic 51 3)
 oJ:MethAt K aa "heard" "Sender.heard" (ic 51 4)
 iJ:MethAt K aa "grow_base" "Sender.grow_base" (ic 51 5)
 iI:MethAt K aa "note_held" "Sender.note_held" (ic 51 6)
 fz:MethAt K aa "newly_known" "Sender.newly_known" (ic 51 7)
 c9:MethAt K aa "known_above_base" "Sender.known_above_base" (ic 51 8)
 iG:MethAt K aa "under_way" "Sender.under_way" (ic 51 9)
 fw:MethAt K aa "thing_waits" "Sender.thing_waits" (ic 51 10)
 eO:MethAt K aa "clock_is_out" "Sender.clock_is_out" (ic 51 11)
 eL:MethAt K aa "hurry_is_due" "Sender.hurry_is_due" (ic 51 12)
 gD:MethAt K aa "new_may_go" "Sender.new_may_go" (ic 51 13)
 uy:MethAt K aa "go" "Sender.go" (ic 51 14)
 iH:MethAt K aa "set_clock" "Sender.set_clock" (ic 51 15)
 j2:MethAt K aa "go_again" "Sender.go_again" (ic 51 16)
 mS:MethAt K aa "go_new" "Sender.go_new" (ic 51 17)
 eP:MethAt K aa "ask_for_room" "Sender.ask_for_room" (ic 51 18)
 ux:MethAt K aA "name" "Shut.name" (ic 54 0)
 jZ:MethAt K aA "wish_begin" "Shut.wish_begin" (ic 54 1)
 rX:MethAt K aA "begun" "Shut.begun" (ic 54 2)
 oQ:MethAt K ae "name" "Calling.name" (ic 55 0)
 iP:MethAt K ae "wish_end" "Calling.wish_end" (ic 55 1)
 j5:MethAt K ae "may_put" "Calling.may_put" (ic 55 2)
 m7:MethAt K ae "begun" "Calling.begun" (ic 55 3)
 uz:MethAt K aB "name" "Open.name" (ic 56 0)
 mT:MethAt K aB "wish_end" "Open.wish_end" (ic 56 1)
 oK:MethAt K aB "may_put" "Open.may_put" (ic 56 2)
 rZ:MethAt K aB "ended" "Open.ended" (ic 56 3)
 uA:MethAt K aD "name" "Left.name" (ic 57 0)
 mW:MethAt K aD "wish_end" "Left.wish_end" (ic 57 1)
 oM:MethAt K aD "may_put" "Left.may_put" (ic 57 2)
 oN:MethAt K af "name" "Leaving.name" (ic 58 0)
 mX:MethAt K af "ended" "Leaving.ended" (ic 58 1)
 iN:MethAt K af "answered" "Leaving.answered" (ic 58 2)
 oG:MethAt K ag "name" "Waiting.name" (ic 59 0)
 mR:MethAt K ag "ended" "Waiting.ended" (ic 59 1)
 oP:MethAt K ah "name" "Closing.name" (ic 60 0)
 iO:MethAt K ah "answered" "Closing.answered" (ic 60 1)
 lF:MethAt K az "__init__" "Taker.__init__" (ic 62 0)
 jX:MethAt K az "room_left" "Taker.room_left" (ic 62 1)
 rV:MethAt K az "take" "Taker.take" (ic 62 2)
 dY:MethAt K az "stand_in_order" "Taker.stand_in_order" (ic 62 3)
 oH:MethAt K az "answer" "Taker.answer" (ic 62 4)
 rW:MethAt K az "read" "Taker.read" (ic 62 5)
 AF:cB K mg "is_text" (top 67)
 oA:cB K mg "read_or_none" (top 68)
 m6:MethAt K aC "__init__" "Hand.__init__" (ic 69 0)
 uD:MethAt K aC "name" "Hand.name" (ic 69 1)
 r_:MethAt K aC "begin" "Hand.begin" (ic 69 2)
 xK:MethAt K aC "end" "Hand.end" (ic 69 3)
 xJ:MethAt K aC "put" "Hand.put" (ic 69 4)
 uC:MethAt K aC "read" "Hand.read" (ic 69 5)
 uF:MethAt K aC "come" "Hand.come" (ic 69 6)
 uE:MethAt K aC "hear" "Hand.hear" (ic 69 7)
 oO:MethAt K aC "take_in" "Hand.take_in" (ic 69 8)
 mY:MethAt K aC "stand_to" "Hand.stand_to" (ic 69 9)
 uB:MethAt K aC "send" "Hand.send" (ic 69 10)
 mZ:MethAt K aC "piece_of" "Hand.piece_of" (ic 69 11)
 r9:MethAt K aC "quiet" "Hand.quiet" (ic 69 12)
 Jm:cB K mg "need" (top 71)
 uq:cB K mg "are_rooms" (top 78)
 um:cB K mg "are_waits" (top 79)
 lE:MethAt K bR "__init__" "Terms.__init__" (ic 80 0)
 oE:cB K mg "_law_cell_at" (top 82)
 rT:cB K mg "_law_mixed" (top 83)
 rR:cB K mg "_law_terms" (top 84)
 uu:cB K mg "_law_text" (top 85)
 ur:cB K mg "_law_wish" (top 86)
 p9:cB K mg "_law_things" (top 87)
 uw:cB K mg "_law_come" (top 88)
 uv:cB K mg "_law_sent" (top 89)
 p_:cB K mg "_law_stands" (top 90)
 rS:cB K mg "_law_noise" (top 91)
 qa:cB K mg "_law_spoilt" (top 92)
 KG:cB K mg "law" (top 93)
 PQ:mg "abs" = none
 HY:mg "all" = none
 Ju:mg "bool" = none
 PN:mg "int" = none
 cE:mg "isinstance" = none
 l9:mg "len" = none
 Jt:mg "list" = none
 DE:mg "max" = none
 Fb:mg "min" = none
 dC:mg "range" = none
 KP:mg "str" = none
 PM:mg "sum" = none
 nM:mg "tuple" = none
 uX:TupAt K mg "KINDS" [.str "bare",.str "signs",.str "begin",.str "end",.str "ask"]
 sf:gG mg "SIGNS" (.str " !\"#$&'()*+,-./0123456789:;<=>?@ABCDEFGHIJKLMNOPQRSTUVWXYZ[\\]^_`abcdefghijklmnopqrstuvwxyz{|}~")
 se:TupAt K mg "UNNUMBERED" [.str "bare",.str "ask"]
 lU:gG mg "NUMBER_MOST" (.int 63)
 iQ:gG mg "ROOM_MOST_pieces" (.int 16)
 pB:gG mg "HELD_MOST" (.int 15)
 fS:gG mg "SIGNS_MOST" (.int 4)
 si:gG mg "FRAME_BITS" (.int 74)
 nL:gG mg "CHECK_BITS" (.int 8)
 AQ:gG mg "DIVISOR" (.int 263)
 oU:gG mg "DIVISOR_BITS" (.int 9)
 lJ:gG mg "REMAINDER_MOST" (.int 255)
 AO:gG mg "NO_KIND" (.str "")
 AN:gG mg "NO_SIGN" (.str "\n")
 j7:gG mg "WAIT_LEAST_ways" (.int 2)
 lK:gG mg "KNOWN_TO_HURRY" (.int 2)
 uH:gG mg "TEXT_MOST" (.int 60)
 Cg:TupAt K mg "BEGIN" [.str "begin",.str ""]
 PJ:TupAt K mg "END" [.str "end",.str ""]
 uI:gG mg "RING_MOST" (.int 64)
 j8:gG mg "ROOM_MOST_terms" (.int 16)
 xM:gG mg "LAG_MOST" (.int 32)
 dZ:gG mg "WAIT_LEAST_terms" (.int 2)
 uG:gG mg "WAIT_MOST" (.int 64)
noncomputable section
open PySem W
abbrev Ob:=Obj
abbrev Pm:=Params
noncomputable abbrev q (x:String) (k:Nat):Value:= .str (Str.ofString x) k
noncomputable abbrev tp (x:List Value):Obj:=⟨.type "tuple",none,.seq x.toArray,#[]⟩
noncomputable abbrev fm (n m:String) (t:Stmt):=FuncData.mk (Str.ofString n) (Str.ofString m) (L2.fP t) (.stmts (L2.dq t)) (L2.bN t)
noncomputable abbrev cd (n:String) (a:Nat) (m:String) (b c:Nat) (l d e f g:Int) (r:Nat) (o:Bool) (k:Int) (s:Nat) (v w x y:Value) (i:Int) (z:Nat):Ob:=⟨.type "code",none,.fields #[q n a,q m b,q "/claim/cut.py" c,.int l 0,.int d 0,.int e 0,.int f 0,.int g 0,.ref r,.bool o,.int k 0,.ref s,v,w,x,y,.int i 0,.int l 0,q "/claim/cut.py" z],#[]⟩
noncomputable abbrev f0 (n m:String) (t:Stmt):Ob:=⟨.none,none,.func (fm n m t 0 [] .none .none .none .none none .none .none 0),#[]⟩
noncomputable abbrev f1 (n m:String) (t:Stmt) (c:Nat) (v:Value) (r:Nat):Ob:=⟨.type "function",none,.func (fm n m t c [] .none .none .none v none (.ref r) .none 0),#[]⟩
abbrev den (P:Params) (x:String) (k:Nat) (v:Value):DictEntry:=DictEntry.mk (PyData.keyHash P (Str.ofString x)) (Value.str (Str.ofString x) k) v
def up:List Ob->BT->Nat->BT
 | [],t,_=>t
 |o::r,t,n=>up r (t.ins n o) (n+1)
def ch:List (Nat×Ob)->BT->BT
 | [],t=>t
 |p::r,t=>ch r (t.ins p.1 p.2)
abbrev nt {α:Type} (n m:String) (t:Stmt) (k:String->String->Stmt->α):α:=k n m t
abbrev cf (n m:String) (t:Stmt) (a:Nat) (l d g:Int) (r i:Nat):Ob:=cd n a m (a+1) (a+2) l d 0 0 g r true 181 (r+1) .none (.ref (r+2)) (.ref (r+3)) (.ref (r+4)) i (i+1)
abbrev ck (n:String) (a:Nat) (l:Int) (r:Nat):Ob:=cd n a n (a+1) (a+2) l 0 0 0 0 r false 181 (r+1) .none .none .none .none (a+3) (a+4)
abbrev q0:=q "slowroad.errors" 187
abbrev q1:=q "RoadError" 189
abbrev q2:=q "RoadError" 197
abbrev q3:=q "slowroad.pieces" 377
abbrev q4:=q "slowroad.ways" 604
abbrev q5:=q "slowroad.meter" 522
abbrev q6:=q "slowroad.sender" 691
abbrev q7:=q "slowroad.states" 879
abbrev q8:=q "State" 881
abbrev q9:=q "State" 889
abbrev EO:=q "slowroad.hand" 1287
abbrev QW:=q "slowroad.taker" 1209
abbrev J5:=q "law_slowroad_k66_spoilt_frames" 1522
abbrev X7:=q "slowroad.terms" 1465
def tql:List String->Nat->List Value
 | [],_=>[]
 |x::r,k=>q x k::tql r (k+1)
abbrev tq (l:List String) (k:Nat):Ob:=tp (tql l k)
def ztl:List (Int×Int×Nat)->List Value
 | []=>[]
 |x::r=> .int x.1 0 :: .int x.2.1 0 :: .ref x.2.2::ztl r
abbrev zt (l:List (Int×Int×Nat)):Ob:=⟨.none,none,.fields (ztl l).toArray,#[]⟩
abbrev zx (n:String) (b m:List Value) (a:Nat) (s:List Value) (d:Option Value) (t u:Value):Ob:=⟨.type "type",none,.cls (.mk (.ofString n) b (m++ [.type "ValueError",.type "Exception",.type "BaseException",.type "object"]) a (.ofString n) true [] s false none false),#[d,none,some t,some u,some (.builtin "ValueError.__new__"),some (.bool true)]⟩
abbrev zo (n:String) (b m:List Value) (a:Nat) (s:List Value) (d:Option Value) (t u:Value):Ob:=⟨.type "type",none,.cls (.mk (.ofString n) b (m++ [.type "object"]) a (.ofString n) true [] s false none false),#[d,none,some t,some u,some (.builtin "object.__new__"),some (.bool true)]⟩
abbrev pg:=Challenge.rw_slowroad_k66_spoilt_frames.row.prog
noncomputable def mdl (P:Pm):List DictEntry:=[den P "__doc__" 166 .none,den P "__package__" 167 .none,den P "__loader__" 168 (.builtin "__main__.__loader__#opaque"),den P "__spec__" 169 .none,den P "__annotations__" 170 (.ref 6),den P "__builtins__" 171 (.ref 4),den P "__file__" 173 (q "/claim/cut.py" 172),den P "__cached__" 174 .none,den P "RoadError" 206 (.ref 24),den P "NoFrame" 231 (.ref 44),den P "Spoilt" 256 (.ref 63),den P "NoPiece" 281 (.ref 82),den P "BadTerms" 297 (.ref 94),den P "NotWide" 322 (.ref 113),den P "BadText" 338 (.ref 125),den P "NotNow" 365 (.ref 144),den P "is_from" 376 (.ref 153),den P "KINDS" 384 (.ref 154),den P "SIGNS" 386 (q " !\"#$&'()*+,-./0123456789:;<=>?@ABCDEFGHIJKLMNOPQRSTUVWXYZ[\\]^_`abcdefghijklmnopqrstuvwxyz{|}~" 385),den P "UNNUMBERED" 389 (.ref 155),den P "NUMBER_MOST" 391 (.int 63 390),den P "ROOM_MOST_pieces" 393 (.int 16 392),den P "HELD_MOST" 395 (.int 15 394),den P "SIGNS_MOST" 397 (.int 4 396),den P "FRAME_BITS" 399 (.int 74 398),den P "CHECK_BITS" 401 (.int 8 400),den P "DIVISOR" 403 (.int 263 402),den P "DIVISOR_BITS" 405 (.int 9 404),den P "REMAINDER_MOST" 407 (.int 255 406),den P "NO_KIND" 409 (q "" 408),den P "NO_SIGN" 411 (q "\n" 410),den P "is_piece" 419 (.ref 162),den P "is_held" 428 (.ref 169),den P "are_signs" 434 (.ref 174),den P "remainder" 442 (.ref 181),den P "written" 450 (.ref 188),den P "body_of" 458 (.ref 195),den P "bits_of_held" 464 (.ref 200),den P "bits_of_signs" 473 (.ref 207),den P "is_frame" 480 (.ref 214),den P "read" 488 (.ref 221),den P "likely_piece" 495 (.ref 228),den P "kind_of" 502 (.ref 235),den P "held_of" 508 (.ref 240),den P "signs_of" 514 (.ref 245),den P "sign_of" 521 (.ref 252),den P "Meter" 592 (.ref 304),den P "ahead" 603 (.ref 315),den P "WAIT_LEAST_ways" 607 (.int 2 606),den P "lowest" 616 (.ref 322),den P "Ways" 690 (.ref 374),den P "KNOWN_TO_HURRY" 694 (.int 2 693),den P "Sender" 878 (.ref 515),den P "State" 949 (.ref 578),den P "Shut" 986 (.ref 613),den P "Calling" 1030 (.ref 653),den P "Open" 1074 (.ref 693),den P "Left" 1111 (.ref 726),den P "Leaving" 1148 (.ref 759),den P "Waiting" 1178 (.ref 785),den P "Closing" 1208 (.ref 811),den P "Taker" 1286 (.ref 863),den P "TEXT_MOST" 1290 (.int 60 1289),den P "BEGIN" 1293 (.ref 868),den P "END" 1296 (.ref 869),den P "is_text" 1302 (.ref 874),den P "read_or_none" 1309 (.ref 881),den P "Hand" 1454 (.ref 982),den P "need" 1464 (.ref 993),den P "RING_MOST" 1468 (.int 64 1467),den P "ROOM_MOST_terms" 1470 (.int 16 1469),den P "LAG_MOST" 1472 (.int 32 1471),den P "WAIT_LEAST_terms" 1474 (.int 2 1473),den P "WAIT_MOST" 1476 (.int 64 1475),den P "are_rooms" 1482 (.ref 998),den P "are_waits" 1490 (.ref 1005),den P "Terms" 1521 (.ref 1020),den P "_law_cell_at" 1531 (.ref 1031),den P "_law_mixed" 1541 (.ref 1038),den P "_law_terms" 1547 (.ref 1043),den P "_law_text" 1558 (.ref 1050),den P "_law_wish" 1568 (.ref 1057),den P "_law_things" 1574 (.ref 1062),den P "_law_come" 1588 (.ref 1069),den P "_law_sent" 1600 (.ref 1076),den P "_law_stands" 1611 (.ref 1083),den P "_law_noise" 1624 (.ref 1090),den P "_law_spoilt" 1635 (.ref 1097),den P "law" 1641 (.ref 1102)]
abbrev md (P:Pm) (v:Value) (k n:Nat):Ob:=⟨.type "dict",none,.dict ⟨den P "__name__" 165 v::(mdl P).take k⟩ n,#[]⟩
def ltl:List Value:=ztl [(2,0,20),(4,0,33),(8,0,52),(12,0,71),(16,0,90),(18,0,102),(22,0,121),(24,0,133),(30,0,152),(47,0,161),(52,0,168),(61,0,173),(67,0,180),(72,0,187),(77,0,194),(85,0,199),(87,0,206),(92,0,213),(94,0,220),(103,0,227),(105,0,234),(107,0,239),(109,0,244),(111,0,251),(114,0,258),(150,0,314),(154,0,321),(157,0,328),(190,0,384),(303,0,525),(325,0,588),(335,0,621),(348,0,661),(361,0,701),(371,0,734),(381,0,767),(388,0,793),(396,0,819),(438,0,873),(440,0,880),(445,0,887),(535,0,992),(543,0,997),(545,0,1004),(547,0,1011),(563,0,1030),(567,0,1037),(574,0,1042),(586,0,1049),(593,0,1056),(608,0,1061),(610,0,1068),(619,0,1075),(627,0,1082),(633,0,1089),(650,0,1096),(654,0,1101)]
abbrev lt (k:Nat):Ob:=⟨.none,none,.fields ⟨ltl.take k⟩,#[]⟩
noncomputable abbrev zb (n:Nat):Ob:=⟨.type "builtin_function_or_method",none,.fields #[.builtin "object.__init_subclass__",.ref n],#[]⟩
noncomputable abbrev zs (n:Nat):Ob:=⟨.type "super",none,.fields #[.ref n,.ref n,.ref n],#[]⟩
noncomputable abbrev zf (a b c:Nat) (m:Value) (d:Nat):Ob:=⟨.type "frame",none,.plain,#[some (.ref a),some (.ref b),some (.ref c),none,some m,none,some (.ref d)]⟩
noncomputable abbrev zi (i j:Nat):Stmt:=inClass (top i) j
noncomputable abbrev zn (a b:Int) (c:Nat):Ob:=⟨.none,none,.fields #[.int a 0,.int b 0,.ref c],#[]⟩
noncomputable abbrev zm (P:Params) (a:Nat) (m:Value):DictEntry:=den P "__module__" a m
noncomputable abbrev zq (P:Params) (a:Nat) (m:String) (b:Nat):DictEntry:=den P "__qualname__" a (q m b)
noncomputable abbrev zl (P:Params) (a:Nat) (m:Int) (b:Nat):DictEntry:=den P "__firstlineno__" a (.int m b)
noncomputable abbrev za (P:Params) (a b:Nat):DictEntry:=den P "__static_attributes__" a (.ref b)
noncomputable abbrev zd (x:Array DictEntry) (n:Nat):Ob:=⟨.type "dict",none,.dict x n,#[]⟩
abbrev sO (x:String):Str:=Str.ofString x
def aJ:=tp []
def cC:Ob:=⟨.none,none,.fields #[],#[]⟩
def o13:=ck "<module>" 182 1 11
def o14:=zf 13 3 3 (q "__main__" 164) 0
def o15(P:Pm):=md P q0 11 12
def o16:=lt 9
def o17:=tp [.type "ValueError"]
def DM:Ob:=⟨.type "builtin_function_or_method",none,.fields #[.builtin "type.__prepare__",.type "type"],#[]⟩
def o19(P:Pm):=zd #[zm P 196 q0,zq P 198 "RoadError" 197,zl P 200 2 199,za P 201 22] 4
def o22:=ck "RoadError" 191 2 18
def o23:=zf 20 3 17 q0 0
def o25(P:Pm):=zd #[zm P 196 q0,zl P 200 2 199,za P 201 22,den P "__weakref__" 203 (.ref 25),den P "__doc__" 204 .none] 3
def o26:=zx "RoadError" [.type "ValueError"] [.ref 24] 23 [.ref 44,.ref 63] (some (.ref 15)) q1 q2
def o27:Ob:=⟨.type "getset_descriptor",none,.fields #[q "__weakref__" 202,.ref 24,.builtin "ExceptionGroup.__weakref__",.none],#[]⟩
def o28:=zs 24
def o29:=zb 24
def Kh:=tp [.ref 24]
def o32(P:Pm):=zd #[zm P 214 q0,zq P 216 "NoFrame" 215,zl P 218 4 217,den P "__init__" 226 (.ref 41),za P 228 42] 5
def o34:=zn 6 4 40
def o35:=ck "NoFrame" 209 4 31
def o36:=zf 33 3 30 q0 0
def o39:=tq ["self","frame"] 222
abbrev j41 {α}:=nt (α:=α) "__init__" "NoFrame.__init__" (zi 2 0)
def o41:=j41 f0
def o42:=j41 cf 219 6 2 3 35 224
def o43:=j41 f1 3 q0 40
def o44:=tq ["frame"] 227
def o45(P:Pm):=zd #[zm P 214 q0,zl P 218 4 217,den P "__init__" 226 (.ref 41),za P 228 42,den P "__doc__" 229 .none] 2
def o46:=zx "NoFrame" [.ref 24] [.ref 44,.ref 24] 43 [] (some (.ref 28)) (q "NoFrame" 207) (q "NoFrame" 215)
def o47:=zs 44
def o48:=zb 44
def o51(P:Pm):=zd #[zm P 239 q0,zq P 241 "Spoilt" 240,zl P 243 8 242,den P "__init__" 251 (.ref 60),za P 253 61] 5
def o53:=zn 10 4 59
def o54:=ck "Spoilt" 234 8 50
def o55:=zf 52 3 49 q0 0
def o58:=tq ["self","frame"] 247
abbrev j60 {α}:=nt (α:=α) "__init__" "Spoilt.__init__" (zi 3 0)
def o60:=j60 f0
def o61:=j60 cf 244 10 2 3 54 249
def o62:=j60 f1 3 q0 59
def o63:=tq ["frame"] 252
def o64(P:Pm):=zd #[zm P 239 q0,zl P 243 8 242,den P "__init__" 251 (.ref 60),za P 253 61,den P "__doc__" 254 .none] 2
def o65:=zx "Spoilt" [.ref 24] [.ref 63,.ref 24] 62 [] (some (.ref 47)) (q "Spoilt" 232) (q "Spoilt" 240)
def o66:=zs 63
def o67:=zb 63
def o68(P:Pm):=md P q0 13 14
def o69:=lt 15
def o70:=zx "RoadError" [.type "ValueError"] [.ref 24] 23 [.ref 44,.ref 63,.ref 82,.ref 94] (some (.ref 15)) q1 q2
def o73(P:Pm):=zd #[zm P 264 q0,zq P 266 "NoPiece" 265,zl P 268 12 267,den P "__init__" 276 (.ref 79),za P 278 80] 5
def o75:=zn 14 4 78
def o76:=ck "NoPiece" 259 12 69
def o77:=zf 71 3 68 q0 0
def o80:=tq ["self","what"] 272
abbrev j82 {α}:=nt (α:=α) "__init__" "NoPiece.__init__" (zi 4 0)
def o82:=j82 f0
def o83:=j82 cf 269 14 2 3 73 274
def o84:=j82 f1 3 q0 78
def o85:=tq ["what"] 277
def o86(P:Pm):=zd #[zm P 264 q0,zl P 268 12 267,den P "__init__" 276 (.ref 79),za P 278 80,den P "__doc__" 279 .none] 2
def o87:=zx "NoPiece" [.ref 24] [.ref 82,.ref 24] 81 [] (some (.ref 66)) (q "NoPiece" 257) (q "NoPiece" 265)
def o88:=zs 82
def o89:=zb 82
def o92(P:Pm):=zd #[zm P 289 q0,zq P 291 "BadTerms" 290,zl P 293 16 292,za P 294 92] 4
def o95:=ck "BadTerms" 284 16 88
def o96:=zf 90 3 87 q0 0
def o98(P:Pm):=zd #[zm P 289 q0,zl P 293 16 292,za P 294 92,den P "__doc__" 295 .none] 2
def o99:=zx "BadTerms" [.ref 24] [.ref 94,.ref 24] 93 [] (some (.ref 85)) (q "BadTerms" 282) (q "BadTerms" 290)
def ajV:=zs 94
def ajU:=zb 94
def ajT(P:Pm):=md P q0 15 16
def ajS:=lt 21
def ajR:=zx "RoadError" [.type "ValueError"] [.ref 24] 23 [.ref 44,.ref 63,.ref 82,.ref 94,.ref 113,.ref 125] (some (.ref 15)) q1 q2
def ajQ(P:Pm):=zd #[zm P 305 q0,zq P 307 "NotWide" 306,zl P 309 18 308,den P "__init__" 317 (.ref 110),za P 319 111] 5
def ajP:=zn 20 4 109
def ajO:=ck "NotWide" 300 18 100
def ajN:=zf 102 3 99 q0 0
def aeb:=tq ["self","least"] 313
abbrev WX {α}:=nt (α:=α) "__init__" "NotWide.__init__" (zi 6 0)
def ajM:=WX f0
def aea:=WX cf 310 20 2 3 104 315
def ad_:=WX f1 3 q0 109
def ad9:=tq ["least"] 318
def ad8(P:Pm):=zd #[zm P 305 q0,zl P 309 18 308,den P "__init__" 317 (.ref 110),za P 319 111,den P "__doc__" 320 .none] 2
def ad7:=zx "NotWide" [.ref 24] [.ref 113,.ref 24] 112 [] (some (.ref 97)) (q "NotWide" 298) (q "NotWide" 306)
def ajL:=zs 113
def ajK:=zb 113
def ajJ(P:Pm):=zd #[zm P 330 q0,zq P 332 "BadText" 331,zl P 334 22 333,za P 335 123] 4
def ajI:=ck "BadText" 325 22 119
def ajH:=zf 121 3 118 q0 0
def ad6(P:Pm):=zd #[zm P 330 q0,zl P 334 22 333,za P 335 123,den P "__doc__" 336 .none] 2
def ad5:=zx "BadText" [.ref 24] [.ref 125,.ref 24] 124 [] (some (.ref 116)) (q "BadText" 323) (q "BadText" 331)
def ajG:=zs 125
def ajF:=zb 125
def ajE(P:Pm):=md P q3 40 41
def ajD:=lt 54
def ad4:=zx "RoadError" [.type "ValueError"] [.ref 24] 23 [.ref 44,.ref 63,.ref 82,.ref 94,.ref 113,.ref 125,.ref 144] (some (.ref 15)) q1 q2
def ajC(P:Pm):=zd #[zm P 346 q0,zq P 348 "NotNow" 347,zl P 350 24 349,den P "__init__" 359 (.ref 141),za P 362 142] 5
def ajB:=zn 26 4 140
def ajA:=ck "NotNow" 341 24 131
def ajz:=zf 133 3 130 q0 0
def ad3:=tq ["self","state","wish"] 354
abbrev WW {α}:=nt (α:=α) "__init__" "NotNow.__init__" (zi 8 0)
def ajy:=WW f0
def ad2:=WW cf 351 26 3 3 135 357
def ad1:=WW f1 3 q0 140
def ad0:=tq ["state","wish"] 360
def adZ(P:Pm):=zd #[zm P 346 q0,zl P 350 24 349,den P "__init__" 359 (.ref 141),za P 362 142,den P "__doc__" 363 .none] 2
def adY:=zx "NotNow" [.ref 24] [.ref 144,.ref 24] 143 [] (some (.ref 128)) (q "NotNow" 339) (q "NotNow" 347)
def ajx:=zs 144
def ajw:=zb 144
def adX:=tq ["value","low","high"] 371
abbrev WV {α}:=nt (α:=α) "is_from" "is_from" (top 10)
def ajv:=WV f0
def adW:=WV cf 368 30 3 3 147 374
def adV:=WV f1 3 (q "slowroad.bounds" 366) 152
def adU:=tq ["bare","signs","begin","end","ask"] 379
def adT:=tq ["bare","ask"] 387
def adS:=tq ["thing","kind"] 415
abbrev WU {α}:=nt (α:=α) "is_piece" "is_piece" (top 26)
def aju:=WU f0
def adR:=WU cf 412 47 1 3 156 417
def adQ:=WU f1 3 q3 161
def adP:=tq ["held","last","step"] 423
abbrev WT {α}:=nt (α:=α) "is_held" "is_held" (top 27)
def ajt:=WT f0
def adO:=WT cf 420 52 1 3 163 426
def adN:=WT f1 3 q3 168
abbrev aeU {α}:=nt (α:=α) "are_signs" "are_signs" (top 28)
def ajs:=aeU f0
def adM:=cd "are_signs" 429 "are_signs" 430 431 61 2 0 0 3 170 true 181 171 .none .none .none (.ref 172) 432 433
def adL:=aeU f1 3 q3 173
def adK:=tq ["bits","left"] 438
abbrev WR {α}:=nt (α:=α) "remainder" "remainder" (top 29)
def ajr:=WR f0
def adJ:=WR cf 435 67 1 3 175 440
def adI:=WR f1 3 q3 180
def adH:=tq ["piece","unchecked"] 446
abbrev WQ {α}:=nt (α:=α) "written" "written" (top 30)
def ajq:=WQ f0
def adG:=WQ cf 443 72 1 3 182 448
def adF:=WQ f1 3 q3 187
def adE:=tq ["piece","body"] 454
abbrev WO {α}:=nt (α:=α) "body_of" "body_of" (top 31)
def ajp:=WO f0
def adD:=WO cf 451 77 1 3 189 456
def adC:=WO f1 3 q3 194
abbrev aeT {α}:=nt (α:=α) "bits_of_held" "bits_of_held" (top 32)
def ajo:=aeT f0
def adB:=cd "bits_of_held" 459 "bits_of_held" 460 461 85 1 0 0 3 196 true 181 197 .none .none .none (.ref 198) 462 463
def adA:=aeT f1 3 q3 199
def adz:=tq ["signs","bits","sign"] 468
abbrev WN {α}:=nt (α:=α) "bits_of_signs" "bits_of_signs" (top 33)
def ajn:=WN f0
def ady:=WN cf 465 87 1 3 201 471
def adx:=WN f1 3 q3 206
def adw:=tq ["number"] 477
abbrev WM {α}:=nt (α:=α) "is_frame" "is_frame" (top 34)
def ajm:=WM f0
def adv:=WM cf 474 92 1 3 208 478
def adu:=WM f1 3 q3 213
def ajl(P:Pm):=md P q4 50 51
def ajk:=lt 81
def adt:=tq ["frame","piece"] 484
abbrev WL {α}:=nt (α:=α) "read" "read" (top 35)
def ajj:=WL f0
def ads:=WL cf 481 94 1 3 215 486
def adq:=WL f1 3 q3 220
def adp:=tq ["body"] 492
abbrev WK {α}:=nt (α:=α) "likely_piece" "likely_piece" (top 36)
def aji:=WK f0
def ado:=WK cf 489 103 1 3 222 493
def adn:=WK f1 3 q3 227
def adm:=tq ["code"] 499
abbrev WJ {α}:=nt (α:=α) "kind_of" "kind_of" (top 37)
def ajh:=WJ f0
def adl:=WJ cf 496 105 1 3 229 500
def adk:=WJ f1 3 q3 234
abbrev aeS {α}:=nt (α:=α) "held_of" "held_of" (top 38)
def ajg:=aeS f0
def adj:=cd "held_of" 503 "held_of" 504 505 107 1 0 0 3 236 true 181 237 .none .none .none (.ref 238) 506 507
def adi:=aeS f1 3 q3 239
abbrev aeR {α}:=nt (α:=α) "signs_of" "signs_of" (top 39)
def ajf:=aeR f0
def adh:=cd "signs_of" 509 "signs_of" 510 511 109 1 0 0 3 241 true 181 242 .none .none .none (.ref 243) 512 513
def adg:=aeR f1 3 q3 244
def adf:=tq ["code"] 518
abbrev WI {α}:=nt (α:=α) "sign_of" "sign_of" (top 40)
def aje:=WI f0
def ade:=WI cf 515 111 1 3 246 519
def adb:=WI f1 3 q3 251
def ajd(P:Pm):=zd #[zm P 531 q5,zq P 533 "Meter" 532,zl P 535 114 534,den P "__init__" 543 (.ref 266),den P "known" 552 (.ref 273),den P "know_one" 559 (.ref 280),den P "half" 566 (.ref 287),den P "ran_out" 573 (.ref 294),den P "hurried" 580 (.ref 301),za P 585 302] 10
def ajc:=zt [(116,4,265),(122,4,272),(126,4,279),(137,4,286),(140,4,293),(145,4,300)]
def ajb:=ck "Meter" 526 114 256
def aja:=zf 258 3 255 q5 0
def ada:=tq ["self","most"] 539
abbrev WH {α}:=nt (α:=α) "__init__" "Meter.__init__" (zi 42 0)
def ai_:=WH f0
def ac_:=WH cf 536 116 2 3 260 541
def ac9:=WH f1 3 q5 265
def ac8:=tq ["self","many","piece"] 547
abbrev WG {α}:=nt (α:=α) "known" "Meter.known" (zi 42 1)
def ai9:=WG f0
def ac7:=WG cf 544 122 2 3 267 550
def ac6:=WG f1 3 q5 272
def ac5:=tq ["self"] 556
abbrev WE {α}:=nt (α:=α) "know_one" "Meter.know_one" (zi 42 2)
def ai8:=WE f0
def ac4:=WE cf 553 126 1 3 274 557
def ac3:=WE f1 3 q5 279
def ac2:=tq ["self"] 563
abbrev WD {α}:=nt (α:=α) "half" "Meter.half" (zi 42 3)
def ai7:=WD f0
def ac1:=WD cf 560 137 1 3 281 564
def ac0:=WD f1 3 q5 286
def acZ:=tq ["self"] 570
abbrev WC {α}:=nt (α:=α) "ran_out" "Meter.ran_out" (zi 42 4)
def ai6:=WC f0
def acY:=WC cf 567 140 1 3 288 571
def acX:=WC f1 3 q5 293
def acW:=tq ["self"] 577
abbrev WB {α}:=nt (α:=α) "hurried" "Meter.hurried" (zi 42 5)
def ai5:=WB f0
def acV:=WB cf 574 145 1 3 295 578
def acU:=WB f1 3 q5 300
def acT:=tq ["counted","knee","most","window"] 581
def acS(P:Pm):=zd #[zm P 531 q5,zl P 535 114 534,den P "__init__" 543 (.ref 266),den P "known" 552 (.ref 273),den P "know_one" 559 (.ref 280),den P "half" 566 (.ref 287),den P "ran_out" 573 (.ref 294),den P "hurried" 580 (.ref 301),za P 585 302,den P "__dict__" 587 (.ref 305),den P "__weakref__" 589 (.ref 306),den P "__doc__" 590 .none] 4
def acR:=zo "Meter" [.type "object"] [.ref 304] 303 [] none (q "Meter" 524) (q "Meter" 532)
def acQ:Ob:=⟨.type "getset_descriptor",none,.fields #[q "__dict__" 586,.ref 304,.builtin "function.__dict__",.builtin "function.__dict__#set"],#[]⟩
def acP:Ob:=⟨.type "getset_descriptor",none,.fields #[q "__weakref__" 588,.ref 304,.builtin "ExceptionGroup.__weakref__",.none],#[]⟩
def ai4:=zs 304
def ai3:=zb 304
def acO:=tq ["ring","one","other"] 598
abbrev WA {α}:=nt (α:=α) "ahead" "ahead" (top 44)
def ai2:=WA f0
def acN:=WA cf 595 150 3 3 309 601
def acM:=WA f1 3 (q "slowroad.rings" 593) 314
def acL:=tq ["top","bottom","shared"] 611
abbrev Wz {α}:=nt (α:=α) "lowest" "lowest" (top 47)
def ai1:=Wz f0
def acK:=Wz cf 608 154 2 3 316 614
def acJ:=Wz f1 3 q4 321
def ai0(P:Pm):=md P q6 52 53
def aiZ:=lt 84
def aiY(P:Pm):=zd #[zm P 624 q4,zq P 626 "Ways" 625,zl P 628 157 627,den P "__init__" 637 (.ref 336),den P "measured" 645 (.ref 343),den P "next_spread" 655 (.ref 350),den P "next_smooth" 663 (.ref 357),den P "least_wait" 671 (.ref 364),den P "ran_out" 678 (.ref 371),za P 683 372] 10
def aiX:=zt [(159,4,335),(165,4,342),(174,4,349),(179,4,356),(182,4,363),(186,4,370)]
def aiW:=ck "Ways" 619 157 326
def aiV:=zf 328 3 325 q4 0
def acI:=tq ["self","first","longest"] 632
abbrev Wx {α}:=nt (α:=α) "__init__" "Ways.__init__" (zi 48 0)
def aiU:=Wx f0
def acH:=Wx cf 629 159 3 3 330 635
def acG:=Wx f1 3 q4 335
def acF:=tq ["self","m"] 641
abbrev Ww {α}:=nt (α:=α) "measured" "Ways.measured" (zi 48 1)
def aiT:=Ww f0
def acE:=Ww cf 638 165 2 3 337 643
def acD:=Ww f1 3 q4 342
def acC:=tq ["self","m","bottoms","away"] 649
abbrev Wv {α}:=nt (α:=α) "next_spread" "Ways.next_spread" (zi 48 2)
def aiS:=Wv f0
def acB:=Wv cf 646 174 2 3 344 653
def acA:=Wv f1 3 q4 349
def acz:=tq ["self","m"] 659
abbrev Wu {α}:=nt (α:=α) "next_smooth" "Ways.next_smooth" (zi 48 3)
def aiR:=Wu f0
def acy:=Wu cf 656 179 2 3 351 661
def acx:=Wu f1 3 q4 356
def acw:=tq ["self","top"] 667
abbrev Wt {α}:=nt (α:=α) "least_wait" "Ways.least_wait" (zi 48 4)
def aiQ:=Wt f0
def acv:=Wt cf 664 182 1 3 358 669
def acu:=Wt f1 3 q4 363
def acs:=tq ["self"] 675
abbrev Wr {α}:=nt (α:=α) "ran_out" "Ways.ran_out" (zi 48 5)
def aiP:=Wr f0
def acr:=Wr cf 672 186 1 3 365 676
def acq:=Wr f1 3 q4 370
def acp:=tq ["longest","smooth","spread","wait"] 679
def aco(P:Pm):=zd #[zm P 624 q4,zl P 628 157 627,den P "__init__" 637 (.ref 336),den P "measured" 645 (.ref 343),den P "next_spread" 655 (.ref 350),den P "next_smooth" 663 (.ref 357),den P "least_wait" 671 (.ref 364),den P "ran_out" 678 (.ref 371),za P 683 372,den P "__dict__" 685 (.ref 375),den P "__weakref__" 687 (.ref 376),den P "__doc__" 688 .none] 4
def acn:=zo "Ways" [.type "object"] [.ref 374] 373 [] none (q "Ways" 617) (q "Ways" 625)
def acm:Ob:=⟨.type "getset_descriptor",none,.fields #[q "__dict__" 684,.ref 374,.builtin "function.__dict__",.builtin "function.__dict__#set"],#[]⟩
def ack:Ob:=⟨.type "getset_descriptor",none,.fields #[q "__weakref__" 686,.ref 374,.builtin "ExceptionGroup.__weakref__",.none],#[]⟩
def aiO:=zs 374
def aiN:=zb 374
def aiM(P:Pm):=md P q6 53 54
def aiL:=lt 87
def aiK(P:Pm):=zd #[zm P 702 q6,zq P 704 "Sender" 703,zl P 706 190 705,den P "__init__" 717 (.ref 392),den P "put" 725 (.ref 399),den P "many" 732 (.ref 406),den P "thing" 740 (.ref 413),den P "heard" 754 (.ref 420),den P "grow_base" 763 (.ref 427),den P "note_held" 769 (.ref 432),den P "newly_known" 775 (.ref 437),den P "known_above_base" 781 (.ref 442),den P "under_way" 788 (.ref 449),den P "thing_waits" 795 (.ref 456),den P "clock_is_out" 803 (.ref 463),den P "hurry_is_due" 810 (.ref 470),den P "new_may_go" 817 (.ref 477),den P "go" 825 (.ref 484),den P "set_clock" 833 (.ref 491),den P "go_again" 841 (.ref 498),den P "go_new" 850 (.ref 505),den P "ask_for_room" 858 (.ref 512),za P 871 513] 23
def aiJ:=zt [(192,4,391),(206,4,398),(209,4,405),(212,4,412),(215,4,419),(230,4,426),(235,4,431),(238,4,436),(244,4,441),(247,4,448),(250,4,455),(253,4,462),(256,4,469),(259,4,476),(262,4,483),(276,4,490),(279,4,497),(285,4,504),(293,4,511)]
def aiI:=ck "Sender" 697 190 382
def aiH:=zf 384 3 381 q6 0
def acj:=tq ["self","ring","first","longest","most"] 710
abbrev Wq {α}:=nt (α:=α) "__init__" "Sender.__init__" (zi 51 0)
def aiG:=Wq f0
def aci:=Wq cf 707 192 5 3 386 715
def ach:=Wq f1 3 q6 391
def acg:=tq ["self","thing"] 721
abbrev Wo {α}:=nt (α:=α) "put" "Sender.put" (zi 51 1)
def aiF:=Wo f0
def acf:=Wo cf 718 206 2 3 393 723
def ace:=Wo f1 3 q6 398
def acd:=tq ["self"] 729
abbrev Wn {α}:=nt (α:=α) "many" "Sender.many" (zi 51 2)
def aiE:=Wn f0
def acb:=Wn cf 726 209 1 3 400 730
def aca:=Wn f1 3 q6 405
def ab_:=tq ["self","place"] 736
abbrev Wm {α}:=nt (α:=α) "thing" "Sender.thing" (zi 51 3)
def aiD:=Wm f0
def ab9:=Wm cf 733 212 2 3 407 738
def ab8:=Wm f1 3 q6 412
def ab7:=tq ["self","number","room","held","turn","steps","fresh","place"] 744
abbrev Wl {α}:=nt (α:=α) "heard" "Sender.heard" (zi 51 4)
def aiC:=Wl f0
def ab6:=Wl cf 741 215 5 3 414 752
def ab5:=Wl f1 3 q6 419
def ab4:=tq ["self","steps","low"] 758
abbrev Wj {α}:=nt (α:=α) "grow_base" "Sender.grow_base" (zi 51 5)
def aiB:=Wj f0
def ab3:=Wj cf 755 230 2 3 421 761
def ab2:=Wj f1 3 q6 426
abbrev aeQ {α}:=nt (α:=α) "note_held" "Sender.note_held" (zi 51 6)
def aiA:=aeQ f0
def ab1:=cd "note_held" 764 "Sender.note_held" 765 766 235 2 0 0 3 428 true 181 429 .none .none .none (.ref 430) 767 768
def ab0:=aeQ f1 3 q6 431
abbrev aeP {α}:=nt (α:=α) "newly_known" "Sender.newly_known" (zi 51 7)
def aiz:=aeP f0
def abZ:=cd "newly_known" 770 "Sender.newly_known" 771 772 238 2 0 0 3 433 true 181 434 .none .none .none (.ref 435) 773 774
def abY:=aeP f1 3 q6 436
abbrev aeO {α}:=nt (α:=α) "known_above_base" "Sender.known_above_base" (zi 51 8)
def aiy:=aeO f0
def abX:=cd "known_above_base" 776 "Sender.known_above_base" 777 778 244 1 0 0 3 438 true 181 439 .none .none .none (.ref 440) 779 780
def abW:=aeO f1 3 q6 441
def abV:=tq ["self"] 785
abbrev Wi {α}:=nt (α:=α) "under_way" "Sender.under_way" (zi 51 9)
def aix:=Wi f0
def abU:=Wi cf 782 247 1 3 443 786
def abT:=Wi f1 3 q6 448
def abS:=tq ["self"] 792
abbrev Wh {α}:=nt (α:=α) "thing_waits" "Sender.thing_waits" (zi 51 10)
def aiw:=Wh f0
def abR:=Wh cf 789 250 1 3 450 793
def abQ:=Wh f1 3 q6 455
def abP:=tq ["self","turn"] 799
abbrev Wf {α}:=nt (α:=α) "clock_is_out" "Sender.clock_is_out" (zi 51 11)
def aiv:=Wf f0
def abO:=Wf cf 796 253 2 3 457 801
def abN:=Wf f1 3 q6 462
def abM:=tq ["self"] 807
abbrev We {α}:=nt (α:=α) "hurry_is_due" "Sender.hurry_is_due" (zi 51 12)
def aiu:=We f0
def abL:=We cf 804 256 1 3 464 808
def abK:=We f1 3 q6 469
def abJ:=tq ["self"] 814
abbrev Wd {α}:=nt (α:=α) "new_may_go" "Sender.new_may_go" (zi 51 13)
def ait:=Wd f0
def abI:=Wd cf 811 259 1 3 471 815
def abH:=Wd f1 3 q6 476
def abG:=tq ["self","turn"] 821
abbrev Wc {α}:=nt (α:=α) "go" "Sender.go" (zi 51 14)
def ais:=Wc f0
def abF:=Wc cf 818 262 2 3 478 823
def abE:=Wc f1 3 q6 483
def abD:=tq ["self","turn"] 829
abbrev Wa {α}:=nt (α:=α) "set_clock" "Sender.set_clock" (zi 51 15)
def air:=Wa f0
def abC:=Wa cf 826 276 2 3 485 831
def abB:=Wa f1 3 q6 490
def abA:=tq ["self","turn"] 837
abbrev V_ {α}:=nt (α:=α) "go_again" "Sender.go_again" (zi 51 16)
def aiq:=V_ f0
def abz:=V_ cf 834 279 2 3 492 839
def aby:=V_ f1 3 q6 497
def abx:=tq ["self","turn","place"] 845
abbrev V9 {α}:=nt (α:=α) "go_new" "Sender.go_new" (zi 51 17)
def aip:=V9 f0
def abw:=V9 cf 842 285 2 3 499 848
def abv:=V9 f1 3 q6 504
def abu:=tq ["self","turn"] 854
abbrev V8 {α}:=nt (α:=α) "ask_for_room" "Sender.ask_for_room" (zi 51 18)
def aio:=V8 f0
def abt:=V8 cf 851 293 2 3 506 856
def abr:=V8 f1 3 q6 511
def abq:=tq ["base","base_hurried","clock","edge","first_turns","gone_again","known_places","meter","ring","things","top","ways"] 859
def abp(P:Pm):=zd #[zm P 702 q6,zl P 706 190 705,den P "__init__" 717 (.ref 392),den P "put" 725 (.ref 399),den P "many" 732 (.ref 406),den P "thing" 740 (.ref 413),den P "heard" 754 (.ref 420),den P "grow_base" 763 (.ref 427),den P "note_held" 769 (.ref 432),den P "newly_known" 775 (.ref 437),den P "known_above_base" 781 (.ref 442),den P "under_way" 788 (.ref 449),den P "thing_waits" 795 (.ref 456),den P "clock_is_out" 803 (.ref 463),den P "hurry_is_due" 810 (.ref 470),den P "new_may_go" 817 (.ref 477),den P "go" 825 (.ref 484),den P "set_clock" 833 (.ref 491),den P "go_again" 841 (.ref 498),den P "go_new" 850 (.ref 505),den P "ask_for_room" 858 (.ref 512),za P 871 513,den P "__dict__" 873 (.ref 516),den P "__weakref__" 875 (.ref 517),den P "__doc__" 876 .none] 4
def abo:=zo "Sender" [.type "object"] [.ref 515] 514 [] none (q "Sender" 695) (q "Sender" 703)
def abn:Ob:=⟨.type "getset_descriptor",none,.fields #[q "__dict__" 872,.ref 515,.builtin "function.__dict__",.builtin "function.__dict__#set"],#[]⟩
def abm:Ob:=⟨.type "getset_descriptor",none,.fields #[q "__weakref__" 874,.ref 515,.builtin "ExceptionGroup.__weakref__",.none],#[]⟩
def ain:=zs 515
def aim:=zb 515
def ail(P:Pm):=md P q7 54 55
def aik:=lt 90
def aij(P:Pm):=zd #[zm P 888 q7,zq P 890 "State" 889,zl P 892 303 891,den P "name" 899 (.ref 533),den P "wish_begin" 906 (.ref 540),den P "wish_end" 913 (.ref 547),den P "may_put" 920 (.ref 554),den P "begun" 927 (.ref 561),den P "ended" 934 (.ref 568),den P "answered" 941 (.ref 575),za P 942 576] 11
def aii:=zt [(305,4,532),(308,4,539),(311,4,546),(314,4,553),(317,4,560),(320,4,567),(323,4,574)]
def aih:=ck "State" 883 303 523
def aif:=zf 525 3 522 q7 0
def abl:=tq ["self"] 896
abbrev V7 {α}:=nt (α:=α) "name" "State.name" (zi 53 0)
def aie:=V7 f0
def abk:=V7 cf 893 305 1 3 527 897
def abj:=V7 f1 3 q7 532
def abi:=tq ["self"] 903
abbrev V6 {α}:=nt (α:=α) "wish_begin" "State.wish_begin" (zi 53 1)
def aid:=V6 f0
def abh:=V6 cf 900 308 1 3 534 904
def abg:=V6 f1 3 q7 539
def abf:=tq ["self"] 910
abbrev V5 {α}:=nt (α:=α) "wish_end" "State.wish_end" (zi 53 2)
def aic:=V5 f0
def abe:=V5 cf 907 311 1 3 541 911
def abd:=V5 f1 3 q7 546
def abc:=tq ["self"] 917
abbrev V4 {α}:=nt (α:=α) "may_put" "State.may_put" (zi 53 3)
def aib:=V4 f0
def abb:=V4 cf 914 314 1 3 548 918
def aba:=V4 f1 3 q7 553
def aa_:=tq ["self"] 924
abbrev V3 {α}:=nt (α:=α) "begun" "State.begun" (zi 53 4)
def aia:=V3 f0
def aa9:=V3 cf 921 317 1 3 555 925
def aa8:=V3 f1 3 q7 560
def aa7:=tq ["self"] 931
abbrev V2 {α}:=nt (α:=α) "ended" "State.ended" (zi 53 5)
def ah_:=V2 f0
def aa6:=V2 cf 928 320 1 3 562 932
def aa5:=V2 f1 3 q7 567
def aa4:=tq ["self"] 938
abbrev V1 {α}:=nt (α:=α) "answered" "State.answered" (zi 53 6)
def ah9:=V1 f0
def aa3:=V1 cf 935 323 1 3 569 939
def aa2:=V1 f1 3 q7 574
def aa1(P:Pm):=zd #[zm P 888 q7,zl P 892 303 891,den P "name" 899 (.ref 533),den P "wish_begin" 906 (.ref 540),den P "wish_end" 913 (.ref 547),den P "may_put" 920 (.ref 554),den P "begun" 927 (.ref 561),den P "ended" 934 (.ref 568),den P "answered" 941 (.ref 575),za P 942 576,den P "__dict__" 944 (.ref 579),den P "__weakref__" 946 (.ref 580),den P "__doc__" 947 .none] 4
def ah8:=zo "State" [.type "object"] [.ref 578] 577 [] none q8 q9
def aa0:Ob:=⟨.type "getset_descriptor",none,.fields #[q "__dict__" 943,.ref 578,.builtin "function.__dict__",.builtin "function.__dict__#set"],#[]⟩
def aaZ:Ob:=⟨.type "getset_descriptor",none,.fields #[q "__weakref__" 945,.ref 578,.builtin "ExceptionGroup.__weakref__",.none],#[]⟩
def ah7:=zs 578
def ah6:=zb 578
def ah5(P:Pm):=md P q7 56 57
def ah4:=lt 96
def ah3:=zo "State" [.type "object"] [.ref 578] 577 [.ref 613,.ref 653] none q8 q9
def yt:=tp [.ref 578]
def ah2(P:Pm):=zd #[zm P 957 q7,zq P 959 "Shut" 958,zl P 961 325 960,den P "name" 968 (.ref 596),den P "wish_begin" 975 (.ref 603),den P "begun" 982 (.ref 610),za P 983 611] 7
def ah1:=zt [(327,4,595),(330,4,602),(333,4,609)]
def ah0:=ck "Shut" 952 325 586
def ahZ:=zf 588 3 585 q7 0
def aaY:=tq ["self"] 965
abbrev V0 {α}:=nt (α:=α) "name" "Shut.name" (zi 54 0)
def ahY:=V0 f0
def aaX:=V0 cf 962 327 1 3 590 966
def aaW:=V0 f1 3 q7 595
def aaV:=tq ["self"] 972
abbrev VZ {α}:=nt (α:=α) "wish_begin" "Shut.wish_begin" (zi 54 1)
def ahX:=VZ f0
def aaU:=VZ cf 969 330 1 3 597 973
def aaT:=VZ f1 3 q7 602
def aaS:=tq ["self"] 979
abbrev VY {α}:=nt (α:=α) "begun" "Shut.begun" (zi 54 2)
def ahW:=VY f0
def aaR:=VY cf 976 333 1 3 604 980
def aaQ:=VY f1 3 q7 609
def aaP(P:Pm):=zd #[zm P 957 q7,zl P 961 325 960,den P "name" 968 (.ref 596),den P "wish_begin" 975 (.ref 603),den P "begun" 982 (.ref 610),za P 983 611,den P "__doc__" 984 .none] 2
def aaO:=zo "Shut" [.ref 578] [.ref 613,.ref 578] 612 [] (some (.ref 583)) (q "Shut" 950) (q "Shut" 958)
def ahV:=zs 613
def ahU:=zb 613
def ahT(P:Pm):=zd #[zm P 994 q7,zq P 996 "Calling" 995,zl P 998 335 997,den P "name" 1005 (.ref 629),den P "wish_end" 1012 (.ref 636),den P "may_put" 1019 (.ref 643),den P "begun" 1026 (.ref 650),za P 1027 651] 8
def ahS:=zt [(337,4,628),(340,4,635),(343,4,642),(346,4,649)]
def ahR:=ck "Calling" 989 335 619
def ahQ:=zf 621 3 618 q7 0
def aaN:=tq ["self"] 1002
abbrev VX {α}:=nt (α:=α) "name" "Calling.name" (zi 55 0)
def ahP:=VX f0
def aaM:=VX cf 999 337 1 3 623 1003
def aaL:=VX f1 3 q7 628
def aaK:=tq ["self"] 1009
abbrev VW {α}:=nt (α:=α) "wish_end" "Calling.wish_end" (zi 55 1)
def ahO:=VW f0
def aaJ:=VW cf 1006 340 1 3 630 1010
def aaI:=VW f1 3 q7 635
def aaH:=tq ["self"] 1016
abbrev VV {α}:=nt (α:=α) "may_put" "Calling.may_put" (zi 55 2)
def ahN:=VV f0
def aaG:=VV cf 1013 343 1 3 637 1017
def aaF:=VV f1 3 q7 642
def aaE:=tq ["self"] 1023
abbrev VU {α}:=nt (α:=α) "begun" "Calling.begun" (zi 55 3)
def ahM:=VU f0
def aaD:=VU cf 1020 346 1 3 644 1024
def aaC:=VU f1 3 q7 649
def aaB(P:Pm):=zd #[zm P 994 q7,zl P 998 335 997,den P "name" 1005 (.ref 629),den P "wish_end" 1012 (.ref 636),den P "may_put" 1019 (.ref 643),den P "begun" 1026 (.ref 650),za P 1027 651,den P "__doc__" 1028 .none] 2
def aaA:=zo "Calling" [.ref 578] [.ref 653,.ref 578] 652 [] (some (.ref 616)) (q "Calling" 987) (q "Calling" 995)
def ahL:=zs 653
def ahK:=zb 653
def ahJ(P:Pm):=md P q7 58 59
def ahI:=lt 102
def ahH:=zo "State" [.type "object"] [.ref 578] 577 [.ref 613,.ref 653,.ref 693,.ref 726] none q8 q9
def ahG(P:Pm):=zd #[zm P 1038 q7,zq P 1040 "Open" 1039,zl P 1042 348 1041,den P "name" 1049 (.ref 669),den P "wish_end" 1056 (.ref 676),den P "may_put" 1063 (.ref 683),den P "ended" 1070 (.ref 690),za P 1071 691] 8
def ahF:=zt [(350,4,668),(353,4,675),(356,4,682),(359,4,689)]
def ahE:=ck "Open" 1033 348 659
def ahD:=zf 661 3 658 q7 0
def aaz:=tq ["self"] 1046
abbrev VT {α}:=nt (α:=α) "name" "Open.name" (zi 56 0)
def ahC:=VT f0
def aay:=VT cf 1043 350 1 3 663 1047
def aax:=VT f1 3 q7 668
def aaw:=tq ["self"] 1053
abbrev VS {α}:=nt (α:=α) "wish_end" "Open.wish_end" (zi 56 1)
def ahB:=VS f0
def aav:=VS cf 1050 353 1 3 670 1054
def aau:=VS f1 3 q7 675
def aat:=tq ["self"] 1060
abbrev VR {α}:=nt (α:=α) "may_put" "Open.may_put" (zi 56 2)
def ahA:=VR f0
def aas:=VR cf 1057 356 1 3 677 1061
def aar:=VR f1 3 q7 682
def aaq:=tq ["self"] 1067
abbrev VQ {α}:=nt (α:=α) "ended" "Open.ended" (zi 56 3)
def ahz:=VQ f0
def aap:=VQ cf 1064 359 1 3 684 1068
def aao:=VQ f1 3 q7 689
def aan(P:Pm):=zd #[zm P 1038 q7,zl P 1042 348 1041,den P "name" 1049 (.ref 669),den P "wish_end" 1056 (.ref 676),den P "may_put" 1063 (.ref 683),den P "ended" 1070 (.ref 690),za P 1071 691,den P "__doc__" 1072 .none] 2
def aam:=zo "Open" [.ref 578] [.ref 693,.ref 578] 692 [] (some (.ref 656)) (q "Open" 1031) (q "Open" 1039)
def ahy:=zs 693
def ahx:=zb 693
def ahw(P:Pm):=zd #[zm P 1082 q7,zq P 1084 "Left" 1083,zl P 1086 361 1085,den P "name" 1093 (.ref 709),den P "wish_end" 1100 (.ref 716),den P "may_put" 1107 (.ref 723),za P 1108 724] 7
def ahv:=zt [(363,4,708),(366,4,715),(369,4,722)]
def ahu:=ck "Left" 1077 361 699
def aht:=zf 701 3 698 q7 0
def aal:=tq ["self"] 1090
abbrev VP {α}:=nt (α:=α) "name" "Left.name" (zi 57 0)
def ahs:=VP f0
def aak:=VP cf 1087 363 1 3 703 1091
def aaj:=VP f1 3 q7 708
def aai:=tq ["self"] 1097
abbrev VO {α}:=nt (α:=α) "wish_end" "Left.wish_end" (zi 57 1)
def ahr:=VO f0
def aah:=VO cf 1094 366 1 3 710 1098
def aag:=VO f1 3 q7 715
def aaf:=tq ["self"] 1104
abbrev VN {α}:=nt (α:=α) "may_put" "Left.may_put" (zi 57 2)
def ahq:=VN f0
def aae:=VN cf 1101 369 1 3 717 1105
def aad:=VN f1 3 q7 722
def aac(P:Pm):=zd #[zm P 1082 q7,zl P 1086 361 1085,den P "name" 1093 (.ref 709),den P "wish_end" 1100 (.ref 716),den P "may_put" 1107 (.ref 723),za P 1108 724,den P "__doc__" 1109 .none] 2
def aab:=zo "Left" [.ref 578] [.ref 726,.ref 578] 725 [] (some (.ref 696)) (q "Left" 1075) (q "Left" 1083)
def ahp:=zs 726
def aho:=zb 726
def ahn(P:Pm):=md P q7 60 61
def ahm:=lt 108
def ahl:=zo "State" [.type "object"] [.ref 578] 577 [.ref 613,.ref 653,.ref 693,.ref 726,.ref 759,.ref 785] none q8 q9
def ahk(P:Pm):=zd #[zm P 1119 q7,zq P 1121 "Leaving" 1120,zl P 1123 371 1122,den P "name" 1130 (.ref 742),den P "ended" 1137 (.ref 749),den P "answered" 1144 (.ref 756),za P 1145 757] 7
def ahj:=zt [(373,4,741),(376,4,748),(379,4,755)]
def ahi:=ck "Leaving" 1114 371 732
def ahh:=zf 734 3 731 q7 0
def aaa:=tq ["self"] 1127
abbrev VM {α}:=nt (α:=α) "name" "Leaving.name" (zi 58 0)
def ahg:=VM f0
def Z_:=VM cf 1124 373 1 3 736 1128
def Z9:=VM f1 3 q7 741
def Z8:=tq ["self"] 1134
abbrev VL {α}:=nt (α:=α) "ended" "Leaving.ended" (zi 58 1)
def ahf:=VL f0
def Z7:=VL cf 1131 376 1 3 743 1135
def Z6:=VL f1 3 q7 748
def Z5:=tq ["self"] 1141
abbrev VJ {α}:=nt (α:=α) "answered" "Leaving.answered" (zi 58 2)
def ahe:=VJ f0
def Z4:=VJ cf 1138 379 1 3 750 1142
def Z3:=VJ f1 3 q7 755
def Z2(P:Pm):=zd #[zm P 1119 q7,zl P 1123 371 1122,den P "name" 1130 (.ref 742),den P "ended" 1137 (.ref 749),den P "answered" 1144 (.ref 756),za P 1145 757,den P "__doc__" 1146 .none] 2
def Z1:=zo "Leaving" [.ref 578] [.ref 759,.ref 578] 758 [] (some (.ref 729)) (q "Leaving" 1112) (q "Leaving" 1120)
def ahd:=zs 759
def ahc:=zb 759
def ahb(P:Pm):=zd #[zm P 1156 q7,zq P 1158 "Waiting" 1157,zl P 1160 381 1159,den P "name" 1167 (.ref 775),den P "ended" 1174 (.ref 782),za P 1175 783] 6
def aha:=zt [(383,4,774),(386,4,781)]
def ag_:=ck "Waiting" 1151 381 765
def ag9:=zf 767 3 764 q7 0
def Z0:=tq ["self"] 1164
abbrev VI {α}:=nt (α:=α) "name" "Waiting.name" (zi 59 0)
def ag8:=VI f0
def ZZ:=VI cf 1161 383 1 3 769 1165
def ZY:=VI f1 3 q7 774
def ZX:=tq ["self"] 1171
abbrev VH {α}:=nt (α:=α) "ended" "Waiting.ended" (zi 59 1)
def ag7:=VH f0
def ZW:=VH cf 1168 386 1 3 776 1172
def ZV:=VH f1 3 q7 781
def ZU(P:Pm):=zd #[zm P 1156 q7,zl P 1160 381 1159,den P "name" 1167 (.ref 775),den P "ended" 1174 (.ref 782),za P 1175 783,den P "__doc__" 1176 .none] 2
def ZT:=zo "Waiting" [.ref 578] [.ref 785,.ref 578] 784 [] (some (.ref 762)) (q "Waiting" 1149) (q "Waiting" 1157)
def ag6:=zs 785
def ag5:=zb 785
def ag4(P:Pm):=md P EO 64 65
def ag3:=lt 114
def ZS:=zo "State" [.type "object"] [.ref 578] 577 [.ref 613,.ref 653,.ref 693,.ref 726,.ref 759,.ref 785,.ref 811] none q8 q9
def ag2(P:Pm):=zd #[zm P 1186 q7,zq P 1188 "Closing" 1187,zl P 1190 388 1189,den P "name" 1197 (.ref 801),den P "answered" 1204 (.ref 808),za P 1205 809] 6
def ag1:=zt [(390,4,800),(393,4,807)]
def ag0:=ck "Closing" 1181 388 791
def agZ:=zf 793 3 790 q7 0
def ZR:=tq ["self"] 1194
abbrev VG {α}:=nt (α:=α) "name" "Closing.name" (zi 60 0)
def agY:=VG f0
def ZQ:=VG cf 1191 390 1 3 795 1195
def ZP:=VG f1 3 q7 800
def ZO:=tq ["self"] 1201
abbrev VF {α}:=nt (α:=α) "answered" "Closing.answered" (zi 60 1)
def agX:=VF f0
def ZN:=VF cf 1198 393 1 3 802 1202
def ZM:=VF f1 3 q7 807
def ZL(P:Pm):=zd #[zm P 1186 q7,zl P 1190 388 1189,den P "name" 1197 (.ref 801),den P "answered" 1204 (.ref 808),za P 1205 809,den P "__doc__" 1206 .none] 2
def ZK:=zo "Closing" [.ref 578] [.ref 811,.ref 578] 810 [] (some (.ref 788)) (q "Closing" 1179) (q "Closing" 1187)
def agW:=zs 811
def agV:=zb 811
def agU(P:Pm):=zd #[zm P 1218 QW,zq P 1220 "Taker" 1219,zl P 1222 396 1221,den P "__init__" 1231 (.ref 827),den P "room_left" 1238 (.ref 834),den P "take" 1249 (.ref 841),den P "stand_in_order" 1257 (.ref 848),den P "answer" 1263 (.ref 853),den P "read" 1273 (.ref 860),za P 1279 861] 10
def agT:=zt [(398,4,826),(405,4,833),(408,4,840),(417,4,847),(424,4,852),(428,4,859)]
def agS:=ck "Taker" 1213 396 817
def agR:=zf 819 3 816 QW 0
def ZJ:=tq ["self","ring","room"] 1226
abbrev VE {α}:=nt (α:=α) "__init__" "Taker.__init__" (zi 62 0)
def agQ:=VE f0
def ZI:=VE cf 1223 398 3 3 821 1229
def ZH:=VE f1 3 QW 826
def ZG:=tq ["self"] 1235
abbrev VD {α}:=nt (α:=α) "room_left" "Taker.room_left" (zi 62 1)
def agP:=VD f0
def ZF:=VD cf 1232 405 1 3 828 1236
def ZE:=VD f1 3 QW 833
def ZD:=tq ["self","number","thing","steps","place"] 1242
abbrev VC {α}:=nt (α:=α) "take" "Taker.take" (zi 62 2)
def agO:=VC f0
def ZC:=VC cf 1239 408 3 3 835 1247
def ZA:=VC f1 3 QW 840
def Zz:=tq ["self","things"] 1253
abbrev VB {α}:=nt (α:=α) "stand_in_order" "Taker.stand_in_order" (zi 62 3)
def agN:=VB f0
def Zy:=VB cf 1250 417 1 3 842 1255
def Zx:=VB f1 3 QW 847
abbrev aeN {α}:=nt (α:=α) "answer" "Taker.answer" (zi 62 4)
def agM:=aeN f0
def Zw:=cd "answer" 1258 "Taker.answer" 1259 1260 424 1 0 0 3 849 true 181 850 .none .none .none (.ref 851) 1261 1262
def Zv:=aeN f1 3 QW 852
def Zu:=tq ["self","most","things","place"] 1267
abbrev VA {α}:=nt (α:=α) "read" "Taker.read" (zi 62 5)
def agL:=VA f0
def Zt:=VA cf 1264 428 2 3 854 1271
def Zs:=VA f1 3 QW 859
def Zr:=tq ["got","kept","out","ring","room"] 1274
def Zq(P:Pm):=zd #[zm P 1218 QW,zl P 1222 396 1221,den P "__init__" 1231 (.ref 827),den P "room_left" 1238 (.ref 834),den P "take" 1249 (.ref 841),den P "stand_in_order" 1257 (.ref 848),den P "answer" 1263 (.ref 853),den P "read" 1273 (.ref 860),za P 1279 861,den P "__dict__" 1281 (.ref 864),den P "__weakref__" 1283 (.ref 865),den P "__doc__" 1284 .none] 4
def Zp:=zo "Taker" [.type "object"] [.ref 863] 862 [] none (q "Taker" 1211) (q "Taker" 1219)
def Zo:Ob:=⟨.type "getset_descriptor",none,.fields #[q "__dict__" 1280,.ref 863,.builtin "function.__dict__",.builtin "function.__dict__#set"],#[]⟩
def Zn:Ob:=⟨.type "getset_descriptor",none,.fields #[q "__weakref__" 1282,.ref 863,.builtin "ExceptionGroup.__weakref__",.none],#[]⟩
def agK:=zs 863
def agJ:=zb 863
def Zm:=tq ["begin",""] 1291
def agI(P:Pm):=md P EO 68 69
def agH:=lt 123
def Zl:=tq ["end",""] 1294
abbrev aeM {α}:=nt (α:=α) "is_text" "is_text" (top 67)
def agG:=aeM f0
def Zk:=cd "is_text" 1297 "is_text" 1298 1299 438 1 0 0 3 870 true 181 871 .none .none .none (.ref 872) 1300 1301
def Zj:=aeM f1 3 EO 873
def Zi:=tq ["frame"] 1306
abbrev Vz {α}:=nt (α:=α) "read_or_none" "read_or_none" (top 68)
def agF:=Vz f0
def Zh:=Vz cf 1303 440 1 3 875 1307
def Zg:=Vz f1 3 EO 880
def agE(P:Pm):=zd #[zm P 1317 EO,zq P 1319 "Hand" 1318,zl P 1321 445 1320,den P "__init__" 1330 (.ref 895),den P "name" 1337 (.ref 902),den P "begin" 1344 (.ref 909),den P "end" 1351 (.ref 916),den P "put" 1360 (.ref 923),den P "read" 1370 (.ref 930),den P "come" 1380 (.ref 937),den P "hear" 1391 (.ref 944),den P "take_in" 1402 (.ref 951),den P "stand_to" 1410 (.ref 958),den P "send" 1421 (.ref 965),den P "piece_of" 1432 (.ref 972),den P "quiet" 1439 (.ref 979),za P 1447 980] 17
def agD:=zt [(447,4,894),(456,4,901),(459,4,908),(463,4,915),(468,4,922),(476,4,929),(483,4,936),(495,4,943),(502,4,950),(508,4,957),(516,4,964),(525,4,971),(532,4,978)]
def agC:=ck "Hand" 1312 445 885
def agB:=zf 887 3 884 EO 0
def Zf:=tq ["self","side","terms"] 1325
abbrev Vy {α}:=nt (α:=α) "__init__" "Hand.__init__" (zi 69 0)
def agA:=Vy f0
def Ze:=Vy cf 1322 447 3 3 889 1328
def Zd:=Vy f1 3 EO 894
def Zc:=tq ["self"] 1334
abbrev Vx {α}:=nt (α:=α) "name" "Hand.name" (zi 69 1)
def agz:=Vx f0
def Zb:=Vx cf 1331 456 1 3 896 1335
def Za:=Vx f1 3 EO 901
def Y_:=tq ["self"] 1341
abbrev Vw {α}:=nt (α:=α) "begin" "Hand.begin" (zi 69 2)
def agy:=Vw f0
def Y9:=Vw cf 1338 459 1 3 903 1342
def Y8:=Vw f1 3 EO 908
def Y7:=tq ["self"] 1348
abbrev Vv {α}:=nt (α:=α) "end" "Hand.end" (zi 69 3)
def agx:=Vv f0
def Y6:=Vv cf 1345 463 1 3 910 1349
def Y5:=Vv f1 3 EO 915
def Y4:=tq ["self","text","at"] 1355
abbrev Vu {α}:=nt (α:=α) "put" "Hand.put" (zi 69 4)
def agw:=Vu f0
def Y3:=Vu cf 1352 468 2 3 917 1358
def Y2:=Vu f1 3 EO 922
def Y1:=tq ["self","many","had_room","things"] 1364
abbrev Vt {α}:=nt (α:=α) "read" "Hand.read" (zi 69 5)
def agv:=Vt f0
def Y0:=Vt cf 1361 476 2 3 924 1368
def YZ:=Vt f1 3 EO 929
def YY:=tq ["self","frame","turn","piece"] 1374
abbrev Vs {α}:=nt (α:=α) "come" "Hand.come" (zi 69 6)
def agu:=Vs f0
def YX:=Vs cf 1371 483 3 3 931 1378
def YW:=Vs f1 3 EO 936
def YV:=tq ["self","piece","turn","low","place"] 1384
abbrev Vr {α}:=nt (α:=α) "hear" "Hand.hear" (zi 69 7)
def agt:=Vr f0
def YU:=Vr cf 1381 495 3 3 938 1389
def YT:=Vr f1 3 EO 943
def YS:=tq ["self","number","thing","taken","in_order"] 1395
abbrev Vq {α}:=nt (α:=α) "take_in" "Hand.take_in" (zi 69 8)
def ags:=Vq f0
def YR:=Vq cf 1392 502 3 3 945 1400
def YQ:=Vq f1 3 EO 950
def YO:=tq ["self","kind"] 1406
abbrev Vp {α}:=nt (α:=α) "stand_to" "Hand.stand_to" (zi 69 9)
def agr:=Vp f0
def YN:=Vp cf 1403 508 2 3 952 1408
def YM:=Vp f1 3 EO 957
def YL:=tq ["self","turn","what","word","place"] 1414
abbrev Vo {α}:=nt (α:=α) "send" "Hand.send" (zi 69 10)
def agq:=Vo f0
def YK:=Vo cf 1411 516 2 3 959 1419
def YJ:=Vo f1 3 EO 964
def TQ:=tq ["self","word","place","answer","thing"] 1425
abbrev OA {α}:=nt (α:=α) "piece_of" "Hand.piece_of" (zi 69 11)
def aeE:=OA f0
def TN:=OA cf 1422 525 3 3 966 1430
def TM:=OA f1 3 EO 971
def TL:=tq ["self"] 1436
abbrev Oz {α}:=nt (α:=α) "quiet" "Hand.quiet" (zi 69 12)
def aeD:=Oz f0
def TK:=Oz cf 1433 532 1 3 973 1437
def TJ:=Oz f1 3 EO 978
def TF:=tq ["answer_due","end_places","ring","sender","side","state","taker"] 1440
def TC(P:Pm):=zd #[zm P 1317 EO,zl P 1321 445 1320,den P "__init__" 1330 (.ref 895),den P "name" 1337 (.ref 902),den P "begin" 1344 (.ref 909),den P "end" 1351 (.ref 916),den P "put" 1360 (.ref 923),den P "read" 1370 (.ref 930),den P "come" 1380 (.ref 937),den P "hear" 1391 (.ref 944),den P "take_in" 1402 (.ref 951),den P "stand_to" 1410 (.ref 958),den P "send" 1421 (.ref 965),den P "piece_of" 1432 (.ref 972),den P "quiet" 1439 (.ref 979),za P 1447 980,den P "__dict__" 1449 (.ref 983),den P "__weakref__" 1451 (.ref 984),den P "__doc__" 1452 .none] 4
def TB:=zo "Hand" [.type "object"] [.ref 982] 981 [] none (q "Hand" 1310) (q "Hand" 1318)
def Tz:Ob:=⟨.type "getset_descriptor",none,.fields #[q "__dict__" 1448,.ref 982,.builtin "function.__dict__",.builtin "function.__dict__#set"],#[]⟩
def Tx:Ob:=⟨.type "getset_descriptor",none,.fields #[q "__weakref__" 1450,.ref 982,.builtin "ExceptionGroup.__weakref__",.none],#[]⟩
def aeC:=zs 982
def aeB:=zb 982
def aeA(P:Pm):=md P J5 87 88
def aez:=lt 165
def Tw:=tq ["room","lag"] 1460
abbrev Oy {α}:=nt (α:=α) "need" "need" (top 71)
def aey:=Oy f0
def Tv:=Oy cf 1457 535 2 3 987 1462
def Tu:=Oy f1 3 (q "slowroad.fooling" 1455) 992
abbrev T7 {α}:=nt (α:=α) "are_rooms" "are_rooms" (top 78)
def aex:=T7 f0
def Tt:=cd "are_rooms" 1477 "are_rooms" 1478 1479 543 1 0 0 3 994 true 181 995 .none .none .none (.ref 996) 1480 1481
def Ts:=T7 f1 3 X7 997
def Tr:=tq ["first","longest"] 1486
abbrev Ox {α}:=nt (α:=α) "are_waits" "are_waits" (top 79)
def aew:=Ox f0
def Tp:=Ox cf 1483 545 2 3 999 1488
def To:=Ox f1 3 X7 1004
def aev(P:Pm):=zd #[zm P 1498 X7,zq P 1500 "Terms" 1499,zl P 1502 547 1501,den P "__init__" 1508 (.ref 1017),za P 1514 1018] 5
def aeu:=zn 549 4 1016
def aet:=ck "Terms" 1493 547 1009
def aes:=zf 1011 3 1008 X7 0
abbrev T6 {α}:=nt (α:=α) "__init__" "Terms.__init__" (zi 80 0)
def aer:=T6 f0
def Tn:=cd "__init__" 1503 "Terms.__init__" 1504 1505 549 6 0 0 3 1013 true 181 1014 .none .none .none (.ref 1015) 1506 1507
def Tj:=T6 f1 3 X7 1016
def Ti:=tq ["first","lag","longest","ring","rooms"] 1509
def Tg(P:Pm):=zd #[zm P 1498 X7,zl P 1502 547 1501,den P "__init__" 1508 (.ref 1017),za P 1514 1018,den P "__dict__" 1516 (.ref 1021),den P "__weakref__" 1518 (.ref 1022),den P "__doc__" 1519 .none] 4
def Tf:=zo "Terms" [.type "object"] [.ref 1020] 1019 [] none (q "Terms" 1491) (q "Terms" 1499)
def Te:Ob:=⟨.type "getset_descriptor",none,.fields #[q "__dict__" 1515,.ref 1020,.builtin "function.__dict__",.builtin "function.__dict__#set"],#[]⟩
def Td:Ob:=⟨.type "getset_descriptor",none,.fields #[q "__weakref__" 1517,.ref 1020,.builtin "ExceptionGroup.__weakref__",.none],#[]⟩
def aeq:=zs 1020
def aep:=zb 1020
def Tc:=tq ["_law_script","_law_k"] 1527
abbrev Ow {α}:=nt (α:=α) "_law_cell_at" "_law_cell_at" (top 82)
def aeo:=Ow f0
def Tb:=Ow cf 1524 563 2 3 1025 1529
def Ta:=Ow f1 3 J5 1030
def S_:=tq ["_law_cell","_law_k","_law_number","_law_turn"] 1535
abbrev Ov {α}:=nt (α:=α) "_law_mixed" "_law_mixed" (top 83)
def aen:=Ov f0
def S9:=Ov cf 1532 567 2 3 1032 1539
def S8:=Ov f1 3 J5 1037
abbrev T5 {α}:=nt (α:=α) "_law_terms" "_law_terms" (top 84)
def aem:=T5 f0
def SY:=cd "_law_terms" 1542 "_law_terms" 1543 1544 574 2 0 0 3 1039 true 181 1040 .none .none .none (.ref 1041) 1545 1546
def SX:=T5 f1 3 J5 1042
def SW:=tq ["_law_cell","_law_size","_law_some","_law_signs","_law_k"] 1551
abbrev Ou {α}:=nt (α:=α) "_law_text" "_law_text" (top 85)
def ael:=Ou f0
def SV:=Ou cf 1548 586 2 3 1044 1556
def SU:=Ou f1 3 J5 1049
def SS:=tq ["_law_hand","_law_cell","_law_size","_law_told"] 1562
abbrev Ot {α}:=nt (α:=α) "_law_wish" "_law_wish" (top 86)
def aek:=Ot f0
def SR:=Ot cf 1559 593 2 3 1051 1566
def SQ:=Ot f1 3 J5 1056
abbrev T4 {α}:=nt (α:=α) "_law_things" "_law_things" (top 87)
def aej:=T4 f0
def SO:=cd "_law_things" 1569 "_law_things" 1570 1571 608 1 0 0 3 1058 true 181 1059 .none .none .none (.ref 1060) 1572 1573
def SN:=T4 f1 3 J5 1061
def SM:=tq ["_law_hand","_law_turn","_law_sent_here","_law_frame","_law_word","_law_place","_law_due","_law_found"] 1578
abbrev Oq {α}:=nt (α:=α) "_law_come" "_law_come" (top 88)
def aei:=Oq f0
def SK:=Oq cf 1575 610 3 3 1063 1586
def SJ:=Oq f1 3 J5 1068
def SI:=tq ["_law_hand","_law_turn","_law_found","_law_frame","_law_word","_law_place"] 1592
abbrev Oo {α}:=nt (α:=α) "_law_sent" "_law_sent" (top 89)
def aeh:=Oo f0
def SH:=Oo cf 1589 619 2 3 1070 1598
def SG:=Oo f1 3 J5 1075
def SF:=tq ["_law_hand","_law_sender","_law_ways","_law_meter","_law_counts"] 1604
abbrev Om {α}:=nt (α:=α) "_law_stands" "_law_stands" (top 90)
def aeg:=Om f0
def SE:=Om cf 1601 627 1 3 1077 1609
def SD:=Om f1 3 J5 1082
def SA:=tq ["_law_cell","_law_ring","_law_frames","_law_far","_law_kind","_law_number","_law_answer"] 1615
abbrev Ol {α}:=nt (α:=α) "_law_noise" "_law_noise" (top 91)
def aef:=Ol f0
def Sz:=Ol cf 1612 633 3 3 1084 1622
def Sy:=Ol f1 3 J5 1089
def Sx(P:Pm):Ob:=⟨.type "dict",none,.dict #[den P "__name__" 165 J5,den P "__doc__" 166 .none,den P "__package__" 167 .none,den P "__loader__" 168 (.builtin "__main__.__loader__#opaque"),den P "__spec__" 169 .none,den P "__annotations__" 170 (.ref 6),den P "__builtins__" 171 (.ref 4),den P "__file__" 173 (q "/claim/cut.py" 172),den P "__cached__" 174 .none,den P "RoadError" 206 (.ref 24),den P "NoFrame" 231 (.ref 44),den P "Spoilt" 256 (.ref 63),den P "NoPiece" 281 (.ref 82),den P "BadTerms" 297 (.ref 94),den P "NotWide" 322 (.ref 113),den P "BadText" 338 (.ref 125),den P "NotNow" 365 (.ref 144),den P "is_from" 376 (.ref 153),den P "KINDS" 384 (.ref 154),den P "SIGNS" 386 (q " !\"#$&'()*+,-./0123456789:;<=>?@ABCDEFGHIJKLMNOPQRSTUVWXYZ[\\]^_`abcdefghijklmnopqrstuvwxyz{|}~" 385),den P "UNNUMBERED" 389 (.ref 155),den P "NUMBER_MOST" 391 (.int 63 390),den P "ROOM_MOST_pieces" 393 (.int 16 392),den P "HELD_MOST" 395 (.int 15 394),den P "SIGNS_MOST" 397 (.int 4 396),den P "FRAME_BITS" 399 (.int 74 398),den P "CHECK_BITS" 401 (.int 8 400),den P "DIVISOR" 403 (.int 263 402),den P "DIVISOR_BITS" 405 (.int 9 404),den P "REMAINDER_MOST" 407 (.int 255 406),den P "NO_KIND" 409 (q "" 408),den P "NO_SIGN" 411 (q "\n" 410),den P "is_piece" 419 (.ref 162),den P "is_held" 428 (.ref 169),den P "are_signs" 434 (.ref 174),den P "remainder" 442 (.ref 181),den P "written" 450 (.ref 188),den P "body_of" 458 (.ref 195),den P "bits_of_held" 464 (.ref 200),den P "bits_of_signs" 473 (.ref 207),den P "is_frame" 480 (.ref 214),den P "read" 488 (.ref 221),den P "likely_piece" 495 (.ref 228),den P "kind_of" 502 (.ref 235),den P "held_of" 508 (.ref 240),den P "signs_of" 514 (.ref 245),den P "sign_of" 521 (.ref 252),den P "Meter" 592 (.ref 304),den P "ahead" 603 (.ref 315),den P "WAIT_LEAST_ways" 607 (.int 2 606),den P "lowest" 616 (.ref 322),den P "Ways" 690 (.ref 374),den P "KNOWN_TO_HURRY" 694 (.int 2 693),den P "Sender" 878 (.ref 515),den P "State" 949 (.ref 578),den P "Shut" 986 (.ref 613),den P "Calling" 1030 (.ref 653),den P "Open" 1074 (.ref 693),den P "Left" 1111 (.ref 726),den P "Leaving" 1148 (.ref 759),den P "Waiting" 1178 (.ref 785),den P "Closing" 1208 (.ref 811),den P "Taker" 1286 (.ref 863),den P "TEXT_MOST" 1290 (.int 60 1289),den P "BEGIN" 1293 (.ref 868),den P "END" 1296 (.ref 869),den P "is_text" 1302 (.ref 874),den P "read_or_none" 1309 (.ref 881),den P "Hand" 1454 (.ref 982),den P "need" 1464 (.ref 993),den P "RING_MOST" 1468 (.int 64 1467),den P "ROOM_MOST_terms" 1470 (.int 16 1469),den P "LAG_MOST" 1472 (.int 32 1471),den P "WAIT_LEAST_terms" 1474 (.int 2 1473),den P "WAIT_MOST" 1476 (.int 64 1475),den P "are_rooms" 1482 (.ref 998),den P "are_waits" 1490 (.ref 1005),den P "Terms" 1521 (.ref 1020),den P "_law_cell_at" 1531 (.ref 1031),den P "_law_mixed" 1541 (.ref 1038),den P "_law_terms" 1547 (.ref 1043),den P "_law_text" 1558 (.ref 1050),den P "_law_wish" 1568 (.ref 1057),den P "_law_things" 1574 (.ref 1062),den P "_law_come" 1588 (.ref 1069),den P "_law_sent" 1600 (.ref 1076),den P "_law_stands" 1611 (.ref 1083),den P "_law_noise" 1624 (.ref 1090),den P "_law_spoilt" 1635 (.ref 1097),den P "law" 1641 (.ref 1102)] 90,#[]⟩
def aee:=lt 171
def Sw:=tq ["_law_hand","_law_frame","_law_turn","_law_before","_law_found"] 1628
abbrev Oj {α}:=nt (α:=α) "_law_spoilt" "_law_spoilt" (top 92)
def aed:=Oj f0
def Sv:=Oj cf 1625 650 3 3 1091 1633
def Su:=Oj f1 3 J5 1096
abbrev T3 {α}:=nt (α:=α) "law" "law" (top 93)
def aec:=T3 f0
def Ss:=cd "law" 1636 "law" 1637 1638 654 1 0 0 3 1098 true 181 1099 .none .none .none (.ref 1100) 1639 1640
def Sr:=T3 f1 3 J5 1101
local macro_rules
 | `(#[0]) => `(List.nil)
 | `(#[0,$n:num,$x]) => `(List.cons (nat_lit $n, $x) List.nil)
 | `(#[0,$n:num,$x,$xs,*]) => `(List.cons (nat_lit $n, $x) #[0,$xs,*])
def Gb:Params->Frag:=fun P=>#[0,2,boot_o_2 P,3,Sx P,15,o17,22,aJ,23,o25 P,24,ad4,25,o27,28,Kh,35,aJ,37,o39,38,aJ,40,o42,41,o43,42,o44,43,o45 P,44,o46,47,Kh,54,aJ,56,o58,57,aJ,59,o61,60,o62,61,o63,62,o64 P,63,o65,66,Kh,73,aJ,75,o80,76,aJ,78,o83,79,o84,80,o85,81,o86 P,82,o87,85,Kh,92,aJ,93,o98 P,94,o99,97,Kh,104,aJ,106,aeb,107,aJ,109,aea,110,ad_,111,ad9,112,ad8 P,113,ad7,116,Kh,123,aJ,124,ad6 P,125,ad5,128,Kh,135,aJ,137,ad3,138,aJ,140,ad2,141,ad1,142,ad0,143,adZ P,144,adY,147,aJ,149,adX,150,aJ,152,adW,153,adV,154,adU,155,adT,156,aJ,158,adS,159,aJ,161,adR,162,adQ,163,aJ,165,adP,166,aJ,168,adO,169,adN,170,aJ,173,adM,174,adL,175,aJ,177,adK,178,aJ,180,adJ,181,adI,182,aJ,184,adH,185,aJ,187,adG,188,adF,189,aJ,191,adE,192,aJ,194,adD,195,adC,196,aJ,199,adB,200,adA,201,aJ,203,adz,204,aJ,206,ady,207,adx,208,aJ,210,adw,211,aJ,213,adv,214,adu,215,aJ,217,adt,218,aJ,220,ads,221,adq,222,aJ,224,adp,225,aJ,227,ado,228,adn,229,aJ,231,adm,232,aJ,234,adl,235,adk,236,aJ,239,adj,240,adi,241,aJ,244,adh,245,adg,246,aJ,248,adf,249,aJ,251,ade,252,adb,260,aJ,262,ada,263,aJ,265,ac_,266,ac9,267,aJ,269,ac8,270,aJ,272,ac7,273,ac6,274,aJ,276,ac5,277,aJ,279,ac4,280,ac3,281,aJ,283,ac2,284,aJ,286,ac1,287,ac0,288,aJ,290,acZ,291,aJ,293,acY,294,acX,295,aJ,297,acW,298,aJ,300,acV,301,acU,302,acT,303,acS P,304,acR,305,acQ,306,acP,309,aJ,311,acO,312,aJ,314,acN,315,acM,316,aJ,318,acL,319,aJ,321,acK,322,acJ,330,aJ,332,acI,333,aJ,335,acH,336,acG,337,aJ,339,acF,340,aJ,342,acE,343,acD,344,aJ,346,acC,347,aJ,349,acB,350,acA,351,aJ,353,acz,354,aJ,356,acy,357,acx,358,aJ,360,acw,361,aJ,363,acv,364,acu,365,aJ,367,acs,368,aJ,370,acr,371,acq,372,acp,373,aco P,374,acn,375,acm,376,ack,386,aJ,388,acj,389,aJ,391,aci,392,ach,393,aJ,395,acg,396,aJ,398,acf,399,ace,400,aJ,402,acd,403,aJ,405,acb,406,aca,407,aJ,409,ab_,410,aJ,412,ab9,413,ab8,414,aJ,416,ab7,417,aJ,419,ab6,420,ab5,421,aJ,423,ab4,424,aJ,426,ab3,427,ab2,428,aJ,431,ab1,432,ab0,433,aJ,436,abZ,437,abY,438,aJ,441,abX,442,abW,443,aJ,445,abV,446,aJ,448,abU,449,abT,450,aJ,452,abS,453,aJ,455,abR,456,abQ,457,aJ,459,abP,460,aJ,462,abO,463,abN,464,aJ,466,abM,467,aJ,469,abL,470,abK,471,aJ,473,abJ,474,aJ,476,abI,477,abH,478,aJ,480,abG,481,aJ,483,abF,484,abE,485,aJ,487,abD,488,aJ,490,abC,491,abB,492,aJ,494,abA,495,aJ,497,abz,498,aby,499,aJ,501,abx,502,aJ,504,abw,505,abv,506,aJ,508,abu,509,aJ,511,abt,512,abr,513,abq,514,abp P,515,abo,516,abn,517,abm,527,aJ,529,abl,530,aJ,532,abk,533,abj,534,aJ,536,abi,537,aJ,539,abh,540,abg,541,aJ,543,abf,544,aJ,546,abe,547,abd,548,aJ,550,abc,551,aJ,553,abb,554,aba,555,aJ,557,aa_,558,aJ,560,aa9,561,aa8,562,aJ,564,aa7,565,aJ,567,aa6,568,aa5,569,aJ,571,aa4,572,aJ,574,aa3,575,aa2,576,aJ,577,aa1 P,578,ZS,579,aa0,580,aaZ,583,yt,590,aJ,592,aaY,593,aJ,595,aaX,596,aaW,597,aJ,599,aaV,600,aJ,602,aaU,603,aaT,604,aJ,606,aaS,607,aJ,609,aaR,610,aaQ,611,aJ,612,aaP P,613,aaO,616,yt,623,aJ,625,aaN,626,aJ,628,aaM,629,aaL,630,aJ,632,aaK,633,aJ,635,aaJ,636,aaI,637,aJ,639,aaH,640,aJ,642,aaG,643,aaF,644,aJ,646,aaE,647,aJ,649,aaD,650,aaC,651,aJ,652,aaB P,653,aaA,656,yt,663,aJ,665,aaz,666,aJ,668,aay,669,aax,670,aJ,672,aaw,673,aJ,675,aav,676,aau,677,aJ,679,aat,680,aJ,682,aas,683,aar,684,aJ,686,aaq,687,aJ,689,aap,690,aao,691,aJ,692,aan P,693,aam,696,yt,703,aJ,705,aal,706,aJ,708,aak,709,aaj,710,aJ,712,aai,713,aJ,715,aah,716,aag,717,aJ,719,aaf,720,aJ,722,aae,723,aad,724,aJ,725,aac P,726,aab,729,yt,736,aJ,738,aaa,739,aJ,741,Z_,742,Z9,743,aJ,745,Z8,746,aJ,748,Z7,749,Z6,750,aJ,752,Z5,753,aJ,755,Z4,756,Z3,757,aJ,758,Z2 P,759,Z1,762,yt,769,aJ,771,Z0,772,aJ,774,ZZ,775,ZY,776,aJ,778,ZX,779,aJ,781,ZW,782,ZV,783,aJ,784,ZU P,785,ZT,788,yt,795,aJ,797,ZR,798,aJ,800,ZQ,801,ZP,802,aJ,804,ZO,805,aJ,807,ZN,808,ZM,809,aJ,810,ZL P,811,ZK,821,aJ,823,ZJ,824,aJ,826,ZI,827,ZH,828,aJ,830,ZG,831,aJ,833,ZF,834,ZE,835,aJ,837,ZD,838,aJ,840,ZC,841,ZA,842,aJ,844,Zz,845,aJ,847,Zy,848,Zx,849,aJ,852,Zw,853,Zv,854,aJ,856,Zu,857,aJ,859,Zt,860,Zs,861,Zr,862,Zq P,863,Zp,864,Zo,865,Zn,868,Zm,869,Zl,870,aJ,873,Zk,874,Zj,875,aJ,877,Zi,878,aJ,880,Zh,881,Zg,889,aJ,891,Zf,892,aJ,894,Ze,895,Zd,896,aJ,898,Zc,899,aJ,901,Zb,902,Za,903,aJ,905,Y_,906,aJ,908,Y9,909,Y8,910,aJ,912,Y7,913,aJ,915,Y6,916,Y5,917,aJ,919,Y4,920,aJ,922,Y3,923,Y2,924,aJ,926,Y1,927,aJ,929,Y0,930,YZ,931,aJ,933,YY,934,aJ,936,YX,937,YW,938,aJ,940,YV,941,aJ,943,YU,944,YT,945,aJ,947,YS,948,aJ,950,YR,951,YQ,952,aJ,954,YO,955,aJ,957,YN,958,YM,959,aJ,961,YL,962,aJ,964,YK,965,YJ,966,aJ,968,TQ,969,aJ,971,TN,972,TM,973,aJ,975,TL,976,aJ,978,TK,979,TJ,980,TF,981,TC P,982,TB,983,Tz,984,Tx,987,aJ,989,Tw,990,aJ,992,Tv,993,Tu,994,aJ,997,Tt,998,Ts,999,aJ,1001,Tr,1002,aJ,1004,Tp,1005,To,1013,aJ,1016,Tn,1017,Tj,1018,Ti,1019,Tg P,1020,Tf,1021,Te,1022,Td,1025,aJ,1027,Tc,1028,aJ,1030,Tb,1031,Ta,1032,aJ,1034,S_,1035,aJ,1037,S9,1038,S8,1039,aJ,1042,SY,1043,SX,1044,aJ,1046,SW,1047,aJ,1049,SV,1050,SU,1051,aJ,1053,SS,1054,aJ,1056,SR,1057,SQ,1058,aJ,1061,SO,1062,SN,1063,aJ,1065,SM,1066,aJ,1068,SK,1069,SJ,1070,aJ,1072,SI,1073,aJ,1075,SH,1076,SG,1077,aJ,1079,SF,1080,aJ,1082,SE,1083,SD,1084,aJ,1086,SA,1087,aJ,1089,Sz,1090,Sy,1091,aJ,1093,Sw,1094,aJ,1096,Sv,1097,Su,1098,aJ,1101,Ss,1102,Sr]
def eF:Program:={Challenge.pw_slowroad_k66_spoilt_frames with main:={Challenge.pw_slowroad_k66_spoilt_frames.main with body:=[top 1,top 2,top 3,top 4,top 5,top 6,top 7,top 8,top 10,top 12,top 13,top 14,top 15,top 16,top 17,top 18,top 19,top 20,top 21,top 22,top 23,top 24,top 25,top 26,top 27,top 28,top 29,top 30,top 31,top 32,top 33,top 34,top 35,top 36,top 37,top 38,top 39,top 40,top 42,top 44,top 46,top 47,top 48,top 50,top 51,top 53,top 54,top 55,top 56,top 57,top 58,top 59,top 60,top 62,top 64,top 65,top 66,top 67,top 68,top 69,top 71,top 73,top 74,top 75,top 76,top 77,top 78,top 79,top 80,top 82,top 83,top 84,top 85,top 86,top 87,top 88,top 89,top 90,top 91,top 92,top 93]}}
def jS:List Addr:=[2,3,15,22,23,24,25,28,35,37,38,40,41,42,43,44,47,54,56,57,59,60,61,62,63,66,73,75,76,78,79,80,81,82,85,92,93,94,97,104,106,107,109,110,111,112,113,116,123,124,125,128,135,137,138,140,141,142,143,144,147,149,150,152,153,154,155,156,158,159,161,162,163,165,166,168,169,170,173,174,175,177,178,180,181,182,184,185,187,188,189,191,192,194,195,196,199,200,201,203,204,206,207,208,210,211,213,214,215,217,218,220,221,222,224,225,227,228,229,231,232,234,235,236,239,240,241,244,245,246,248,249,251,252,260,262,263,265,266,267,269,270,272,273,274,276,277,279,280,281,283,284,286,287,288,290,291,293,294,295,297,298,300,301,302,303,304,305,306,309,311,312,314,315,316,318,319,321,322,330,332,333,335,336,337,339,340,342,343,344,346,347,349,350,351,353,354,356,357,358,360,361,363,364,365,367,368,370,371,372,373,374,375,376,386,388,389,391,392,393,395,396,398,399,400,402,403,405,406,407,409,410,412,413,414,416,417,419,420,421,423,424,426,427,428,431,432,433,436,437,438,441,442,443,445,446,448,449,450,452,453,455,456,457,459,460,462,463,464,466,467,469,470,471,473,474,476,477,478,480,481,483,484,485,487,488,490,491,492,494,495,497,498,499,501,502,504,505,506,508,509,511,512,513,514,515,516,517,527,529,530,532,533,534,536,537,539,540,541,543,544,546,547,548,550,551,553,554,555,557,558,560,561,562,564,565,567,568,569,571,572,574,575,576,577,578,579,580,583,590,592,593,595,596,597,599,600,602,603,604,606,607,609,610,611,612,613,616,623,625,626,628,629,630,632,633,635,636,637,639,640,642,643,644,646,647,649,650,651,652,653,656,663,665,666,668,669,670,672,673,675,676,677,679,680,682,683,684,686,687,689,690,691,692,693,696,703,705,706,708,709,710,712,713,715,716,717,719,720,722,723,724,725,726,729,736,738,739,741,742,743,745,746,748,749,750,752,753,755,756,757,758,759,762,769,771,772,774,775,776,778,779,781,782,783,784,785,788,795,797,798,800,801,802,804,805,807,808,809,810,811,821,823,824,826,827,828,830,831,833,834,835,837,838,840,841,842,844,845,847,848,849,852,853,854,856,857,859,860,861,862,863,864,865,868,869,870,873,874,875,877,878,880,881,889,891,892,894,895,896,898,899,901,902,903,905,906,908,909,910,912,913,915,916,917,919,920,922,923,924,926,927,929,930,931,933,934,936,937,938,940,941,943,944,945,947,948,950,951,952,954,955,957,958,959,961,962,964,965,966,968,969,971,972,973,975,976,978,979,980,981,982,983,984,987,989,990,992,993,994,997,998,999,1001,1002,1004,1005,1013,1016,1017,1018,1019,1020,1021,1022,1025,1027,1028,1030,1031,1032,1034,1035,1037,1038,1039,1042,1043,1044,1046,1047,1049,1050,1051,1053,1054,1056,1057,1058,1061,1062,1063,1065,1066,1068,1069,1070,1072,1073,1075,1076,1077,1079,1080,1082,1083,1084,1086,1087,1089,1090,1091,1093,1094,1096,1097,1098,1101,1102]
theorem yx: ∀P,jS=(Gb P).map (·.1):=fun _=>by kernel_rfl
def Kr:Env:={scope:=pg.main.scope,locals:=mainNs,globals:=mainNs,cells:=[],code:=Value.ref 13,frame:=some 14}
def CZ:List Stmt:=behindTheImports pg
def Ud:Code:= .body CZ Kr
abbrev hdB:List Frame:=[topFrame (Pos.mk 0 0 0 0)]
abbrev hdn:Option Value:=Option.some (Value.ref 6)
def hpre:Params->Heap:=fun P=>⟨Array.mk [boot_o_0 P,boot_o_1 P,boot_o_2 P,boot_o_3 P,boot_o_4 P,boot_o_5 P,boot_o_6 P,boot_o_7 P,boot_o_8 P,boot_o_9 P,boot_o_10 P,aJ,cC,o13,o14],Life.mk List.nil List.nil List.nil 0 List.nil List.nil Bool.false (List.toArray List.nil) List.nil 0 Bool.false Bool.false Bool.false 0 (List.cons 2000 (List.cons 10 (List.cons 10 List.nil))) Bool.false 0 Bool.true List.nil List.nil 0 Bool.false⟩
theorem W8 (w:World) (os:OsState):topGo treeTable pg w 11 hdn 12 (⟨boot_heap w.params,Array.mk [],boot_drawn,boot_toks,os⟩:Shared) (topStub pg)=some ((⟨hpre w.params,Array.mk [],Drawn.mk 0 0 0 0,187,os⟩:Shared),⟨denote treeTable Ud,Ud,Pos.mk 0 0 0 0,hdB⟩):=by kernel_rfl
def HF (P:Pm):BT:=up [boot_o_0 P,boot_o_1 P,boot_o_2 P,boot_o_3 P,boot_o_4 P,boot_o_5 P,boot_o_6 P,boot_o_7 P,boot_o_8 P,boot_o_9 P,boot_o_10 P,aJ,cC,o13,o14] .nil 0
abbrev lif:Life:=Life.mk List.nil List.nil List.nil 0 List.nil List.nil Bool.false (List.toArray List.nil) List.nil 0 Bool.false Bool.false Bool.false 0 (List.cons 2000 (List.cons 10 (List.cons 10 List.nil))) Bool.false 0 Bool.true List.nil List.nil 0 Bool.false
abbrev sh (t:Pm->BT) (n k:Nat) (w:World) (os:OsState):SharedT:=SharedT.mk (t w.params) n lif (Array.mk []) (Drawn.mk 0 0 0 0) k os
def hgg (i j:Nat):List Stmt:=(CZ.drop i).take j
abbrev sgr (w:World) (os:OsState) (n:Nat) (a:World->OsState->SharedT) (l:List Stmt) (p:Pos) (b:World->OsState->SharedT) (q:Pos):Prop:=segRunT treeTable pg w 11 hdn 1 n (a w os) (piecesOf l Kr Ud p hdB)=some (.next,b w os,Ud,q)
abbrev CU:=sh HF 15 187
theorem Xl (w:World) (os:OsState):segRun treeTable pg w 11 hdn 1 1 (⟨hpre w.params,Array.mk [],Drawn.mk 0 0 0 0,187,os⟩:Shared) (blockOf CZ Kr Ud (Pos.mk 0 0 0 0) hdB)=some (.next,((CU w os)).abs,Ud,Pos.mk 0 0 0 0):=by kernel_rfl
def T_ (P:Pm):BT:=up [o17,DM,o19 P,aJ,cC,o22,o23,aJ,o25 P,o26,o27,o28,o29,Kh,DM,o32 P,aJ,o34,o35,o36,aJ,cC,o39,aJ,o41,o42,o43,o44,o45 P,o46,o47,o48,Kh,DM,o51 P,aJ,o53,o54,o55,aJ,cC,o58,aJ,o60,o61,o62,o63,o64 P,o65,o66,o67] (ch [(3,o15 P),(12,o16)] (HF P)) 15
abbrev Uc:=sh T_ 66 257
def hg4:=hgg 0 4
theorem afz (w os):sgr w os 686 CU hg4 (.mk 0 0 0 0) Uc (.mk 8 0 11 26):=by unfold sgr;kernel_rfl
def T9 (P:Pm):BT:=up [Kh,DM,o73 P,aJ,o75,o76,o77,aJ,cC,o80,aJ,o82,o83,o84,o85,o86 P,o87,o88,o89,Kh,DM,o92 P,aJ,cC,o95,o96,aJ,o98 P,o99,ajV,ajU] (ch [(3,o68 P),(12,o69),(24,o70)] (T_ P)) 66
abbrev Ub:=sh T9 97 298
def hg6:=hgg 4 2
theorem afy (w os):sgr w os 459 Uc hg6 (.mk 8 0 11 26) Ub (.mk 16 0 17 8):=by unfold sgr;kernel_rfl
def T8 (P:Pm):BT:=up [Kh,DM,ajQ P,aJ,ajP,ajO,ajN,aJ,cC,aeb,aJ,ajM,aea,ad_,ad9,ad8 P,ad7,ajL,ajK,Kh,DM,ajJ P,aJ,cC,ajI,ajH,aJ,ad6 P,ad5,ajG,ajF] (ch [(3,ajT P),(12,ajS),(24,ajR)] (T9 P)) 97
abbrev Ua:=sh T8 128 339
def hg8:=hgg 6 2
theorem afx (w os):sgr w os 459 Ub hg8 (.mk 16 0 17 8) Ua (.mk 22 0 23 8):=by unfold sgr;kernel_rfl
def OT (P:Pm):BT:=up [Kh,DM,ajC P,aJ,ajB,ajA,ajz,aJ,cC,ad3,aJ,ajy,ad2,ad1,ad0,adZ P,adY,ajx,ajw,aJ,cC,adX,aJ,ajv,adW,adV,adU,adT,aJ,cC,adS,aJ,aju,adR,adQ,aJ,cC,adP,aJ,ajt,adO,adN,aJ,cC,ajs,adM,adL,aJ,cC,adK,aJ,ajr,adJ,adI,aJ,cC,adH,aJ,ajq,adG,adF,aJ,cC,adE,aJ,ajp,adD,adC,aJ,cC,ajo,adB,adA,aJ,cC,adz,aJ,ajn,ady,adx,aJ,cC,adw,aJ,ajm,adv,adu] (ch [(3,ajE P),(12,ajD),(24,ad4)] (T8 P)) 128
abbrev O5:=sh OT 215 481
def afa:=hgg 8 27
theorem Xj (w os):sgr w os 695 Ua afa (.mk 22 0 23 8) O5 (.mk 92 0 93 52):=by unfold sgr;kernel_rfl
def OS (P:Pm):BT:=up [aJ,cC,adt,aJ,ajj,ads,adq,aJ,cC,adp,aJ,aji,ado,adn,aJ,cC,adm,aJ,ajh,adl,adk,aJ,cC,ajg,adj,adi,aJ,cC,ajf,adh,adg,aJ,cC,adf,aJ,aje,ade,adb,aJ,DM,ajd P,aJ,ajc,ajb,aja,aJ,cC,ada,aJ,ai_,ac_,ac9,aJ,cC,ac8,aJ,ai9,ac7,ac6,aJ,cC,ac5,aJ,ai8,ac4,ac3,aJ,cC,ac2,aJ,ai7,ac1,ac0,aJ,cC,acZ,aJ,ai6,acY,acX,aJ,cC,acW,aJ,ai5,acV,acU,acT,acS P,acR,acQ,acP,ai4,ai3,aJ,cC,acO,aJ,ai2,acN,acM,aJ,cC,acL,aJ,ai1,acK,acJ] (ch [(3,ajl P),(12,ajk)] (OT P)) 215
abbrev O4:=sh OS 323 617
def ae_:=hgg 35 13
theorem Xi (w os):sgr w os 650 O5 ae_ (.mk 92 0 93 52) O4 (.mk 154 0 156 44):=by unfold sgr;kernel_rfl
def OR (P:Pm):BT:=up [aJ,DM,aiY P,aJ,aiX,aiW,aiV,aJ,cC,acI,aJ,aiU,acH,acG,aJ,cC,acF,aJ,aiT,acE,acD,aJ,cC,acC,aJ,aiS,acB,acA,aJ,cC,acz,aJ,aiR,acy,acx,aJ,cC,acw,aJ,aiQ,acv,acu,aJ,cC,acs,aJ,aiP,acr,acq,acp,aco P,acn,acm,ack,aiO,aiN] (ch [(3,ai0 P),(12,aiZ)] (OS P)) 323
abbrev O3:=sh OR 379 695
def ae9:=hgg 48 3
theorem Xh (w os):sgr w os 406 O4 ae9 (.mk 154 0 156 44) O3 (.mk 189 0 189 14):=by unfold sgr;kernel_rfl
def OQ (P:Pm):BT:=up [aJ,DM,aiK P,aJ,aiJ,aiI,aiH,aJ,cC,acj,aJ,aiG,aci,ach,aJ,cC,acg,aJ,aiF,acf,ace,aJ,cC,acd,aJ,aiE,acb,aca,aJ,cC,ab_,aJ,aiD,ab9,ab8,aJ,cC,ab7,aJ,aiC,ab6,ab5,aJ,cC,ab4,aJ,aiB,ab3,ab2,aJ,cC,aiA,ab1,ab0,aJ,cC,aiz,abZ,abY,aJ,cC,aiy,abX,abW,aJ,cC,abV,aJ,aix,abU,abT,aJ,cC,abS,aJ,aiw,abR,abQ,aJ,cC,abP,aJ,aiv,abO,abN,aJ,cC,abM,aJ,aiu,abL,abK,aJ,cC,abJ,aJ,ait,abI,abH,aJ,cC,abG,aJ,ais,abF,abE,aJ,cC,abD,aJ,air,abC,abB,aJ,cC,abA,aJ,aiq,abz,aby,aJ,cC,abx,aJ,aip,abw,abv,aJ,cC,abu,aJ,aio,abt,abr,abq,abp P,abo,abn,abm,ain,aim] (ch [(3,aiM P),(12,aiL)] (OR P)) 379
abbrev O2:=sh OQ 520 879
def ae8:=hgg 51 1
theorem Xg (w os):sgr w os 804 O3 ae8 (.mk 189 0 189 14) O2 (.mk 190 0 301 28):=by unfold sgr;kernel_rfl
def OP (P:Pm):BT:=up [aJ,DM,aij P,aJ,aii,aih,aif,aJ,cC,abl,aJ,aie,abk,abj,aJ,cC,abi,aJ,aid,abh,abg,aJ,cC,abf,aJ,aic,abe,abd,aJ,cC,abc,aJ,aib,abb,aba,aJ,cC,aa_,aJ,aia,aa9,aa8,aJ,cC,aa7,aJ,ah_,aa6,aa5,aJ,cC,aa4,aJ,ah9,aa3,aa2,aJ,aa1 P,ah8,aa0,aaZ,ah7,ah6] (ch [(3,ail P),(12,aik)] (OQ P)) 520
abbrev O1:=sh OP 583 950
def ae7:=hgg 52 2
theorem Xf (w os):sgr w os 416 O2 ae7 (.mk 190 0 301 28) O1 (.mk 303 0 324 19):=by unfold sgr;kernel_rfl
def OO (P:Pm):BT:=up [yt,DM,ah2 P,aJ,ah1,ah0,ahZ,aJ,cC,aaY,aJ,ahY,aaX,aaW,aJ,cC,aaV,aJ,ahX,aaU,aaT,aJ,cC,aaS,aJ,ahW,aaR,aaQ,aJ,aaP P,aaO,ahV,ahU,yt,DM,ahT P,aJ,ahS,ahR,ahQ,aJ,cC,aaN,aJ,ahP,aaM,aaL,aJ,cC,aaK,aJ,ahO,aaJ,aaI,aJ,cC,aaH,aJ,ahN,aaG,aaF,aJ,cC,aaE,aJ,ahM,aaD,aaC,aJ,aaB P,aaA,ahL,ahK] (ch [(3,ah5 P),(12,ah4),(578,ah3)] (OP P)) 583
abbrev O0:=sh OO 656 1031
def ae6:=hgg 54 2
theorem Xe (w os):sgr w os 642 O1 ae6 (.mk 303 0 324 19) O0 (.mk 335 0 347 21):=by unfold sgr;kernel_rfl
def OM (P:Pm):BT:=up [yt,DM,ahG P,aJ,ahF,ahE,ahD,aJ,cC,aaz,aJ,ahC,aay,aax,aJ,cC,aaw,aJ,ahB,aav,aau,aJ,cC,aat,aJ,ahA,aas,aar,aJ,cC,aaq,aJ,ahz,aap,aao,aJ,aan P,aam,ahy,ahx,yt,DM,ahw P,aJ,ahv,ahu,aht,aJ,cC,aal,aJ,ahs,aak,aaj,aJ,cC,aai,aJ,ahr,aah,aag,aJ,cC,aaf,aJ,ahq,aae,aad,aJ,aac P,aab,ahp,aho] (ch [(3,ahJ P),(12,ahI),(578,ahH)] (OO P)) 656
abbrev OZ:=sh OM 729 1112
def ae5:=hgg 56 2
theorem Xd (w os):sgr w os 642 O0 ae5 (.mk 335 0 347 21) OZ (.mk 361 0 370 19):=by unfold sgr;kernel_rfl
def OL (P:Pm):BT:=up [yt,DM,ahk P,aJ,ahj,ahi,ahh,aJ,cC,aaa,aJ,ahg,Z_,Z9,aJ,cC,Z8,aJ,ahf,Z7,Z6,aJ,cC,Z5,aJ,ahe,Z4,Z3,aJ,Z2 P,Z1,ahd,ahc,yt,DM,ahb P,aJ,aha,ag_,ag9,aJ,cC,Z0,aJ,ag8,ZZ,ZY,aJ,cC,ZX,aJ,ag7,ZW,ZV,aJ,ZU P,ZT,ag6,ag5] (ch [(3,ahn P),(12,ahm),(578,ahl)] (OM P)) 729
abbrev OY:=sh OL 788 1179
def ae4:=hgg 58 2
theorem Xc (w os):sgr w os 580 OZ ae4 (.mk 361 0 370 19) OY (.mk 381 0 387 21):=by unfold sgr;kernel_rfl
def OK (P:Pm):BT:=up [yt,DM,ag2 P,aJ,ag1,ag0,agZ,aJ,cC,ZR,aJ,agY,ZQ,ZP,aJ,cC,ZO,aJ,agX,ZN,ZM,aJ,ZL P,ZK,agW,agV,aJ,DM,agU P,aJ,agT,agS,agR,aJ,cC,ZJ,aJ,agQ,ZI,ZH,aJ,cC,ZG,aJ,agP,ZF,ZE,aJ,cC,ZD,aJ,agO,ZC,ZA,aJ,cC,Zz,aJ,agN,Zy,Zx,aJ,cC,agM,Zw,Zv,aJ,cC,Zu,aJ,agL,Zt,Zs,Zr,Zq P,Zp,Zo,Zn,agK,agJ,Zm] (ch [(3,ag4 P),(12,ag3),(578,ZS)] (OL P)) 788
abbrev OX:=sh OK 869 1294
def ae3:=hgg 60 6
theorem Xb (w os):sgr w os 701 OY ae3 (.mk 381 0 387 21) OX (.mk 436 0 436 5):=by unfold sgr;kernel_rfl
def OJ (P:Pm):BT:=up [Zl,aJ,cC,agG,Zk,Zj,aJ,cC,Zi,aJ,agF,Zh,Zg,aJ,DM,agE P,aJ,agD,agC,agB,aJ,cC,Zf,aJ,agA,Ze,Zd,aJ,cC,Zc,aJ,agz,Zb,Za,aJ,cC,Y_,aJ,agy,Y9,Y8,aJ,cC,Y7,aJ,agx,Y6,Y5,aJ,cC,Y4,aJ,agw,Y3,Y2,aJ,cC,Y1,aJ,agv,Y0,YZ,aJ,cC,YY,aJ,agu,YX,YW,aJ,cC,YV,aJ,agt,YU,YT,aJ,cC,YS,aJ,ags,YR,YQ,aJ,cC,YO,aJ,agr,YN,YM,aJ,cC,YL,aJ,agq,YK,YJ,aJ,cC,TQ,aJ,aeE,TN,TM,aJ,cC,TL,aJ,aeD,TK,TJ,TF,TC P,TB,Tz,Tx,aeC,aeB] (ch [(3,agI P),(12,agH)] (OK P)) 869
abbrev OW:=sh OJ 987 1455
def ae2:=hgg 66 4
theorem Xa (w os):sgr w os 694 OX ae2 (.mk 436 0 436 5) OW (.mk 445 0 533 98):=by unfold sgr;kernel_rfl
def OI (P:Pm):BT:=up [aJ,cC,Tw,aJ,aey,Tv,Tu,aJ,cC,aex,Tt,Ts,aJ,cC,Tr,aJ,aew,Tp,To,aJ,DM,aev P,aJ,aeu,aet,aes,aJ,cC,aer,Tn,Tj,Ti,Tg P,Tf,Te,Td,aeq,aep,aJ,cC,Tc,aJ,aeo,Tb,Ta,aJ,cC,S_,aJ,aen,S9,S8,aJ,cC,aem,SY,SX,aJ,cC,SW,aJ,ael,SV,SU,aJ,cC,SS,aJ,aek,SR,SQ,aJ,cC,aej,SO,SN,aJ,cC,SM,aJ,aei,SK,SJ,aJ,cC,SI,aJ,aeh,SH,SG,aJ,cC,SF,aJ,aeg,SE,SD,aJ,cC,SA,aJ,aef,Sz,Sy] (ch [(3,aeA P),(12,aez)] (OJ P)) 987
abbrev OV:=sh OI 1091 1625
def ae1:=hgg 70 22
theorem W_ (w os):sgr w os 698 OW ae1 (.mk 445 0 533 98) OV (.mk 633 0 649 27):=by unfold sgr;kernel_rfl
def OH (P:Pm):BT:=up [aJ,cC,Sw,aJ,aed,Sv,Su,aJ,cC,aec,Ss,Sr] (ch [(3,Sx P),(12,aee)] (OI P)) 1091
abbrev OU:=sh OH 1103 1642
def ae0:=hgg 92 2
theorem W9 (w os):sgr w os 60 OV ae0 (.mk 633 0 649 27) OU (.mk 654 0 678 15):=by unfold sgr;kernel_rfl
def hfin:Pm->Heap:=fun P=>⟨Array.mk ((OH P).list 1103),Life.mk List.nil List.nil List.nil 0 List.nil List.nil Bool.false (List.toArray List.nil) List.nil 0 Bool.false Bool.false Bool.false 0 (List.cons 2000 (List.cons 10 (List.cons 10 List.nil))) Bool.false 0 Bool.true List.nil List.nil 0 Bool.false⟩
theorem Xk (w:World) (os:OsState):topRun treeTable pg w 11 hdn 2 ((OU w os)).abs ⟨doneF .next,Ud,Pos.mk 654 0 678 15,hdB⟩=some (⟨hfin w.params,Array.mk [],Drawn.mk 0 0 0 0,1642,os⟩:Shared):=by kernel_rfl
theorem RK (w:World) (os:OsState):topRun treeTable pg w 11 hdn 8594 ((CU w os)).abs (restOf CZ Kr Ud (Pos.mk 0 0 0 0) hdB)=some (⟨hfin w.params,Array.mk [],Drawn.mk 0 0 0 0,1642,os⟩:Shared):=.trans (by kernel_rfl) (piece_app (segRun_of (afz w os)) (piece_app (segRun_of (afy w os)) (piece_app (segRun_of (afx w os)) (piece_app (segRun_of (Xj w os)) (piece_app (segRun_of (Xi w os)) (piece_app (segRun_of (Xh w os)) (piece_app (segRun_of (Xg w os)) (piece_app (segRun_of (Xf w os)) (piece_app (segRun_of (Xe w os)) (piece_app (segRun_of (Xd w os)) (piece_app (segRun_of (Xc w os)) (piece_app (segRun_of (Xb w os)) (piece_app (segRun_of (Xa w os)) (piece_app (segRun_of (W_ w os)) (piece_app (segRun_of (W9 w os)) (piece_nil (Xk w os)))))))))))))))))
theorem W7 (w:World) (os:OsState):topRun treeTable pg w 11 hdn 8607 (⟨boot_heap w.params,Array.mk [],boot_drawn,boot_toks,os⟩:Shared) (topStub pg)=some (⟨hfin w.params,Array.mk [],Drawn.mk 0 0 0 0,1642,os⟩:Shared):=go_top (n:=12) (N:=8595) (W8 w os) (piece_block (n:=1) (N:=8594) (Xl w os) (RK w os))
theorem RL: ∀w:World,(fencedOpening treeTable pg w 17280).map (fun s=>(s.heap,s.gens,s.drawn,s.toks))=some (boot_heap w.params,Array.mk [],boot_drawn,boot_toks):=boot_open rfl (by decide) (fun s=>rfl)
theorem RJ: ∀w:World,((boot_heap w.params).isNs mainGlobals&&(Array.mk []:Array GenState).size == 0,(boot_heap w.params).objs.size,(boot_heap w.params).nsMap mainGlobals "__annotations__")=(true,11,hdn):=fun w=>by kernel_rfl
theorem afn (w:World) (os:OsState):(staticsOk (importedModules pg.main.body) (boot_heap w.params) (hfin w.params)&&namesBound pg (hfin w.params)&&gensDone (⟨hfin w.params,Array.mk [],Drawn.mk 0 0 0 0,1642,os⟩:Shared)&&laidKept (boot_heap w.params) (hfin w.params))=true:=by kernel_rfl
abbrev P_ (w:World) (os:OsState):Shared:=(⟨hfin w.params,Array.mk [],Drawn.mk 0 0 0 0,1642,os⟩:Shared)
abbrev RN (w:World) (os:OsState):=openSeen eF [] (importedModules pg.main.body) (fun s=>xlAt eF [] s&&recOk Challenge.rw_slowroad_k66_spoilt_frames.row.records s) true (P_ w os)
theorem afk (w:World) (os:OsState):(RN w os).1=PyProof.Rows.expectedOf eF:=by kernel_rfl
theorem afj (w:World) (os:OsState):(RN w os).2.1=bltViewBooted:=by kernel_rfl
theorem afi (w:World) (os:OsState):(RN w os).2.2.1=true:=by kernel_rfl
theorem afh (w:World) (os:OsState):(RN w os).2.2.2.1=true:=by kernel_rfl
theorem afg (w:World) (os:OsState):(RN w os).2.2.2.2.1=pinGoodD (PyProof.Rows.drecsOf eF):=by kernel_rfl
theorem aff (w:World) (os:OsState):(RN w os).2.2.2.2.2.1=PyProof.Rows.plainGoodE eF (looseW eF []):=by kernel_rfl
theorem afe (w:World) (os:OsState):(RN w os).2.2.2.2.2.2.1=PyProof.Rows.plainGoodD eF []:=by kernel_rfl
theorem afd (w:World) (os:OsState):(RN w os).2.2.2.2.2.2.2.1=wideGood eF:=by kernel_rfl
theorem afc (w:World) (os:OsState):(RN w os).2.2.2.2.2.2.2.2=clsGoodW eF []:=by kernel_rfl
theorem hd_pr {α β:Type} {p:α×β} {a:α} {b:β} (h:p.1=a) (t:p.2=b):p=(a,b):=by cases p;cases h;cases t;rfl
theorem afm (w:World) (os:OsState):openSeen eF [] (importedModules pg.main.body) (fun s=>xlAt eF [] s&&recOk Challenge.rw_slowroad_k66_spoilt_frames.row.records s) true (⟨hfin w.params,Array.mk [],Drawn.mk 0 0 0 0,1642,os⟩:Shared)=openGood eF []:=.trans (by kernel_rfl) (.trans (hd_pr (afk w os) (hd_pr (afj w os) (hd_pr (afi w os) (hd_pr (afh w os) (hd_pr (afg w os) (hd_pr (aff w os) (hd_pr (afe w os) (hd_pr (afd w os) (afc w os))))))))) (by kernel_rfl))
theorem CY {α β d:Type} {f:α->d} {g:β->d} {l:List α} {m:List β} (k n:Nat) (h:((l.drop k).take n).map f=((m.drop k).take n).map g) (t:(l.drop (k+n)).map f=(m.drop (k+n)).map g):(l.drop k).map f=(m.drop k).map g:=by
 rw[<-List.take_append_drop n (l.drop k),<-List.take_append_drop n (m.drop k),List.map_append,List.map_append,h,List.drop_drop,List.drop_drop,t]
theorem afv (w:World) (os:OsState):((jS.drop 0).take 110).map (P_ w os).heap.get?=(((Gb w.params).drop 0).take 110).map (fun p=>some p.2):=by kernel_rfl
theorem afu (w:World) (os:OsState):((jS.drop 110).take 110).map (P_ w os).heap.get?=(((Gb w.params).drop 110).take 110).map (fun p=>some p.2):=by kernel_rfl
theorem aft (w:World) (os:OsState):((jS.drop 220).take 110).map (P_ w os).heap.get?=(((Gb w.params).drop 220).take 110).map (fun p=>some p.2):=by kernel_rfl
theorem afs (w:World) (os:OsState):((jS.drop 330).take 110).map (P_ w os).heap.get?=(((Gb w.params).drop 330).take 110).map (fun p=>some p.2):=by kernel_rfl
theorem afr (w:World) (os:OsState):((jS.drop 440).take 110).map (P_ w os).heap.get?=(((Gb w.params).drop 440).take 110).map (fun p=>some p.2):=by kernel_rfl
theorem afq (w:World) (os:OsState):((jS.drop 550).take 110).map (P_ w os).heap.get?=(((Gb w.params).drop 550).take 110).map (fun p=>some p.2):=by kernel_rfl
theorem afp (w:World) (os:OsState):((jS.drop 660).take 110).map (P_ w os).heap.get?=(((Gb w.params).drop 660).take 110).map (fun p=>some p.2):=by kernel_rfl
theorem afo (w:World) (os:OsState):(jS.drop 770).map (P_ w os).heap.get?=((Gb w.params).drop 770).map (fun p=>some p.2):=by kernel_rfl
theorem afl (w:World) (os:OsState):(kHook Gb jS yx).obs (⟨hfin w.params,Array.mk [],Drawn.mk 0 0 0 0,1642,os⟩:Shared)=(kHook Gb jS yx).val w:=.trans (by kernel_rfl) (.trans (CY 0 110 (afv w os) (CY 110 110 (afu w os) (CY 220 110 (aft w os) (CY 330 110 (afs w os) (CY 440 110 (afr w os) (CY 550 110 (afq w os) (CY 660 110 (afp w os) (afo w os)))))))) (by kernel_rfl))
theorem afw: ∀w:World,Option.map (fun s=>(openSeen eF [] (importedModules pg.main.body) (fun s=>xlAt eF [] s&&recOk Challenge.rw_slowroad_k66_spoilt_frames.row.records s) true s,(kHook Gb jS yx).obs s)) (openEnds treeTable pg w 17280)=some (openGood eF [],(kHook Gb jS yx).val w):=LeftO.of_pieces (H₀:=boot_heap) (H₁:=hfin) RL RJ W7 (by decide) (fun w=>funext fun os=>looks_pair (afn w os) (looks_pair (afm w os) (afl w os)))
end
def wa:Sp:=fun vs H Q E=>match vs with
 | [.int v,.int l,.int h]=>Q (.bl (d6 v l h)) H
 |_=>False
def v_:Sp:=fun vs H Q E=>match vs with
 | [.ref h]=> ∃hs:List Int,H h=some (.tup (hs.map V.int))/\hs.length<=1000/\Q (.bl (Held.dH 0 hs)) H
 |_=>False
def qH:Sp:=fun vs H Q E=>match vs with
 | [.str k,.str sg]=>sg.length<=1000/\∀H',aW H H'->Q (.bl (pO k sg)) H'
 |_=>False
def sU:Sp:=fun vs H Q E=>match vs with
 | [.ref t]=> ∃k n a r hs d,sj H t k n a r hs d/\∀H',aW H H'->Q (.bl (cD k n a r hs d)) H'
 |_=>False
def qE:Sp:=fun vs H Q E=>match vs with
 | [.int n]=>(0<=n/\n<2 ^ 400)/\Q (.int (Rem.R n.toNat:Nat)) H
 |_=>False
def gd (aO:Addr):Sp:=fun vs H Q E=>match vs with
 | [.ref e,v]=>H e=some (.ext (uT e aO none))/\∀d,H d=none->Q .non (upd (upd H d (.xd [("frame",v)])) e (.ext (uT e aO (some d))))
 |_=>False
def gT (aR:Addr):Sp:=fun vs H Q E=>match vs with
 | [.ref e,v]=>H e=some (.ext (uT e aR none))/\∀d,H d=none->Q .non (upd (upd H d (.xd [("frame",v)])) e (.ext (uT e aR (some d))))
 |_=>False
def gc (aI:Addr):Sp:=fun vs H Q E=>match vs with
 | [.ref e,v]=>H e=some (.ext (uT e aI none))/\∀d,H d=none->Q .non (upd (upd H d (.xd [("what",v)])) e (.ext (uT e aI (some d))))
 |_=>False
def mi:Sp:=fun vs H Q E=>match vs with
 | [.ref h]=> ∃hs:List Int,H h=some (.tup (hs.map V.int))/\Held.dH 0 hs=true/\hs.length<=1000/\∀H',aW H H'->Q (.int (fU hs:Nat)) H'
 |_=>False
def km:Sp:=fun vs H Q E=>match vs with
 | [.str d]=>(d.length<=4/\∀c∈d.cps.toList,c∈sgl)/\Q (.int (K8 d:Nat)) H
 |_=>False
def wc:Sp:=fun vs H Q E=>match vs with
 | [.ref t]=> ∃k n a r hs d,sj H t k n a r hs d/\sk k n a r hs d/\∀H',aW H H'->Q (.int (fV k n a r hs d:Nat)) H'
 |_=>False
def vW (aI:Addr):Sp:=fun vs H Q E=>match vs with
 | [.ref t]=> ∃k n a r hs f,sj H t k n a r hs f/\(cD k n a r hs f=true->∀H',aW H H'->Q (.int (iw k n a r hs f:Nat)) H')/\(cD k n a r hs f=false->∀H' d,aW H H'->H' d=some (.xd [("what",.ref t)])->E (.ref aI) (some d) H')
 |_=>False
noncomputable def sgc (c:Nat):Str:=if c<94 then⟨#[sgl.getD c 0]⟩ else "\n"
noncomputable def oS (b:Nat):List Str:=[sgc (b / 2097152 % 128),sgc (b / 16384 % 128),sgc (b / 128 % 128),sgc (b % 128)]
noncomputable def Bw (b:Nat):Str:=if b / 9223372036854775808<5 then kinds.getD (b / 9223372036854775808) "" else ""
noncomputable def My (b:Nat):Int:=(b / 144115188075855872 % 64:Nat)
noncomputable def Mz (b:Nat):Int:=(b / 2251799813685248 % 64:Nat)
noncomputable def Ro (b:Nat):Int:=(b / 70368744177664 % 32:Nat)
noncomputable def hbit (b:Nat) (s:Int):Bool:=decide (b / 2147483648 / 2 ^ (s - 1).toNat % 2=1)
noncomputable def Hz (b:Nat):List Int:=Held.ones.filter (hbit b)
noncomputable def Mx (b:Nat):Str:=Txt.slice (Txt.join "" (oS b)) none (some ((b / 268435456 % 8:Nat):Int))
theorem uJ {x:Nat}:Builtin.bitAnd (x:Int) ((2 ^ k - 1:Nat):Int)=((x % 2 ^ k:Nat):Int):=by
 rw[BitI.KQ,Nat.and_two_pow_sub_one_eq_mod]
theorem Ug {x:Nat}:Builtin.bitAnd (x:Int) 63=((x % 64:Nat):Int):=uJ (k:=6)
theorem afS {x:Nat}:Builtin.bitAnd (x:Int) 31=((x % 32:Nat):Int):=uJ (k:=5)
theorem aj7 {x:Nat}:Builtin.bitAnd (x:Int) 7=((x % 8:Nat):Int):=uJ (k:=3)
theorem XW {x:Nat}:Builtin.bitAnd (x:Int) 127=((x % 128:Nat):Int):=uJ (k:=7)
theorem aj8 {x:Nat}:Builtin.bitAnd (x:Int) 1=((x % 2:Nat):Int):=uJ (k:=1)
theorem Mq (b:Nat):((oS b).map (·.length)).sum=4:=by
 have e: ∀c,(sgc c).length=1:=fun c=>by unfold sgc;split<;>rfl
 unfold oS;simp[e]
theorem HB (b:Nat):(Txt.join "" (oS b)).length=4:=by
 have e: ∀c,∃x,sgc c=⟨#[x]⟩:=fun c=>by unfold sgc;split;exact⟨_,rfl⟩;exact⟨10,rfl⟩
 unfold oS;obtain⟨m,e1⟩:=e _;obtain⟨j,f⟩:=e _;obtain⟨u,i⟩:=e _;obtain⟨v,d⟩:=e _;rw[e1,f,i,d];rfl
theorem Rp (b:Nat):(Hz b).length<=15:=Nat.le_trans (List.length_filter_le _ _) (by decide)
noncomputable def tO (f:Nat):Bool:=cD (Bw (f / 256)) (My (f / 256)) (Mz (f / 256)) (Ro (f / 256)) (Hz (f / 256)) (Mx (f / 256))&&decide (iw (Bw (f / 256)) (My (f / 256)) (Mz (f / 256)) (Ro (f / 256)) (Hz (f / 256)) (Mx (f / 256))=f)
def PX (H:Hp) (t:Addr) (b:Nat):Prop:=sj H t (Bw b) (My b) (Mz b) (Ro b) (Hz b) (Mx b)
def sV:Sp:=fun vs H Q E=>match vs with
 | [.int f]=>Q (.bl (decide (0<=f/\f<18889465931478580854784))) H
 |_=>False
def vX:Sp:=fun vs H Q E=>match vs with
 | [.int c]=>0<=c/\Q (.str (sgc c.toNat)) H
 |_=>False
def sT:Sp:=fun vs H Q E=>match vs with
 | [.int b]=>0<=b/\∀H',aW H H'->Q (.str (Txt.join "" (oS b.toNat))) H'
 |_=>False
def vY:Sp:=fun vs H Q E=>match vs with
 | [.int c]=>0<=c/\Q (.str (if c.toNat<5 then kinds.getD c.toNat "" else "")) H
 |_=>False
def wb:Sp:=fun vs H Q E=>match vs with
 | [.int b]=>0<=b/\∀h H',aW H H'->H' h=some (.tup ((Held.ones.filter fun s=>decide (b.toNat / 2 ^ (s - 1).toNat % 2=1)).map V.int))->Q (.ref h) H'
 |_=>False
def mh:Sp:=fun vs H Q E=>match vs with
 | [.int b]=>0<=b/\∀t H',aW H H'->PX H' t b.toNat->Q (.ref t) H'
 |_=>False
def Fj (aO aR aI:Addr):Sp:=fun vs H Q E=>match vs with
 | [.int f]=>(¬(0<=f/\f<18889465931478580854784)->∀H' d,aW H H'->H' d=some (.xd [("frame",.int f)])->E (.ref aO) (some d) H')/\(0<=f/\f<18889465931478580854784->Rem.R f.toNat≠0->∀H' d,aW H H'->H' d=some (.xd [("frame",.int f)])->E (.ref aR) (some d) H')/\(0<=f/\f<18889465931478580854784->Rem.R f.toNat=0->tO f.toNat=false->∀H' d,aW H H'->H' d=some (.xd [("what",.int f)])->E (.ref aI) (some d) H')/\(0<=f/\f<18889465931478580854784->Rem.R f.toNat=0->tO f.toNat=true->∀t H',aW H H'->PX H' t (f.toNat / 256)->Q (.ref t) H')
 |_=>False
theorem LC (h:a<=b):(2:Nat) ^ b=2 ^ a*2 ^ (b - a):=by rw[<-Nat.pow_add];congr 1;lia
theorem EX: ∀{hs:List Int} {l:Nat},Held.dH (l:Int) hs=true->(∃m,fU hs=m*2 ^ l)/\∀s:Nat,l<s->(((s:Int)∈hs)↔fU hs / 2 ^ (s - 1) % 2=1)
 | [],l,_=>⟨⟨0,by simp[fU]⟩,fun s _=>by simp[fU]⟩
 |x::xs,l,h=>by
  unfold Held.dH at h;rw[Bool.and_eq_true,Bool.and_eq_true,decide_eq_true_eq,decide_eq_true_eq] at h;obtain⟨⟨h1,C⟩,u⟩:=h;obtain⟨j,rfl⟩: ∃j:Nat,x=((j+1:Nat):Int):=⟨(x - 1).toNat,by lia⟩;obtain⟨⟨m,hm⟩,z⟩:=EX (hs:=xs) (l:=j+1) u;have e:fU (((j+1:Nat):Int)::xs)=2 ^ j+m*2 ^ (j+1):=by
   rw[<-hm];unfold fU;rw[List.map_cons,List.sum_cons];congr 2;lia
  have E:l<=j:=by lia
  have big: ∀y∈xs,((j+1:Nat):Int)<y:=fun y v=>by
   have:=(Held.uR.mp u).2 y v;lia
  have i:(2:Nat) ^ (j+1)=2*2 ^ j:=by lia
  refine⟨⟨2 ^ (j - l)+m*2 ^ (j+1 - l),?_⟩,fun s hs=>?_⟩
  ·
   rw[e,Nat.add_mul,<-Nat.pow_add,Nat.mul_assoc,<-Nat.pow_add];congr 2
   ·simp_all
   ·congr 1;lia
  ·
   rw[e];rcases Nat.lt_trichotomy s (j+1) with c|c|c
   ·have ev:(2 ^ j+m*2 ^ (j+1)) / 2 ^ (s - 1) % 2=0:=by
     have e1:(2:Nat) ^ j=2 ^ (s - 1)*(2*2 ^ (j - s)):=by
      rw[show(2:Nat)*2 ^ (j - s)=2 ^ (j - s+1) by rw[Nat.pow_succ];lia,<-Nat.pow_add];congr 1;lia
     have f:2 ^ j+m*2 ^ (j+1)=2 ^ (s - 1)*(2*(2 ^ (j - s)+m*(2*2 ^ (j - s)))):=by
      rw[i,e1];generalize(2:Nat) ^ (s - 1)=A;generalize(2:Nat) ^ (j - s)=B;rw[Nat.mul_add,Nat.mul_add];congr 1;rw[<-Nat.mul_assoc m,Nat.mul_comm (m*2),Nat.mul_assoc A,Nat.mul_comm m 2];simp only[Nat.mul_assoc,Nat.mul_comm,Nat.mul_left_comm]
     rw[f,Nat.mul_div_cancel_left _ (Nat.two_pow_pos _),Nat.mul_mod_right]
    constructor
    ·
     intro d;rcases List.mem_cons.mp d with q|q
     ·lia
     ·have:=big _ q;lia
    ·intro q;lia
   ·
    subst c;have f:(2 ^ j+m*2 ^ (j+1)) / 2 ^ (j+1 - 1) % 2=1:=by
     rw[i,show j+1 - 1=j by lia,show 2 ^ j+m*(2*2 ^ j)=(1+2*m)*2 ^ j by rw[Nat.add_mul,Nat.one_mul];simp only[Nat.mul_assoc,Nat.mul_comm,Nat.mul_left_comm],Nat.mul_div_cancel _ (Nat.two_pow_pos _)];lia
    exact⟨fun _=>f,fun _=>by simp⟩
   ·have f:(2 ^ j+m*2 ^ (j+1)) / 2 ^ (s - 1)=fU xs / 2 ^ (s - 1):=by
     rw[hm,LC (show j+1<=s - 1 by lia),<-Nat.div_div_eq_div_mul,<-Nat.div_div_eq_div_mul,Nat.mul_div_cancel _ (Nat.two_pow_pos _)];congr 1;rw[Nat.add_mul_div_right _ _ (Nat.two_pow_pos _),Nat.div_eq_of_lt (by rw[i];have:=Nat.two_pow_pos j;lia),Nat.zero_add]
    rw[f,<-z s (by lia)];constructor
    ·
     intro d;rcases List.mem_cons.mp d with q|q
     ·lia
     ·exact q
    ·intro q;exact List.mem_cons_of_mem _ q
theorem KO (hi:i<15):(X*32768+h) / 2 ^ i % 2=h / 2 ^ i % 2:=by
 have e:X*32768=2 ^ i*(2*(X*2 ^ (14 - i))):=by
  have:(32768)=2 ^ i*(2*2 ^ (14 - i)):=by
   rw[show(2)*2 ^ (14 - i)=2 ^ (14 - i+1) by lia,<-Nat.pow_add,show i+(14 - i+1)=15 by lia]
  rw[this];simp only[Nat.mul_left_comm]
 rw[e,Nat.add_comm,Nat.add_mul_div_left _ _ (Nat.two_pow_pos _),Nat.add_mul_mod_self_left]
theorem Mf (h:Held.dH 0 hs=true):(Held.ones.filter fun s=>decide ((X*32768+fU hs) / 2 ^ (s - 1).toNat % 2=1))=hs:=by
 obtain⟨h1,j⟩:=Held.uR.mp h;have f:=(EX (l:=0) (‹_›)).2;refine Held.Cq (Held.Hj.filter _) h1 fun z=>?_;rw[List.mem_filter,Held.N6,decide_eq_true_eq];constructor
 ·
  rintro⟨d,q⟩;obtain⟨s,rfl⟩: ∃s:Nat,z=(s):=⟨z.toNat,by lia⟩;rw[f s (by lia)];rw[show((s:Int) - 1).toNat=s - 1 by lia] at q;rw[KO (by lia)] at q;exact q
 ·
  intro d;have i:=j z d;refine⟨‹_›,?_⟩;obtain⟨s,rfl⟩: ∃s:Nat,z=(s):=⟨z.toNat,by lia⟩;rw[show((s:Int) - 1).toNat=s - 1 by lia,KO (by lia)];exact(f s (by lia)).mp d
theorem B7 (h:c∈sgl):sgc (sgn c)=⟨#[c]⟩:=by
 obtain⟨_,d,f⟩:=pq h;unfold sgc;rw[if_pos d,List.getD_eq_getElem?_getD,f];rfl
theorem aeL:Txt.join "" [⟨#[a]⟩,⟨#[b]⟩,⟨#[c]⟩,⟨#[d]⟩]=⟨#[a,b,c,d]⟩:=rfl
theorem M0 {n:Nat} (h:n<=z.length):Txt.slice z none (some (n:Int))=⟨(z.cps.toList.take n).toArray⟩:=by
 have hl:z.cps.toList.length=z.length:=rfl;have e:=StrLaws.sliceText_to (x:=z) (j:=(n)) ⟨by lia,by lia⟩;exact e
theorem Kj (p:sk k n a r hs sg):Bw (fV k n a r hs sg)=k/\My (fV k n a r hs sg)=n/\Mz (fV k n a r hs sg)=a/\Ro (fV k n a r hs sg)=r/\Hz (fV k n a r hs sg)=hs/\Mx (fV k n a r hs sg)=sg:=by
 have pb:=p.parts;have v:=F9 p.hk;obtain⟨d,u⟩:=p.pad;obtain⟨c1,j,i,f,hc⟩: ∃c1 j i f,vj sg= [c1,j,i,f]:=by
  match h:vj sg,u with
  | [c1,j,i,f],_=>exact⟨c1,j,i,f,rfl⟩
 have m1:=d c1 (by simp_all);have x:=d j (by simp_all);have y:=d i (by simp_all);have z:=d f (by simp_all);have s1:=(pq m1).2.1;have s2:=(pq x).2.1;have s3:=(pq y).2.1;have P:=(pq z).2.1;have es:K8 sg=((sgn c1*128+sgn j)*128+sgn i)*128+sgn f:=by
  unfold K8;rw[hc];simp[DR]
 have hb:fV k n a r hs sg=(((((kidx k*64+n.toNat)*64+a.toNat)*32+r.toNat)*32768+fU hs)*8+sg.length)*268435456+K8 sg:=rfl;have n0:=p.n0;have a0:=p.a0;have r0:=p.r0;obtain⟨b1,X,J,U,b5,O,Z⟩:=pb;have m:=v.2;have hh:=p.hh;have hl:=p.hl;have I:kinds.getD (kidx k) "" = k:=by rw[List.getD_eq_getElem?_getD,v.1.1];rfl
 generalize fV k n a r hs sg=B at*
 refine⟨?_,?_,?_,?_,?_,?_⟩
 ·
  unfold Bw;have:B / 9223372036854775808=kidx k:=by omega
  rw[this,if_pos m,I]
 ·unfold My;omega
 ·unfold Mz;omega
 ·unfold Ro;omega
 ·
  unfold Hz hbit;have:B / 2147483648=(((kidx k*64+n.toNat)*64+a.toNat)*32+r.toNat)*32768+fU hs:=by omega
  rw[this];exact Mf hh
 ·
  unfold Mx oS;have e1:B / 2097152 % 128=sgn c1:=by omega
  have C:B / 16384 % 128=sgn j:=by omega
  have H:B / 128 % 128=sgn i:=by omega
  have F:B % 128=sgn f:=by omega
  have G:B / 268435456 % 8=sg.length:=by omega
  rw[e1,C,H,F,G,B7 m1,B7 x,B7 y,B7 z,aeL,M0 (by show sg.length<=4;exact hl)];have E:([c1,j,i,f]:List Nat).take sg.length=sg.cps.toList:=by
   rw[<-hc];unfold vj;have:sg.length=sg.cps.toList.length:=by simp[Str.length]
   rw[this,List.take_left]
  show(⟨(([c1,j,i,f]:List Nat).take sg.length).toArray⟩:Str)=sg;rw[E]
theorem Mi (h:cD k n a r hs sg=true):tO (iw k n a r hs sg)=true/\iw k n a r hs sg / 256=fV k n a r hs sg:=by
 have e:iw k n a r hs sg / 256=fV k n a r hs sg:=by
  rw[EZ];have:=Rem.H_ (fV k n a r hs sg*256);lia
 refine⟨?_,e⟩;unfold tO;rw[e];obtain⟨h1,i,d,m,j,f⟩:=Kj (ye h);rw[h1,i,d,m,j,f,h,Bool.true_and,decide_eq_true rfl]
theorem qx:d6 v l h=true↔l<=v/\v<=h:=by
 unfold d6;rw[Bool.and_eq_true,decide_eq_true_eq,decide_eq_true_eq]
theorem Gd (c:l<=v/\v<=h):d6 v l h=true:=qx.mpr c
theorem Ge (c: ¬(l<=v/\v<=h)):d6 v l h=false:=by
 cases e:d6 v l h
 ·rfl
 ·exact absurd (qx.mp e) c
noncomputable def om (r l:Int):Int:=if r=1 then 2+l / 2 else 2*r+l - 1
noncomputable def pS (o t g:Int):Int:=if om o g<om t g then om t g else om o g
def good (r o t g f l:Int):Prop:=(2<=r/\r<=64)/\((1<=o/\o<=16)/\(1<=t/\t<=16))/\(1<=g/\g<=32)/\(2<=l/\l<=64)/\(2<=f/\f<=l)
def Fl:Sp:=fun vs H Q E=>match vs with
 | [.int r,.int l]=>Q (.int (om r l)) H
 |_=>False
def qI:Sp:=fun vs H Q E=>match vs with
 | [.ref p]=> ∃o t,H p=some (.tup [.int o,.int t])/\∀H',aW H H'->Q (.bl (decide ((1<=o/\o<=16)/\(1<=t/\t<=16)))) H'
 |_=>False
def qG:Sp:=fun vs H Q E=>match vs with
 | [.int f,.int l]=>Q (.bl (decide ((2<=l/\l<=64)/\2<=f/\f<=l))) H
 |_=>False
def f_ (aS:Addr):Sp:=fun vs H Q E=>match vs with
 | [.ref e,.int l]=>H e=some (.ext (uT e aS none))/\∀d,H d=none->Q .non (upd (upd H d (.xd [("least",.int l)])) e (.ext (uT e aS (some d))))
 |_=>False
def i5 (bR aU aS:Addr):Sp:=fun vs H Q E=>match vs with
 | [.ref x,.int r,.ref p,.int g,.int f,.int l]=> ∃o t dx,H p=some (.tup [.int o,.int t])/\H x=some (.ins bR dx [])/\(¬good r o t g f l->∀H',aW H H'->E (.ref aU) none H')/\(good r o t g f l->r<pS o t g->∀H' d,aW H H'->H' d=some (.xd [("least",.int (pS o t g))])->E (.ref aS) (some d) H')/\(good r o t g f l->¬r<pS o t g->∀H',lL x H H'->H' x=some (.ins bR dx (jT (.int r) (.ref p) (.int g) (.int f) (.int l)))->Q .non H')
 |_=>False
def i8 (ai:Addr):Sp:=fun vs H Q E=>match vs with
 | [.ref p,.int m]=> ∃dx,H p=some (.ins ai dx [])/\Q .non (upd H p (.ins ai dx (ba (.int m) (.int (MeterM.mn 2 m)) (.int m) (.int 0))))
 |_=>False
def i7 (ai:Addr):Sp:=fun vs H Q E=>match vs with
 | [.ref p]=> ∃dx m w k c,H p=some (.ins ai dx (ba (.int m) (.int w) (.int k) (.int c)))/\Q .non (upd H p (.ins ai dx (ba (.int m) (.int (MeterM.k1 m k (w,c)).1) (.int k) (.int (MeterM.k1 m k (w,c)).2))))
 |_=>False
def nY (ai:Addr):Sp:=fun vs H Q E=>match vs with
 | [.ref p,.int n]=>(0<=n/\n<1000)/\∃dx m w k c,H p=some (.ins ai dx (ba (.int m) (.int w) (.int k) (.int c)))/\Q .non (upd H p (.ins ai dx (ba (.int m) (.int (MeterM.kn m k n.toNat (w,c)).1) (.int k) (.int (MeterM.kn m k n.toNat (w,c)).2))))
 |_=>False
def pL (ai:Addr):Sp:=fun vs H Q E=>match vs with
 | [.ref p]=> ∃dx m w k c,H p=some (.ins ai dx (ba (.int m) (.int w) (.int k) (.int c)))/\Q (.int (MeterM.hf w)) H
 |_=>False
def kr (ai:Addr):Sp:=fun vs H Q E=>match vs with
 | [.ref p]=> ∃dx m w k c,H p=some (.ins ai dx (ba (.int m) (.int w) (.int k) (.int c)))/\Q .non (upd H p (.ins ai dx (ba (.int m) (.int 1) (.int (MeterM.hf w)) (.int 0))))
 |_=>False
def ku (ai:Addr):Sp:=fun vs H Q E=>match vs with
 | [.ref p]=> ∃dx m w k c,H p=some (.ins ai dx (ba (.int m) (.int w) (.int k) (.int c)))/\Q .non (upd H p (.ins ai dx (ba (.int m) (.int (MeterM.hf w)) (.int (MeterM.hf w)) (.int 0))))
 |_=>False
structure Wb (a A b B m:Int):Prop where
 m0:0<=m
 m1:m<=1000000
 a0:0<=a
 A0:0<A
 b0:0<=b
 B0:0<B
 a1:Bd 1000 a
 A1:Bd 1000 A
 b1:Bd 1000 b
 B1:Bd 1000 B
def Fd (au:Addr) (H:Hp) (p dx:Addr) (L w a A b B:Int):Prop:= ∃f d,H p=some (.ins au dx (bB (.int L) (.ref f) (.ref d) (.int w)))/\H f=some (.tup [.int a,.int A])/\H d=some (.tup [.int b,.int B])
noncomputable abbrev nsp:=WaysM.nsp
noncomputable abbrev nsm:=WaysM.nsm
noncomputable def lw (a A b B:Int):Int:=-(-(a*B+4*b*A) / (A*B))
noncomputable def wt (L a A b B:Int):Int:=if 2<(if lw a A b B<L then lw a A b B else L) then(if lw a A b B<L then lw a A b B else L) else 2
theorem Wb.mB (W:Wb a A b B m):Bd 20 m:=Bd.of W.m0 (by have:=W.m1;lia)
theorem Wb.aeG (W:Wb a A b B m):0<=3*a+m*A/\0<4*A:=by
 have:=Int.mul_nonneg W.m0 (Int.le_of_lt W.A0);have:=W.a0;have:=W.A0;lia
theorem Wb.aeF (W:Wb a A b B m):0<=3*b*A+((a - m*A).natAbs:Int)*B/\0<4*(A*B):=by
 have d:=Int.mul_pos W.A0 W.B0;have:=Int.mul_nonneg (Int.mul_nonneg (show(0)<=3 by decide) W.b0) (Int.le_of_lt W.A0);have:=Int.mul_nonneg (Int.natCast_nonneg (a - m*A).natAbs) (Int.le_of_lt W.B0);lia
theorem Wb.ajX (W:Wb a A b B m):0<=(nsm a A m).1/\0<(nsm a A m).2/\Bd 2000 (nsm a A m).1/\Bd 2000 (nsm a A m).2:=by
 obtain⟨s,d⟩:=WaysM.qt W.aeG.1 W.aeG.2;have h1:=(((Bd.c (k:=3) (by decide)).mul W.a1).up (show 2+1000<=1020 by decide)).add (W.mB.mul W.A1);exact⟨d.t0,d.b0,(h1.le d.t0 d.tl).up (by decide),(Bd.le ((Bd.c (n:=3) (by decide)).mul W.A1) (Int.le_of_lt d.b0) d.bl).up (by decide)⟩
theorem Wb.ajW (W:Wb a A b B m):0<=(nsp a A b B m).1/\0<(nsp a A b B m).2/\Bd 3000 (nsp a A b B m).1/\Bd 3000 (nsp a A b B m).2:=by
 obtain⟨s,f⟩:=WaysM.qt W.aeF.1 W.aeF.2;have d:=((W.a1.up (show 1000<=1020 by decide)).sub (W.mB.mul W.A1)).abs;have h1:=((((Bd.c (k:=3) (by decide)).mul W.b1).mul W.A1).up (show 2+1000+1000<=2021 by decide)).add (d.mul W.B1);exact⟨f.t0,f.b0,(h1.le f.t0 f.tl).up (by decide),(Bd.le ((Bd.c (n:=3) (by decide)).mul (W.A1.mul W.B1)) (Int.le_of_lt f.b0) f.bl).up (by decide)⟩
theorem Wb.of (h:WaysM.St n P S D a A b B) (hn:n<=440) (h0:0<=m) (h1:m<=1000000):Wb a A b B m:=by
 have e:(4) ^ n=((2 ^ (2*n):Nat):Int):=by rw[WaysM.yz];simp
 have d:Bd 881 P:=by rw[h.p,e];exact Bd.c (Nat.pow_lt_pow_right (by decide) (by lia))
 have f:=Bd.le ((Bd.c (n:=20) (by decide)).mul d) h.s0 h.s1;have hD:=Bd.le ((Bd.c (n:=21) (by decide)).mul d) h.d0 h.d1;exact⟨h0,h1,h.a0,h.A0,h.b0,h.B0,(f.le h.a0 h.a1).up (by decide),(d.le (Int.le_of_lt h.A0) h.A1).up (by decide),(hD.le h.b0 h.b1).up (by decide),(Bd.le ((Bd.c (n:=2) (by decide)).mul d) (Int.le_of_lt h.B0) h.B1).up (by decide)⟩
def y9:Sp:=fun vs H Q E=>match vs with
 | [.int t,.int b]=>(0<=t/\0<b/\Bd 8000 b)/\∀p,H p=none->Q (.ref p) (upd H p (.tup [.int (WaysM.low t b).1,.int (WaysM.low t b).2]))
 |_=>False
def ko (au:Addr):Sp:=fun vs H Q E=>match vs with
 | [.ref p,.int f,.int l]=> ∃dx,H p=some (.ins au dx [])/\Q .non (upd H p (.ins au dx (bB (.int l) .non .non (.int f))))
 |_=>False
def fW (au:Addr):Sp:=fun vs H Q E=>match vs with
 | [.ref p,.int m]=> ∃dx L w a A b B,Wb a A b B m/\Fd au H p dx L w a A b B/\∀q,H q=none->Q (.ref q) (upd H q (.tup [.int (nsp a A b B m).1,.int (nsp a A b B m).2]))
 |_=>False
def fX (au:Addr):Sp:=fun vs H Q E=>match vs with
 | [.ref p,.int m]=> ∃dx L s d w a A,(0<=m/\m<=1000000/\0<=a/\0<A/\Bd 1000 A)/\H p=some (.ins au dx (bB (.int L) (.ref d) s (.int w)))/\H d=some (.tup [.int a,.int A])/\∀q,H q=none->Q (.ref q) (upd H q (.tup [.int (nsm a A m).1,.int (nsm a A m).2]))
 |_=>False
def gQ (au:Addr):Sp:=fun vs H Q E=>match vs with
 | [.ref p]=> ∃dx L w a A b B,(0<A/\0<B/\Bd 2000 a/\Bd 2000 A/\Bd 3000 b/\Bd 3000 B)/\Fd au H p dx L w a A b B/\Q (.int (lw a A b B)) H
 |_=>False
def fE (au:Addr):Sp:=fun vs H Q E=>match vs with
 | [.ref p,.int m]=>(0<=m/\m<=1000000)/\((∃dx L w,H p=some (.ins au dx (bB (.int L) .non .non (.int w)))/\∀H',lL p H H'->Fd au H' p dx L (wt L m 1 (WaysM.low m 2).1 (WaysM.low m 2).2) m 1 (WaysM.low m 2).1 (WaysM.low m 2).2->Q .non H')\/(∃dx L w a A b B,Wb a A b B m/\Fd au H p dx L w a A b B/\∀H',lL p H H'->Fd au H' p dx L (wt L (nsm a A m).1 (nsm a A m).2 (nsp a A b B m).1 (nsp a A b B m).2) (nsm a A m).1 (nsm a A m).2 (nsp a A b B m).1 (nsp a A b B m).2->Q .non H'))
 |_=>False
def ml (au:Addr):Sp:=fun vs H Q E=>match vs with
 | [.ref p]=> ∃dx L s sp w,H p=some (.ins au dx (bB (.int L) s sp (.int w)))/\Q .non (upd H p (.ins au dx (bB (.int L) s sp (.int (if L<2*w then L else 2*w)))))
 |_=>False
noncomputable abbrev Wg:=Option (Int×Int×Int×Int)
def WS (C:Addr) (H:Hp) (p dx:Addr) (L w:Int) (g:Wg) (k:Nat):Prop:=2<=L/\(2<=w/\w<=L)/\((k=0/\g=none/\H p=some (.ins C dx (bB (V.int L) V.non V.non (V.int w))))\/∃n P S D a A b B,g=some (a,A,b,B)/\n+1=k/\WaysM.St n P S D a A b B/\Fd C H p dx L w a A b B)
noncomputable def mgs (g:Wg) (m:Int):Wg:=match g with
 |none=>some (m,1,(WaysM.low m 2).1,(WaysM.low m 2).2)
 |some (a,A,b,B)=>some ((nsm a A m).1,(nsm a A m).2,(nsp a A b B m).1,(nsp a A b B m).2)
noncomputable def mws (L:Int) (g:Wg):Int:=match g with
 |none=>2
 |some (a,A,b,B)=>wt L a A b B
theorem Se (h:2<=L):2<=wt L a A b B/\wt L a A b B<=L:=by
 unfold wt
 (lia)<;>lia
theorem WS.meas (h:WS C H p dx L w g k) (hk:k<=440) (m0:0<=m) (m1:m<=1000000) (q: ∀H',lL p H H'->WS C H' p dx L (mws L (mgs g m)) (mgs g m) (k+1)->Q .non H'):fE C [.ref p,.int m] H Q E:=by
 obtain⟨d,hw,⟨h1,rfl,hi⟩|⟨n,P,S,D,a,A,b,B,rfl,h1,j,u⟩⟩:=h
 ·exact⟨⟨m0,m1⟩,.inl ⟨dx,L,w,hi,fun H' i f=>q H' i ⟨d,Se d,.inr ⟨0,_,_,_,_,_,_,_,rfl,by lia,WaysM.St.first m0 m1,f⟩⟩⟩⟩
 ·exact⟨⟨m0,m1⟩,.inr ⟨dx,L,w,a,A,b,B,Wb.of j (by lia) m0 m1,u,fun H' i f=>q H' i ⟨d,Se d,.inr ⟨_,_,_,_,_,_,_,_,rfl,by lia,j.step m0 m1,f⟩⟩⟩⟩
theorem WS.ins (h:WS C H p dx L w g k): ∃s sp,H p=some (.ins C dx (bB (V.int L) s sp (V.int w))):=by
 obtain⟨_,_,⟨_,_,hi⟩|⟨n,P,S,D,a,A,b,B,_,_,_,⟨f,i,d,_⟩⟩⟩:=h
 ·exact⟨_,_,hi⟩
 ·exact⟨_,_,d⟩
noncomputable def gsm (g:Wg):Dt:=match g with
 |none=> .non
 |some (a,A,_,_)=> .t [.int a,.int A]
noncomputable def gsp (g:Wg):Dt:=match g with
 |none=> .non
 |some (_,_,b,B)=> .t [.int b,.int B]
theorem WS.keep (h:WS C H p dx L w g k) (hp: ∀o,H p=some o->H' p=some o) (ht: ∀t l,H t=some (.tup l)->H' t=some (.tup l)):WS C H' p dx L w g k:=by
 obtain⟨h0,h1,⟨a1,u,v⟩|⟨n,P,S,D,a,A,b,B,b0,b1,j,⟨m,x,f,i,d⟩⟩⟩:=h
 ·exact⟨h0,h1,.inl ⟨a1,u,hp _ v⟩⟩
 ·exact⟨h0,h1,.inr ⟨n,P,S,D,a,A,b,B,b0,b1,j,⟨m,x,hp _ f,ht _ _ i,ht _ _ d⟩⟩⟩
def MS (C:Addr) (H:Hp) (p dx:Addr) (mo wi kn co:Int):Prop:=H p=some (.ins C dx (ba (.int mo) (.int wi) (.int kn) (.int co)))/\MeterM.X0 mo (wi,co)
structure Ad where
 dx:Addr
 pw:Addr
 pm:Addr
 pt:Addr
 pk:Addr
 pf:Addr
 pa:Addr
 dw:Addr
 dm:Addr
structure Sd where
 R:Int
 b:Int
 t:Int
 e:Int
 clk:V
 hur:Bool
 T:List V
 Kn:List (Key×V)
 Fi:List (Key×V)
 Ag:List (Key×V)
 L:Int
 w:Int
 k:Nat
 wi:Int
 g:Wg
 mo:Int
 kn:Int
 co:Int
structure b_ (CS CW CM:Addr) (H:Hp) (x:Addr) (A:Ad) (z:Sd):Prop where
 hx:H x=some (.ins CS A.dx (aN (.int z.R) (.ref A.pw) (.ref A.pm) (.ref A.pt) (.int z.b) (.int z.t) (.int z.e) z.clk (.bl z.hur) (.ref A.pk) (.ref A.pf) (.ref A.pa)))
 ht:H A.pt=some (.lst z.T)
 hk:H A.pk=some (.dK z.Kn)
 hf:H A.pf=some (.dK z.Fi)
 ha:H A.pa=some (.dK z.Ag)
 ws:WS CW H A.pw A.dw z.L z.w z.g z.k
 ms:MS CM H A.pm A.dm z.mo z.wi z.kn z.co
 kf:A.pk≠A.pf
 ka:A.pk≠A.pa
 fa:A.pf≠A.pa
 xw:x≠A.pw
 xm:x≠A.pm
 wm:A.pw≠A.pm
theorem b_.same (h:b_ CS CW CM H x A z) (e:aW H H'):b_ CS CW CM H' x A z:=by
 obtain⟨e1,hi⟩:=h.ms;exact⟨e _ _ h.hx,e _ _ h.ht,e _ _ h.hk,e _ _ h.hf,e _ _ h.ha,h.ws.keep (fun o q=>e _ _ q) (fun t l q=>e _ _ q),⟨e _ _ e1,hi⟩,h.kf,h.ka,h.fa,h.xw,h.xm,h.wm⟩
theorem b_.put (h:b_ CS CW CM H x A z) (b t e:Int) (c:V) (u:Bool):b_ CS CW CM (upd H x (.ins CS A.dx (aN (.int z.R) (.ref A.pw) (.ref A.pm) (.ref A.pt) (.int b) (.int t) (.int e) c (.bl u) (.ref A.pk) (.ref A.pf) (.ref A.pa)))) x A {z with b:=b,t:=t,e:=e,clk:=c,hur:=u}:=by
 obtain⟨e1,hi⟩:=h.ms;refine⟨aq,by rw[aj (bX h.ht h.hx (by simp))];exact h.ht,by rw[aj (bX h.hk h.hx (by simp))];exact h.hk,by rw[aj (bX h.hf h.hx (by simp))];exact h.hf,by rw[aj (bX h.ha h.hx (by simp))];exact h.ha,
  h.ws.keep (fun o q=>by rw[aj h.xw.symm];exact q) (fun t l q=>by rw[aj (bX q h.hx (by simp))];exact q),⟨by rw[aj h.xm.symm];exact e1,hi⟩,h.kf,h.ka,h.fa,h.xw,h.xm,h.wm⟩
theorem b_.row {q:Addr} (h:b_ CS CW CM H x A z) (E:H q=some o) (T:List V) (Kn Fi:List (Key×V)) (n1: ∀C d l,o≠ .ins C d l) (y: ∀l,o≠ .tup l) (j:upd H q u A.pt=some (.lst T)) (m:upd H q u A.pk=some (.dK Kn)) (i:upd H q u A.pf=some (.dK Fi)) (v:q≠A.pa):b_ CS CW CM (upd H q u) x A {z with T:=T,Kn:=Kn,Fi:=Fi}:=by
 obtain⟨e1,hi⟩:=h.ms;have f: ∀p C d l,H p=some (.ins C d l)->p≠q:=fun p C d l e c=>by simp_all
 obtain⟨s,sp,ew⟩:=h.ws.ins;exact⟨by rw[aj (f _ _ _ _ h.hx)];exact h.hx,j,m,i,by rw[aj v.symm];exact h.ha,h.ws.keep (fun F e=>by rw[aj (f _ _ _ _ ew)];exact e) (fun t l e=>by rw[aj (fun c=>by simp_all)];exact e),⟨by rw[aj (f _ _ _ _ e1)];exact e1,hi⟩,h.kf,h.ka,h.fa,h.xw,h.xm,h.wm⟩
def AR (x:Addr) (A:Ad) (H H':Hp):Prop:= ∀b u,H b=some u->b≠x->b≠A.pw->b≠A.pm->b≠A.pt->b≠A.pk->b≠A.pf->H' b=some u
theorem AR.of (h:aW H H'):AR x A H H':=fun b u e _ _ _ _ _ _=>h b u e
theorem AR.trans (h:AR x A H H') (v:AR x A H' H''):AR x A H H'':=fun b u e a1 d i f j m=>v b u (h b u e a1 d i f j m) a1 d i f j m
theorem b_.nw (h:b_ CS CW CM H x A z) (e:H b=some o) (n: ∀C d l,o≠ .ins C d l):b≠x/\b≠A.pw/\b≠A.pm:=by
 obtain⟨s,sp,ew⟩:=h.ws.ins;obtain⟨em,_⟩:=h.ms;exact⟨bX e h.hx (n _ _ _),bX e ew (n _ _ _),bX e em (n _ _ _)⟩
theorem b_.ways (h:b_ CS CW CM H x A z) (d:lL A.pw H H') (hw:WS CW H' A.pw A.dw z.L w g k):b_ CS CW CM H' x A {z with w:=w,g:=g,k:=k}:=by
 obtain⟨em,hi⟩:=h.ms;exact⟨d _ _ h.hx h.xw,d _ _ h.ht (h.nw h.ht (by simp)).2.1,d _ _ h.hk (h.nw h.hk (by simp)).2.1,d _ _ h.hf (h.nw h.hf (by simp)).2.1,d _ _ h.ha (h.nw h.ha (by simp)).2.1,hw,⟨d _ _ em h.wm.symm,hi⟩,h.kf,h.ka,h.fa,h.xw,h.xm,h.wm⟩
theorem b_.meter {kn:Int} (h:b_ CS CW CM H x A z) (d:lL A.pm H H') (hm:MS CM H' A.pm A.dm z.mo wi kn co):b_ CS CW CM H' x A {z with wi:=wi,kn:=kn,co:=co}:=by
 obtain⟨em,hi⟩:=h.ms;exact⟨d _ _ h.hx h.xm,d _ _ h.ht (h.nw h.ht (by simp)).2.2,d _ _ h.hk (h.nw h.hk (by simp)).2.2,d _ _ h.hf (h.nw h.hf (by simp)).2.2,d _ _ h.ha (h.nw h.ha (by simp)).2.2,h.ws.keep (fun o e=>d _ _ e h.wm) (fun t l e=>d _ _ e (bX e em (by simp))),hm,h.kf,h.ka,h.fa,h.xw,h.xm,h.wm⟩
theorem AR.tup (f:AR x A H H') (h:b_ CS CW CM H x A z) (e:H t=some (.tup l)):H' t=some (.tup l):=by
 obtain⟨a1,d,i⟩:=h.nw e (by simp);exact f t _ e a1 d i (bX e h.ht (by simp)) (bX e h.hk (by simp)) (bX e h.hf (by simp))
theorem AR.lst (f:AR x A H H') (h:b_ CS CW CM H x A z) (e:H t=some (.lst l)) (n:t≠A.pt):H' t=some (.lst l):=by
 obtain⟨a1,d,i⟩:=h.nw e (by simp);exact f t _ e a1 d i n (bX e h.hk (by simp)) (bX e h.hf (by simp))
theorem AR.none {d j i x p:Addr} {H H':Hp} {A:Ad} {z:Sd} (f:AR x A H H') (h:b_ d j i H' x A z) (e:H' p=none):H p=none:=by
 obtain⟨s,sp,ew⟩:=h.ws.ins;obtain⟨em,_⟩:=h.ms;cases q:H p with
 |none=>rfl
 |some u=>
  have nn: ∀{b:Addr} {o:HO},H' b=some o->p≠b:=fun{b o} m c=>by simp_all
  rw[f p u q (nn h.hx) (nn ew) (nn em) (nn h.ht) (nn h.hk) (nn h.hf)] at e;cases e
theorem Cf (e:aW H H') (h:H' p=none):H p=none:=by
 cases q:H p with
 |none=>rfl
 |some o=>rw[e _ _ q] at h;cases h
noncomputable def knw (D:List (Key×V)) (j:Int):Bool:=(bJ D (ik j)).isSome
noncomputable def kab (z:Sd):Nat:=((List.range (z.t - (z.b+1)).toNat).filter fun j:Nat=>knw z.Kn (z.b+1+(j:Int))).length
theorem Vn:kab z<=(z.t - (z.b+1)).toNat:=by
 exact Nat.le_trans (List.length_filter_le _ _) (by simp_all)
theorem Rt {z:Sd} {N:Nat} (h:N=(z.t - (z.b+1)).toNat):(List.map (fun v=>v) (List.filter (fun v=>match v with|V.int i=>knw z.Kn i|_=>false) (oY (z.b+1) N))).length=kab z:=by
 subst h;unfold oY kab;rw[List.map_id',List.filter_map,List.length_map];rfl
noncomputable def putAll (D:List (Key×V)) (d:List Int):List (Key×V):=d.foldl (fun D n=>putK D (ik n) (.bl true)) D
noncomputable def frs (D:List (Key×V)) (d:List Int):List Int:=d.filter fun n=>!knw D n
theorem Xq {D:List (Key×V)} {d:List Int}:List.map (fun v=>v) (List.filter (fun v=>match v with|V.int i=>!knw D i|_=>false) (d.map V.int))=(frs D d).map V.int:=by
 rw[List.map_id',List.filter_map];rfl
theorem ri:(putAll D ps).length<=D.length+ps.length:=by
 induction ps generalizing D with
 |nil=>exact Nat.le_refl _
 |cons a t d=>
  have h1:=d (D:=putK D (ik a) (.bl true));have f:=pz D (ik a) (.bl true);show(putAll _ t).length<=_;simp only[List.length_cons];lia
theorem putAll_snoc:putAll D (ps++ [n])=putK (putAll D ps) (ik n) (.bl true):=by
 unfold putAll;rw[List.foldl_append];rfl
noncomputable def irg (b:Int) (n:Nat):List Int:=(List.range n).map fun j:Nat=>b+(j:Int)
theorem W5:oY b n=(irg b n).map V.int:=by
 unfold oY irg;rw[List.map_map];rfl
noncomputable def hld (z:Sd) (hs:List Int):List Int:=(hs.filter fun h=>decide (z.b+h<z.t)).map fun h=>z.b+h
theorem W6 {z:Sd} {hs:List Int}:List.map (fun v=>match v with|V.int i=>V.int (z.b+i)|v=>v) (List.filter (fun v=>match v with|V.int i=>decide (z.b+i<z.t)|_=>false) (hs.map V.int))=(hld z hs).map V.int:=by
 unfold hld;rw[List.filter_map,List.map_map,List.map_map];rfl
theorem Ga:(hld z hs).length<=hs.length:=by
 unfold hld;rw[List.length_map];exact List.length_filter_le _ _
def DN (x:Addr) (A:Ad) (H H':Hp):Prop:= ∀b u,H b=some u->b≠x->b≠A.pw->b≠A.pm->b≠A.pt->b≠A.pk->b≠A.pf->b≠A.pa->H' b=some u
theorem AR.seven (h:AR x A H H'):DN x A H H':=fun b u e a1 d i f j m _=>h b u e a1 d i f j m
theorem DN.trans (h:DN x A H H') (y:DN x A H' H''):DN x A H H'':=fun b u e a1 d i f j v m=>y b u (h b u e a1 d i f j v m) a1 d i f j v m
theorem b_.agk (h:b_ CS CW CM H x A z) (Ag:List (Key×V)):b_ CS CW CM (upd H A.pa (.dK Ag)) x A {z with Ag:=Ag}:=by
 obtain⟨e1,hi⟩:=h.ms;have f: ∀{p C d:Addr} {l:List _},H p=some (.ins C d l)->p≠A.pa:=fun e=>bX e h.ha (by simp);obtain⟨s,sp,ew⟩:=h.ws.ins;exact⟨by rw[aj (f h.hx)];exact h.hx,by rw[aj (bX h.ht h.ha (by simp))];exact h.ht,by rw[aj h.ka];exact h.hk,by rw[aj h.fa];exact h.hf,aq,h.ws.keep (fun i e=>by rw[aj (f ew)];exact e) (fun t l e=>by rw[aj (bX e h.ha (by simp))];exact e),⟨by rw[aj (f e1)];exact e1,hi⟩,h.kf,h.ka,h.fa,h.xw,h.xm,h.wm⟩
theorem DN.none {d j i x p:Addr} {H H':Hp} {A:Ad} {z:Sd} (f:DN x A H H') (h:b_ d j i H' x A z) (e:H' p=none):H p=none:=by
 obtain⟨s,sp,ew⟩:=h.ws.ins;obtain⟨em,_⟩:=h.ms;cases q:H p with
 |none=>rfl
 |some u=>
  have nn: ∀{b:Addr} {o:HO},H' b=some o->p≠b:=fun{b o} m c=>by simp_all
  rw[f p u q (nn h.hx) (nn ew) (nn em) (nn h.ht) (nn h.hk) (nn h.hf) (nn h.ha)] at e;cases e
def Clk (c:V) (n:Int) (r:Bool):Prop:=(c = .non/\r=false)\/∃i,c = .int i/\r=decide (i<=n)
structure Bz (z:Sd):Prop where
 b0:0<=z.b
 bt:z.b<=z.t
 t1:z.t<=900
def pK (aa au ai:Addr):Sp:=fun vs H Q E=>match vs with
 | [.ref x,th]=> ∃A z,b_ aa au ai H x A z/\z.T.length<1000/\∀H',lL A.pt H H'->b_ aa au ai H' x A {z with T:=z.T++ [th]}->Q .non H'
 |_=>False
def nX (aa au ai:Addr):Sp:=fun vs H Q E=>match vs with
 | [.ref x]=> ∃A z,b_ aa au ai H x A z/\Q (.int z.T.length) H
 |_=>False
def mr (aa au ai:Addr):Sp:=fun vs H Q E=>match vs with
 | [.ref x,.int p]=> ∃A z v,b_ aa au ai H x A z/\oW z.T p=some v/\Q v H
 |_=>False
def cX (aa au ai:Addr):Sp:=fun vs H Q E=>match vs with
 | [.ref x]=> ∃A z,b_ aa au ai H x A z/\Bz z/\∀H',aW H H'->Q (.int (kab z)) H'
 |_=>False
def fY (aa au ai:Addr):Sp:=fun vs H Q E=>match vs with
 | [.ref x]=> ∃A z,b_ aa au ai H x A z/\Bz z/\∀H',aW H H'->Q (.int (z.t - z.b - kab z)) H'
 |_=>False
def d_ (aa au ai:Addr):Sp:=fun vs H Q E=>match vs with
 | [.ref x]=> ∃A z,b_ aa au ai H x A z/\Q (.bl (decide (z.t<z.T.length))) H
 |_=>False
def dP (aa au ai:Addr):Sp:=fun vs H Q E=>match vs with
 | [.ref x]=> ∃A z,b_ aa au ai H x A z/\Bz z/\∀H',aW H H'->Q (.bl (decide (z.b<z.t) && !z.hur&&decide ((2:Int)<=kab z))) H'
 |_=>False
def fc (aa au ai:Addr):Sp:=fun vs H Q E=>match vs with
 | [.ref x]=> ∃A z,b_ aa au ai H x A z/\Bz z/\∀H',aW H H'->Q (.bl (decide (z.t<z.T.length)&&decide (z.t<z.e)&&decide (z.t - z.b - kab z<z.wi))) H'
 |_=>False
def eg (aa au ai:Addr):Sp:=fun vs H Q E=>match vs with
 | [.ref x,.ref l]=> ∃A z,∃d:List Int,b_ aa au ai H x A z/\H l=some (.lst (d.map V.int))/\z.Kn.length<1000000/\d.length<=1000/\∀p H',H p=none->AR x A H H'->b_ aa au ai H' x A {z with Kn:=putAll z.Kn (frs z.Kn d)}->H' p=some (.lst ((frs z.Kn d).map V.int))->Q (.ref p) H'
 |_=>False
def fZ (aa au ai:Addr):Sp:=fun vs H Q E=>match vs with
 | [.ref x,.int n]=> ∃A z,b_ aa au ai H x A z/\∀H',lL x H H'->b_ aa au ai H' x A {z with clk:= .int (n+z.w)}->Q .non H'
 |_=>False
def f9 (aa au ai:Addr):Sp:=fun vs H Q E=>match vs with
 | [.ref x,.int st]=> ∃A z,b_ aa au ai H x A z/\Bz z/\(0<=st/\st<=z.t - z.b)/\z.Kn.length<1000000/\∀fs p H',fs=frs z.Kn (irg z.b st.toNat)->H p=none->AR x A H H'->b_ aa au ai H' x A {z with b:=z.b+st,Kn:=putAll z.Kn fs}->H' p=some (.lst (fs.map V.int))->Q (.ref p) H'
 |_=>False
def f7 (aa au ai:Addr):Sp:=fun vs H Q E=>match vs with
 | [.ref x,.ref t]=> ∃A z,∃hs:List Int,b_ aa au ai H x A z/\H t=some (.tup (hs.map V.int))/\hs.length<=1000/\z.Kn.length<1000000/\∀fs p H',fs=frs z.Kn (hld z hs)->H p=none->AR x A H H'->b_ aa au ai H' x A {z with Kn:=putAll z.Kn fs}->H' p=some (.lst (fs.map V.int))->Q (.ref p) H'
 |_=>False
def gU (aa au ai:Addr):Sp:=fun vs H Q E=>match vs with
 | [.ref x,.int n]=> ∃A z,b_ aa au ai H x A z/\z.Ag.length<1000000/\∀p H',H p=none->DN x A H H'->b_ aa au ai H' x A {z with clk:= .int (n+z.w),hur:=true,Ag:=putK z.Ag (ik z.b) (.bl true)}->H' p=some (.tup [.str "again",.int z.b])->Q (.ref p) H'
 |_=>False
def dQ (aa au ai:Addr):Sp:=fun vs H Q E=>match vs with
 | [.ref x,.int n]=> ∃A z r,b_ aa au ai H x A z/\Clk z.clk n r/\Q (.bl r) H
 |_=>False
def kq (aa au ai:Addr):Sp:=fun vs H Q E=>match vs with
 | [.ref x,.int n]=> ∃A z,b_ aa au ai H x A z/\z.Fi.length<1000000/\∀p H',H p=none->AR x A H H'->b_ aa au ai H' x A {z with clk:=if z.b=z.t then .int (n+z.w) else z.clk,t:=z.t+1,Fi:=putK z.Fi (ik z.t) (.int n)}->H' p=some (.tup [.str "new",.int z.t])->Q (.ref p) H'
 |_=>False
noncomputable def w2 (z:Sd):Int:=if z.L<2*z.w then z.L else 2*z.w
theorem WS.ran (h:WS C H p dx L w g k): ∃s sp,H p=some (.ins C dx (bB (V.int L) s sp (V.int w)))/\WS C (upd H p (.ins C dx (bB (V.int L) s sp (V.int (if L<2*w then L else 2*w))))) p dx L (if L<2*w then L else 2*w) g k:=by
 obtain⟨h0,h1,⟨a1,u,v⟩|⟨n,P,S,D,a,A,b,B,b0,b1,j,⟨m,x,d,i,f⟩⟩⟩:=h
 ·exact⟨_,_,v,h0,by split<;>lia,.inl ⟨a1,u,aq⟩⟩
 ·exact⟨_,_,d,h0,by split<;>lia,.inr ⟨n,P,S,D,a,A,b,B,b0,b1,j,⟨m,x,aq,by rw[aj (bX i d (by simp))];exact i,by rw[aj (bX f d (by simp))];exact f⟩⟩⟩
noncomputable def Hi (c:V) (n:Int):Bool:=match c with
 | .int i=>decide (i<=n)
 |_=>false
noncomputable def Je (z:Sd):Bool:=decide (z.b<z.t) && !z.hur&&decide ((2:Int)<=kab z)
noncomputable def cM (z:Sd):Bool:=decide (z.t<z.T.length)&&decide (z.t<z.e)&&decide (z.t - z.b - kab z<z.wi)
noncomputable def TZ (z:Sd) (n:Int):Sd:={z with w:=w2 z,wi:=1,kn:=MeterM.hf z.wi,co:=0,clk:= .int (n+w2 z),hur:=true,Ag:=putK z.Ag (ik z.b) (.bl true)}
noncomputable def aeY (z:Sd) (n:Int):Sd:={z with wi:=MeterM.hf z.wi,kn:=MeterM.hf z.wi,co:=0,clk:= .int (n+z.w),hur:=true,Ag:=putK z.Ag (ik z.b) (.bl true)}
noncomputable def Ht (z:Sd) (n:Int):Sd:={z with clk:=if z.b=z.t then .int (n+z.w) else z.clk,t:=z.t+1,Fi:=putK z.Fi (ik z.t) (.int n)}
noncomputable def afR (z:Sd) (n:Int):Sd:={z with w:=w2 z,clk:= .int (n+w2 z)}
noncomputable def Yp (z:Sd) (n:Int):Sd:={z with clk:= .int (n+z.w)}
def AsX (z d:Sd) (n:Int) (v:V) (H H':Hp):Prop:=(z.clk = .non/\d=Yp z n/\v = .non)\/(∃i,z.clk = .int i/\n<i/\d=z/\v = .non)\/(∃i,z.clk = .int i/\i<=n/\d=afR z n/\∃p,v = .ref p/\H p=none/\H' p=some (.tup [.str "ask",.non]))
def GoX (z d:Sd) (n:Int) (v:V) (H H':Hp):Prop:=
 (z.b<z.t/\Hi z.clk n=true/\d=TZ z n/\∃p,v = .ref p/\H p=none/\H' p=some (.tup [.str "again",.int z.b]))\/
 (
  (z.b<z.t->Hi z.clk n=false)/\((Je z=true/\d=aeY z n/\∃p,v = .ref p/\H p=none/\H' p=some (.tup [.str "again",.int z.b]))\/
  (
   Je z=false/\((cM z=true/\d=Ht z n/\∃p,v = .ref p/\H p=none/\H' p=some (.tup [.str "new",.int z.t]))\/
   (cM z=false/\((z.t<z.T.length/\z.b=z.t/\AsX z d n v H H')\/(¬(z.t<z.T.length/\z.b=z.t)/\d=z/\v = .non)))))))
theorem AsX.fr (h:AsX z z' n v H H') (f: ∀p,H p=none->H0 p=none):AsX z z' n v H0 H':=by
 rcases h with h|h|⟨i,h1,m,d,p,x,u,j⟩
 ·exact .inl h
 ·exact .inr (.inl h)
 ·exact .inr (.inr ⟨i,h1,m,d,p,x,f p u,j⟩)
def dR (aa au ai:Addr):Sp:=fun vs H Q E=>match vs with
 | [.ref x,.int n]=> ∃A z,b_ aa au ai H x A z/\(z.clk = .non\/∃i,z.clk = .int i)/\∀v H' d,DN x A H H'->b_ aa au ai H' x A d->AsX z d n v H H'->Q v H'
 |_=>False
def qP (aa au ai:Addr):Sp:=fun vs H Q E=>match vs with
 | [.ref x,.int n]=> ∃A z,b_ aa au ai H x A z/\Bz z/\(z.clk = .non\/∃i,z.clk = .int i)/\z.Ag.length<1000000/\z.Fi.length<1000000/\∀v H' d,DN x A H H'->b_ aa au ai H' x A d->GoX z d n v H H'->Q v H'
 |_=>False
noncomputable def cnt (D:List (Key×V)) (t:Nat):Nat:=((List.range t).filter fun j:Nat=>knw D (j:Int)).length
theorem XM:cnt D t<=t:=by
 exact Nat.le_trans (List.length_filter_le _ _) (by simp_all)
theorem DA:cnt D (t+1)=cnt D t+if knw D (t:Int) then 1 else 0:=by
 unfold cnt;rw[List.range_succ,List.filter_append];rw[List.filter_cons];split<;>simp
theorem F8:knw (putK D (ik a) v) b=(decide (b=a)||knw D b):=by
 unfold knw;rw[xT];by_cases c:b=a
 ·simp_all
 ·simp_all
theorem KJ (h:knw D a=false) (h0:0<=a): ∀{t:Nat},cnt (putK D (ik a) v) t=cnt D t+if a<(t:Int) then 1 else 0
 |0=>by show 0=0+_;rw[if_neg (by lia)]
 |t+1=>by
  rw[DA,DA,KJ h h0,F8];by_cases c:(t)=a
  ·
   subst c;rw[h];simp;lia
  ·lia
theorem yT {t:Nat}: ∀{fs:List Int} {D:List (Key×V)},fs.Nodup->(∀a∈fs,knw D a=false/\0<=a/\a<(t:Int))->cnt (putAll D fs) t=cnt D t+fs.length
 | [],_,_,_=>rfl
 |a::l,D,hn,h=>by
  obtain⟨h1,i,f⟩:=h a (List.mem_cons_self ..);obtain⟨n1,j⟩:=List.nodup_cons.mp hn;show cnt (putAll _ l) t=_;rw[yT j (fun b d=>?_),KJ h1 i,if_pos f,List.length_cons]
  ·lia
  ·
   obtain⟨k1,k2,k3⟩:=h b (List.mem_cons_of_mem _ d);have:b≠a:=fun e=>n1 (by simp_all);exact⟨by rw[F8,k1];simp[this],k2,k3⟩
theorem EV:(irg b n).Nodup:=by
 unfold irg;unfold List.Nodup;rw[List.pairwise_map];exact(List.nodup_range).imp fun h e=>h (by lia)
theorem Km (h:a∈irg b n):b<=a/\a<b+n:=by
 obtain⟨j,d,rfl⟩:=List.mem_map.mp h;have:=List.mem_range.mp d;lia
theorem EW (h:hs.Nodup):(hld z hs).Nodup:=by
 unfold hld;unfold List.Nodup;rw[List.pairwise_map];exact(List.Pairwise.filter _ h).imp fun h e=>h (by lia)
theorem Ko (h:a∈hld z hs):a<z.t/\∃k∈hs,a=z.b+k:=by
 obtain⟨k,hk,rfl⟩:=List.mem_map.mp h;obtain⟨m1,d⟩:=List.mem_filter.mp hk;exact⟨by simpa using d,k,m1,rfl⟩
theorem Ce (h:a∈frs D ps):a∈ps/\knw D a=false:=by
 obtain⟨m1,d⟩:=List.mem_filter.mp h;exact⟨m1,by simp_all⟩
def Tq (z:Sd) (tn:Int):Prop:= ∀j:Int,0<=j->j<z.t->∃f,bJ z.Fi (ik j)=some (.int f)/\0<=tn - f/\tn - f<=1000000
noncomputable def far' (z:Sd) (nu:Int):Int:=(nu - z.b) % z.R
noncomputable def yO (z:Sd) (nu:Int):List Int:=frs z.Kn (irg z.b (far' z nu).toNat)
noncomputable def nN (z:Sd) (nu:Int):Sd:={z with b:=z.b+far' z nu,Kn:=putAll z.Kn (yO z nu)}
noncomputable def xP (z:Sd) (nu:Int) (hs:List Int):List Int:=frs (nN z nu).Kn (hld (nN z nu) hs)
noncomputable def fsh (z:Sd) (nu:Int) (hs:List Int):List Int:=yO z nu++xP z nu hs
noncomputable def RP (z:Sd) (p:Int):Int:=match bJ z.Fi (ik p) with
 |some (.int f)=>f
 |_=>0
noncomputable abbrev Ws:=Int×Wg×Nat
noncomputable def Mw (z:Sd) (tn:Int) (s:Ws) (p:Int):Ws:=if knw z.Ag p then s else(mws z.L (mgs s.2.1 (tn - RP z p)),mgs s.2.1 (tn - RP z p),s.2.2+1)
noncomputable def mall (z:Sd) (tn:Int) (fs:List Int):Ws:=fs.foldl (Mw z tn) (z.w,z.g,z.k)
theorem LV:mall z tn (fs++ [c])=Mw z tn (mall z tn fs) c:=by unfold mall;rw[List.foldl_append];rfl
noncomputable def hrd (z:Sd) (nu d:Int) (hs:List Int) (tn:Int):Sd:=
 ⟨z.R,z.b+far' z nu,z.t,if z.e<z.b+far' z nu+d then z.b+far' z nu+d else z.e,if 0<far' z nu then(if z.b+far' z nu<z.t then .int (tn+(mall z tn (fsh z nu hs)).1) else .non) else z.clk,if 0<far' z nu then false else z.hur,z.T,putAll (nN z nu).Kn (xP z nu hs),z.Fi,z.Ag,z.L,(mall z tn (fsh z nu hs)).1,(mall z tn (fsh z nu hs)).2.2,(MeterM.kn z.mo z.kn (fsh z nu hs).length (z.wi,z.co)).1,(mall z tn (fsh z nu hs)).2.1,z.mo,z.kn,(MeterM.kn z.mo z.kn (fsh z nu hs).length (z.wi,z.co)).2⟩
def mv (aa au ai:Addr):Sp:=fun vs H Q E=>match vs with
 | [.ref x,.int nu,.int rm,.ref hd,.int tn]=> ∃A z,∃hs:List Int,b_ aa au ai H x A z/\Bz z/\0<z.R/\H hd=some (.tup (hs.map V.int))/\hs.length<=100/\hs.Nodup/\(∀k∈hs,0<=k)/\Tq z tn/\z.Kn.length<900000/\z.t<=430/\z.k<=cnt z.Kn z.t.toNat/\∀p H',H p=none->DN x A H H'->((z.t - z.b<far' z nu/\aW H H'/\H' p=some (.lst []))\/(far' z nu<=z.t - z.b/\b_ aa au ai H' x A (hrd z nu rm hs tn)/\H' p=some (.lst ((fsh z nu hs).map V.int))))->Q (.ref p) H'
 |_=>False
theorem dI (b:lL x H H') (n:x≠p) (h:H' p=none):H p=none:=by
 cases q:H p with
 |none=>rfl
 |some o=>rw[b _ _ q n.symm] at h;cases h
def gV (aa au ai:Addr):Sp:=fun vs H Q E=>match vs with
 | [.ref x,.int r,.int f,.int l,.int m]=>(2<=f/\f<=l/\1<=m)/\∃dx,H x=some (.ins aa dx [])/\∀A H',lL x H H'->(∀b,b∈[A.pw,A.pm,A.pt,A.pk,A.pf,A.pa]->H b=none)->b_ aa au ai H' x A ⟨r,0,0,1,.non,false,[],[],[],[],l,f,0,MeterM.mn 2 m,none,m,m,0⟩->Q .non H'
 |_=>False
structure Tk where
 R:Int
 M:Int
 g:Int
 o:Int
 D:List (Key×V)
structure l_ (C:Addr) (H:Hp) (x dx pk:Addr) (z:Tk):Prop where
 hx:H x=some (.ins C dx (bY (.int z.R) (.int z.M) (.int z.g) (.int z.o) (.ref pk)))
 hD:H pk=some (.dK z.D)
theorem l_.n1 (h:l_ C H x dx pk z):pk≠x:=bX h.hD h.hx (by simp)
theorem l_.same (h:l_ C H x dx pk z) (e:aW H H'):l_ C H' x dx pk z:=⟨e _ _ h.hx,e _ _ h.hD⟩
theorem l_.put (h:l_ C H x dx pk z) (R M g o:Int):l_ C (upd H x (.ins C dx (bY (.int R) (.int M) (.int g) (.int o) (.ref pk)))) x dx pk ⟨R,M,g,o,z.D⟩:=⟨aq,by rw[aj h.n1];exact h.hD⟩
def KU (x pk:Addr) (H H':Hp):Prop:= ∀b u,H b=some u->b≠x->b≠pk->H' b=some u
noncomputable def vals (D:List (Key×V)) (g:Int) (n:Nat):List V:=(List.range n).map fun j:Nat=>(bJ D (ik (g+(j:Int)))).getD .non
theorem y6 {n:Nat} (h:bJ D (ik (g+n))=some v):vals D g (n+1)=vals D g n++ [v]:=by
 simp[vals,List.range_succ,h]
def Run (D:List (Key×V)) (g:Int) (n:Nat):Prop:=(∀j:Nat,j<n->(bJ D (ik (g+j))).isSome=true)/\bJ D (ik (g+n))=none
theorem KW {j:Key}:bJ (t8 kvs k) j=if j=k then none else bJ kvs j:=by
 unfold bJ t8;by_cases c:j=k
 ·simp_all
 ·
  rw[if_neg c];congr 1;rw[List.find?_filter];congr 1;funext a;by_cases d:a.1=j
  ·simp_all
  ·simp[d]
noncomputable def A2 (D:List (Key×V)) (g:Int) (n:Nat):List Int:=((List.range n).filter fun j:Nat=>(bJ D (ik (g+(1+(j:Int))))).isSome).map (fun j:Nat=>1+(j:Int))
theorem held_eq {D:List (Key×V)} {g:Int} {n:Nat}:List.map (fun v=>v) (List.filter (fun v=>match v with|V.int i=>(bJ D (ik (g+i))).isSome|_=>false) (oY 1 n))=(A2 D g n).map V.int:=by
 unfold oY A2;rw[List.filter_map,List.map_map,List.map_map];rfl
def Cp:Sp:=fun vs H Q E=>match vs with
 | [.int r,.int a,.int b]=>0<r/\Q (.int ((b - a) % r)) H
 |_=>False
def i6 (az:Addr):Sp:=fun vs H Q E=>match vs with
 | [.ref x,.int r,.int m]=> ∃dx,H x=some (.ins az dx [])/\∀pk H',H pk=none->lL x H H'->l_ az H' x dx pk ⟨r,m,0,0,[]⟩->Q .non H'
 |_=>False
def gS (az:Addr):Sp:=fun vs H Q E=>match vs with
 | [.ref x]=> ∃dx pk z,l_ az H x dx pk z/\Q (.int (z.o+z.M - z.g)) H
 |_=>False
def dE (az:Addr):Sp:=fun vs H Q E=>match vs with
 | [.ref x]=> ∃dx pk z B,l_ az H x dx pk z/\(∀i,(bJ z.D (ik i)).isSome=true->i<B)/\B<=z.g+1000/\∀n p H',Run z.D z.g n->H p=none->KU x pk H H'->l_ az H' x dx pk {z with g:=z.g+n}->H' p=some (.lst (vals z.D z.g n))->Q (.ref p) H'
 |_=>False
def pI (az:Addr):Sp:=fun vs H Q E=>match vs with
 | [.ref x,.int m,.ref th]=> ∃dx pk z B,l_ az H x dx pk z/\0<z.R/\(∀i,(bJ z.D (ik i)).isSome=true->i<B)/\B<=z.g+1000/\z.o+z.M<=B/\z.D.length<1000/\((z.o+z.M - z.g<=(m - z.g) % z.R/\∀p l H',aW H H'->H p=none->H l=none->H' p=some (.tup [.non,.ref l])->H' l=some (.lst [])->Q (.ref p) H')\/((m - z.g) % z.R<z.o+z.M - z.g/\∀d,d=(if(bJ z.D (ik (z.g+(m - z.g) % z.R))).isSome then z.D else putK z.D (ik (z.g+(m - z.g) % z.R)) (.ref th))->∀n p l H',Run d z.g n->H p=none->H l=none->p≠l->KU x pk H H'->l_ az H' x dx pk ⟨z.R,z.M,z.g+n,z.o,d⟩->H' l=some (.lst (vals d z.g n))->H' p=some (.tup [.int (z.g+(m - z.g) % z.R),.ref l])->Q (.ref p) H'))
 |_=>False
def mq (az:Addr):Sp:=fun vs H Q E=>match vs with
 | [.ref x]=> ∃dx pk z,l_ az H x dx pk z/\0<z.R/\(0<=z.o+z.M - z.g/\z.o+z.M - z.g<=1000)/\∀p t hs H',aW H H'->hs=A2 z.D z.g (z.o+z.M - z.g - 1).toNat->H p=none->H t=none->H' t=some (.tup (hs.map V.int))->H' p=some (.tup [.int (z.g % z.R),.int (z.o+z.M - z.g),.ref t])->Q (.ref p) H'
 |_=>False
def pJ (az:Addr):Sp:=fun vs H Q E=>match vs with
 | [.ref x,.int m]=> ∃dx pk z,l_ az H x dx pk z/\(0<=m/\m<=1000/\0<=z.o/\z.o<=z.g/\z.g<=10000)/\(∀i,z.o<=i->i<z.g->(bJ z.D (ik i)).isSome=true)/\∀n p d H',n=((if z.g<z.o+m then z.g else z.o+m) - z.o).toNat->H p=none->(∀i,bJ d (ik i)=if z.o<=i/\i<z.o+n then none else bJ z.D (ik i))->d.Sublist z.D->KU x pk H H'->l_ az H' x dx pk ⟨z.R,z.M,z.g,z.o+n,d⟩->H' p=some (.lst (vals z.D z.o n))->Q (.ref p) H'
 |_=>False
noncomputable def tbl (aA ae aB aD af ag ah:Addr):List (Addr×Str):=[(aA,"shut"),(ae,"calling"),(aB,"open"),(aD,"left"),(af,"leaving"),(ag,"waiting"),(ah,"closing")]
def j_ (d:List (Addr×Str)) (H:Hp) (x:Addr) (nm:Str):Prop:= ∃C dx,H x=some (.ins C dx [])/\(C,nm)∈d
noncomputable def aj5:List (Str×Str×Str):=[("shut","begin","calling"),("shut","begun","open"),("calling","end","leaving"),("calling","begun","open"),("open","end","leaving"),("open","ended","left"),("left","end","closing"),("leaving","ended","closing"),("leaving","answered","waiting"),("waiting","ended","shut"),("closing","answered","shut")]
noncomputable def fT (nm w:Str):Option Str:=match aj5.find? (fun t=>decide (t.1=nm)&&decide (t.2.1=w)) with
 |some t=>some t.2.2
 |none=>if w = "begin" \/w = "end" then none else some nm
noncomputable def Rn (nm:Str):Bool:=decide (nm = "calling")||decide (nm = "open")||decide (nm = "left")
theorem dropxl (S:aW H H1) (he:H1 e=none) (hd:upd H1 e o d=none):aW H (pA (upd (upd (upd H1 e o) d (.xd l)) e (.ext (uT e C (some d)))) e)/\pA (upd (upd (upd H1 e o) d (.xd l)) e (.ext (uT e C (some d)))) e d=some (.xd l):=by
 have nd:d≠e:=fun z=>by rw[z,aq] at hd;cases hd
 refine⟨fun b u f=>?_,?_⟩
 ·
  have h1:=S b u f;have nb:=aL h1 he;rw[gF nb,aj nb,aj (fun z=>?_),aj nb];exact h1;rw[z] at h1;rw[aj nd] at hd;rw[h1] at hd;cases hd
 ·rw[gF nd,aj nd,aq]
def gW (aM:Addr):Sp:=fun vs H Q E=>match vs with
 | [.ref e,v,u]=>H e=some (.ext (uT e aM none))/\∀d,H d=none->Q .non (upd (upd H d (.xd [("state",v),("wish",u)])) e (.ext (uT e aM (some d))))
 |_=>False
def xU:Sp:=fun vs H Q E=>match vs with
 | [.ref x]=>Q (.str "shut") H
 |_=>False
def sA:Sp:=fun vs H Q E=>match vs with
 | [.ref x]=>Q (.str "calling") H
 |_=>False
def xV:Sp:=fun vs H Q E=>match vs with
 | [.ref x]=>Q (.str "open") H
 |_=>False
def xW:Sp:=fun vs H Q E=>match vs with
 | [.ref x]=>Q (.str "left") H
 |_=>False
def sv:Sp:=fun vs H Q E=>match vs with
 | [.ref x]=>Q (.str "leaving") H
 |_=>False
def so:Sp:=fun vs H Q E=>match vs with
 | [.ref x]=>Q (.str "waiting") H
 |_=>False
def sy:Sp:=fun vs H Q E=>match vs with
 | [.ref x]=>Q (.str "closing") H
 |_=>False
def nW (aA ae aB aD af ag ah:Addr):Sp:=fun vs H Q E=>match vs with
 | [.ref x]=> ∀y H',aW H H'->j_ (tbl aA ae aB aD af ag ah) H' y "calling" ->Q (.ref y) H'
 |_=>False
def nh (aA ae aB aD af ag ah:Addr):Sp:=fun vs H Q E=>match vs with
 | [.ref x]=> ∀y H',aW H H'->j_ (tbl aA ae aB aD af ag ah) H' y "leaving" ->Q (.ref y) H'
 |_=>False
def qi (aA ae aB aD af ag ah:Addr):Sp:=fun vs H Q E=>match vs with
 | [.ref x]=> ∀y H',aW H H'->j_ (tbl aA ae aB aD af ag ah) H' y "leaving" ->Q (.ref y) H'
 |_=>False
def qj (aA ae aB aD af ag ah:Addr):Sp:=fun vs H Q E=>match vs with
 | [.ref x]=> ∀y H',aW H H'->j_ (tbl aA ae aB aD af ag ah) H' y "closing" ->Q (.ref y) H'
 |_=>False
def vK (aA ae aB aD af ag ah:Addr):Sp:=fun vs H Q E=>match vs with
 | [.ref x]=> ∀y H',aW H H'->j_ (tbl aA ae aB aD af ag ah) H' y "open" ->Q (.ref y) H'
 |_=>False
def ql (aA ae aB aD af ag ah:Addr):Sp:=fun vs H Q E=>match vs with
 | [.ref x]=> ∀y H',aW H H'->j_ (tbl aA ae aB aD af ag ah) H' y "open" ->Q (.ref y) H'
 |_=>False
def vL (aA ae aB aD af ag ah:Addr):Sp:=fun vs H Q E=>match vs with
 | [.ref x]=> ∀y H',aW H H'->j_ (tbl aA ae aB aD af ag ah) H' y "left" ->Q (.ref y) H'
 |_=>False
def qk (aA ae aB aD af ag ah:Addr):Sp:=fun vs H Q E=>match vs with
 | [.ref x]=> ∀y H',aW H H'->j_ (tbl aA ae aB aD af ag ah) H' y "closing" ->Q (.ref y) H'
 |_=>False
def qg (aA ae aB aD af ag ah:Addr):Sp:=fun vs H Q E=>match vs with
 | [.ref x]=> ∀y H',aW H H'->j_ (tbl aA ae aB aD af ag ah) H' y "shut" ->Q (.ref y) H'
 |_=>False
def m9 (aA ae aB aD af ag ah:Addr):Sp:=fun vs H Q E=>match vs with
 | [.ref x]=> ∀y H',aW H H'->j_ (tbl aA ae aB aD af ag ah) H' y "waiting" ->Q (.ref y) H'
 |_=>False
def m_ (aA ae aB aD af ag ah:Addr):Sp:=fun vs H Q E=>match vs with
 | [.ref x]=> ∀y H',aW H H'->j_ (tbl aA ae aB aD af ag ah) H' y "shut" ->Q (.ref y) H'
 |_=>False
def sX:Sp:=fun vs H Q E=>match vs with
 | [.ref x]=>Q (.ref x) H
 |_=>False
def sW:Sp:=fun vs H Q E=>match vs with
 | [.ref x]=>Q (.ref x) H
 |_=>False
def o8:Sp:=fun vs H Q E=>match vs with
 | [.ref x]=>Q (.ref x) H
 |_=>False
def m8 (aM aA ae aB aD af ag ah:Addr):Sp:=fun vs H Q E=>match vs with
 | [.ref x]=> ∃nm,j_ (tbl aA ae aB aD af ag ah) H x nm/\∀H' d,aW H H'->H' d=some (.xd [("state",.str nm),("wish",.str "begin")])->E (.ref aM) (some d) H'
 |_=>False
def o7 (aM aA ae aB aD af ag ah:Addr):Sp:=fun vs H Q E=>match vs with
 | [.ref x]=> ∃nm,j_ (tbl aA ae aB aD af ag ah) H x nm/\∀H' d,aW H H'->H' d=some (.xd [("state",.str nm),("wish",.str "end")])->E (.ref aM) (some d) H'
 |_=>False
def nZ:Sp:=fun vs H Q E=>match vs with
 | [.ref x]=>Q (.bl true) H
 |_=>False
def sr:Sp:=fun vs H Q E=>match vs with
 | [.ref x]=>Q (.bl true) H
 |_=>False
def su:Sp:=fun vs H Q E=>match vs with
 | [.ref x]=>Q (.bl true) H
 |_=>False
def qh:Sp:=fun vs H Q E=>match vs with
 | [.ref x]=>Q (.bl false) H
 |_=>False
def y_ (aA ae aB aD af ag ah:Addr):Sp:=fun vs H Q E=>match vs with
 | [.ref x]=> ∃nm,j_ (tbl aA ae aB aD af ag ah) H x nm/\Q (.str nm) H
 |_=>False
def qN (aA ae aB aD af ag ah:Addr):Sp:=fun vs H Q E=>match vs with
 | [.ref x]=> ∃nm,j_ (tbl aA ae aB aD af ag ah) H x nm/\Q (.bl (Rn nm)) H
 |_=>False
def mm (aM aA ae aB aD af ag ah:Addr):Sp:=fun vs H Q E=>match vs with
 | [.ref x]=> ∃nm,j_ (tbl aA ae aB aD af ag ah) H x nm/\(∀nx,fT nm "begin" = some nx->∀y H',aW H H'->j_ (tbl aA ae aB aD af ag ah) H' y nx->Q (.ref y) H')/\(fT nm "begin" = none->∀H' d,aW H H'->H' d=some (.xd [("state",.str nm),("wish",.str "begin")])->E (.ref aM) (some d) H')
 |_=>False
def pG (aM aA ae aB aD af ag ah:Addr):Sp:=fun vs H Q E=>match vs with
 | [.ref x]=> ∃nm,j_ (tbl aA ae aB aD af ag ah) H x nm/\(∀nx,fT nm "end" = some nx->∀y H',aW H H'->j_ (tbl aA ae aB aD af ag ah) H' y nx->Q (.ref y) H')/\(fT nm "end" = none->∀H' d,aW H H'->H' d=some (.xd [("state",.str nm),("wish",.str "end")])->E (.ref aM) (some d) H')
 |_=>False
def wd (aA ae aB aD af ag ah:Addr):Sp:=fun vs H Q E=>match vs with
 | [.ref x]=> ∃nm,j_ (tbl aA ae aB aD af ag ah) H x nm/\(∀nx,fT nm "begun" = some nx->∀y H',aW H H'->j_ (tbl aA ae aB aD af ag ah) H' y nx->Q (.ref y) H')
 |_=>False
def qO (aA ae aB aD af ag ah:Addr):Sp:=fun vs H Q E=>match vs with
 | [.ref x]=> ∃nm,j_ (tbl aA ae aB aD af ag ah) H x nm/\(∀nx,fT nm "ended" = some nx->∀y H',aW H H'->j_ (tbl aA ae aB aD af ag ah) H' y nx->Q (.ref y) H')
 |_=>False
def pH (aA ae aB aD af ag ah:Addr):Sp:=fun vs H Q E=>match vs with
 | [.ref x]=> ∃nm,j_ (tbl aA ae aB aD af ag ah) H x nm/\(∀nx,fT nm "answered" = some nx->∀y H',aW H H'->j_ (tbl aA ae aB aD af ag ah) H' y nx->Q (.ref y) H')
 |_=>False
def Kp (S:List Addr) (H H':Hp):Prop:= ∀b o,H b=some o->b ∉ S->H' b=some o
theorem Kp.refl:Kp S H H:=fun _ _ h _=>h
theorem Kp.of (h:aW H H'):Kp S H H':=fun b o e _=>h b o e
theorem Kp.trans (h:Kp S H H1) (d:Kp S H1 H2):Kp S H H2:=fun b o e n=>d b o (h b o e n) n
theorem Kp.more (h:Kp S H H') (i: ∀b∈S,b∈S'):Kp S' H H':=fun b o e n=>h b o e fun m=>n (i b m)
theorem Kp.one {p:Addr} {H:Hp} {o:HO}:Kp [p] H (upd H p o):=fun b u e n=>by rw[aj (fun z=>n (by simp_all))];exact e
theorem tF {l:List Addr} {j:Nat} (h:l.Nodup) (hi:l[i]?=some a) (f:l[j]?=some b) (n:i≠j):a≠b:=fun e=>by
 obtain⟨h1,e1⟩:=List.getElem?_eq_some_iff.mp hi;obtain⟨d,m⟩:=List.getElem?_eq_some_iff.mp f;rcases Nat.lt_trichotomy i j with q|q|q
 ·exact List.pairwise_iff_getElem.mp h i j h1 d q (by simp_all)
 ·exact n q
 ·exact List.pairwise_iff_getElem.mp h j i d h1 q (by simp_all)
def JB (o:HO):Prop:=(∃l,o = .tup l)\/(∃C d,o = .ins C d [])\/∃u v,o = .frz u v
theorem Kp.upd (m:p∈S):Kp S H (L2.upd H p o):=fun b u e n=>by rw[aj (fun z=>n (by simp_all))];exact e
theorem Kp.but (h:lL p H H') (m:p∈S):Kp S H H':=fun b u e n=>h b u e fun z=>n (by simp_all)
theorem lL.fr7 (h:lL A.pt H H'):DN x A H H':=fun b u e _ _ _ n _ _ _=>h b u e n
structure HAd where
 dx:Addr
 tk:Addr
 dt:Addr
 kd:Addr
 sd:Addr
 S:Ad
 st:Addr
 pe:Addr
structure Hn where
 side:Int
 R:Int
 tk:Tk
 sd:Sd
 nm:Str
 due:Bool
 ends : List Int
noncomputable def foot (x:Addr) (A:HAd):List Addr:=[x,A.tk,A.kd,A.sd,A.S.pw,A.S.pm,A.S.pt,A.S.pk,A.S.pf,A.S.pa,A.pe]
structure bO (CH CT CS CW CM:Addr) (tb:List (Addr×Str)) (H:Hp) (x:Addr) (A:HAd) (z:Hn):Prop where
 hx:H x=some (.ins CH A.dx (aX (.int z.side) (.int z.R) (.ref A.tk) (.ref A.sd) (.ref A.st) (.bl z.due) (.ref A.pe)))
 tk:l_ CT H A.tk A.dt A.kd z.tk
 sd:b_ CS CW CM H A.sd A.S z.sd
 st:j_ tb H A.st z.nm
 he:H A.pe=some (.lst (z.ends.map V.int))
 nd:(foot x A).Nodup
section
theorem DN.kp (h:DN x A H H'):Kp [x,A.pw,A.pm,A.pt,A.pk,A.pf,A.pa] H H':=fun b o e n=>by
 simp only[List.mem_cons,List.not_mem_nil,or_false,not_or] at n;exact h b o e n.1 n.2.1 n.2.2.1 n.2.2.2.1 n.2.2.2.2.1 n.2.2.2.2.2.1 n.2.2.2.2.2.2
theorem KU.kp (h:KU x p H H'):Kp [x,p] H H':=fun b o e n=>by
 simp only[List.mem_cons,List.not_mem_nil,or_false,not_or] at n;exact h b o e n.1 n.2
theorem b_.kp (h:b_ CS CW CM H x A z) (k:Kp S H H') (d: ∀b∈[x,A.pw,A.pm,A.pt,A.pk,A.pf,A.pa],b ∉ S) (tp: ∀t l,H t=some (.tup l)->t ∉ S):b_ CS CW CM H' x A z:=by
 obtain⟨e1,hi⟩:=h.ms;exact⟨k _ _ h.hx (d _ (by simp)),k _ _ h.ht (d _ (by simp)),k _ _ h.hk (d _ (by simp)),k _ _ h.hf (d _ (by simp)),k _ _ h.ha (d _ (by simp)),h.ws.keep (fun o q=>k _ _ q (d _ (by simp))) (fun t l q=>k _ _ q (tp t l q)),⟨k _ _ e1 (d _ (by simp)),hi⟩,h.kf,h.ka,h.fa,h.xw,h.xm,h.wm⟩
theorem bO.imm (h:bO CH CT CS CW CM tb H x A z) (e:H b=some o) (i:JB o):b ∉ foot x A:=by
 obtain⟨e1,_⟩:=h.sd.ms;obtain⟨s,sp,j⟩:=h.sd.ws.ins;intro m;simp only[foot,List.mem_cons,List.not_mem_nil,or_false] at m;have key: ∀{p:Addr} {u:HO},H p=some u->¬JB u->b≠p:=fun{p u} q n c=>by
  simp_all
 have f: ∀{C d:Addr} {l:List _},l≠[]->¬JB (.ins C d l):=fun n q=>by
  rcases q with⟨l,q⟩|⟨C,d,q⟩|⟨u,v,q⟩
  ·cases q
  ·simp_all
  ·cases q
 have nl: ∀{l:List V},¬JB (.lst l):=fun q=>by rcases q with⟨l,q⟩|⟨C,d,q⟩|⟨u,v,q⟩<;>cases q
 have nk: ∀{l:List _},¬JB (.dK l):=fun q=>by rcases q with⟨l,q⟩|⟨C,d,q⟩|⟨u,v,q⟩<;>cases q
 rcases m with m|m|m|m|m|m|m|m|m|m|m
 ·exact key h.hx (f (by simp[aX])) m
 ·exact key h.tk.hx (f (by simp[bY])) m
 ·exact key h.tk.hD nk m
 ·exact key h.sd.hx (f (by simp[aN])) m
 ·exact key j (f (by simp[bB])) m
 ·exact key e1 (f (by simp[ba])) m
 ·exact key h.sd.ht nl m
 ·exact key h.sd.hk nk m
 ·exact key h.sd.hf nk m
 ·exact key h.sd.ha nk m
 ·exact key h.he nl m
theorem bO.live (h:bO CH CT CS CW CM tb H x A z) (m:b∈foot x A): ∃u,H b=some u:=by
 obtain⟨e1,_⟩:=h.sd.ms;obtain⟨s,sp,d⟩:=h.sd.ws.ins;simp only[foot,List.mem_cons,List.not_mem_nil,or_false] at m;rcases m with m|m|m|m|m|m|m|m|m|m|m<;>rw[m]
 ·exact⟨_,h.hx⟩
 ·exact⟨_,h.tk.hx⟩
 ·exact⟨_,h.tk.hD⟩
 ·exact⟨_,h.sd.hx⟩
 ·exact⟨_,d⟩
 ·exact⟨_,e1⟩
 ·exact⟨_,h.sd.ht⟩
 ·exact⟨_,h.sd.hk⟩
 ·exact⟨_,h.sd.hf⟩
 ·exact⟨_,h.sd.ha⟩
 ·exact⟨_,h.he⟩
theorem bO.fresh (h:bO CH CT CS CW CM tb H x A z) (e:H b=none):b ∉ foot x A:=fun m=>by
 obtain⟨u,q⟩:=h.live m;rw[e] at q;cases q
theorem bO.kp (h:bO CH CT CS CW CM tb H x A z) (k:Kp S H H') (d: ∀b∈foot x A,b ∉ S) (im: ∀b o,H b=some o->JB o->b ∉ S):bO CH CT CS CW CM tb H' x A z:=by
 obtain⟨C,dd,e,hm⟩:=h.st;simp only[foot,List.mem_cons,List.not_mem_nil,or_false] at d;exact⟨k _ _ h.hx (d _ (by simp)),⟨k _ _ h.tk.hx (d _ (by simp)),k _ _ h.tk.hD (d _ (by simp))⟩,h.sd.kp k (fun b f=>d _ (by grind)) (fun t l q=>im _ _ q (.inl ⟨l,rfl⟩)),
  ⟨C,dd,k _ _ e (im _ _ e (.inr (.inl ⟨C,dd,rfl⟩))),hm⟩,k _ _ h.he (d _ (by simp)),h.nd⟩
theorem bO.same (h:bO CH CT CS CW CM tb H x A z) (s:aW H H'):bO CH CT CS CW CM tb H' x A z:=h.kp (Kp.of s) (fun _ _=>List.not_mem_nil) (fun _ _ _ _=>List.not_mem_nil)
theorem bO.sender (h:bO CH CT CS CW CM tb H x A z) (f:DN A.sd A.S H H') (s:b_ CS CW CM H' A.sd A.S d):bO CH CT CS CW CM tb H' x A {z with sd:=d}:=by
 have nd:=h.nd;have k:=f.kp;obtain⟨C,dd,e,hm⟩:=h.st;have im:=h.imm e (.inr (.inl ⟨C,dd,rfl⟩));have sub: ∀{b:Addr},b ∉ foot x A->b ∉ [A.sd,A.S.pw,A.S.pm,A.S.pt,A.S.pk,A.S.pf,A.S.pa]:=fun n m=>n (by simp only[foot,List.mem_cons,List.not_mem_nil,or_false] at m⊢;rcases m with q|q|q|q|q|q|q<;>subst q<;>simp)
 have out: ∀{i:Nat} {b:Addr},(foot x A)[i]?=some b->(i<3\/i=10)->b ∉ [A.sd,A.S.pw,A.S.pm,A.S.pt,A.S.pk,A.S.pf,A.S.pa]:=fun{i b} hi hh m=>by
  simp only[List.mem_cons,List.not_mem_nil,or_false] at m;rcases m with q|q|q|q|q|q|q
  ·exact tF nd hi (j:=3) rfl (by lia) q
  ·exact tF nd hi (j:=4) rfl (by lia) q
  ·exact tF nd hi (j:=5) rfl (by lia) q
  ·exact tF nd hi (j:=6) rfl (by lia) q
  ·exact tF nd hi (j:=7) rfl (by lia) q
  ·exact tF nd hi (j:=8) rfl (by lia) q
  ·exact tF nd hi (j:=9) rfl (by lia) q
 exact⟨k _ _ h.hx (out (i:=0) rfl (by lia)),⟨k _ _ h.tk.hx (out (i:=1) rfl (by lia)),k _ _ h.tk.hD (out (i:=2) rfl (by lia))⟩,s,⟨C,dd,k _ _ e (sub im),hm⟩,k _ _ h.he (out (i:=10) rfl (by lia)),nd⟩
theorem bO.taker (h:bO CH CT CS CW CM tb H x A z) (f:KU A.tk A.kd H H') (s:l_ CT H' A.tk A.dt A.kd j):bO CH CT CS CW CM tb H' x A {z with tk:=j}:=by
 have nd:=h.nd;have k:=f.kp;obtain⟨C,dd,e,hm⟩:=h.st;have sub: ∀{b:Addr},b ∉ foot x A->b ∉ [A.tk,A.kd]:=fun n m=>n (by simp only[foot,List.mem_cons,List.not_mem_nil,or_false] at m⊢;rcases m with q|q<;>subst q<;>simp)
 have out: ∀{i:Nat} {b:Addr},(foot x A)[i]?=some b->i≠1->i≠2->b ∉ [A.tk,A.kd]:=fun{i b} hi h1 u m=>by
  simp only[List.mem_cons,List.not_mem_nil,or_false] at m;rcases m with q|q
  ·exact tF nd hi rfl h1 q
  ·exact tF nd hi rfl u q
 refine⟨k _ _ h.hx (out (i:=0) rfl (by lia) (by lia)),s,h.sd.kp k (fun b d=>?_) (fun t l q=>sub (h.imm q (.inl ⟨l,rfl⟩))),⟨C,dd,k _ _ e (sub (h.imm e (.inr (.inl ⟨C,dd,rfl⟩)))),hm⟩,k _ _ h.he (out (i:=10) rfl (by lia) (by lia)),nd⟩;simp only[List.mem_cons,List.not_mem_nil,or_false] at d;rcases d with q|q|q|q|q|q|q<;>subst q
 ·exact out (i:=3) rfl (by lia) (by lia)
 ·exact out (i:=4) rfl (by lia) (by lia)
 ·exact out (i:=5) rfl (by lia) (by lia)
 ·exact out (i:=6) rfl (by lia) (by lia)
 ·exact out (i:=7) rfl (by lia) (by lia)
 ·exact out (i:=8) rfl (by lia) (by lia)
 ·exact out (i:=9) rfl (by lia) (by lia)
theorem bO.own (h:bO CH CT CS CW CM tb H x A z) (hs:j_ tb H s nm) (due:Bool):bO CH CT CS CW CM tb (upd H x (.ins CH A.dx (aX (.int z.side) (.int z.R) (.ref A.tk) (.ref A.sd) (.ref s) (.bl due) (.ref A.pe)))) x {A with st:=s} {z with nm:=nm,due:=due}:=by
 have nd:=h.nd;have out: ∀{i:Nat} {b:Addr},(foot x A)[i]?=some b->i≠0->b ∉ [x]:=fun{i b} hi h1 m=>tF nd hi rfl h1 (List.mem_singleton.mp m);have sub: ∀{b:Addr},b ∉ foot x A->b ∉ [x]:=fun n m=>n (by rw[List.mem_singleton.mp m];simp[foot]);have k:Kp _ H (upd H x (.ins CH A.dx (aX (.int z.side) (.int z.R) (.ref A.tk) (.ref A.sd) (.ref s) (.bl due) (.ref A.pe)))):=Kp.one;obtain⟨C,dd,e,hm⟩:=hs;refine⟨aq,⟨k _ _ h.tk.hx (out (i:=1) rfl (by lia)),k _ _ h.tk.hD (out (i:=2) rfl (by lia))⟩,h.sd.kp k (fun b d=>?_) (fun t l q=>sub (h.imm q (.inl ⟨l,rfl⟩))),⟨C,dd,k _ _ e (sub (h.imm e (.inr (.inl ⟨C,dd,rfl⟩)))),hm⟩,k _ _ h.he (out (i:=10) rfl (by lia)),nd⟩;simp only[List.mem_cons,List.not_mem_nil,or_false] at d;rcases d with q|q|q|q|q|q|q<;>subst q
 ·exact out (i:=3) rfl (by lia)
 ·exact out (i:=4) rfl (by lia)
 ·exact out (i:=5) rfl (by lia)
 ·exact out (i:=6) rfl (by lia)
 ·exact out (i:=7) rfl (by lia)
 ·exact out (i:=8) rfl (by lia)
 ·exact out (i:=9) rfl (by lia)
theorem bO.ends (h:bO CH CT CS CW CM tb H x A z):bO CH CT CS CW CM tb (upd H A.pe (.lst (l.map V.int))) x A {z with ends:=l}:=by
 have nd:=h.nd;have out: ∀{i:Nat} {b:Addr},(foot x A)[i]?=some b->i≠10->b ∉ [A.pe]:=fun{i b} hi h1 m=>tF nd hi rfl h1 (List.mem_singleton.mp m);have sub: ∀{b:Addr},b ∉ foot x A->b ∉ [A.pe]:=fun n m=>n (by rw[List.mem_singleton.mp m];simp[foot]);have k:Kp _ H (upd H A.pe (.lst (l.map V.int))):=Kp.one;obtain⟨C,dd,e,hm⟩:=h.st;refine⟨k _ _ h.hx (out (i:=0) rfl (by lia)),⟨k _ _ h.tk.hx (out (i:=1) rfl (by lia)),k _ _ h.tk.hD (out (i:=2) rfl (by lia))⟩,h.sd.kp k (fun b d=>?_) (fun t l q=>sub (h.imm q (.inl ⟨l,rfl⟩))),⟨C,dd,k _ _ e (sub (h.imm e (.inr (.inl ⟨C,dd,rfl⟩)))),hm⟩,aq,nd⟩;simp only[List.mem_cons,List.not_mem_nil,or_false] at d;rcases d with q|q|q|q|q|q|q<;>subst q
 ·exact out (i:=3) rfl (by lia)
 ·exact out (i:=4) rfl (by lia)
 ·exact out (i:=5) rfl (by lia)
 ·exact out (i:=6) rfl (by lia)
 ·exact out (i:=7) rfl (by lia)
 ·exact out (i:=8) rfl (by lia)
 ·exact out (i:=9) rfl (by lia)
end
theorem pR {R:α->β->Prop}: ∀{xs:List α} {d:List β},Paired R xs d->xs.length=d.length
 |_,_,.nil=>rfl
 |_,_,.cons _ t=>by simp[pR t]
theorem fi {R:α->β->Prop}: ∀{xs:List α} {d:List β},Paired R xs d->(∀x y,R x y->R' x y)->Paired R' xs d
 |_,_,.nil,_=> .nil
 |_,_,.cons r t,h=> .cons (h _ _ r) (fi t h)
theorem zI {R:α->β->Prop}: ∀{xs:List α} {i:List β} {f:List α} {d:List β},Paired R xs i->Paired R f d->Paired R (xs++f) (i++d)
 |_,_,_,_,.nil,q=>q
 |_,_,_,_,.cons r t,q=> .cons r (zI t q)
theorem J7 {R:α->γ->Prop}: ∀{xs:List α} {d:List β},Paired (fun x y=>R x (f y)) xs d->Paired R xs (d.map f)
 |_,_,.nil=> .nil
 |_,_,.cons r t=> .cons r (J7 t)
theorem NL {R:α->β->Prop}: ∀{xs:List α} {d:List β} {i:Nat} {x:α},Paired R xs d->xs[i]?=some x->∃y,d[i]?=some y/\R x y
 |_,_,_,_,.nil,e=>by trivial
 |_,_,0,_,.cons r _,e=>by simp_all
 |_,_,i+1,_,.cons _ t,e=>by simpa using NL t (‹_›)
noncomputable def o6 (z:Str):Bool:=decide (1<=z.length)&&decide (z.length<=60)&&(eA z).all MB
noncomputable def chunk (t:Str) (i:Nat):Str:=Txt.slice t (some ((4*i:Nat):Int)) (some ((4*i+4:Nat):Int))
noncomputable def chunks (t:Str):List Str:=(List.range ((t.length+3) / 4)).map (chunk t)
def ThV (H:Hp) (v:V) (k s:Str):Prop:= ∃p,v = .ref p/\H p=some (.tup [.str k,.str s])
noncomputable def tL (side R own other f l:Int):Hn:=⟨side,R,⟨R,own,0,0,[]⟩,⟨R,0,0,1,.non,false,[],[],[],[],l,f,0,MeterM.mn 2 other,none,other,other,0⟩,"shut",false,[]⟩
def EA (d:Addr) (H:Hp) (x:Addr) (r o t g f l:Int):Prop:= ∃dx p,H x=some (.ins d dx (jT (.int r) (.ref p) (.int g) (.int f) (.int l)))/\H p=some (.tup [.int o,.int t])
theorem EA.same (h:EA CT H x r o t g f l) (s:aW H H'):EA CT H' x r o t g f l:=by
 obtain⟨dx,p,h1,d⟩:=h;exact⟨dx,p,s _ _ h1,s _ _ d⟩
def vZ:Sp:=fun vs H Q E=>match vs with
 | [.str z]=>z.length<=1000/\∀H',aW H H'->Q (.bl (o6 z)) H'
 |_=>False
def kB (aC az aa au ai aA ae aB aD af ag ah bR:Addr):Sp:=fun vs H Q E=>match vs with
 | [.ref x,.int side,.ref tm]=> ∃dx r o t g f l,H x=some (.ins aC dx [])/\EA bR H tm r o t g f l/\good r o t g f l/\(side=0\/side=1)/\∀A H',lL x H H'->(∀b,b∈(foot x A).tail->H b=none)->bO aC az aa au ai (tbl aA ae aB aD af ag ah) H' x A (tL side r (if side=0 then o else t) (if side=0 then t else o) f l)->Q .non H'
 |_=>False
def qS (aC az aa au ai aA ae aB aD af ag ah:Addr):Sp:=fun vs H Q E=>match vs with
 | [.ref x]=> ∃A z,bO aC az aa au ai (tbl aA ae aB aD af ag ah) H x A z/\Q (.str z.nm) H
 |_=>False
def pM (aC az aa au ai aA ae aB aD af ag ah:Addr):Sp:=fun vs H Q E=>match vs with
 | [.ref x]=> ∃A z,bO aC az aa au ai (tbl aA ae aB aD af ag ah) H x A z/\Q (.bl (decide (z.sd.b=z.sd.t)&&decide (z.sd.t=z.sd.T.length) && !z.due)) H
 |_=>False
def pN (aC az aa au ai aA ae aB aD af ag ah aM:Addr) (K:W.Frag):Sp:=fun vs H Q E=>match vs with
 | [.ref x]=> ∃A z,bO aC az aa au ai (tbl aA ae aB aD af ag ah) H x A z/\z.sd.T.length<1000/\(∀nx,fT z.nm "begin" = some nx->∀a f H',(∀H,dO K H a [.str "begin",.str ""])->Kp (foot x A) H H'->bO aC az aa au ai (tbl aA ae aB aD af ag ah) H' x {A with st:=f} {z with nm:=nx,sd:={z.sd with T:=z.sd.T++ [.ref a]}}->Q .non H')/\(fT z.nm "begin" = none->∀H' d,aW H H'->H' d=some (.xd [("state",.str z.nm),("wish",.str "begin")])->E (.ref aM) (some d) H')
 |_=>False
def sZ (aC az aa au ai aA ae aB aD af ag ah aM:Addr) (K:W.Frag):Sp:=fun vs H Q E=>match vs with
 | [.ref x]=> ∃A z,bO aC az aa au ai (tbl aA ae aB aD af ag ah) H x A z/\z.sd.T.length<1000/\z.ends.length<1000/\(∀nx,fT z.nm "end" = some nx->∀a f H',(∀H,dO K H a [.str "end",.str ""])->Kp (foot x A) H H'->bO aC az aa au ai (tbl aA ae aB aD af ag ah) H' x {A with st:=f} {z with nm:=nx,ends:=z.ends++ [(z.sd.T.length:Int)],sd:={z.sd with T:=z.sd.T++ [.ref a]}}->Q .non H')/\(fT z.nm "end" = none->∀H' d,aW H H'->H' d=some (.xd [("state",.str z.nm),("wish",.str "end")])->E (.ref aM) (some d) H')
 |_=>False
def sY (aC az aa au ai aA ae aB aD af ag ah aM aY:Addr):Sp:=fun vs H Q E=>match vs with
 | [.ref x,.str t]=> ∃A z,bO aC az aa au ai (tbl aA ae aB aD af ag ah) H x A z/\z.sd.T.length<=980/\t.length<=1000/\(o6 t=false->∀H',aW H H'->E (.ref aY) none H')/\(o6 t=true->Rn z.nm=false->∀H' d,aW H H'->H' d=some (.xd [("state",.str z.nm),("wish",.str "put")])->E (.ref aM) (some d) H')/\(o6 t=true->Rn z.nm=true->∀vs H',Kp (foot x A) H H'->bO aC az aa au ai (tbl aA ae aB aD af ag ah) H' x A {z with sd:={z.sd with T:=z.sd.T++vs}}->Paired (fun v s=>ThV H' v "signs" s) vs (chunks t)->Q .non H')
 |_=>False
noncomputable abbrev Th:=Str×Str
def yX (K:W.Frag) (H:Hp) (v:V) (t:Th):Prop:= ∃p,v = .ref p/\dO K H p [.str t.1,.str t.2]
theorem yX.keep (h:yX K H v t) (k: ∀p o,H p=some o->JB o->H' p=some o):yX K H' v t:=by
 obtain⟨p,rfl,h⟩:=h;refine⟨p,rfl,?_⟩;rcases h with(h|⟨o,h⟩)|h
 ·exact .inl (.inl (k _ _ h (.inl ⟨_,rfl⟩)))
 ·exact .inl (.inr ⟨o,k _ _ h (.inr (.inr ⟨_,_,rfl⟩))⟩)
 ·exact .inr h
def qC (H H':Hp):Prop:= ∀p o,H p=some o->JB o->H' p=some o
theorem qC.of (s:aW H H'):qC H H':=fun p o e _=>s p o e
theorem qC.trans (a:qC H H1) (b:qC H1 H2):qC H H2:=fun p o e i=>b p o (a p o e i) i
structure iX where
 side:Int
 R:Int
 M:Int
 g:Int
 o:Int
 D:Int->Option Th
 s:Sd
 T:List Th
 nm:Str
 due:Bool
 ends : List Int
structure c8 (K:W.Frag) (H:Hp) (z:Hn) (a:iX):Prop where
 side:z.side=a.side
 R:z.R=a.R
 tR:z.tk.R=a.R
 tM:z.tk.M=a.M
 g:z.tk.g=a.g
 o:z.tk.o=a.o
 dn: ∀i:Int,bJ z.tk.D (ik i)=none->a.D i=none
 ds: ∀(i:Int) v,bJ z.tk.D (ik i)=some v->∃t,a.D i=some t/\yX K H v t
 dk:(z.tk.D.map Prod.fst).Nodup
 db: ∀k∈z.tk.D.map Prod.fst,∃i:Int,k=ik i/\a.o<=i/\i<a.o+a.M
 s: ∃vs,z.sd={a.s with T:=vs}/\Paired (yX K H) vs a.T/\a.s.T.length=vs.length
 nm:z.nm=a.nm
 due:z.due=a.due
 ends : z.ends = a.ends
theorem c8.keep (h:c8 K H z a) (k:qC H H'):c8 K H' z a:=by
 obtain⟨vs,e1,d,f⟩:=h.s;exact{h with ds:=fun i v e=>by {obtain⟨t,t1,t2⟩:=h.ds i v e;exact⟨t,t1,t2.keep k⟩},s:=⟨vs,e1,fi d fun _ _ q=>q.keep k,f⟩}
theorem Jd (h:ik i=ik j):i=j:=by injection h
theorem c8.len (h:c8 K H z a) (hm:0<=a.M):(z.tk.D.length:Int)<=a.M:=by
 have hn:=h.dk;have j:=h.db;have key: ∀(n:Nat) (l:List _),l.Nodup->(∀k∈l,∃i:Int,k=ik i/\a.o<=i/\i<a.o+n)->l.length<=n:=by
  intro n
  induction n with
  |zero=>
   intro l _ h;cases l with
   |nil=>trivial
   |cons k l=>obtain⟨i,_,h1,d⟩:=h k (List.mem_cons_self ..);lia
  |succ n f=>
   intro l hl h;have d:=f (l.filter fun k=>!decide (k=ik (a.o+n))) (List.Nodup.sublist List.filter_sublist hl) (fun k hk=>by
    grind)
   have u:l.length<=(l.filter fun k=>!decide (k=ik (a.o+n))).length+1:=by
    clear h d f
    induction l with
    |nil=>simp_all
    |cons k l f=>
     obtain⟨n1,m⟩:=List.nodup_cons.mp hl;by_cases e:k=ik (a.o+n)
     ·have:(l.filter fun k=>!decide (k=ik (a.o+n)))=l:=List.filter_eq_self.mpr fun b j=>by
       lia
      rw[List.filter_cons,if_neg (by simp[e]),this];simp
     ·simp_all
   lia
 have:=key a.M.toNat _ hn (fun k hk=>by
  obtain⟨i,e,h1,d⟩:=j k hk;exact⟨i,e,h1,by lia⟩)
 rw[List.length_map] at this;lia
def HM (d i u j f:Addr) (m:List (Addr×Str)) (K:W.Frag) (H:Hp) (x:Addr) (A:HAd) (a:iX):Prop:= ∃z,bO d i u j f m H x A z/\c8 K H z a
theorem HM.same (h:HM CH CT CS CW CM tb K H x A a) (s:aW H H'):HM CH CT CS CW CM tb K H' x A a:=by
 obtain⟨z,h1,d⟩:=h;exact⟨z,h1.same s,d.keep (qC.of s)⟩
noncomputable def bS (a:iX) (ts:List Th):iX:={a with T:=a.T++ts,s:={a.s with T:=a.s.T++ts.map fun _=>V.non}}
noncomputable def lV (a:iX) (m:Int):Nat:=((if a.g<a.o+m then a.g else a.o+m) - a.o).toNat
noncomputable def qo (a:iX) (m:Int):List Th:=(List.range (lV a m)).map fun j:Nat=>(a.D (a.o+(j:Int))).getD (Str.ofString "",Str.ofString "")
noncomputable def cw (a:iX) (m:Int):iX:={a with o:=a.o+(lV a m:Int),D:=fun i=>if a.o<=i/\i<a.o+(lV a m:Int) then none else a.D i,due:=a.due||(decide (a.o+a.M - a.g<=0)&&decide (0<a.o+(lV a m:Int)+a.M - a.g))}
noncomputable def gP (a:iX) (k:Str):iX:=
 if k = "begin" then{(if a.nm = "shut" then bS a [(Str.ofString "begin",Str.ofString "")] else a) with nm:=(fT a.nm "begun").getD a.nm}
 else if k = "end" then{a with nm:=(fT a.nm "ended").getD a.nm} else a
theorem MF {k:Key} (h:k∈D.map Prod.fst):(bJ D k).isSome=true:=by
 obtain⟨e,he,rfl⟩:=List.mem_map.mp h;unfold bJ;rw[Option.isSome_map,List.find?_isSome];exact⟨e,he,by simp⟩
theorem c8.read {due:Bool} (h:c8 K H z a) (x:n=lV a m) (hD: ∀i:Int,bJ j (ik i)=if a.o<=i/\i<a.o+n then none else bJ z.tk.D (ik i)) (y:j.Sublist z.tk.D) (ed:due=(cw a m).due):c8 K H {z with tk:=⟨z.tk.R,z.tk.M,z.tk.g,z.tk.o+n,j⟩,due:=due} (cw a m):=by
 subst x;have u:(j.map Prod.fst).Sublist _:=y.map _;refine⟨h.side,h.R,h.tR,h.tM,h.g,by show z.tk.o+_=a.o+_;rw[h.o],fun i e=>?_,fun i v e=>?_,List.Nodup.sublist u h.dk,fun k hk=>?_,h.s,h.nm,ed,h.ends⟩
 ·
  have d:=e;rw[hD] at d;show(if a.o<=i/\i<a.o+(lV a m) then none else a.D i)=none;split
  ·rfl
  ·
   rename_i c;rw[if_neg c] at d;exact h.dn i d
 ·
  have d:=e;rw[hD] at d;show∃t,(if a.o<=i/\i<a.o+(lV a m) then none else a.D i)=some t/\_;split at d
  ·cases d
  ·
   rename_i c;rw[if_neg c];exact h.ds i v d
 ·
  have f:=hk;obtain⟨i,rfl,C,i2⟩:=h.db k (u.subset f);have:=MF f;rw[hD] at this;refine⟨i,rfl,?_,?_⟩
  ·
   show a.o+_<=i;split at this
   ·trivial
   ·lia
  ·
   show i<a.o+_+a.M;lia
theorem c8.vals {K:W.Frag} {H:Hp} {z:Hn} {a:iX} (h:c8 K H z a): ∀(n:Nat) (o:Int),(∀i,o<=i->i<o+n->(a.D i).isSome=true)->Paired (yX K H) (vals z.tk.D o n) ((List.range n).map fun j:Nat=>(a.D (o+(j:Int))).getD (Str.ofString "",Str.ofString ""))
 |0,_,_=> .nil
 |n+1,o,hs=>by
  have k:=h.vals n o (fun i h1 d=>hs i h1 (by lia));have h1:=hs (o+n) (by lia) (by lia);cases e:bJ _ (ik _) with
  |none=>rw[h.dn _ e] at h1;cases h1
  |some v=>
   obtain⟨t,t1,t2⟩:=h.ds _ v e;rw[y6 e,List.range_succ,List.map_append];refine zI k (.cons ?_ .nil);show yX K H v ((a.D _).getD _);rw[t1];exact t2
theorem wU {w:Str} (h:w≠ "begin") (d:w≠ "end"):fT nm w=some ((fT nm w).getD nm):=by
 unfold fT;split
 ·rfl
 ·simp_all
theorem c8.name {nm:Str} (h:c8 K H z a):c8 K H {z with nm:=nm} {a with nm:=nm}:={h with nm:=rfl}
theorem c8.agn (h:c8 K H z a) (d:yX K H v t):c8 K H {z with sd:={z.sd with T:=z.sd.T++ [v]}} (bS a [t]):=by
 obtain⟨vs,e1,f,i⟩:=h.s;refine{h with s:=⟨_,?_,zI f (.cons d .nil),?_⟩}
 ·rw[e1];rfl
 ·
  show(a.s.T++ [V.non]).length=_;rw[List.length_append,List.length_append,i];rfl
def qR (aC az aa au ai aA ae aB aD af ag ah:Addr) (K:W.Frag):Sp:=fun vs H Q E=>match vs with
 | [.ref x,.int m]=> ∃A a,HM aC az aa au ai (tbl aA ae aB aD af ag ah) K H x A a/\(0<=m/\m<=1000/\0<=a.o/\a.o<=a.g/\a.g<=10000)/\(∀i,a.o<=i->i<a.g->(a.D i).isSome=true)/\∀p vs H',H p=none->Kp (foot x A) H H'->HM aC az aa au ai (tbl aA ae aB aD af ag ah) K H' x A (cw a m)->H' p=some (.lst vs)->Paired (yX K H') vs (qo a m)->Q (.ref p) H'
 |_=>False
def ky (aC az aa au ai aA ae aB aD af ag ah:Addr) (K:W.Frag):Sp:=fun vs H Q E=>match vs with
 | [.ref x,.str k]=> ∃A a,HM aC az aa au ai (tbl aA ae aB aD af ag ah) K H x A a/\a.T.length<990/\∀d H',Kp (foot x A) H H'->HM aC az aa au ai (tbl aA ae aB aD af ag ah) K H' x {A with st:=d} (gP a k)->Q .non H'
 |_=>False
theorem G4 (h:H p=none):aW H (upd H p o):=fun b u e=>by rw[aj (fun z=>by simp_all)];exact e
noncomputable def runN (D:Int->Option Th):Nat->Int->Nat
 |0,_=>0
 |k+1,g=>if(D g).isSome then runN D k (g+1)+1 else 0
theorem Fz: ∀(k n:Nat) (g:Int),(∀j:Nat,j<n->(D (g+j)).isSome=true)->D (g+n)=none->n<=k->runN D k g=n
 |0,n,g,_,_,h=>by unfold runN;lia
 |k+1,0,g,_,h2,_=>by
  unfold runN;rw[if_neg (by simp_all)]
 |k+1,n+1,g,h1,h2,h=>by
  unfold runN;rw[if_pos (by have:=h1 0 (by lia);rwa [show g+((0:Nat))=g by lia] at this)];rw[Fz k n _ (fun j d=>by grind) (by lia) (by lia)]
theorem JV: ∀(k:Nat) (g:Int),runN D k g<=k
 |0,_=>by unfold runN;lia
 |k+1,g=>by
  unfold runN;have:=JV (D:=D) k (g+1);split<;>lia
noncomputable def uZ (a:iX) (m:Int):Int:=a.g+(m - a.g) % a.R
noncomputable def vV (a:iX) (m:Int) (t:Th):Int->Option Th:=fun j=>if j=uZ a m then(if(a.D j).isSome then a.D j else some t) else a.D j
noncomputable def y8 (a:iX) (m:Int) (t:Th):Nat:=runN (vV a m t) a.M.toNat a.g
noncomputable def DP (a:iX) (m:Int) (t:Th):List Th:=(List.range (y8 a m t)).map fun j:Nat=>(vV a m t (a.g+(j:Int))).getD (Str.ofString "",Str.ofString "")
noncomputable def Iv (a:iX):List Th->iX:=List.foldl (fun a u=>gP a u.1) a
noncomputable def Fg (a:iX) (m:Int) (t:Th):iX:=if a.o+a.M - a.g<=(m - a.g) % a.R then a else Iv {a with g:=a.g+(y8 a m t:Int),D:=vV a m t} (DP a m t)
noncomputable def GR (a:iX) (m:Int):List V:=if a.o+a.M - a.g<=(m - a.g) % a.R then[.str (Str.ofString "old"),.non] else[.str (Str.ofString "filed"),.int (uZ a m)]
theorem GJ {k:Key} (h:(bJ D k).isSome=true):k∈D.map Prod.fst:=by
 unfold bJ at h;rw[Option.isSome_map,List.find?_isSome] at h;obtain⟨e,he,hk⟩:=h;exact List.mem_map.mpr ⟨e,he,by simp_all⟩
theorem Mc (h:c8 K H z a) (O:yX K H v t) (m0:0<=a.M) (og:a.o<=a.g) (U:0<a.R) (lt:(m - a.g) % a.R<a.o+a.M - a.g) (E:f=if(bJ z.tk.D (ik (uZ a m))).isSome then z.tk.D else putK z.tk.D (ik (uZ a m)) v) (y:Run f a.g n):c8 K H {z with tk:=⟨z.tk.R,z.tk.M,z.tk.g+n,z.tk.o,f⟩} {a with g:=a.g+(y8 a m t:Int),D:=vV a m t}/\n=y8 a m t/\Paired (yX K H) (vals f a.g n) (DP a m t):=by
 have X:0<=(m - a.g) % a.R:=Int.emod_nonneg _ (by lia);have P:a.o<=uZ a m/\uZ a m<a.o+a.M:=by unfold uZ;lia
 have d: ∀j:Int,(bJ f (ik j)=none->vV a m t j=none)/\(∀u,bJ f (ik j)=some u->∃t',vV a m t j=some t'/\yX K H u t'):=fun j=>by
  unfold vV;rw[E];cases e:bJ z.tk.D (ik (uZ a m)) with
  |some x=>
   rw[if_pos (show(some x).isSome=true from rfl)];by_cases c:j=uZ a m
   ·
    subst c;obtain⟨t0,t1,t2⟩:=h.ds _ _ e;rw[if_pos rfl,if_pos (by simp_all)];exact⟨(fun z=>by simp_all),fun u i=>h.ds _ _ i⟩
   ·
    rw[if_neg c];exact⟨h.dn j,h.ds j⟩
  |none=>
   rw[if_neg (by decide),xT];by_cases c:j=uZ a m
   ·
    rw[if_pos (by rw[c]),if_pos c,if_neg (by rw[c,h.dn _ e];decide)];exact⟨(fun z=>by cases z),fun u i=>by simp_all⟩
   ·
    rw[if_neg (fun z=>c (Jd z)),if_neg c];exact⟨h.dn j,h.ds j⟩
 have F: ∀k∈f.map Prod.fst,∃j:Int,k=ik j/\a.o<=j/\j<a.o+a.M:=fun k hk=>by
  rw[E] at hk;cases e:bJ z.tk.D (ik (uZ a m)) with
  |some x=>rw[e,if_pos (show(some x).isSome=true from rfl)] at hk;exact h.db k hk
  |none=>
   rw[e,if_neg (by decide),He v e,List.map_append,List.mem_append] at hk;rcases hk with hk|hk
   ·exact h.db k hk
   ·simp_all
 have kn:(f.map Prod.fst).Nodup:=by
  rw[E];cases e:bJ z.tk.D (ik (uZ a m)) with
  |some x=>rw[if_pos (show(some x).isSome=true from rfl)];exact h.dk
  |none=>rw[if_neg (by decide)];exact Rk v h.dk e
 have C:n=y8 a m t:=by
  unfold y8;refine(Fz _ _ _ (fun j G=>?_) ((d _).1 y.2) ?_).symm
  ·
   obtain⟨u,i⟩:=Option.isSome_iff_exists.mp (y.1 j G);obtain⟨t',e1,_⟩:=(d _).2 u i;rw[e1];rfl
  ·
   cases n with
   |zero=>simp_all
   |succ k=>
    obtain⟨j,e1,_,J⟩:=F _ (GJ (y.1 k (by lia)));have:=Jd e1;lia
 have R:c8 K H {z with tk:=⟨z.tk.R,z.tk.M,z.tk.g+n,z.tk.o,f⟩} {a with g:=a.g+(y8 a m t:Int),D:=vV a m t}:=⟨h.side,h.R,h.tR,h.tM,by show z.tk.g+_=a.g+_;rw[h.g,C],h.o,fun j=>(d j).1,fun j=>(d j).2,kn,F,h.s,h.nm,h.due,h.ends⟩;refine⟨R,C,?_⟩;have:=c8.vals R n a.g (fun j h1 I=>by
  obtain⟨k,rfl⟩: ∃k:Nat,j=a.g+k:=⟨(j - a.g).toNat,by lia⟩;obtain⟨u,i⟩:=Option.isSome_iff_exists.mp (y.1 k (by lia));obtain⟨t',e1,_⟩:=(d _).2 u i;show(vV a m t _).isSome=true;rw[e1];rfl)
 unfold DP;rw[<-C];exact this
theorem MV (a:iX) (k:Str):(gP a k).T.length<=a.T.length+1:=by
 unfold gP;split
 ·
  show(if a.nm = "shut" then bS a _ else a).T.length<=_;split
  ·
   show(a.T++ [_]).length<=_;rw[List.length_append];exact Nat.le_refl _
  ·lia
 ·
  split
  ·simp_all
  ·lia
theorem GX: ∀(ts:List Th) (a:iX),(Iv a ts).T.length<=a.T.length+ts.length
 | [],a=>Nat.le_refl _
 |t::ts,a=>by
  have h1:=GX ts (gP a t.1);have d:=MV a t.1;show(Iv (gP a _) ts).T.length<=_;rw[List.length_cons];lia
theorem K4 {ts:List Th} (h:ts[i]?=some t):Iv a (ts.take (i+1))=gP (Iv a (ts.take i)) t.1:=by
 unfold Iv;rw[List.take_add_one,h,List.foldl_append];rfl
def mw (aC az aa au ai aA ae aB aD af ag ah:Addr) (K:W.Frag):Sp:=fun vs H Q E=>match vs with
 | [.ref x,.int m,.ref th]=> ∃A a t,HM aC az aa au ai (tbl aA ae aB aD af ag ah) K H x A a/\yX K H (.ref th) t/\(0<a.R/\0<=a.M/\a.M<=16/\a.o<=a.g/\a.T.length<960)/\∀d r H',Kp (foot x A) H H'->HM aC az aa au ai (tbl aA ae aB aD af ag ah) K H' x {A with st:=d} (Fg a m t)->dO K H' r (GR a m)->Q (.ref r) H'
 |_=>False
noncomputable def nB (s:Sd) (nu d:Int) (hs:List Int) (tn:Int):Sd:=if s.t - s.b<far' s nu then s else hrd s nu d hs tn
noncomputable def GA (lo hi:Int) (d:List Int) (nm:Str):Str:=d.foldl (fun nm p=>if lo<=p/\p<hi then(fT nm "answered").getD nm else nm) nm
noncomputable def Kq (a:iX) (nu d:Int) (hs:List Int) (tn:Int):iX:={a with s:=nB a.s nu d hs tn,nm:=GA a.s.b (nB a.s nu d hs tn).b a.ends a.nm}
structure GG (s:Sd) (hs:List Int) (tn:Int):Prop where
 bz:Bz s
 r0:0<s.R
 hl:hs.length<=100
 hn:hs.Nodup
 hp: ∀k∈hs,0<=k
 tq:Tq s tn
 kl:s.Kn.length<900000
 tm:s.t<=430
 kc:s.k<=cnt s.Kn s.t.toNat
theorem RH:nB {s with T:=vs} nu d hs tn={nB s nu d hs tn with T:=vs}:=by
 unfold nB;show(if s.t - s.b<far' s nu then _ else _)=_;split
 ·rfl
 ·rfl
theorem O7:(nB s nu rm hs tn).T=s.T:=by
 unfold nB;split<;>rfl
theorem c8.snd {nm:Str} (h:c8 K H z a) (d:Paired (yX K H) vs a.T) (f:s2.T.length=vs.length):c8 K H {z with sd:={s2 with T:=vs},nm:=nm} {a with s:=s2,nm:=nm}:=
 {h with s:=⟨vs,rfl,d,f⟩,nm:=rfl}
theorem qB {d:List Int} (h:d[i]?=some p):GA lo hi (d.take (i+1)) nm=if lo<=p/\p<hi then(fT (GA lo hi (d.take i) nm) "answered").getD (GA lo hi (d.take i) nm) else GA lo hi (d.take i) nm:=by
 unfold GA;rw[List.take_add_one,h,List.foldl_append];rfl
def qT (aC az aa au ai aA ae aB aD af ag ah:Addr) (K:W.Frag):Sp:=fun vs H Q E=>match vs with
 | [.ref x,.ref pc,.int tn]=> ∃A a kd n nu f hd i hs,HM aC az aa au ai (tbl aA ae aB aD af ag ah) K H x A a/\H pc=some (.tup [kd,n,.int nu,.int f,.ref hd,i])/\H hd=some (.tup (hs.map V.int))/\GG a.s hs tn/\∀d H',Kp (foot x A) H H'->HM aC az aa au ai (tbl aA ae aB aD af ag ah) K H' x {A with st:=d} (Kq a nu f hs tn)->Q .non H'
 |_=>False
theorem c8.dued (h:c8 K H z a):c8 K H {z with due:=d} {a with due:=d}:={h with due:=rfl}
noncomputable def Aa (f:Int):Bool:=decide (0<=f/\f<18889465931478580854784)&&(decide (Rem.R f.toNat=0)&&tO f.toNat)
def mf (aO aR aI:Addr):Sp:=fun vs H Q E=>match vs with
 | [.int f]=>(Aa f=false->∀H',aW H H'->Q .non H')/\(Aa f=true->∀t H',aW H H'->PX H' t (f.toNat / 256)->Q (.ref t) H')
 |_=>False
noncomputable def sL (f:Int):Nat:=f.toNat / 256
noncomputable def dM (a:iX) (f:Int):Bool:=Aa f&&(decide (My (sL f)<a.R)&&decide (Mz (sL f)<a.R))
noncomputable def vQ (a:iX) (f tn:Int):iX:=Kq a (Mz (sL f)) (Ro (sL f)) (Hz (sL f)) tn
noncomputable def vR (a:iX) (f tn:Int):iX:=if dM a f then(if Bw (sL f) = "bare" then vQ a f tn else if Bw (sL f) = "ask" then{vQ a f tn with due:=true} else Fg {vQ a f tn with due:=true} (My (sL f)) (Bw (sL f),Mx (sL f))) else a
noncomputable def yS (a:iX) (f tn:Int):List V:=if dM a f then(if Bw (sL f) = "bare" then[.str (Str.ofString "bare"),.non] else if Bw (sL f) = "ask" then[.str (Str.ofString "ask"),.non] else GR {vQ a f tn with due:=true} (My (sL f))) else[.str (Str.ofString "spoilt"),.non]
def qU (aC az aa au ai aA ae aB aD af ag ah aO aR aI:Addr) (K:W.Frag):Sp:=fun vs H Q E=>match vs with
 | [.ref x,.int f,.int tn]=> ∃A a,HM aC az aa au ai (tbl aA ae aB aD af ag ah) K H x A a/\(dM a f=true->GG a.s (Hz (sL f)) tn)/\(0<a.R/\0<=a.M/\a.M<=16/\a.o<=a.g/\a.T.length<960)/\∀d r H',Kp (foot x A) H H'->HM aC az aa au ai (tbl aA ae aB aD af ag ah) K H' x {A with st:=d} (vR a f tn)->dO K H' r (yS a f tn)->Q (.ref r) H'
 |_=>False
theorem J8 {R:α->β->Prop}: ∀{xs:List α} {d:List β} {i:Nat} {y:β},Paired R xs d->d[i]?=some y->∃x,xs[i]?=some x/\R x y
 |_,_,_,_,.nil,e=>by trivial
 |_,_,0,_,.cons r _,e=>by simp_all
 |_,_,i+1,_,.cons _ t,e=>by simpa using J8 t (‹_›)
theorem UM {R:α->β->Prop} (h:Paired R xs ys) (e:oW ys i=some y): ∃x,oW xs i=some x/\R x y:=by
 have hl:=pR h;unfold oW at e⊢;rw[hl];cases q:RA _ i with
 |none=>simp_all
 |some j=>rw[q] at e;exact J8 h e
noncomputable def yU (a:iX):List Int:=((List.range (a.o+a.M - a.g - 1).toNat).filter fun j:Nat=>(a.D (a.g+(1+(j:Int)))).isSome).map (fun j:Nat=>1+(j:Int))
theorem c8.held (h:c8 K H z a):A2 z.tk.D z.tk.g (z.tk.o+z.tk.M - z.tk.g - 1).toNat=yU a:=by
 unfold A2 yU;rw[h.g,h.o,h.tM];congr 1;congr 1;funext j;cases e:bJ _ (ik _) with
 |none=>rw[h.dn _ e];rfl
 |some v=>obtain⟨t,t1,_⟩:=h.ds _ v e;rw[t1];rfl
def kz (aC az aa au ai aA ae aB aD af ag ah:Addr) (K:W.Frag):Sp:=fun vs H Q E=>match vs with
 | [.ref x,.str w,pl]=> ∃A a,HM aC az aa au ai (tbl aA ae aB aD af ag ah) K H x A a/\(0<a.R/\0<=a.o+a.M - a.g/\a.o+a.M - a.g<=1000)/\((pl = .non/\∀t H',aW H H'->sj H' t w 0 (a.g % a.R) (a.o+a.M - a.g) (yU a) (Str.ofString "")->Q (.ref t) H')\/(∃p th,pl = .int p/\oW a.T p=some th/\th.2.length<=1000/\∀t H',aW H H'->sj H' t th.1 (p % a.R) (a.g % a.R) (a.o+a.M - a.g) (yU a) th.2->Q (.ref t) H'))
 |_=>False
noncomputable def By (s:Sd) (n:Int):Sd×Option (Str×Option Int):=
 if s.b<s.t/\Hi s.clk n=true then(TZ s n,some (Str.ofString "again",some s.b))
 else if Je s=true then(aeY s n,some (Str.ofString "again",some s.b))
 else if cM s=true then(Ht s n,some (Str.ofString "new",some s.t))
 else if s.t<s.T.length/\s.b=s.t then(match s.clk with
  | .int i=>if n<i then(s,none) else(afR s n,some (Str.ofString "ask",none))
  |_=>(Yp s n,none))
 else(s,none)
noncomputable def YC:Option Int->V
 |none=> .non
 |some i=> .int i
theorem afB (h:GoX z z' n v H H'):z'=(By z n).1/\(((By z n).2=none/\v = .non)\/∃w pl p,(By z n).2=some (w,pl)/\v = .ref p/\H p=none/\H' p=some (.tup [.str w,YC pl])):=by
 unfold By;rcases h with⟨h1,j,rfl,p,rfl,f,d⟩|⟨h1,h⟩
 ·
  rw[if_pos ⟨h1,j⟩];exact⟨rfl,.inr ⟨_,_,p,rfl,rfl,f,d⟩⟩
 ·
  rw[if_neg (fun c=>by simp_all)];rcases h with⟨j,rfl,p,rfl,f,d⟩|⟨j,h⟩
  ·
   rw[if_pos j];exact⟨rfl,.inr ⟨_,_,p,rfl,rfl,f,d⟩⟩
  ·
   rw[if_neg (by simp_all)];rcases h with⟨f,rfl,p,rfl,d,m⟩|⟨f,h⟩
   ·
    rw[if_pos f];exact⟨rfl,.inr ⟨_,_,p,rfl,rfl,d,m⟩⟩
   ·
    rw[if_neg (by simp_all)];rcases h with⟨d,m,h⟩|⟨d,rfl,rfl⟩
    ·
     rw[if_pos ⟨d,m⟩];rcases h with⟨c,rfl,rfl⟩|⟨i,c,u,rfl,rfl⟩|⟨i,c,u,rfl,p,rfl,x,y⟩
     ·rw[c];exact⟨rfl,.inl ⟨rfl,rfl⟩⟩
     ·simp_all
     ·
      rw[c];refine⟨?_,.inr ⟨_,none,p,?_,rfl,x,y⟩⟩
      ·
       show _=(if n<i then _ else _:Sd×Option _).1;rw[if_neg (by lia)]
      ·
       show(if n<i then _ else _:Sd×Option _).2=_;rw[if_neg (by lia)]
    ·
     rw[if_neg d];exact⟨rfl,.inl ⟨rfl,rfl⟩⟩
theorem afC (hl:s.T.length=vs.length):By {s with T:=vs} n=({(By s n).1 with T:=vs},(By s n).2):=by
 have e1:cM {s with T:=vs}=cM s:=by show(decide (s.t<(vs.length:Int))&&_&&_)=_;rw[<-hl];rfl
 unfold By;rw[e1];show(if s.b<s.t/\Hi s.clk n=true then _ else if Je s=true then _ else if cM s=true then _ else if s.t<(vs.length:Int)/\s.b=s.t then _ else _)=_;rw[<-hl];split
 ·rfl
 ·
  split
  ·rfl
  ·
   split
   ·rfl
   ·
    split
    ·
     cases e:s.clk with
     |int i=>
      by_cases c:n<i
      ·simp only[if_pos c,e]
      ·simp only[if_neg c];rfl
     |_=>rfl
    ·rfl
noncomputable def we (a:iX) (n:Int):Option (Str×Option Int):=match (By a.s n).2 with
 |some q=>some q
 |none=>if a.due then some (Str.ofString "bare",none) else none
noncomputable def cT (a:iX) (n:Int):iX:={a with s:=(By a.s n).1,due:=false}
noncomputable def DZ (a:iX) (w:Str):Option Int->Str×Str
 |none=>(w,Str.ofString "")
 |some p=>(oW a.T p).getD (Str.ofString "",Str.ofString "")
noncomputable def Q0 (a:iX):Option Int->Int
 |none=>0
 |some p=>p % a.R
noncomputable def Iy (a:iX) (w:Str) (pl:Option Int):Bool:=cD (DZ a w pl).1 (Q0 a pl) (a.g % a.R) (a.o+a.M - a.g) (yU a) (DZ a w pl).2
noncomputable def K7 (a:iX) (w:Str) (pl:Option Int):Nat:=iw (DZ a w pl).1 (Q0 a pl) (a.g % a.R) (a.o+a.M - a.g) (yU a) (DZ a w pl).2
structure DI (a:iX) (n:Int):Prop where
 bz:Bz a.s
 ck:a.s.clk = .non\/∃i,a.s.clk = .int i
 la:a.s.Ag.length<1000000
 lf:a.s.Fi.length<1000000
 r0:0<a.R
 m0:0<=a.o+a.M - a.g
 m1:a.o+a.M - a.g<=1000
 pb: ∀w pl,we a n=some (w,pl)->Iy a w pl=true/\∀p,pl=some p->∃th,oW a.T p=some th/\th.2.length<=1000
theorem c8.sent (h:c8 K H z a) (f:Paired (yX K H) vs a.T) (i:s2.T.length=vs.length):c8 K H {z with sd:={s2 with T:=vs},due:=d} {a with s:=s2,due:=d}:=
 {h with s:=⟨vs,rfl,f,i⟩,due:=rfl}
theorem Xo:(By s n).1.T=s.T:=by
 unfold By;split
 ·rfl
 ·
  split
  ·rfl
  ·
   split
   ·rfl
   ·
    split
    ·
     cases e:s.clk with
     |int i=>
      by_cases c:n<i
      ·simp_all
      ·simp only[if_neg c];rfl
     |_=>rfl
    ·rfl
def qQ (aC az aa au ai aA ae aB aD af ag ah aI:Addr) (K:W.Frag):Sp:=fun vs H Q E=>match vs with
 | [.ref x,.int n]=> ∃A a,HM aC az aa au ai (tbl aA ae aB aD af ag ah) K H x A a/\DI a n/\(we a n=none->∀H',Kp (foot x A) H H'->HM aC az aa au ai (tbl aA ae aB aD af ag ah) K H' x A (cT a n)->Q .non H')/\(∀w pl,we a n=some (w,pl)->∀r H',Kp (foot x A) H H'->HM aC az aa au ai (tbl aA ae aB aD af ag ah) K H' x A (cT a n)->H' r=some (.tup [.int (K7 a w pl:Nat),.str w,YC pl])->Q (.ref r) H')
 |_=>False
def mj (K:W.Frag):Sp:=fun vs H Q E=>match vs with
 | [.ref a,.int k]=> ∃ns:List Int,cQ K H a (ns.map V.int)/\0<=k/\∀n,Q (.int n) H
 |_=>False
def pF:Sp:=fun vs H Q E=>match vs with
 | [.int c,.int k]=>0<=k/\∀v,0<=v->v<2147483648->Q (.int v) H
 |_=>False
def wide (r o t g f l:Int):Prop:=good r o t g f l/\¬r<pS o t g
def pD (bR:Addr):Sp:=fun vs H Q E=>match vs with
 | [.int c,.int n]=> ∀x r o t g f l H',aW H H'->EA bR H' x r o t g f l->wide r o t g f l->Q (.ref x) H'
 |_=>False
def qK:Sp:=fun vs H Q E=>match vs with
 | [.int c,.int n]=>(0<=n/\n<=100)/\∀z H',aW H H'->(z.length:Int)=n->(∀c∈z.cps.toList,c∈sgl)->Q (.str z) H'
 |_=>False
structure Hk (z z':Sd) (nu rm:Int) (hs:List Int):Prop where
 R:z'.R=z.R
 L:z'.L=z.L
 t:z'.t=z.t
 T:z'.T=z.T
 Fi:z'.Fi=z.Fi
 Ag:z'.Ag=z.Ag
 b:z'.b=z.b+far' z nu
 e:z'.e=if z.e<z.b+far' z nu+rm then z.b+far' z nu+rm else z.e
 Kn:z'.Kn=putAll (nN z nu).Kn (xP z nu hs)
 k:z'.k<=z.k+(yO z nu).length+(xP z nu hs).length
 ck:(z'.clk = .non\/∃i,z'.clk = .int i)
theorem N7: ∀{fs:List Int} {s:Ws},(fs.foldl (Mw z tn) s).2.2<=s.2.2+fs.length
 | [],_=>Nat.le_refl _
 |a::l,s=>by
  have h1:=N7 (z:=z) (tn:=tn) (fs:=l) (s:=Mw z tn s a);have d:(Mw z tn s a).2.2<=s.2.2+1:=by
   unfold Mw;split
   ·lia
   ·simp_all
  show((l.foldl _ (Mw z tn s a)).2.2)<=_;rw[List.length_cons];lia
theorem aeZ (hc:z.clk = .non\/∃i,z.clk = .int i):Hk z (hrd z nu rm hs tn) nu rm hs:=by
 refine⟨rfl,rfl,rfl,rfl,rfl,rfl,rfl,rfl,rfl,?_,?_⟩
 ·
  have h1:(hrd z nu rm hs tn).k<=z.k+(fsh z nu hs).length:=N7;have d:(fsh z nu hs).length=(yO z nu).length+(xP z nu hs).length:=List.length_append;lia
 ·
  show(if 0<far' z nu then(if z.b+far' z nu<z.t then V.int _ else .non) else z.clk) = .non\/∃i,(if 0<far' z nu then(if z.b+far' z nu<z.t then V.int _ else .non) else z.clk) = .int i;split
  ·
   split
   ·simp_all
   ·simp
  ·exact hc
structure Jw (z:Sd) (r tn:Int) (s:Nat):Prop where
 R:z.R=r
 r0:0<r
 B:Bz z
 te:z.t<=z.e
 tm:z.t<=z.T.length
 tl:z.T.length<=420
 k:z.k<=cnt z.Kn z.t.toNat
 kn: ∀j:Int,z.t<=j->knw z.Kn j=false
 ck:z.clk = .non\/∃i,z.clk = .int i
 tq: ∀j:Int,0<=j->j<z.t->∃f,bJ z.Fi (ik j)=some (.int f)/\0<=f/\f<=tn
 X6:0<=tn
 X4:tn<=900000+20*s
 s1:z.Kn.length<=540*s
 s2:z.Fi.length<=s
 s3:z.Ag.length<=s
theorem Jw.turn (h:Jw z r tn s) (h0:0<=d) (h1:d<=20):Jw z r (tn+d) (s+1):=by
 have e1:=h.X6;have i:=h.X4;have m:=h.s1;have v:=h.s2;have u:=h.s3;exact⟨h.R,h.r0,h.B,h.te,h.tm,h.tl,h.k,h.kn,h.ck,fun j a b=>by
  obtain⟨f,q1,q2,q3⟩:=h.tq j a b;exact⟨f,q1,q2,by lia⟩,by lia,by lia,by lia,by lia,by lia⟩
theorem Jw.more (h:Jw z r tn s) (h1:s<=s'):Jw z r tn s':=by
 have d:=h.X4;have f:=h.s1;have j:=h.s2;have i:=h.s3;exact⟨h.R,h.r0,h.B,h.te,h.tm,h.tl,h.k,h.kn,h.ck,h.tq,h.X6,by lia,by lia,by lia,by lia⟩
theorem Py:cnt D t<=cnt D (t+1):=by rw[DA];lia
theorem Cb: ∀{fs:List Int} {D:List (Key×V)},(∀a∈fs,a≠j)->knw (putAll D fs) j=knw D j
 | [],_,_=>rfl
 |a::l,D,h=>by
  show knw (putAll _ l) j=_;rw[Cb fun b d=>h b (List.mem_cons_of_mem _ d),F8];have:=h a (List.mem_cons_self ..);simp[this.symm]
theorem Xv:(yO z nu).length<=(far' z nu).toNat:=by
 have h1:(yO z nu).length<=(irg _ _).length:=List.length_filter_le _ _;have d:(irg z.b (far' z nu).toNat).length=(far' z nu).toNat:=by unfold irg;rw[List.length_map,List.length_range]
 lia
theorem Xu:(xP z nu hs).length<=hs.length:=by
 have h1:(xP z nu hs).length<=(hld _ hs).length:=List.length_filter_le _ _;exact Nat.le_trans h1 Ga
theorem Jw.tqq (h:Jw z r tn s) (h1:s<=2000):Tq z tn:=fun j a b=>by
 obtain⟨f,q1,q2,q3⟩:=h.tq j a b;have:=h.X4;exact⟨f,q1,by lia,by lia⟩
theorem Jw.hrd (h:Jw z r tn s) (hl:hs.length<=100) (hn:hs.Nodup) (h0: ∀k∈hs,0<=k) (hf:far' z nu<=z.t - z.b) (g:Hk z z' nu rm hs):Jw z' r tn (s+1):=by
 have r0:=h.r0;have eR:=h.R;have d:0<=far' z nu:=Int.emod_nonneg _ (by lia);have b0:=h.B.b0;have bt:=h.B.bt;have e1:=h.X4;have C:=h.s1;have E:=h.s2;have x:=h.s3;have u:=h.tl;have v:=h.tm;have l1:=Xv (z:=z) (nu:=nu);have l2:=Xu (z:=z) (nu:=nu) (hs:=hs);have m1: ∀a∈yO z nu,knw z.Kn a=false/\0<=a/\a<(z.t.toNat:Int):=fun a ha=>by
  obtain⟨q1,q2⟩:=Ce ha;have:=Km q1;exact⟨q2,by lia,by lia⟩
 have i: ∀a∈xP z nu hs,knw (nN z nu).Kn a=false/\0<=a/\a<(z.t.toNat:Int):=fun a ha=>by
  obtain⟨q1,q2⟩:=Ce ha;obtain⟨q3,k,q4,q5⟩:=Ko q1;have q6:=h0 k q4;have q7:a<z.t:=q3;have q8:a=z.b+far' z nu+k:=q5;exact⟨q2,by lia,by lia⟩
 have c1:cnt (nN z nu).Kn z.t.toNat=cnt z.Kn z.t.toNat+(yO z nu).length:=yT (EV.filter _) m1;have m:cnt (putAll (nN z nu).Kn (xP z nu hs)) z.t.toNat=cnt (nN z nu).Kn z.t.toNat+(xP z nu hs).length:=yT ((EW hn).filter _) i;have k1:(nN z nu).Kn.length<=z.Kn.length+(yO z nu).length:=ri;have k2:(putAll (nN z nu).Kn (xP z nu hs)).length<=(nN z nu).Kn.length+(xP z nu hs).length:=ri;have y:=g.k;have hk:=h.k;have te:=h.te;refine⟨g.R.trans h.R,h.r0,⟨by rw[g.b];lia,by rw[g.b,g.t];lia,by rw[g.t];exact h.B.t1⟩,by rw[g.t,g.e];split<;>lia,by rw[g.t,g.T];exact h.tm,by rw[g.T];exact h.tl,by rw[g.Kn,g.t,m,c1];lia,fun j f=>?_,g.ck,fun j a b=>by rw[g.Fi];exact h.tq j a (by rw[g.t] at b;exact b),h.X6,by lia,by rw[g.Kn];lia,by rw[g.Fi];lia,by rw[g.Ag];lia⟩
 rw[g.t] at f;rw[g.Kn,Cb fun a ha=>by have:=(i a ha).2.2;lia];show knw (putAll z.Kn (yO z nu)) j=false;rw[Cb fun a ha=>by have:=(m1 a ha).2.2;lia];exact h.kn j f
theorem Jw.Yq (h:Jw z r tn s) (h1:z.T.length<=d.length) (f:d.length<=420):Jw {z with T:=d} r tn s:=by
 have e1:=h.tm;exact⟨h.R,h.r0,⟨h.B.b0,h.B.bt,h.B.t1⟩,h.te,by lia,f,h.k,h.kn,h.ck,h.tq,h.X6,h.X4,h.s1,h.s2,h.s3⟩
theorem Jw.new (h:Jw z r tn s) (c:cM z=true):Jw (Ht z tn) r tn (s+1):=by
 unfold cM at c;simp only[Bool.and_eq_true,decide_eq_true_eq] at c;have e0:=h.B.b0;have e1:=h.X4;have C:=h.s1;have E:=h.s2;have y:=h.s3;have u:=h.B.bt;have v:=h.tl;have x:=h.tm;have m:(z.t+1).toNat=z.t.toNat+1:=by lia
 refine⟨h.R,h.r0,⟨h.B.b0,by show z.b<=z.t+1;lia,by show z.t+1<=900;lia⟩,by show z.t+1<=z.e;lia,by show z.t+1<=(z.T.length:Int);lia,h.tl,by show z.k<=cnt z.Kn (z.t+1).toNat;rw[m];exact Nat.le_trans h.k Py,fun j d=>h.kn j (by have:z.t+1<=j:=d;lia),?_,fun j a b=>?_,h.X6,by lia,by show z.Kn.length<=_;lia,by show(putK z.Fi (ik z.t) (.int tn)).length<=_;have:=pz z.Fi (ik z.t) (.int tn);lia,by show z.Ag.length<=_;lia⟩
 ·
  show(if z.b=z.t then V.int (tn+z.w) else z.clk) = .non\/∃i,(if z.b=z.t then V.int (tn+z.w) else z.clk) = .int i;split
  ·simp_all
  ·exact h.ck
 ·
  show∃f,bJ (putK z.Fi (ik z.t) (.int tn)) (ik j)=some (.int f)/\0<=f/\f<=tn;rw[xT];by_cases c:j=z.t
  ·
   subst c;rw[if_pos rfl];exact⟨tn,rfl,h.X6,Int.le_refl _⟩
  ·
   rw[if_neg (by simp_all)];exact h.tq j a (by have:j<z.t+1:=b;lia)
structure KS (s:Sd) (n:Int):Prop where
 bt:s.b<=s.t
 nk: ∀j,s.b<=j->knw s.Kn j=false
 wi:1<=s.wi
 ed:s.b<s.e
 ck:s.b<s.t->∃c,s.clk = .int c/\n<c
theorem aeK (h: ∀j,s.b<=j->knw s.Kn j=false):kab s=0:=by
 unfold kab;rw[List.length_eq_zero_iff,List.filter_eq_nil_iff];intro j _;rw[h _ (by lia)];decide
theorem Xn (h:KS s n):By s n=if cM s=true then(Ht s n,some (Str.ofString "new",some s.t)) else(s,none):=by
 have hk:=aeK h.nk;unfold By;rw[if_neg,if_neg]
 ·
  split
  ·rfl
  ·
   rename_i c;rw[if_neg];rintro⟨c1,d⟩;apply c;unfold cM;rw[hk];have:=h.ed;have:=h.wi;simp only[Bool.and_eq_true,decide_eq_true_eq];lia
 ·
  unfold Je;rw[hk];simp
 ·
  rintro⟨c1,d⟩;obtain⟨c,e,l⟩:=h.ck c1;rw[e] at d;simp only[Hi,decide_eq_true_eq] at d;lia
theorem RG (f:2<=s.R) (lo:s.b<=G) (hi:G<=s.b+1) (gt:G<=s.t) (nk: ∀j,s.b<=j->knw s.Kn j=false):far' s (G % s.R)=G - s.b/\nB s (G % s.R) M [] n=hrd s (G % s.R) M [] n/\(∀j,G<=j->knw (hrd s (G % s.R) M [] n).Kn j=false):=by
 have hf:far' s (G % s.R)=G - s.b:=by
  unfold far';rw[Int.sub_emod,Int.emod_emod_of_dvd _ (Int.dvd_refl _),<-Int.sub_emod];exact Int.emod_eq_of_lt (by lia) (by lia)
 refine⟨hf,?_,fun j d=>?_⟩
 ·
  unfold nB;rw[if_neg (by lia)]
 ·
  show knw (putAll _ (yO s _)) j=false;rw[Cb]
  ·grind
  ·
   intro a ha;obtain⟨k,hk,rfl⟩:=List.mem_map.mp (List.mem_filter.mp ha).1;rw[List.mem_range] at hk;lia
theorem UC {R:Int}:(g % R - g) % R=0:=by
 simp_all
theorem Qo (x:1<=b.M) (og:b.o=b.g) (hD: ∀i,b.D i=none):GR b (b.g % b.R)= [.str (Str.ofString "filed"),.int b.g]/\Fg b (b.g % b.R) th=gP {b with g:=b.g+1,D:=fun j=>if j=b.g then some th else none} th.1:=by
 have e0:(b.g % b.R - b.g) % b.R=0:=UC;have f:uZ b (b.g % b.R)=b.g:=by unfold uZ;rw[e0];lia
 have d:vV b (b.g % b.R) th=fun j=>if j=b.g then some th else none:=by
  funext j;unfold vV;rw[f,hD j];split<;>rfl
 have m:y8 b (b.g % b.R) th=1:=by
  unfold y8;rw[d];obtain⟨k,hk⟩: ∃k,b.M.toNat=k+1:=⟨b.M.toNat - 1,by lia⟩;rw[hk];refine Fz _ _ _ (fun j v=>?_) ?_ (by lia)
  ·simp_all
  ·lia
 have u:DP b (b.g % b.R) th= [th]:=by
  unfold DP;rw[m,d];simp
 constructor
 ·
  unfold GR;rw[if_neg (by lia),f]
 ·
  unfold Fg;rw[if_neg (by lia),m,d,u];rfl
theorem JW {b:iX} {k:Nat} (h:b.g=b.o+k) (hk:(k:Int)<=m):lV b m=k/\(cw b m).o=b.g:=by
 have:lV b m=k:=by
  unfold lV;split<;>lia
 refine⟨this,?_⟩;show b.o+(lV b m)=b.g;rw[this];lia
theorem Ku {f:Int} (h:cD k n a r hs d=true) (e:f=(iw k n a r hs d:Nat)):Aa f=true/\Bw (sL f)=k/\My (sL f)=n/\Mz (sL f)=a/\Ro (sL f)=r/\Hz (sL f)=hs/\Mx (sL f)=d:=by
 subst e;obtain⟨h1,i⟩:=Mi h;have hp:=ye h;have hl:=hp.HI;have j:sL ((iw k n a r hs d:Nat):Int)=fV k n a r hs d:=by
  unfold sL;rw[Int.toNat_natCast,i]
 rw[j];refine⟨?_,Kj hp⟩;unfold Aa;rw[Int.toNat_natCast,HJ,h1,Bool.and_true,decide_eq_true (rfl:(0:Nat)=0),Bool.and_true,decide_eq_true_eq];lia
noncomputable abbrev Yw:=Option (Int×Str×Option Int)
noncomputable def rE (y:Yw):Bool:=match y with
 |some (_,_,some _)=>true
 |_=>false
def A5 (t:Th):Prop:=t.1≠ "bare" /\t.1≠ "ask" /\t.2.length<=4/\∀n a r,0<=n->n<64->0<=a->a<64->0<=r->r<=16->cD t.1 n a r [] t.2=true
structure Sa (a:iX):Prop where
 r2:2<=a.R
 r64:a.R<=64
 m1:1<=a.M
 X8:a.M<=16
 sR:a.s.R=a.R
 tl:a.s.T.length=a.T.length
 gt: ∀t∈a.T,A5 t
def XX (a:iX) (y:Yw):Prop:= ∀f w p,y=some (f,w,p)->∃k d nn,cD k nn (a.g % a.R) a.M [] d=true/\f=(iw k nn (a.g % a.R) a.M [] d:Nat)/\((w=Str.ofString "bare" /\p=none/\k=Str.ofString "bare" /\nn=0)\/(w=Str.ofString "new" /\p=some (a.s.t - 1)/\nn=(a.s.t - 1) % a.R/\1<=a.s.t/\oW a.T (a.s.t - 1)=some (k,d)/\k≠ "bare" /\k≠ "ask"))
structure Dir (a b:iX) (y:Yw) (u:Bool) (n:Int):Prop where
 og:b.o=b.g
 dn: ∀i,b.D i=none
 tg:a.s.t=b.g+(if rE y then 1 else 0)
 lo:a.s.b<=b.g
 hi:b.g<=a.s.b+1
 un:u=false->a.s.b=b.g
 nk: ∀j,a.s.b<=j->knw a.s.Kn j=false
 ed:a.s.b<a.s.e
 ck:a.s.b=b.g->a.s.b<a.s.t->∃c,a.s.clk = .int c/\n+2<=c
structure Qd (a a1:iX) (G:Int) (y:Yw) (T:List Th) (tp:Int) (n:Int):Prop where
 b:a1.s.b=G
 t:a1.s.t=a.s.t
 nk: ∀j,a1.s.b<=j->knw a1.s.Kn j=false
 ed:a1.s.b<a1.s.e
 ck:a1.s.b<a1.s.t->∃c,a1.s.clk = .int c/\n+2<=c
 o:a1.o=a.o
 g:a1.g=a.g+(if rE y then 1 else 0)
 D: ∀j,a1.D j=if rE y=true/\j=a.g then oW T (tp - 1) else none
 due:rE y=true->a1.due=true
 R:a1.R=a.R
 M:a1.M=a.M
 T: ∃ts,(∀t∈ts,A5 t)/\ts.length<=1/\a1.T=a.T++ts/\a1.s.T.length=a.s.T.length+ts.length
 jw: ∀r tn q,Jw a.s r tn q->a1.s.T.length<=420->Jw a1.s r tn (q+1)
 es:a1.ends=a.ends
theorem C4:A5 (Str.ofString "begin",Str.ofString ""):=by
 refine⟨by trivial,by trivial,by trivial,fun n a r n0 n1 a0 a1 r0 r1=>?_⟩;unfold cD;rw[show Cd _ _=true by trivial,show Cd _ _=false by trivial,show Held.dH 0 []=true by trivial,show pO _ _=true by trivial];simp[d6];lia
theorem Yk:(gP a k).s={a.s with T:=(gP a k).s.T}/\(gP a k).o=a.o/\(gP a k).g=a.g/\(gP a k).D=a.D/\(gP a k).due=a.due/\(gP a k).R=a.R/\(gP a k).M=a.M/\∃ts,(∀t∈ts,A5 t)/\ts.length<=1/\(gP a k).T=a.T++ts/\(gP a k).s.T.length=a.s.T.length+ts.length:=by
 unfold gP;split
 ·
  split
  ·
   refine⟨rfl,rfl,rfl,rfl,rfl,rfl,rfl,_,fun t ht=>?_,by simp,rfl,?_⟩
   ·rw[List.mem_singleton.mp ht];exact C4
   ·
    show(a.s.T++_).length=_;simp
  ·simp_all
 ·
  split
  ·simp_all
  ·simp_all
theorem Yl:(gP a k).ends=a.ends:=by
 unfold gP;split
 ·split<;>rfl
 ·split<;>rfl
noncomputable def EF:Option Int->List V
 |none=>[.str (Str.ofString "bare"),.non]
 |some q=>[.str (Str.ofString "filed"),.int q]
theorem RX (ca:Sa a) (eR:a.R=b.R) (hb:1<=b.M) (d1:Dir a b y' y.isSome n) (I:Dir b a y v n) (yo:XX b y) (O:y=some (f,w,p)):
  dM a f=true/\yS a f (n+1)=EF p/\Hz (sL f)= []/\(2<=(vR a f (n+1)).s.w->Qd a (vR a f (n+1)) b.g y b.T b.s.t n):=by
 obtain⟨k,d,nn,h1,h2,h3⟩:=yo f w p O;obtain⟨f0,f1,f2,f3,f4,Z,f6⟩:=Ku h1 h2;have r2:=ca.r2;have gR:=Int.emod_lt_of_pos b.g (show 0<b.R by lia);have hn:nn<a.R:=by
  rcases h3 with⟨_,_,_,e⟩|⟨_,_,e,_⟩
  ·lia
  ·rw[e,<-eR];exact Int.emod_lt_of_pos _ (by lia)
 have hok:dM a f=true:=by
  unfold dM;rw[f0,f2,f3,Bool.true_and,decide_eq_true hn,decide_eq_true (show b.g % b.R<a.R by lia)];rfl
 have gt:b.g<=a.s.t:=by have:=d1.tg;split at this<;>lia
 obtain⟨J,g2,g3⟩:=RG (s:=a.s) (G:=b.g) (M:=b.M) (n:=n+1) (by rw[ca.sR];exact r2) d1.lo d1.hi gt d1.nk;have F:vQ a f (n+1)={a with s:=hrd a.s (b.g % a.s.R) b.M [] (n+1),nm:=(vQ a f (n+1)).nm}:=by
  unfold vQ Kq;rw[f3,f4,Z,<-eR,<-ca.sR,g2]
 generalize(vQ a f (n+1)).nm=nm at F;have u:(hrd a.s (b.g % a.s.R) b.M [] (n+1)).b=b.g:=by
  show a.s.b+far' a.s (b.g % a.s.R)=b.g;rw[J];lia
 have ee:b.g<(hrd a.s (b.g % a.s.R) b.M [] (n+1)).e:=by
  show b.g<if a.s.e<a.s.b+far' a.s (b.g % a.s.R)+b.M then a.s.b+far' a.s (b.g % a.s.R)+b.M else a.s.e;rw[J];split<;>lia
 have ec: ∀x,2<=x->x=(hrd a.s (b.g % a.s.R) b.M [] (n+1)).w->b.g<a.s.t->∃c,(hrd a.s (b.g % a.s.R) b.M [] (n+1)).clk = .int c/\n+2<=c:=fun x hx ex hl=>by
  show∃c,(if 0<far' a.s (b.g % a.s.R) then(if a.s.b+far' a.s (b.g % a.s.R)<a.s.t then V.int (n+1+(hrd a.s (b.g % a.s.R) b.M [] (n+1)).w) else .non) else a.s.clk) = .int c/\n+2<=c;rw[J];by_cases c0:0<b.g - a.s.b
  ·
   rw[if_pos c0,if_pos (by lia)];exact⟨_,rfl,by lia⟩
  ·
   rw[if_neg c0];exact d1.ck (by have:=d1.lo;lia) (by have:=d1.lo;lia)
 have m: ∀r tn q,Jw a.s r tn q->Jw (hrd a.s (b.g % a.s.R) b.M [] (n+1)) r tn (q+1):=fun r tn q j=>j.hrd (hs:=[]) (by simp) List.nodup_nil (fun k hk=>absurd hk List.not_mem_nil) (by rw[J];lia) (aeZ j.ck);have H:(hrd a.s (b.g % a.s.R) b.M [] (n+1)).t=a.s.t:=rfl;have eT:(hrd a.s (b.g % a.s.R) b.M [] (n+1)).T=a.s.T:=rfl;unfold vR;unfold yS;rw[if_pos hok];rw[if_pos hok];rw[F];generalize hrd a.s (b.g % a.s.R) b.M [] (n+1)=s1 at*
 rcases h3 with⟨w1,C,k1,n1⟩|⟨w1,C,n1,t1,P,k1,k2⟩
 ·
  have i:rE y=false:=by rw[O,C];rfl
  rw[f1,k1,if_pos (show Str.ofString "bare" = "bare" from rfl)];rw[if_pos (show Str.ofString "bare" = "bare" from rfl),C];refine⟨hok,rfl,Z,fun hw=>⟨u,H,fun j m=>g3 j (by rw[<-u];exact m),by rw[u];exact ee,fun hl=>ec _ hw rfl (by rw[u,H] at hl;exact hl),rfl,by rw[i];simp,fun j=>by rw[i];simp[I.dn],fun h=>(by rw[i] at h;cases h),rfl,rfl,⟨[],fun t ht=>absurd ht List.not_mem_nil,by simp,by simp,by show s1.T.length=_;rw[eT];simp⟩,fun r tn q j _=>m r tn q j,rfl⟩⟩
 ·
  have i:rE y=true:=by rw[O,C];rfl
  have tg:=I.tg;rw[i,if_pos rfl] at tg;have en:nn=a.g % a.R:=by rw[n1,<-eR];congr 1;lia
  rw[f1,if_neg k1,if_neg k2,f2,f6,en];rw[if_neg k1,if_neg k2];show dM a f=true/\GR {a with s:=s1,nm:=nm,due:=true} (a.g % a.R)=EF p/\Hz (sL f)= []/\(2<=(Fg {a with s:=s1,nm:=nm,due:=true} (a.g % a.R) (k,d)).s.w->Qd a (Fg {a with s:=s1,nm:=nm,due:=true} (a.g % a.R) (k,d)) b.g y b.T b.s.t n);obtain⟨t2,t3⟩:=Qo (b:={a with s:=s1,nm:=nm,due:=true}) (th:=(k,d)) ca.m1 I.og I.dn;obtain⟨s2,s3,s4,s5,s6,s7,s8,ts,s9,X,U,E⟩:=Yk (a:={a with s:=s1,nm:=nm,due:=true,g:=a.g+1,D:=fun j=>if j=a.g then some (k,d) else none}) (k:=k);have t4:Fg {a with s:=s1,nm:=nm,due:=true} (a.g % a.R) (k,d)=gP {a with s:=s1,nm:=nm,due:=true,g:=a.g+1,D:=fun j=>if j=a.g then some (k,d) else none} k:=t3;rw[t4];have ze:(gP {a with s:=s1,nm:=nm,due:=true,g:=a.g+1,D:=fun j=>if j=a.g then some (k,d) else none} k).ends=a.ends:=Yl;generalize gP {a with s:=s1,nm:=nm,due:=true,g:=a.g+1,D:=fun j=>if j=a.g then some (k,d) else none} k=z at*
  have zb:z.s.b=b.g:=by rw[s2];exact u
  have zt:z.s.t=a.s.t:=by rw[s2];exact H
  refine⟨hok,?_,Z,fun hw=>⟨zb,zt,fun j m=>?_,?_,fun hl=>?_,s3,by rw[s4,i,if_pos rfl],fun j=>?_,fun _=>s6,s7,s8,⟨ts,s9,X,U,?_⟩,fun r tn q j hl=>?_,ze⟩⟩
  ·
   rw[C];show GR _ _= [V.str (Str.ofString "filed"),V.int (b.s.t - 1)];rw[show b.s.t - 1=a.g by lia];exact t2
  ·rw[s2];exact g3 j (by rw[<-zb];exact m)
  ·rw[zb,s2];exact ee
  ·
   rw[s2] at hl hw⊢;exact ec _ hw rfl (by rw[<-u,<-H];exact hl)
  ·
   rw[s5];show(if j=a.g then some (k,d) else none)=_;rw[i,P];simp
  ·rw[E];show s1.T.length+_=_;rw[eT]
  ·
   rw[s2] at hl⊢;exact(m r tn q j).Yq (by show s1.T.length<=_;rw[E];exact Nat.le_add_right _ _) hl
theorem Mr (d1:Dir a b y' (none:Yw).isSome n) (d:Dir b a none v n):Qd a a b.g none b.T b.s.t n:=by
 have e:=d1.un rfl;exact⟨e,rfl,d1.nk,d1.ed,fun h=>d1.ck e h,rfl,by simp[rE],fun j=>by simp[rE,d.dn],fun h=>(by cases h),rfl,rfl,⟨[],fun t ht=>absurd ht List.not_mem_nil,by simp,by simp,rfl⟩,fun r tn q j _=>j.more (Nat.le_succ _),rfl⟩
structure Pre (a a2:iX) (G:Int) (y:Yw) (n:Int):Prop where
 b:a2.s.b=G
 t:a2.s.t=a.s.t
 nk: ∀j,a2.s.b<=j->knw a2.s.Kn j=false
 ed:a2.s.b<a2.s.e
 ck:a2.s.b<a2.s.t->∃c,a2.s.clk = .int c/\n+2<=c
 og:a2.o=a2.g
 g:a2.g=a.g+(if rE y then 1 else 0)
 D: ∀j,a2.D j=none
 due:rE y=true->a2.due=true
 R:a2.R=a.R
 M:a2.M=a.M
theorem uM (h:KS a.s n):we a n=(if cM a.s=true then some (Str.ofString "new",some a.s.t) else if a.due then some (Str.ofString "bare",none) else none)/\(By a.s n).1=(if cM a.s=true then Ht a.s n else a.s):=by
 unfold we;rw[Xn h];by_cases c:cM a.s=true
 ·simp_all
 ·simp_all
noncomputable def cS (a:iX) (n:Int):Yw:=(we a n).map fun q=>((K7 a q.1 q.2:Nat),q.1,q.2)
theorem Gz (h: ∀j,a.D j=none):yU a= []:=by
 unfold yU;rw[List.map_eq_nil_iff,List.filter_eq_nil_iff];intro j _;rw[h];decide
theorem Pre.rdy (h:Pre a a2 G y n) (bt:a2.s.b<=a2.s.t) (wi:1<=a2.s.wi):KS a2.s (n+1):=
 ⟨bt,h.nk,wi,h.ed,fun q=>by obtain⟨c,e,l⟩:=h.ck q;exact⟨c,e,by lia⟩⟩
theorem Mh (a0:0<=a) (a1:a<64) (r0:0<=r) (r1:r<=16):cD (Str.ofString "bare") 0 a r [] (Str.ofString "")=true:=by
 unfold cD;rw[show Cd _ _=true by rfl,show Cd _ _=true by rfl,show Held.dH 0 []=true by rfl,show pO _ _=true by rfl];simp[d6];lia
theorem PR {l:List α} {i:Int} (h0:0<=i) (h1:i<l.length): ∃x,oW l i=some x/\x∈l:=by
 obtain⟨k,rfl⟩: ∃k:Nat,i=k:=⟨i.toNat,by lia⟩;have hk:k<l.length:=by lia
 exact⟨_,sI (List.getElem?_eq_getElem hk),List.getElem_mem hk⟩
theorem Qz (ca:Sa a) (h:KS a.s n) (t0:0<=a.s.t) (og:a.o=a.g) (hD: ∀j,a.D j=none):(∀w pl,we a n=some (w,pl)->Iy a w pl=true/\∀p,pl=some p->∃th,oW a.T p=some th/\th.2.length<=1000)/\XX (cT a n) (cS a n):=by
 have d:=Int.emod_nonneg a.g (show a.R≠0 by have:=ca.r2;lia);have I:=Int.emod_lt_of_pos a.g (show 0<a.R by have:=ca.r2;lia);have:=ca.r64;have:=ca.m1;have:=ca.X8;have em:a.o+a.M - a.g=a.M:=by lia
 obtain⟨e1,C⟩:=uM h;have key: ∀w pl,we a n=some (w,pl)->Iy a w pl=true/\((w=Str.ofString "bare" /\pl=none)\/(w=Str.ofString "new" /\pl=some a.s.t/\cM a.s=true/\∃th,oW a.T a.s.t=some th/\A5 th)):=by
  intro w pl hw;rw[e1] at hw;split at hw
  ·
   rename_i c;injection hw with hw;injection hw with h1 u;subst h1 u;have y:=c;unfold cM at y;simp only[Bool.and_eq_true,decide_eq_true_eq] at y;obtain⟨th,ht,hm⟩:=PR (l:=a.T) t0 (by have:=ca.tl;lia);have gt:=ca.gt th hm;refine⟨?_,.inr ⟨rfl,rfl,c,th,ht,gt⟩⟩;unfold Iy DZ Q0;simp only[ht,Option.getD_some];rw[Gz hD,em];exact gt.2.2.2 _ _ _ (Int.emod_nonneg _ (by lia)) (by have:=Int.emod_lt_of_pos a.s.t (show 0<a.R by lia);lia) d (by lia) (by lia) (‹_›)
  ·
   split at hw
   ·
    injection hw with hw;injection hw with h1 u;subst h1 u;refine⟨?_,.inl ⟨rfl,rfl⟩⟩;unfold Iy DZ Q0;rw[Gz hD,em];exact Mh d (by lia) (by lia) (‹_›)
   ·cases hw
 refine⟨fun w pl hw=>⟨(key w pl hw).1,fun p hp=>?_⟩,fun f w p E=>?_⟩
 ·
  rcases(key w pl hw).2 with⟨_,e⟩|⟨_,e,_,th,ht,gt⟩
  ·simp_all
  ·
   rw[hp] at e;injection e with e;subst e;exact⟨th,ht,by have:=gt.2.2.1;lia⟩
 ·
  obtain⟨⟨J,O⟩,G,e⟩:=Option.map_eq_some_iff.mp E;injection e with i m;injection m with m z;simp only at i m z;subst m z;obtain⟨v,hc⟩:=key _ _ G;unfold Iy at v;unfold K7 at i;rw[Gz hD,em] at v i;refine⟨_,_,_,v,i.symm,?_⟩;rcases hc with⟨c1,x⟩|⟨c1,x,H,th,ht,gt⟩
  ·
   rw[c1,x];exact .inl ⟨rfl,rfl,rfl,rfl⟩
  ·
   rw[c1,x];have F:(cT a n).s.t=a.s.t+1:=by
    show(By a.s n).1.t=_;rw[C,if_pos H];rfl
   rw[F,show a.s.t+1 - 1=a.s.t by lia];refine .inr ⟨rfl,rfl,rfl,by lia,?_,?_,?_⟩
   ·
    show oW a.T a.s.t=_;unfold DZ;simp only[ht,Option.getD_some]
   ·unfold DZ;simp only[ht,Option.getD_some];exact gt.1
   ·unfold DZ;simp only[ht,Option.getD_some];exact gt.2.1
theorem JR (h:KS a.s n):rE (cS a n)=cM a.s/\((cS a n).isSome=false->a.due=false):=by
 unfold cS;rw[(uM h).1];by_cases c:cM a.s=true
 ·rw[c];exact⟨rfl,fun e=>by cases e⟩
 ·
  rw[Bool.not_eq_true] at c;rw[c];cases a.due
  ·exact⟨rfl,fun _=>rfl⟩
  ·exact⟨rfl,fun e=>‹_›⟩
theorem HU (d:Dir a b y u n) (pa:Pre a a2 b.g yb n) (pb:Pre b b2 G y n) (v:KS a2.s (n+1)) (F:KS b2.s (n+1)) (w2:2<=a2.s.w):Dir (cT a2 (n+1)) (cT b2 (n+1)) (cS a2 (n+1)) (cS b2 (n+1)).isSome (n+1):=by
 obtain⟨e1,x⟩:=uM v;obtain⟨n1,_⟩:=JR v;obtain⟨_,z⟩:=JR F;have es:(cT a2 _).s=if cM _=true then Ht _ _ else a2.s:=x;have f:(cT a2 (n+1)).s.b=b.g:=by rw[es];split<;>exact pa.b
 have H:(cT a2 (n+1)).s.Kn=a2.s.Kn:=by rw[es];split<;>rfl
 have E:(cT a2 (n+1)).s.e=a2.s.e:=by rw[es];split<;>rfl
 have i:(cT b2 (n+1)).g=b.g+(if rE y then 1 else 0):=pb.g;have tg:=d.tg;refine⟨pb.og,pb.D,?_,by rw[f,i];split<;>lia,by rw[f,i];split<;>lia,fun C=>?_,fun j m=>?_,?_,fun h1 I=>?_⟩
 ·
  rw[n1,es];have:=pa.t;by_cases c:cM a2.s=true
  ·
   rw[if_pos c,if_pos c];show a2.s.t+1=_;lia
  ·simp_all
 ·
  have:=z C;rw[f,i];cases c:rE y
  ·simp
  ·rw[pb.due c] at this;cases this
 ·rw[H];rw[f,<-pa.b] at m;exact pa.nk j m
 ·rw[f,E,<-pa.b];exact pa.ed
 ·
  have:=pa.t;have:=pa.b;rw[es];by_cases c:cM a2.s=true
  ·
   rw[if_pos c];exact⟨_,by show(if a2.s.b=a2.s.t then V.int _ else a2.s.clk)=_;rw[if_pos (by lia)],by lia⟩
  ·lia
def ma (H:Hp) (l:Addr) (y:Yw):Prop:=(y=none/\H l=some (.lst []))\/∃f w p r,y=some (f,w,p)/\H l=some (.lst [.ref r])/\H r=some (.tup [.int f,.str w,YC p])
noncomputable def Gq (a:iX) (y:Yw) (n:Int):iX:=match y with
 |some (f,_,_)=>vR a f n
 |none=>a
def qL (aC az aa au ai aA ae aB aD af ag ah aI:Addr) (K:W.Frag):Sp:=fun vs H Q E=>match vs with
 | [.ref x,.int n]=> ∃A a,HM aC az aa au ai (tbl aA ae aB aD af ag ah) K H x A a/\DI a n/\KS a.s n/\∀l H',Kp (foot x A) H H'->H l=none->HM aC az aa au ai (tbl aA ae aB aD af ag ah) K H' x A (cT a n)->ma H' l (cS a n)->Q (.ref l) H'
 |_=>False
def qM (aC az aa au ai aA ae aB aD af ag ah aO aR aI:Addr) (K:W.Frag):Sp:=fun vs H Q E=>match vs with
 | [.ref x,.int n,.ref l]=> ∃A a y,HM aC az aa au ai (tbl aA ae aB aD af ag ah) K H x A a/\ma H l y/\l ∉ foot x A/\(∀f w p,y=some (f,w,p)->(dM a f=true->GG a.s (Hz (sL f)) n)/\yS a f n=EF p/\((w=Str.ofString "bare" /\p=none)\/(w=Str.ofString "new" /\∃q,p=some q)))/\(0<a.R/\0<=a.M/\a.M<=16/\a.o<=a.g/\a.T.length<960)/\∀d H',Kp (foot x A) H H'->HM aC az aa au ai (tbl aA ae aB aD af ag ah) K H' x {A with st:=d} (Gq a y n)->Q (.bl true) H'
 |_=>False
def nT (aC az aa au ai aA ae aB aD af ag ah:Addr) (K:W.Frag):Sp:=fun vs H Q E=>match vs with
 | [.ref x]=> ∃A a,HM aC az aa au ai (tbl aA ae aB aD af ag ah) K H x A a/\a.T.length<=1000/\∀p vs H',aW H H'->H' p=some (.lst vs)->Paired (yX K H') vs a.T->Q (.ref p) H'
 |_=>False
def Jx (a d:iX):Prop:= ∃nm es ts,(∀t∈ts,A5 t)/\ts.length<=15/\es.length<=a.ends.length+1/\d={a with nm:=nm,ends:=es,T:=a.T++ts,s:={a.s with T:=a.s.T++ts.map fun _=>V.non}}
def qJ (aC az aa au ai aA ae aB aD af ag ah aM aY:Addr) (K:W.Frag):Sp:=fun vs H Q E=>match vs with
 | [.ref x,.int c]=> ∃A a,HM aC az aa au ai (tbl aA ae aB aD af ag ah) K H x A a/\a.T.length<=900/\a.ends.length<=900/\∀d f v H',Kp (foot x A) H H'->HM aC az aa au ai (tbl aA ae aB aD af ag ah) K H' x {A with st:=d} f->Jx a f->Q v H'
 |_=>False
noncomputable def stD (a:iX):Dt:= .t [.str a.nm,.int (if(decide (a.s.b=a.s.t)&&decide (a.s.t=a.s.T.length) && !a.due)=true then 1 else 0),.t [.int a.s.b,.int a.s.t,.int a.s.e,.int a.s.T.length,.int (a.s.t - a.s.b - kab a.s)],.t [gsm a.s.g,gsp a.s.g,.int a.s.w],.t [.int a.s.wi,.int a.s.kn,.int a.s.co],.int a.g,.int a.o,.t [.int (a.g % a.R),.int (a.o+a.M - a.g),.t ((yU a).map .int)]]
def nU (aC az aa au ai aA ae aB aD af ag ah:Addr) (K:W.Frag):Sp:=fun vs H Q E=>match vs with
 | [.ref x]=> ∃A a,HM aC az aa au ai (tbl aA ae aB aD af ag ah) K H x A a/\Bz a.s/\0<a.R/\(0<=a.o+a.M - a.g/\a.o+a.M - a.g<=1000)/\∀p H',aW H H'->(∀d,qC H' d->Dn K d 3 (.ref p) (stD a))->Q (.ref p) H'
 |_=>False
def FrP (f:Int):Prop:= ∃n:Nat,f=n/\n<2 ^ 74/\Rem.R n=0
def pE (aI:Addr):Sp:=fun vs H Q E=>match vs with
 | [.int c,.int R,.ref l]=>(2<=R/\R<=64)/\∃fs:List Int,H l=some (.lst (fs.map V.int))/\fs.length<=1000/\(∀f∈fs,FrP f)/\∀f H',aW H H'->(∀a:iX,a.R=R->dM a f=false)->Q (.int f) H'
 |_=>False
def nV (aC az aa au ai aA ae aB aD af ag ah aO aR aI:Addr) (K:W.Frag):Sp:=fun vs H Q E=>match vs with
 | [.ref x,.int f,.int n]=> ∃A a,HM aC az aa au ai (tbl aA ae aB aD af ag ah) K H x A a/\dM a f=false/\Bz a.s/\(0<a.R/\0<=a.M/\a.M<=16/\a.o<=a.g/\a.g<=a.o+a.M/\a.T.length<960)/\∀d H',Kp (foot x A) H H'->HM aC az aa au ai (tbl aA ae aB aD af ag ah) K H' x {A with st:=d} a->Q (.bl true) H'
 |_=>False
set_option backward.eqns.nonrecursive true
theorem HM.kp (h:HM CH CT CS CW CM tb K H x A a) (k:Kp S H H') (d: ∀b∈foot x A,b ∉ S) (im: ∀b o,H b=some o->JB o->b ∉ S):HM CH CT CS CW CM tb K H' x A a:=by
 obtain⟨z,h1,f⟩:=h;exact⟨z,h1.kp k d im,f.keep fun p o e i=>k p o e (im p o e i)⟩
theorem HM.wait (h:HM CH CT CS CW CM tb K H x A a):2<=a.s.w/\1<=a.s.wi:=by
 obtain⟨z,h1,d⟩:=h;obtain⟨vs,e,_⟩:=d.s;have hw:=h1.sd.ws.2.1.1;obtain⟨_,hm⟩:=h1.sd.ms;rw[e] at hw hm;exact⟨hw,hm.1⟩
theorem Jw.hear {q:Nat} (j:Jw s r tn q) (d:q<=1600):GG s [] tn:=
 ⟨j.B,by rw[j.R];exact j.r0,by simp,List.nodup_nil,fun k hk=>absurd hk List.not_mem_nil,j.tqq (by lia),by have:=j.s1;lia,by have:=j.tm;have:=j.tl;lia,j.k⟩
theorem Jw.send {q:Nat} (j:Jw a.s r n q) (f:q<=1600) (ca:Sa a) (d:KS a.s n) (og:a.o=a.g) (hD: ∀i,a.D i=none):DI a n/\XX (cT a n) (cS a n):=by
 have hp:=Qz ca d (by have:=j.B.b0;have:=j.B.bt;lia) og hD;have:=ca.m1;have:=ca.X8;have:=ca.r2;have:=j.s2;have:=j.s3;exact⟨⟨j.B,j.ck,by lia,by lia,by lia,by lia,by lia,hp.1⟩,hp.2⟩
structure Bo (a0 a1:iX) (y0 y1:Yw) (n:Int) (q N:Nat):Prop where
 d0:Dir a0 a1 y0 y1.isSome n
 d1:Dir a1 a0 y1 y0.isSome n
 c0:Sa a0
 c1:Sa a1
 eR:a0.R=a1.R
 k0:XX a0 y0
 k1:XX a1 y1
 j0:Jw a0.s a0.R (n+1) q
 j1:Jw a1.s a1.R (n+1) q
 l0:a0.T.length<=N
 l1:a1.T.length<=N
 e0:a0.ends.length<=q
 e1:a1.ends.length<=q
theorem Bo.flip {q:Nat} (h:Bo a0 a1 y0 y1 n q N):Bo a1 a0 y1 y0 n q N:=⟨h.d1,h.d0,h.c1,h.c0,h.eR.symm,h.k1,h.k0,h.j1,h.j0,h.l1,h.l0,h.e1,h.e0⟩
theorem Bo.come {q:Nat} (h:Bo a0 a1 y0 y1 n q N):(2<=(Gq a0 y1 (n+1)).s.w->Qd a0 (Gq a0 y1 (n+1)) a1.g y1 a1.T a1.s.t n)/\∀f w p,y1=some (f,w,p)->dM a0 f=true/\Hz (sL f)= []/\yS a0 f (n+1)=EF p/\((w=Str.ofString "bare" /\p=none)\/(w=Str.ofString "new" /\∃q,p=some q)):=by
 cases d:y1 with
 |none=>
  have d0:=h.d0;have d1:=h.d1;rw[d] at d0 d1;exact⟨fun _=>Mr d0 d1,fun f w p e=>by cases e⟩
 |some t=>
  obtain⟨f,w,p⟩:=t;obtain⟨c1,x,u,j⟩:=RX h.c0 h.eR h.c1.m1 h.d0 h.d1 h.k1 d;rw[d] at j;refine⟨j,fun E y z e=>?_⟩;injection e with e;injection e with e1 i;injection i with i v;subst e1 i v;refine⟨c1,u,x,?_⟩;obtain⟨k,C,nn,_,_,m⟩:=h.k1 f w p d;rcases m with⟨a,b,_⟩|⟨a,b,_⟩
  ·exact .inl ⟨a,b⟩
  ·exact .inr ⟨a,_,b⟩
theorem Qd.pre {tp:Int} {T:List Th} (c:Qd a a1 G y T tp n) (w:Jx a1 a2) (og:a.o=a.g) (ht:rE y=true->∃th,oW T (tp - 1)=some th):
  Pre a (cw a2 60) G y n/\(∀i,a2.o<=i->i<a2.g->(a2.D i).isSome=true)/\a2.o=a.g/\a2.g=a.g+(if rE y then 1 else 0)/\qo a2 60=if rE y then[(oW T (tp - 1)).getD (Str.ofString "",Str.ofString "")] else[]:=by
 obtain⟨nm,es,ts,C,w2,E,rfl⟩:=w;have go:a1.o=a.g:=by rw[c.o,og]
 have d:=c.g;have hD:=c.D;cases e:rE y
 ·
  rw[e] at d hD;have k0:=JW (b:={a1 with nm:=nm,ends:=es,T:=a1.T++ts,s:={a1.s with T:=a1.s.T++ts.map fun _=>V.non}}) (k:=0) (m:=60) (by simp_all) (by lia);refine⟨⟨c.b,c.t,c.nk,c.ed,c.ck,k0.2,by show a1.g=_;rw[d,e],fun j=>?_,fun h=>(by simp_all),c.R,c.M⟩,fun i h1 x=>?_,go,d,?_⟩
  ·
   show(if _ then none else a1.D j)=none;rw[hD];simp
  ·lia
  ·
   unfold qo;rw[k0.1];rfl
 ·
  obtain⟨th,u⟩:=ht e;rw[e] at d hD;have k0:=JW (b:={a1 with nm:=nm,ends:=es,T:=a1.T++ts,s:={a1.s with T:=a1.s.T++ts.map fun _=>V.non}}) (k:=1) (m:=60) (by simp_all) (by lia);have f:a1.D a.g=some th:=by simp_all
  refine⟨⟨c.b,c.t,c.nk,c.ed,c.ck,k0.2,by show a1.g=_;rw[d,e],fun j=>?_,fun h=>?_,c.R,c.M⟩,fun i h1 x=>?_,go,‹_›,?_⟩
  ·
   show(if a1.o<=j/\j<a1.o+((lV _ 60)) then none else a1.D j)=none;rw[k0.1];split
   ·rfl
   ·
    rename_i z;rw[hD,if_neg];rintro⟨_,v⟩;apply z;rw[go,v];lia
  ·rw[c.due e];rfl
  ·grind
  ·
   unfold qo;rw[k0.1,if_pos rfl,u];show[(a1.D _).getD _]=_;rw[go,show a.g+((0:Nat))=a.g by lia,f]
theorem Bo.mid {q:Nat} (h:Bo a0 a1 y0 y1 n q N) (c:Qd a0 b0 a1.g y1 a1.T a1.s.t n) (w:Jx b0 z0) (z:N+16<=420):Sa (cw z0 60)/\Jw (cw z0 60).s a0.R (n+1) (q+1)/\(cw z0 60).T.length<=N+16/\(cw z0 60).ends.length<=b0.ends.length+1/\z0.T=(cw z0 60).T/\∃ts,z0.T=a0.T++ts:=by
 obtain⟨nm,es,ts,u,w2,x,rfl⟩:=w;obtain⟨us,i,y,v,C⟩:=c.T;have l0:=h.l0;have tl:=h.c0.tl;have e1:b0.T.length=a0.T.length+us.length:=by simp_all
 have f:=c.jw _ _ q h.j0 (by lia);have j:Jw {b0.s with T:=b0.s.T++ts.map fun _=>V.non} _ _ _:=f.Yq (by simp_all) (by grind);refine⟨⟨by rw[c.R];exact h.c0.r2,by rw[c.R];exact h.c0.r64,by rw[c.M];exact h.c0.m1,by rw[c.M];exact h.c0.X8,by rw[c.R];exact f.R,?_,fun t ht=>?_⟩,j,?_,x,rfl,us++ts,?_⟩
 ·
  show(b0.s.T++ts.map _).length=(b0.T++ts).length;rw[List.length_append,List.length_append,List.length_map];lia
 ·
  have d:t∈b0.T++ts:=ht;rw[v] at d;rcases List.mem_append.mp d with m|m
  ·
   rcases List.mem_append.mp m with m|m
   ·exact h.c0.gt t m
   ·exact i t m
  ·exact u t m
 ·
  show(b0.T++ts).length<=_;rw[List.length_append];lia
 ·simp_all
theorem Bo.top {q:Nat} (h:Bo a0 a1 y0 y1 n q N):rE y1=true->∃th,oW a1.T (a1.s.t - 1)=some th:=by
 intro d;cases e:y1 with
 |none=>rw[e] at d;cases d
 |some t=>
  obtain⟨f,w,p⟩:=t;obtain⟨k,j,nn,_,_,i⟩:=h.k1 f w p e;rcases i with⟨_,b,_⟩|⟨_,_,_,_,b,_⟩
  ·rw[e,b] at d;cases d
  ·exact⟨_,b⟩
theorem M7 {q:Nat} (j:Jw a.s r n q) (d:KS a.s n):Jw (cT a n).s r (n+1) (q+2):=by
 have e:(cT a n).s=if cM _=true then Ht _ n else a.s:=(uM d).2;rw[e];by_cases c:cM a.s=true
 ·rw[if_pos c];exact(j.new c).turn (by lia) (by lia)
 ·rw[if_neg c];exact(j.more (Nat.le_succ _)).turn (by lia) (by lia)
theorem JS (c:Sa a) (h:KS a.s n):Sa (cT a n):=by
 have e:(cT a n).s=if cM _=true then Ht _ n else a.s:=(uM h).2;refine⟨c.r2,c.r64,c.m1,c.X8,?_,?_,c.gt⟩
 ·rw[e];split<;>exact c.sR
 ·rw[e];split<;>exact c.tl
theorem Bo.next {q:Nat} (h:Bo a0 a1 y0 y1 n q N) (z:q<=1590) (v:N+16<=420) (c0:Qd a0 b0 a1.g y1 a1.T a1.s.t n) (c1:Qd a1 b1 a0.g y0 a0.T a0.s.t n) (y:Jx b0 z0) (i:Jx b1 z1) (x:2<=(cw z0 60).s.w/\1<=(cw z0 60).s.wi) (m:2<=(cw z1 60).s.w/\1<=(cw z1 60).s.wi):
  Bo (cT (cw z0 60) (n+1)) (cT (cw z1 60) (n+1)) (cS (cw z0 60) (n+1)) (cS (cw z1 60) (n+1)) (n+1) (q+3) (N+16)/\(DI (cw z0 60) (n+1)/\KS (cw z0 60).s (n+1))/\(DI (cw z1 60) (n+1)/\KS (cw z1 60).s (n+1)):=by
 obtain⟨d,_,_,_,_⟩:=c0.pre y h.d1.og h.top;obtain⟨f,_,_,_,_⟩:=c1.pre i h.d0.og h.flip.top;obtain⟨m0,j0,l0,e0,_,_⟩:=h.mid c0 y v;obtain⟨m1,j1,l1,e1,_,_⟩:=h.flip.mid c1 i v;have r0:=d.rdy j0.B.bt x.2;have r1:=f.rdy j1.B.bt m.2;obtain⟨s0,k0⟩:=j0.send (by lia) m0 r0 d.og d.D;obtain⟨s1,k1⟩:=j1.send (by lia) m1 r1 f.og f.D;have u:=d.R;have j:=f.R;have f0:=h.e0;have f1:=h.e1;rw[c0.es] at e0;rw[c1.es] at e1;refine⟨⟨HU h.d0 d f r0 r1 x.1,HU h.d1 f d r1 r0 m.1,JS m0 r0,JS m1 r1,?_,k0,k1,?_,?_,l0,l1,by show(cw z0 60).ends.length<=_;lia,by show(cw z1 60).ends.length<=_;lia⟩,⟨s0,r0⟩,⟨s1,r1⟩⟩
 ·
  show(cw z0 60).R=(cw z1 60).R;rw[u,j];exact h.eR
 ·
  show Jw _ (cw z0 60).R _ _;rw[u];exact M7 j0 r0
 ·
  show Jw _ (cw z1 60).R _ _;rw[j];exact M7 j1 r1
theorem Bo.outs {j:iX} {q:Nat} (h:Bo a0 a1 y0 y1 n q N) (c:Qd a0 b0 a1.g y1 a1.T a1.s.t n) (w:Jx b0 z0) (f: ∃ts,j.T=a1.T++ts):a1.T.take a0.o.toNat++qo z0 60=j.T.take (cw z0 60).o.toNat:=by
 obtain⟨p,_,_,_,u⟩:=c.pre w h.d1.og h.top;obtain⟨ts,f⟩:=f;have og:=h.d1.og;have tg:=h.d1.tg;have lo:=h.d1.lo;have m:=h.j1.B.b0;have tm:=h.j1.tm;have tl:=h.c1.tl;rw[u,p.og,p.g,f,og];cases i:rE y1
 ·grind
 ·
  obtain⟨th,d⟩:=h.top i;rw[i,if_pos rfl] at tg;rw[if_pos rfl,if_pos rfl,d];have l1:a0.g.toNat<a1.T.length:=by lia
  have e1:a1.T[a0.g.toNat]?=some th:=by
   unfold oW RA at d;rw[if_pos (by lia),if_pos (by lia)] at d;rw[<-d,show(a1.s.t - 1).toNat=a0.g.toNat by lia];rfl
  rw[show(a0.g+1).toNat=a0.g.toNat+1 by lia,List.take_append_of_le_length (‹_›),List.take_add_one,e1];rfl
noncomputable def RF (side R own other f l:Int):iX:=⟨side,R,own,0,0,fun _=>none,(tL side R own other f l).sd,[],"shut",false,[]⟩
theorem Bo.start (h:good r o t g f l):Bo (RF 0 r o t f l) (RF 1 r t o f l) none none (-1) 0 0:=by
 obtain⟨i,⟨v,ht⟩,_,_,_⟩:=h;have d: ∀s m o t u t',Dir (RF s r o t f l) (RF m r u t' f l) none false (-1):=fun s m o t u t'=>
  ⟨rfl,fun _=>rfl,rfl,Int.le_refl _,by show(0)<=0+1;lia,fun _=>rfl,fun _ _=>rfl,by show(0)<1;lia,fun _ h=>by trivial⟩
 have c: ∀s o t,1<=o/\o<=16->Sa (RF s r o t f l):=fun s o t h=>⟨i.1,i.2,h.1,h.2,rfl,rfl,fun t h=>absurd h List.not_mem_nil⟩;have j: ∀s o t,Jw (RF s r o t f l).s r (-1+1) 0:=fun s o t=>
  ⟨rfl,by lia,⟨Int.le_refl _,Int.le_refl _,by show(0)<=900;lia⟩,by show(0)<=1;lia,Int.le_refl _,Nat.zero_le _,Nat.zero_le _,fun _ _=>rfl,.inl rfl,fun j a b=>by have:j<0:=b;lia,by lia,by lia,Nat.zero_le _,Nat.zero_le _,Nat.zero_le _⟩
 exact⟨d _ _ _ _ _ _,d _ _ _ _ _ _,c _ _ _ v,c _ _ _ ht,rfl,fun _ _ _ e=>by trivial,fun _ _ _ e=>by trivial,j _ _ _,j _ _ _,Nat.le_refl _,Nat.le_refl _,Nat.le_refl _,Nat.le_refl _⟩
theorem c8.new {s o:Int}:c8 K H (tL s r o t f l) (RF s r o t f l):=
 ⟨rfl,rfl,rfl,rfl,rfl,rfl,fun _ _=>rfl,fun _ _ e=>by trivial,List.nodup_nil,fun _ h=>absurd h List.not_mem_nil,⟨[],rfl,.nil,rfl⟩,rfl,rfl,rfl⟩
def vJ (K:W.Frag) (H:Hp) (o:Addr) (T:List Th):Prop:= ∃vs,H o=some (.lst vs)/\Paired (yX K H) vs T
theorem vJ.kp (h:vJ K H o T) (k:Kp S H H') (d:o ∉ S) (im:qC H H'):vJ K H' o T:=by
 obtain⟨vs,h1,f⟩:=h;exact⟨vs,k _ _ h1 d,fi f fun _ _ q=>q.keep im⟩
theorem HM.imm (h:HM CH CT CS CW CM tb K H x A a): ∀b o,H b=some o->JB o->b ∉ foot x A:=by
 obtain⟨z,h1,_⟩:=h;exact fun b o e i=>h1.imm e i
structure Wk (CH CT CS CW CM:Addr) (tb:List (Addr×Str)) (K:W.Frag) (H:Hp) (x0 x1 ph po o0 o1:Addr) (A0 A1:HAd) (a0 a1:iX) (T0 T1:List Th):Prop where
 h0:HM CH CT CS CW CM tb K H x0 A0 a0
 h1:HM CH CT CS CW CM tb K H x1 A1 a1
 nd:(foot x0 A0++(foot x1 A1++ [ph,po,o0,o1])).Nodup
 eh:H ph=some (.lst [.ref x0,.ref x1])
 eo:H po=some (.lst [.ref o0,.ref o1])
 r0:vJ K H o0 T0
 r1:vJ K H o1 T1
section
theorem Wk.same (h:Wk CH CT CS CW CM tb K H x0 x1 ph po o0 o1 A0 A1 a0 a1 T0 T1) (s:aW H H'):Wk CH CT CS CW CM tb K H' x0 x1 ph po o0 o1 A0 A1 a0 a1 T0 T1:=
 ⟨h.h0.same s,h.h1.same s,h.nd,s _ _ h.eh,s _ _ h.eo,h.r0.kp (Kp.of s) List.not_mem_nil (qC.of s),h.r1.kp (Kp.of s) List.not_mem_nil (qC.of s)⟩
theorem Wk.tL {st:Addr} (h:Wk m u v z x y K H f G C po F E A0 A1 a0 a1 O I) (k:Kp (foot f A0) H H') (g:HM m u v z x y K H' f {A0 with st:=st} P):Wk m u v z x y K H' f G C po F E {A0 with st:=st} A1 P a1 O I:=by
 obtain⟨_,_,J⟩:=List.nodup_append.mp h.nd;have d:=fun b j hm=>J b hm b j rfl;have im:=fun b o e i=>k b o e (h.h0.imm b o e i);exact⟨g,h.h1.kp k (fun b j=>d b (List.mem_append_left _ j)) h.h0.imm,h.nd,k _ _ h.eh (d _ (by simp)),k _ _ h.eo (d _ (by simp)),h.r0.kp k (d _ (by simp)) im,h.r1.kp k (d _ (by simp)) im⟩
theorem Wk.C3 {st:Addr} (h:Wk m u v z x y K H C f E po J I A0 A1 a0 a1 U O) (k:Kp (foot f A1) H H') (g:HM m u v z x y K H' f {A1 with st:=st} X):Wk m u v z x y K H' C f E po J I A0 {A1 with st:=st} a0 X U O:=by
 obtain⟨_,F,P⟩:=List.nodup_append.mp h.nd;obtain⟨_,_,G⟩:=List.nodup_append.mp F;have d:=fun b j hm=>G b hm b j rfl;have im:=fun b o e i=>k b o e (h.h1.imm b o e i);exact⟨h.h0.kp k (fun b j hm=>P b j b (List.mem_append_left _ hm) rfl) h.h1.imm,g,h.nd,k _ _ h.eh (d _ (by simp)),k _ _ h.eo (d _ (by simp)),h.r0.kp k (d _ (by simp)) im,h.r1.kp k (d _ (by simp)) im⟩
theorem vJ.imm (h:vJ K H o T0): ∀b u,H b=some u->JB u->b ∉ [o]:=by
 obtain⟨vs,h1,_⟩:=h;intro b u e i m;rw[List.mem_singleton] at m;subst m;rw[h1] at e;cases e;rcases i with⟨l,e⟩|⟨_,_,e⟩|⟨_,_,e⟩<;>cases e
theorem Wk.UB (h:Wk CH CT CS CW CM tb K H x0 x1 ph po o0 o1 A0 A1 a0 a1 T0 T1) (k:Kp [o0] H H') (g:vJ K H' o0 T'):Wk CH CT CS CW CM tb K H' x0 x1 ph po o0 o1 A0 A1 a0 a1 T' T1:=by
 obtain⟨_,m,j⟩:=List.nodup_append.mp h.nd;obtain⟨_,f,u⟩:=List.nodup_append.mp m;have im:=fun b o e i=>k b o e (h.r0.imm b o e i);simp only[List.nodup_cons,List.mem_cons,List.not_mem_nil,or_false] at f;exact⟨h.h0.kp k (fun b d hm=>j b d o0 (by simp) (List.mem_singleton.mp hm)) h.r0.imm,h.h1.kp k (fun b d hm=>u b d o0 (by simp) (List.mem_singleton.mp hm)) h.r0.imm,h.nd,k _ _ h.eh (by simp_all),k _ _ h.eo (by simp_all),g,h.r1.kp k (by simp;exact fun e=>f.2.2.1 e.symm) im⟩
theorem Wk.UA (h:Wk CH CT CS CW CM tb K H x0 x1 ph po o0 o1 A0 A1 a0 a1 T0 T1) (k:Kp [o1] H H') (g:vJ K H' o1 T'):Wk CH CT CS CW CM tb K H' x0 x1 ph po o0 o1 A0 A1 a0 a1 T0 T':=by
 obtain⟨_,j,f⟩:=List.nodup_append.mp h.nd;obtain⟨_,u,m⟩:=List.nodup_append.mp j;have im:=fun b o e i=>k b o e (h.r1.imm b o e i);exact⟨h.h0.kp k (fun b d hm=>f b d o1 (by simp) (List.mem_singleton.mp hm)) h.r1.imm,h.h1.kp k (fun b d hm=>m b d o1 (by simp) (List.mem_singleton.mp hm)) h.r1.imm,h.nd,k _ _ h.eh (by simp_all),k _ _ h.eo (by simp_all),h.r0.kp k (by simp_all) im,g⟩
end
theorem yw {b:Addr} (h:S.Nodup) (n:b ∉ S):(S++ [b]).Nodup:=
 List.nodup_append.mpr ⟨h,by simp,fun x hx c hc e=>n (by simp_all)⟩
section
theorem Wk.start (h0:HM CH CT CS CW CM tb K H x0 A0 a0) (h1:HM CH CT CS CW CM tb K H x1 A1 a1) (nd:(foot x0 A0++(foot x1 A1++ [ph])).Nodup) (eh:H ph=some (.lst [.ref x0,.ref x1])) (n0:H o0=none) (n1:upd H o0 (.lst []) o1=none) (d:upd (upd H o0 (.lst [])) o1 (.lst []) po=none):
  Wk CH CT CS CW CM tb K (upd (upd (upd H o0 (.lst [])) o1 (.lst [])) po (.lst [.ref o0,.ref o1])) x0 x1 ph po o0 o1 A0 A1 a0 a1 [] []:=by
 have s1:=aG (o:= .lst []) n0;have s2:=aG (o:= .lst []) n1;have s3:=aG (o:=HO.lst [V.ref o0,V.ref o1]) d;have e0:=aq (H:=H) (a:=o0) (o:= .lst []);have e1:=aq (H:=upd H o0 (.lst [])) (a:=o1) (o:= .lst []);have live: ∀b∈foot x0 A0++(foot x1 A1++ [ph]),∃u,H b=some u:=fun b y=>by
  obtain⟨C,z,_⟩:=h0;obtain⟨E,i,_⟩:=h1;rcases List.mem_append.mp y with m|m
  ·exact z.live m
  rcases List.mem_append.mp m with m|m
  ·exact i.live m
  ·simp_all
 have out: ∀{b:Addr} {f:Hp},aW H f->f b=none->b ∉ foot x0 A0++(foot x1 A1++ [ph]):=fun s e m=>by
  obtain⟨u,v⟩:=live _ m;rw[s _ _ v] at e;cases e
 refine⟨((h0.same s1).same s2).same s3,((h1.same s1).same s2).same s3,?_,s3 _ _ (s2 _ _ (s1 _ _ eh)),aq,⟨[],s3 _ _ (s2 _ _ e0),.nil⟩,⟨[],s3 _ _ e1,.nil⟩⟩;have x:=out (s1.trans s2) d;have j:po≠o0:=fun e=>by rw[e,s2 _ _ e0] at d;cases d
 have:=yw (yw (yw nd x) (b:=o0) (by grind)) (b:=o1) (by grind);simpa only[List.append_assoc,List.cons_append,List.nil_append] using this
end
structure Wy (S:List Addr) (H:Hp) (pw v0 v1 pf:Addr) (y0 y1:Yw) (fs:List Int):Prop where
 ew:H pw=some (.lst [.ref v0,.ref v1])
 t0:ma H v0 y0
 t1:ma H v1 y1
 ef:H pf=some (.lst (fs.map V.int))
 nw:pw ∉ S
 n0:v0 ∉ S
 n1:v1 ∉ S
 nf:pf ∉ S
theorem ma.kp (h:ma H l y) (k:Kp S H H') (n:l ∉ S) (im: ∀b o,H b=some o->JB o->b ∉ S):ma H' l y:=by
 rcases h with⟨e,h⟩|⟨f,w,p,r,e,h1,d⟩
 ·exact .inl ⟨e,k _ _ h n⟩
 ·exact .inr ⟨f,w,p,r,e,k _ _ h1 n,k _ _ d (im _ _ d (.inl ⟨_,rfl⟩))⟩
theorem Wy.kp (h:Wy S H pw v0 v1 pf y0 y1 fs) (k:Kp S' H H') (m: ∀b∈S',b∈S) (im: ∀b o,H b=some o->JB o->b ∉ S'):Wy S H' pw v0 v1 pf y0 y1 fs:=
 ⟨k _ _ h.ew fun e=>h.nw (m _ e),h.t0.kp k (fun e=>h.n0 (m _ e)) im,h.t1.kp k (fun e=>h.n1 (m _ e)) im,k _ _ h.ef fun e=>h.nf (m _ e),h.nw,h.n0,h.n1,h.nf⟩
theorem EA.kp (h:EA CT H x r o t g f l) (k:Kp S H H') (n:x ∉ S) (im: ∀b o,H b=some o->JB o->b ∉ S):EA CT H' x r o t g f l:=by
 obtain⟨dx,p,h1,d⟩:=h;exact⟨dx,p,k _ _ h1 n,k _ _ d (im _ _ d (.inl ⟨_,rfl⟩))⟩
def Qb (S:List Addr) (K:W.Frag) (H:Hp) (a:Addr) (xs:List V):Prop:=(a ∉ S/\cQ K H a xs)\/∀H,cQ K H a xs
theorem Qb.sq (h:Qb S K H a xs):cQ K H a xs:=h.elim (fun h=>h.2) fun h=>h H
theorem Qb.of (h:cQ K H1 a xs) (d:cQ K H a xs) (fr: ∀b u,H1 b=some u->b ∉ S):Qb S K H a xs:=by
 rcases h with(h|⟨o,h⟩)|h
 ·exact .inl ⟨fr _ _ h,d⟩
 ·exact .inl ⟨fr _ _ h,d⟩
 ·exact .inr fun _=> .inr h
theorem Qb.kp (h:Qb S K H a xs) (k:Kp S' H H') (m: ∀b∈S',b∈S):Qb S K H' a xs:=by
 rcases h with⟨n,h⟩|h
 ·
  refine .inl ⟨n,?_⟩;rcases h with(h|⟨o,h⟩)|h
  ·exact .inl (.inl (k _ _ h fun e=>n (m _ e)))
  ·exact .inl (.inr ⟨o,k _ _ h fun e=>n (m _ e)⟩)
  ·exact .inr h
 ·exact .inr h
theorem Wk.live (h:Wk CH CT CS CW CM tb K H x0 x1 ph po o0 o1 A0 A1 a0 a1 T0 T1): ∀b∈foot x0 A0++(foot x1 A1++ [ph,po,o0,o1]),∃u,H b=some u:=by
 intro b d;obtain⟨j,i,_⟩:=h.h0;obtain⟨v,f,_⟩:=h.h1;obtain⟨_,e0,_⟩:=h.r0;obtain⟨_,e1,_⟩:=h.r1;rcases List.mem_append.mp d with m|m
 ·exact i.live m
 rcases List.mem_append.mp m with m|m
 ·exact f.live m
 simp only[List.mem_cons,List.not_mem_nil,or_false] at m;rcases m with m|m|m|m<;>rw[m]
 ·exact⟨_,h.eh⟩
 ·exact⟨_,h.eo⟩
 ·exact⟨_,e0⟩
 ·exact⟨_,e1⟩
theorem Wk.out (h:Wk CH CT CS CW CM tb K H x0 x1 ph po o0 o1 A0 A1 a0 a1 T0 T1) (s:aW H H') (e:H' b=none):b ∉ foot x0 A0++(foot x1 A1++ [ph,po,o0,o1]):=fun m=>by
 obtain⟨u,d⟩:=h.live b m;rw[s _ _ d] at e;cases e
theorem Wy.start (h:Wk CH CT CS CW CM tb K H x0 x1 ph po o0 o1 A0 A1 a0 a1 T0 T1) (n0:H v0=none) (n1:upd H v0 (.lst []) v1=none) (i:upd (upd H v0 (.lst [])) v1 (.lst []) pw=none) (f:upd (upd (upd H v0 (.lst [])) v1 (.lst [])) pw (.lst [.ref v0,.ref v1]) pf=none):
  Wy (foot x0 A0++(foot x1 A1++ [ph,po,o0,o1])) (upd (upd (upd (upd H v0 (.lst [])) v1 (.lst [])) pw (.lst [.ref v0,.ref v1])) pf (.lst [])) pw v0 v1 pf none none []:=by
 have s1:=aG (o:= .lst []) n0;have s2:=aG (o:= .lst []) n1;have s3:=aG (o:=HO.lst [V.ref v0,V.ref v1]) i;have d:=aG (o:= .lst []) f;exact⟨d _ _ aq,.inl ⟨rfl,d _ _ (s3 _ _ (s2 _ _ aq))⟩,.inl ⟨rfl,d _ _ (s3 _ _ aq)⟩,aq,h.out (s1.trans s2) i,h.out (aW.refl _) n0,h.out s1 n1,h.out ((s1.trans s2).trans s3) f⟩
theorem afM {ns:List Int}: ∃ms:List Int,yR (ns.map V.int) (some 2) (some 22)=ms.map V.int/\ms.length<=20:=by
 refine⟨_,Pt,?_⟩;rw[List.length_take];have h1:HT.rg _ ns.length _=min 22 ns.length:=HT.JU _ _ 22;have d:HT.rg _ 0 _=min 2 ns.length:=HT.JU _ _ 2;rw[show(some (22))=some ((22:Nat):Int) from rfl,show(some (2))=some ((2:Nat):Int) from rfl,h1,d];lia
structure Al (CH CT CS CW CM CX:Addr) (tb:List (Addr×Str)) (K:W.Frag) (a tm:Addr) (ns:List Int) (x0 x1 ph po o0 o1:Addr) (r o t g f l:Int) (pw v0 v1 pf:Addr) (y0 y1:Yw) (fs:List Int) (H:Hp) (A0 A1:HAd) (b0 b1:iX) (T0 T1:List Th):Prop where
 W:Wk CH CT CS CW CM tb K H x0 x1 ph po o0 o1 A0 A1 b0 b1 T0 T1
 Y:Wy (foot x0 A0++(foot x1 A1++ [ph,po,o0,o1])) H pw v0 v1 pf y0 y1 fs
 Q:Qb (foot x0 A0++(foot x1 A1++ [ph,po,o0,o1])) K H a (ns.map V.int)
 n:tm ∉ foot x0 A0++(foot x1 A1++ [ph,po,o0,o1])
 t:EA CX H tm r o t g f l
section
variable {t:Int}
theorem Al.kp (h:Al CH CT CS CW CM CX tb K a tm ns x0 x1 ph po o0 o1 r o t g f l pw v0 v1 pf y0 y1 fs H A0 A1 b0 b1 T0 T1) (k:Kp S' H H') (m: ∀b∈S',b∈foot x0 A0++(foot x1 A1++ [ph,po,o0,o1])) (im: ∀b o,H b=some o->JB o->b ∉ S') (w:Wk CH CT CS CW CM tb K H' x0 x1 ph po o0 o1 A0' A1' c0 c1 U0 U1) (e:foot x0 A0'++(foot x1 A1'++ [ph,po,o0,o1])=foot x0 A0++(foot x1 A1++ [ph,po,o0,o1])):Al CH CT CS CW CM CX tb K a tm ns x0 x1 ph po o0 o1 r o t g f l pw v0 v1 pf y0 y1 fs H' A0' A1' c0 c1 U0 U1:=
 ⟨w,by rw[e];exact h.Y.kp k m im,by rw[e];exact h.Q.kp k m,by rw[e];exact h.n,h.t.kp k (fun z=>h.n (m _ z)) im⟩
theorem Al.same (h:Al CH CT CS CW CM CX tb K a tm ns x0 x1 ph po o0 o1 r o t g f l pw v0 v1 pf y0 y1 fs H A0 A1 b0 b1 T0 T1) (s:aW H H'):Al CH CT CS CW CM CX tb K a tm ns x0 x1 ph po o0 o1 r o t g f l pw v0 v1 pf y0 y1 fs H' A0 A1 b0 b1 T0 T1:=
 h.kp (Kp.of s) (fun _ m=>absurd m List.not_mem_nil) (fun _ _ _ _=>List.not_mem_nil) (h.W.same s) rfl
theorem Al.tL {st:Addr} (h:Al i j u y v F x K a tm ns d I z po G Z r o t g f l pw O P pf E C fs H A0 A1 b0 b1 X U) (k:Kp (foot d A0) H H') (q:HM i j u y v x K H' d {A0 with st:=st} J):Al i j u y v F x K a tm ns d I z po G Z r o t g f l pw O P pf E C fs H' {A0 with st:=st} A1 J b1 X U:=
 h.kp k (fun _ m=>List.mem_append_left _ m) h.W.h0.imm (h.W.tL k q) rfl
theorem Al.C3 {st:Addr} (h:Al i j u y v G x K a tm ns z d C po I Z r o t g f l pw O P pf F E fs H A0 A1 b0 b1 X U) (k:Kp (foot d A1) H H') (q:HM i j u y v x K H' d {A1 with st:=st} J):Al i j u y v G x K a tm ns z d C po I Z r o t g f l pw O P pf F E fs H' A0 {A1 with st:=st} b0 J X U:=
 h.kp k (fun _ m=>List.mem_append_right _ (List.mem_append_left _ m)) h.W.h1.imm (h.W.C3 k q) rfl
theorem Al.UB (h:Al CH CT CS CW CM CX tb K a tm ns x0 x1 ph po o0 o1 r o t g f l pw v0 v1 pf y0 y1 fs H A0 A1 b0 b1 T0 T1) (k:Kp [o0] H H') (q:vJ K H' o0 T'):Al CH CT CS CW CM CX tb K a tm ns x0 x1 ph po o0 o1 r o t g f l pw v0 v1 pf y0 y1 fs H' A0 A1 b0 b1 T' T1:=
 h.kp k (fun _ m=>by simp_all) h.W.r0.imm (h.W.UB k q) rfl
theorem Al.UA (h:Al CH CT CS CW CM CX tb K a tm ns x0 x1 ph po o0 o1 r o t g f l pw v0 v1 pf y0 y1 fs H A0 A1 b0 b1 T0 T1) (k:Kp [o1] H H') (q:vJ K H' o1 T'):Al CH CT CS CW CM CX tb K a tm ns x0 x1 ph po o0 o1 r o t g f l pw v0 v1 pf y0 y1 fs H' A0 A1 b0 b1 T0 T':=
 h.kp k (fun _ m=>by simp_all) h.W.r1.imm (h.W.UA k q) rfl
end
theorem MJ {P:α->Prop} (e:l= [x,y]) (hx:c % 2=0->P x) (d:c % 2=1->P y): ∃z,oW l (c % 2)=some z/\P z:=by
 subst e;rcases(show c % 2=0\/c % 2=1 by lia) with e|e<;>rw[e]
 ·exact⟨x,rfl,hx e⟩
 ·exact⟨y,rfl,d e⟩
noncomputable def fst {α:Type} (i:Nat) (p q:α):α:=match i with
 |0=>p
 |_=>q
noncomputable def snd {α:Type} (i:Nat) (p q:α):α:=match i with
 |0=>p
 |1=>p
 |_=>q
theorem vJ.ext (h:vJ K H o T) (hp:H p=some (.lst vs)) (f:Paired (yX K H) vs ts) (hl:T.length+ts.length<=1000) (q: ∀H',Kp [o] H H'->vJ K H' o (T++ts)->Q .non H'):J0 (.ref o) [.ref p] H Q:=by
 have im:=h.imm;obtain⟨xs,h1,d⟩:=h;have k:Kp _ H (upd H o (.lst (xs++vs))):=Kp.one;have ik:=fun b u e i=>k b u e (im b u e i);exact⟨o,p,xs,vs,rfl,rfl,h1,hp,bc (by rw[pR d,pR f];exact hl),q _ k ⟨_,aq,zI (fi d fun _ _ t=>t.keep ik) (fi f fun _ _ t=>t.keep ik)⟩⟩
theorem EM (hm:0<=m) (h:z.o<=z.g):((qo z m).length:Int)<=m:=by
 unfold qo lV;rw[List.length_map,List.length_range];split<;>lia
def Snt (S:List Addr) (H:Hp) (d:List V):List Yw->Prop
 | []=>d= []
 | [y0]=> ∃l0,d= [.ref l0]/\ma H l0 y0/\l0 ∉ S
 | [y0,y1]=> ∃l0 l1,d= [.ref l0,.ref l1]/\(ma H l0 y0/\l0 ∉ S)/\ma H l1 y1/\l1 ∉ S
 |_=>False
theorem ma.dn (h:ma H l y): ∃d,Dn K H 2 (.ref l) d:=by
 rcases h with⟨_,h⟩|⟨f,w,p,r,_,h1,j⟩
 ·exact⟨_,xF h .nil⟩
 ·
  refine⟨_,xF h1 (.cons (pX j (.cons dy (.cons t9 (.cons (?_:Dn K H 0 _ (match p with|none=> .non|some i=> .int i)) .nil)))) .nil)⟩
  cases p with
  |none=>exact .inl ⟨rfl,rfl⟩
  |some i=>exact dy
noncomputable def sfr (y:Yw):List Int:=match y with
 |some (f,_,_)=>[f]
 |none=>[]
theorem Snt.len: ∀{l:List Yw},Snt S H ys l->ys.length=l.length
 | [],h=>by rw[(h)];rfl
 | [_],⟨_,h,_⟩=>by rw[h];rfl
 | [_,_],⟨_,_,h,_⟩=>by rw[h];rfl
 |_::_::_::_,h=>h.elim
theorem ma.same (h:ma H l y) (s:aW H H'):ma H' l y:=h.kp (Kp.of s) List.not_mem_nil (fun _ _ _ _=>List.not_mem_nil)
noncomputable def Xm (H:Hp) (x:V):V:=match x with
 | .ref r=>(match H r with
  |some (.tup (v::_))=>v
  |_=> .non)
 |v=>v
theorem ma.fr (h:ma H l y): ∃xs,H l=some (.lst xs)/\(∀x∈xs,∃r f w p,x = .ref r/\H r=some (.tup [.int f,w,p]))/\xs.map (Xm H)=(sfr y).map V.int/\xs.length<=1:=by
 rcases h with⟨rfl,h⟩|⟨f,w,p,r,rfl,h1,d⟩
 ·exact⟨[],h,fun x hx=>absurd hx List.not_mem_nil,rfl,by decide⟩
 ·
  refine⟨_,h1,fun x hx=>⟨r,f,_,_,List.mem_singleton.mp hx,d⟩,?_,Nat.le_refl _⟩;show[Xm H _]= [V.int f];unfold Xm;simp only[d]
theorem Fn:(sfr y).length<=1:=by
 unfold sfr;split<;>simp
theorem XX.frP (h:XX a y): ∀f∈sfr y,FrP f:=by
 intro f hf;unfold sfr at hf;split at hf
 ·
  rename_i i w p;rw[List.mem_singleton] at hf;subst hf;obtain⟨k,j,nn,h1,d,_⟩:=h f w p rfl;exact⟨_,d,(ye h1).HI,HJ⟩
 ·trivial
noncomputable def thD (t:Th):Dt:= .t [.str t.1,.str t.2]
theorem yX.row: ∀{vs:List V} {T:List Th},Paired (yX K H) vs T->Paired (Dn K H 1) vs (T.map thD)
 |_,_,.nil=> .nil
 |_,_,.cons ⟨p,e,h⟩ t=> .cons (e▸ .inr (.inr ⟨p,_,_,rfl,rfl,h,.cons t9 (.cons t9 .nil)⟩)) (yX.row t)
theorem vJ.dn (h:vJ K H o T):Dn K H 2 (.ref o) (.l (T.map thD)):=by
 obtain⟨vs,h1,d⟩:=h;exact xF h1 (yX.row d)
theorem FH {R:α->β->Prop}: ∀{xs:List α} {d:List β} (n:Nat),Paired R xs d->Paired R (xs.take n) (d.take n)
 |_,_,0,_=> .nil
 |_,_,_+1,.nil=> .nil
 |_,_,n+1,.cons h t=> .cons h (FH n t)
theorem KH {n:Nat}:yR xs none (some (n:Int))=xs.take n:=by
 show(xs.drop 0).take (min n _ - 0)=_;rcases Nat.le_total n xs.length with h|h
 ·simp_all
 ·simp
local macro_rules | `(tactic| exists $es,*) => do
  let l := ("Ur Sg Qq tUn GS tC Iu tP Uq JM Qr JJ tB Ye Yj tOr GV EG Io Yh Ir Sj Si tIf MP tSl JL Sh QO UI UD afE LA Lz Ln Lm QK QL QJ Lh Lj UG UE Qs Yi Qk Qj Hc Ng Nw Ny MM K1 K0 KZ K2 Iq Ip Ld Lc Lb Jo NH Nf G8 FE Up Uu tTC Jh Pa Yc Iz Option.join_some af5 Uk P8 XI Xy L2.start List.map_cons List.map_nil List.length_cons List.length_nil List.replicate_zero List.replicate_succ List.append_nil List.nil_append List.cons_append List.getElem?_cons_zero List.getElem?_cons_succ List.set_cons_zero List.set_cons_succ decide_eq_true_eq Bool.not_eq_true' decide_eq_false_iff_not if_true if_false Bool.false_eq_true true_and and_true Bool.not_false Int.reduceLT Int.reduceLE Int.reducePow Int.reduceToNat Int.reduceAdd Int.reduceSub Int.reduceMul Int.reduceNeg Nat.reducePow Nat.reduceLT Nat.reduceLeDiff true_or or_true Int.reduceEq and_self Nat.reduceAdd Nat.reduceSub reduceCtorEq not_true_eq_false not_false_eq_true wa v_ qH sU qE gd gT gc mi km wc vW sV vX sT vY wb mh Fj Fl qI qG f_ i5 i8 i7 nY pL kr ku y9 ko fW fX gQ fE ml pK nX mr cX fY d_ dP fc eg fZ f9 f7 gU dQ kq dR qP mv gV Cp i6 gS dE pI mq pJ gW y_ qN mm pG wd qO pH vZ kB qS pM pN sZ sY qR ky mw qT mf qU kz qQ mj pF pD qK qL qM nT qJ nU pE nV MO Na Sl Ut ML NB Lf Ly QH Xz aq Qi L2.Xw Ds Dr Dq Dp Dm Dl Gj Gi yJ vG yK t7 vD yH tZ yI t6 Au vE vF Eh Eg Ef Ee Ed Ec HN HL vy xb xa Ac w6 w5 Ab vx rH rJ sM w_ BS BR BQ BP BO BN BM BL BK BJ BI BH BG BF BE BD BC BB As Ar Aq Ap Ej Ei xu xt vB tT xx yG xv vC oz oy o5 pW xp yE xo vz ox qy yF xq xr rN rM pV lY rK pU o3 oZ qz BA rL sP vA o4 Dk Dj Di Dh Dg Df Gh Gg yC yB Ao An yD Aj Ai sN Ak ow xj Am Ex Ew Eu Et Es Er Ep Eo En Em El Ek HQ HP Ax yM xE yN rQ rP yL rO BW Aw Dv Du BV BY BX xD vH BU vI Av De Dd Dc C_ C9 C8 Gf yA xc xf tS MR ND XG XH Lx afK Nb Lv afH MQ Nu W4 Lw XD Yg MK tHn tHt XT XU M9 Lr Sf Lg IH LY Nv Yd tH0 aeW aeX MT Us JK Fh M_ Hb Nk NC Nj Mj RO Ha IF G_ Lq Nq Np Rw Rv DF Fc PV PU afQ afP Ll Lk Oa N_ Ls QM OD Xx Li".splitOn " ").toArray.map fun n => (⟨Lean.mkIdent n.toName⟩ : Lean.TSyntax `term)
  let l := l ++ es.getElems
  `(tactic| simp only[$[$l:term],*])
local macro_rules | `(tactic| exists 9) => `(tactic| exists true_and)
section
variable {P:Program} {w:World} {K:W.Frag} {mg:Str->Option Value} {base:Heap}
variable (T:Txt K mg)
set_option hygiene false in
local macro_rules | `(tactic| exists 0, $a, $b, $d:ident) => `(tactic| (refine($a).fn ($b).1 ($b).2 (fun vs H Q E h => ?_) fun f cdv A outer s H vs Q E HR h => ?_; (unfold $d at h; split at h <;> first | rfl | exact h.elim); unfold $d at h; split at h; rotate_left; exact h.elim))
set_option hygiene false in
local macro_rules | `(tactic| exists 1, $a, $b, $d:ident) => `(tactic| (refine($a).fnX ($b).1 ($b).2 (fun vs H Q E h => ?_) fun f cdv A outer s H vs Q E HR h => ?_; (unfold $d at h; split at h <;> first | rfl | exact h.elim); unfold $d at h; split at h; rotate_left; exact h.elim))
include T in theorem dU:FA P w K mg base "is_from" 1 ["value","low","high"] wa:=by
 exists 0,T.AH,ID,wa;rename_i v l d;refine⟨_,(ar (aK (du (a9 (nO K rfl) (by rfl) T.cE cK (aE (pv 0) (aE (yf rfl T.PN XQ) aw))) (du (IL (a9 (nO K rfl) (by rfl) T.cE cK (aE (pv 0) (aE (yf rfl T.Ju R3) aw)))) (oi (CF CG CG (pv 1) (pv 0) (pv 2))))))),?_⟩;exists 9;unfold d6 at h;by_cases c:l<=v
 ·
  rw[if_pos c];simpa only[c,decide_true,Bool.true_and] using h
 ·
  rw[if_neg c];simpa only[c,decide_false,Bool.false_and] using h
include T in theorem IV:FA P w K mg base "is_held" 2 ["held"] v_:=by
 exists 0,T.AG,qW,v_;rename_i hh;refine⟨_,(ao (bI (eE (oh (a9 (nO K rfl) (by rfl) T.cE cK (aE (pv 0) (aE (yf rfl T.nM oV) aw))))) (ar (aK d5)) aZ)
 (ao (aP (i:=1) qW.1.nd rfl (Or.inl rfl) ak)
 (ao (gr PassesOwn.never rfl (c7 K rfl (pv 0)) (bC (i:=2) qW.1.nd rfl (Or.inl rfl)) (ao (bI (eE (oh (bq (dU T) HR (by decide) rfl (aE (pv 2) (aE (aF (a_ K rfl) (pv 1) ak) (aE (cy rfl T.pB) aw)))))) (ar (aK d5)) aZ)
 (ar (aP (i:=1) qW.1.nd rfl (Or.inl rfl) (pv 2)))))
 (ar (aK d5))))),?_⟩
 obtain⟨hs,j,hl,q⟩:=h;exists 9;refine F_ j ⟨true,rfl,?_⟩;rw[if_neg (by decide)];refine Xr (dO.of j) (fun i σ H'=>H'=H/\∃l f,Held.dH 0 hs=Held.dH l (hs.drop i)/\σ= [some (.ref hh),some (.int l),f]) ⟨rfl,0,none,by rw[List.drop_zero],rfl⟩ (fun i σ H' _ hp=>by rw[hp.1];exact dO.of j) (fun i x σ H' hx hp=>?_) (fun σ H' hp=>?_)
 ·
  obtain⟨rfl,l,f,e,rfl⟩:=hp;obtain⟨c,rfl,hc⟩:=tJ hx;have d:Held.dH 0 hs=(d6 c (l+1) 15&&Held.dH c (hs.drop (i+1))):=Held.Jf hc e;exists 9;refine MU (fun z=>?_) (fun z=>?_)
  ·
   rw[d,z,Bool.false_and] at q;exact q
  ·
   rw[z,Bool.true_and] at d;exact⟨c,_,d,rfl⟩
 ·
  obtain⟨rfl,l,f,e,rfl⟩:=hp;rw[List.length_map,List.drop_length] at e;exists 9;rw[e] at q;exact q
include T in theorem FO:FA P w K mg base "are_signs" 1 ["kind","signs"] qH:=by
 exists 0,T.uo,Fp,qH;rename_i k d;refine⟨_,(ao (bI (aQ (rl K rfl HR.units) (pv 0) bE (nomark _)) (ar (aK (da (bT K rfl HR.units) (pv 1) bE (nomark _)))) aZ)
 (ao (bI (PW.pt (pw_or (eE (oh (a9 (nO K rfl) (by rfl) T.cE cK (aE (pv 1) (aE (yf rfl T.KP PK) aw))))) (pw_or1 (eE (Hf CG CG ak (a9 (lI K rfl) (by rfl) T.l9 iR (aE (pv 1) aw)) (cy rfl T.fS)))))) (ar (aK d5)) aZ)
 (ar (aK (a9 (AM K rfl rfl) (by rfl) T.HY Js (aE (gM (N:=(["sign"]:List Str)) (nv:=1) (ix:=[]) rfl (oR (by kernel_rfl)) (c7 K rfl (pv 1)) (fun _ _ _ _ _=>(bC (i:=0) (show((["sign"]:List Str)).Nodup by decide) rfl (Or.inl rfl))) (fun _ _ _ _ _=>nF) (fun _ _ _ _ _=>(da (FL K rfl) (pv 0) (cy rfl T.sf) (jx rfl)))) aw)))))),?_⟩
 obtain⟨hl,q⟩:=h;exists 9;unfold pO at q;split
 ·
  rename_i c;rw[if_neg c] at q;exact q _ (aW.refl _)
 ·
  rename_i c;rw[if_pos (Decidable.not_not.mp c)] at q;refine⟨bc hl,?_⟩;split
  ·
   rename_i c1;split
   ·
    rename_i v;have:decide (d.length<=4)=false:=decide_eq_false (by lia);simp only[this,Bool.and_false,Bool.false_and] at q;exact q _ (aW.refl _)
   ·
    rename_i v;have e1:decide (1<=d.length)=true:=decide_eq_true (by lia);have m:decide (d.length<=4)=true:=decide_eq_true (by lia);simp only[e1,m,Bool.true_and] at q;refine Pw (p:=fun _=>true) (f:=fun x=> .bl (MB x)) (bc hl) (fun x _ Q h=>h) (fun x hx _ Q h=>?_) ?_
    ·
     obtain⟨n,_,rfl⟩:=List.mem_map.mp hx;exists 9;exact h
    ·
     have u:((eA d).filter fun _=>true)=eA d:=List.filter_eq_self.mpr fun _ _=>rfl;have y:(eA d).length=d.length:=by simp[eA,Str.length]
     rw[u];refine⟨bc (by rw[List.length_map,y];exact hl),fun l j=>⟨(eA d).map MB,cQ.of ?_,?_⟩⟩
     ·
      rw[aq,List.map_map];rfl
     ·
      rw[List.all_map];exact q _ (aG j)
  ·
   rename_i c1;have e1:decide (1<=d.length)=false:=decide_eq_false (by lia);simp only[e1,Bool.false_and] at q;exact q _ (aW.refl _)
include T in theorem AX:FA P w K mg base "is_piece" 3 ["thing"] sU:=by
 exists 0,T.xH,AU,sU;rename_i t;refine⟨_,(ao (bI (PW.pt (pw_or (eE (oh (a9 (nO K rfl) (by rfl) T.cE cK (aE (pv 0) (aE (yf rfl T.nM oV) aw))))) (pw_or1 (aQ (rl K rfl HR.units) (a9 (lI K rfl) (by rfl) T.l9 iR (aE (pv 0) aw)) ak (nomark _))))) (ar (aK d5)) aZ)
 (ao (aP (i:=1) AU.1.nd rfl (Or.inl rfl) (bj (qv K rfl) (pv 0) ak (fun _ _=>rfl)))
 (ar (aK (du (da (FL K rfl) (pv 1) (lW K rfl rfl T.uX) (jx rfl)) (du (bq (dU T) HR (by decide) rfl (aE (bj (qv K rfl) (pv 0) ak (fun _ _=>rfl)) (aE ak (aE (lX (aQ (FL K rfl) (pv 1) (lW K rfl rfl T.se) (jx rfl)) ak (cy rfl T.lU)) aw)))) (du (bq (dU T) HR (by decide) rfl (aE (bj (qv K rfl) (pv 0) ak (fun _ _=>rfl)) (aE ak (aE (cy rfl T.lU) aw)))) (du (bq (dU T) HR (by decide) rfl (aE (bj (qv K rfl) (pv 0) ak (fun _ _=>rfl)) (aE ak (aE (cy rfl T.iQ) aw)))) (du (bq (IV T) HR (by decide) rfl (aE (bj (qv K rfl) (pv 0) ak (fun _ _=>rfl)) aw)) (oi (bq (FO T) HR (by decide) rfl (aE (pv 1) (aE (bj (qv K rfl) (pv 0) ak (fun _ _=>rfl)) aw))))))))))))),?_⟩
 obtain⟨k,n,a,r,hs,F,⟨hh,d,E,hl,C⟩,q⟩:=h;have f:cD k n a r hs F=false->Q (V.bl false) H:=fun e=>by
  have:=q _ (aW.refl _);rwa [e] at this
 exists 9;refine F_ d ⟨true,rfl,?_⟩;rw[if_neg (by decide)];refine⟨_,.inr (dO.of d),?_⟩;rw[if_neg (fun z=>z rfl)];refine dX (dO.of d) rfl ?_;intro a1 u _;refine⟨_,.inr (u _),rfl,rfl,?_⟩;have e0:Cd (.str k) xN=Cd (.str k) [.str "bare",.str "signs",.str "begin",.str "end",.str "ask"]:=rfl;refine sS (fun c0=>f ?_) (fun c0=>?_)
 ·simp only[cD,e0,c0,Bool.false_and]
 refine dX (dO.of d) rfl ?_;intro G x _;refine⟨_,.inr (x _),rfl,rfl,?_⟩;split<;>rename_i c<;>(
  refine sS (fun c1=>f ?_) (fun c1=>?_)
  ·simp only[cD,e0,c0,c,c1,if_true,if_false,ite_true,ite_false,Bool.true_and,Bool.false_and,Bool.false_eq_true]
  refine dX (dO.of d) rfl ?_;refine sS (fun j=>f ?_) (fun j=>?_)
  ·simp only[cD,e0,c0,c,c1,j,if_true,if_false,ite_true,ite_false,Bool.true_and,Bool.false_and,Bool.false_eq_true]
  refine dX (dO.of d) rfl ?_;refine sS (fun m=>f ?_) (fun m=>?_)
  ·simp only[cD,e0,c0,c,c1,j,m,if_true,if_false,ite_true,ite_false,Bool.true_and,Bool.false_and,Bool.false_eq_true]
  refine dX (dO.of d) rfl ?_;refine⟨hs,E,hl,?_⟩;refine sS (fun v=>f ?_) (fun v=>?_)
  ·simp only[cD,e0,c0,c,c1,j,m,v,if_true,if_false,ite_true,ite_false,Bool.true_and,Bool.false_and,Bool.false_eq_true]
  refine dX (dO.of d) rfl ?_;refine⟨C,fun H' y=>?_⟩;have:=q H' y;simp only[cD,e0,c0,c,c1,j,m,v,if_true,if_false,ite_true,ite_false,Bool.true_and,Bool.false_eq_true] at this;exact this)
include T in theorem yk:FA P w K mg base "remainder" 1 ["bits"] qE:=by
 exists 0,T.t_,qV,qE;rename_i n;refine⟨_,(ao (aP (i:=1) qV.1.nd rfl (Or.inl rfl) (pv 0))
 (ao (Hg PassesOwn.never (aQ vN (pv 1) (cy rfl T.lJ) (nomark _)) (ar (aP (i:=1) qV.1.nd rfl (Or.inl rfl) (aF NW (pv 1) (aF fK (cy rfl T.AQ) (aF cZ (IM K rfl (pv 1)) (cy rfl T.oU)))))))
 (ar (aK (pv 1))))),?_⟩
 exists 9;obtain⟨⟨h0,h1⟩,q⟩:=h;refine⟨fun m σ H'=>H'=H/\∃x:Nat,m=x/\(x:Int)<=n/\Rem.R x=Rem.R n.toNat/\σ= [some (.int n),some (.int x)],⟨n.toNat,rfl,n.toNat,rfl,by lia,rfl,by rw[Int.toNat_of_nonneg h0]⟩,?_⟩;rintro x σ H' ⟨rfl,F,rfl,hx,v,rfl⟩;exists 9;split
 ·
  rename_i c;obtain⟨k,hk,u,C,hl⟩:=BitI.Nd (n:=x) (by lia);have E:x.log2<400:=(Nat.log2_lt (by lia)).mpr (by lia);refine⟨fun f d=>d=H'/\∃y:Nat,y<x/\Rem.R y=Rem.R n.toNat/\f= [some (.int n),some (.int y)],fun f d ⟨e,y,z,j,es⟩=>⟨y,z,e,y,rfl,by lia,j,es⟩,?_⟩;exists 9;rw[hk];refine⟨cshl (by lia) (by lia) (by lia) (by decide),x ^^^ (263*2 ^ k),u,by rw[C,v],?_⟩;have e:(263:Int)*2 ^ ((k:Int)).toNat=((263*2 ^ k:Nat):Int):=by simp
  rw[e,BitI.JD]
 ·
  rename_i c;rw[<-v,Rem.Ci (by lia)] at q;exact q
include T in theorem vq:MA P w K mg base aO "__init__" 1 ["self","frame"] (gd aO):=by
 exists 0,T.iM,vf,gd;rename_i e l;refine⟨_,(ar (tu T.uL T.fB (pv 0) (pv 1))),?_⟩;obtain⟨he,q⟩:=h;exists he;exact⟨e,rfl,he,q⟩
include T in theorem wL:MA P w K mg base aR "__init__" 1 ["self","frame"] (gT aR):=by
 exists 0,T.jY,wj,gT;rename_i e l;refine⟨_,(ar (tu T.xR T.gH (pv 0) (pv 1))),?_⟩;obtain⟨he,q⟩:=h;exists he;exact⟨e,rfl,he,q⟩
include T in theorem nA:MA P w K mg base aI "__init__" 1 ["self","what"] (gc aI):=by
 exists 0,T.iL,ve,gc;rename_i e l;refine⟨_,(ar (tu T.qd T.gJ (pv 0) (pv 1))),?_⟩;obtain⟨he,q⟩:=h;exists he;exact⟨e,rfl,he,q⟩
include T in theorem Bl:FA P w K mg base "bits_of_held" 1 ["held"] mi:=by
 exists 0,T.oC,A8,mi;rename_i hh;refine⟨_,(ar (aK (a9 (Ms K rfl rfl) (by rfl) T.PM XO (aE (gM (N:=(["step"]:List Str)) (nv:=1) (ix:=[]) rfl (oR (by kernel_rfl)) (c7 K rfl (pv 0)) (fun _ _ _ _ _=>(bC (i:=0) (show((["step"]:List Str)).Nodup by decide) rfl (Or.inl rfl))) (fun _ _ _ _ _=>nF) (fun _ _ _ _ _=>(aF fK ak (aF cZ (pv 0) ak)))) aw)))),?_⟩;obtain⟨hs,j,m,hl,q⟩:=h;exists 9;have hm:=(Held.uR.mp m).2;refine AK (p:=fun _=>true) (f:=fun v=>match v with | .int i=> .int (1*2 ^ (i - 1).toNat)|_=> .non) (dO.of j) (bc (by rw[List.length_map];exact hl)) (fun x _ Q h=>h) (fun x hx _ Q h=>?_) ?_
 ·
  obtain⟨i,hi,rfl⟩:=List.mem_map.mp hx;have:=hm i hi;exists 9;exact⟨cshl (by lia) (by lia) (by decide) (by decide),h⟩
 ·have e:(((hs.map V.int).filter fun _=>true).map fun v=>match v with | .int i=>V.int (1*2 ^ (i - 1).toNat)|_=> .non)=(hs.map fun i=>(1:Int)*2 ^ (i - 1).toNat).map V.int:=by
   rw[List.filter_eq_self.mpr (by simp),List.map_map,List.map_map];rfl
  rw[e];refine⟨bc (by rw[List.length_map,List.length_map];exact hl),fun l d=>⟨_,cQ.of aq,?_⟩⟩;rw[EY];exact q _ (aG d)
include T in theorem zM:FA P w K mg base "bits_of_signs" 1 ["signs"] km:=by
 exists 0,T.mN,fF,km;rename_i d;refine⟨_,(ao (aP (i:=1) fF.1.nd rfl (Or.inl rfl) ak)
 (ao (gr PassesOwn.never rfl (c7 K rfl (FJ K rfl PySem.F.plainAttrs_str PySem.F.slot_str_ljust PySem.F.type_str_ljust N2 (pv 0) (aE (cy rfl T.fS) aw))) (bC (i:=2) fF.1.nd rfl (Or.inl rfl)) (ar (aP (i:=1) fF.1.nd rfl (Or.inl rfl) (aF vM (aF fK (pv 1) ak) (FJ K rfl PySem.F.plainAttrs_str PySem.F.slot_str_index PySem.F.type_str_index LP (cy rfl T.sf) (aE (pv 2) aw))))))
 (ar (aK (pv 1))))),?_⟩
 obtain⟨⟨hl,hm⟩,q⟩:=h;exists 9;obtain⟨f,m⟩:=aeH hl;refine⟨by rw[m];exact bc (by decide),?_⟩;have pm: ∀c∈vj d,c∈sgl:=fun c hc=>by
  unfold vj at hc;rcases List.mem_append.mp hc with h|h
  ·exact hm c h
  ·rw[(List.mem_replicate.mp h).2];exact MZ
 have sz:(Rq d 4).cps.size=4:=m;refine Xs (fun i σ H'=>H'=H/\∃u,σ= [some (.str d),some (.int (DR 0 ((vj d).take i):Nat)),u]) ⟨rfl,none,by simp[DR]⟩ (fun i c σ H' hc hp=>?_) (fun σ H' hp=>?_)
 ·
  obtain⟨rfl,u,rfl⟩:=hp;have j:(vj d)[i]?=some c:=by rw[<-f,<-hc];simp
  have v:=pm c (List.mem_of_getElem? j);obtain⟨x,o2,_⟩:=pq v;have z:i<4:=by have:=(Array.getElem?_eq_some_iff.mp hc).1;lia
  have b1:=JP (cs:=(vj d).take i) fun c hc=>pm c (List.mem_of_mem_take hc);have C:(128:Nat) ^ ((vj d).take i).length<=128 ^ 4:=Nat.pow_le_pow_right (by decide) (by rw[List.length_take];lia);exists 9;have y:(128:Nat) ^ 4=268435456:=by decide
  refine⟨cshl (by decide) (by decide) (by lia) (by lia),sgn c,[],x,some (.str ⟨#[c]⟩),?_⟩;rw[YG (by lia),List.take_add_one,j];show[some (V.str d),some (V.int _),some (V.str ⟨#[c]⟩)]= [some (V.str d),some (V.int ((DR 0 ((vj d).take i++ [c]):Nat):Int)),some (V.str ⟨#[c]⟩)];rw[K9]
 ·
  obtain⟨rfl,u,rfl⟩:=hp;exists 9;rw[sz,List.take_of_length_le (by rw[<-f];simp;lia)];exact q
include T in theorem IX:FA P w K mg base "body_of" 2 ["piece"] wc:=by
 exists 0,T.AJ,gX,wc;rename_i t;refine⟨_,(ao (aP (i:=1) gX.1.nd rfl (Or.inl rfl) (FJ K rfl PySem.F.plainAttrs_tuple PySem.F.slot_tuple_index PySem.F.type_tuple_index (I0 K rfl) (lW K rfl rfl T.uX) (aE (bj (qv K rfl) (pv 0) ak (fun _ _=>rfl)) aw)))
 (aH (ao (aP (i:=1) gX.1.nd rfl (Or.inl rfl) (aF vM (aF fK (pv 1) ak) (bj (qv K rfl) (pv 0) ak (fun _ _=>rfl))))
 (aH (ao (aP (i:=1) gX.1.nd rfl (Or.inl rfl) (aF vM (aF fK (pv 1) ak) (bj (qv K rfl) (pv 0) ak (fun _ _=>rfl))))
 (aH (ao (aP (i:=1) gX.1.nd rfl (Or.inl rfl) (aF vM (aF fK (pv 1) ak) (bj (qv K rfl) (pv 0) ak (fun _ _=>rfl))))
 (aH (ao (aP (i:=1) gX.1.nd rfl (Or.inl rfl) (aF vM (aF fK (pv 1) ak) (bq (Bl T) HR (by decide) rfl (aE (bj (qv K rfl) (pv 0) ak (fun _ _=>rfl)) aw))))
 (aH (ao (aP (i:=1) gX.1.nd rfl (Or.inl rfl) (aF vM (aF fK (pv 1) ak) (a9 (lI K rfl) (by rfl) T.l9 iR (aE (bj (qv K rfl) (pv 0) ak (fun _ _=>rfl)) aw))))
 (aH (ar (aK (aF vM (aF fK (pv 1) ak) (bq (zM T) HR (by decide) rfl (aE (bj (qv K rfl) (pv 0) ak (fun _ _=>rfl)) aw))))))))))))))))),?_⟩
 obtain⟨k,n,a,r,hs,C,⟨hh,d,J,hl,I⟩,p,q⟩:=h;have pb:=p.parts;have pk:=F9 p.hk;obtain⟨m,rfl⟩: ∃m:Nat,n=m:=⟨n.toNat,by have:=p.n0;lia⟩;obtain⟨u,rfl⟩: ∃u:Nat,a=u:=⟨a.toNat,by have:=p.a0;lia⟩;obtain⟨j,rfl⟩: ∃j:Nat,r=j:=⟨r.toNat,by have:=p.r0;lia⟩;have O:=pb.n;have H:=pb.a;have G:=pb.r;rw[Int.toNat_natCast] at O H G;unfold fV KN at q;rw[Int.toNat_natCast,Int.toNat_natCast,Int.toNat_natCast] at q;simp only[Nat.reducePow] at q;have Z:=pb.h;have p5:=pb.len;have p6:=pb.s;have b1:=pk.2;generalize kidx k=ki at*
 generalize h_u1:ax _=U;exists 9;intro tk htk v;refine⟨v _,dX (dO.of d) rfl ?_⟩;exists 9;refine⟨kinds,htk _,ki,pk.1,?_⟩;rw[<-h_u1,ax];generalize h_u2:ax _=X;exists 9;refine⟨cshl (by decide) (by decide) (by lia) (by lia),dX (dO.of d) rfl ?_⟩;exists 9;rw[YF (by lia)];have c1:ki*64+m<512:=by lia
 generalize ki*64+m=B1 at*
 rw[<-h_u2,ax];generalize h_u3:ax _=u3;exists 9;refine⟨cshl (by decide) (by decide) (by lia) (by lia),dX (dO.of d) rfl ?_⟩;exists 9;rw[YF (by lia)];have c2:B1*64+u<32768:=by lia
 generalize B1*64+u=y at*
 rw[<-h_u3,ax];generalize h_u4:ax _=u4;exists 9;refine⟨cshl (by decide) (by decide) (by lia) (by lia),dX (dO.of d) rfl ?_⟩;exists 9;rw[ago (by lia)];have c3:y*32+j<1048576:=by lia
 generalize y*32+j=z at*
 rw[<-h_u4,ax];generalize h_u5:ax _=u5;exists 9;refine⟨cshl (by decide) (by decide) (by lia) (by lia),dX (dO.of d) rfl ?_⟩;exists 9;refine⟨hs,J,p.hh,hl,fun H2 x=>?_⟩;rw[Q8 (by lia)];have c4:z*32768+fU hs<34359738368:=by lia
 generalize z*32768+fU hs=E at*
 have f:=x _ _ d;rw[<-h_u5,ax];generalize h_u6:ax _=u6;exists 9;refine⟨cshl (by decide) (by decide) (by lia) (by lia),dX (dO.of f) rfl ?_⟩;exists 9;refine⟨bc I,?_⟩;rw[or8 (by lia)];have c5:E*8+C.length<274877906944:=by lia
 generalize E*8+C.length=B5 at*
 rw[<-h_u6,ax];exists 9;refine⟨cshl (by decide) (by decide) (by lia) (by lia),dX (dO.of f) rfl ?_⟩;exists 9;refine⟨⟨p.hl,p.hs⟩,?_⟩;rw[agp (by lia)];exact q _ x
include T in theorem wJ:FA P w K mg base "written" 4 ["piece"] (vW aI):=by
 exists 1,T.AA,Cv,vW;rename_i t;refine⟨_,(ao (bI (PT.nox (eE (oh (bq (AX T) HR (by decide) rfl (aE (pv 0) aw))))) (ar (fh T.qd (nA T) T.rD HR (by decide) o_ rfl rfl rfl (aE (pv 0) aw))) aZ)
 (aH (ao (PS.nox (aP (i:=1) Cv.1.nd rfl (Or.inl rfl) (aF fK (bq (IX T) HR (by decide) rfl (aE (pv 0) aw)) (cy rfl T.nL))))
 (ar (PS.nox (aK (aF vM (pv 1) (bq (yk T) HR (by decide) rfl (aE (pv 1) aw))))))))),?_⟩
 obtain⟨k,n,a,r,hs,j,u,q1,q2⟩:=h;generalize h_u1:ax _=E;exists 9;refine⟨k,n,a,r,hs,j,u,fun F m=>?_⟩;cases c:cD k n a r hs j
 ·
  rw[if_pos rfl];intro e he
  first|refine⟨aq,fun d hd=>⟨_,aq,?_⟩⟩|refine fun d hd=>⟨_,rfl,?_⟩
  obtain⟨s1,s2⟩:=dropx (C:=aI) (f:="what") (v:= .ref t) m he hd;exact q2 c _ d s1 s2
 rw[if_neg (by decide)];have p:=ye c;have pl:=p.parts.lt;have z:fV k n a r hs j<2 ^ 66:=pl;rw[<-h_u1,ax];exists 9;refine⟨k,n,a,r,hs,j,u.same m,p,fun y x=>?_⟩;have fin:=q1 c y (m.trans x);unfold iw at fin;generalize fV k n a r hs j=B at*
 refine⟨cshl (by decide) (by decide) (by lia) (by lia),⟨by lia,by lia⟩,?_⟩;rw[show((B:Int)*256).toNat=B*256 by lia,show(B:Int)*256=((B*256:Nat):Int) by lia,BitI.FK];exact fin
include T in theorem Hm:FA P w K mg base "is_frame" 1 ["number"] sV:=by
 exists 0,T.xI,G1,sV;rename_i f;refine⟨_,(ar (aK (du (da CI (pv 0) ak (nomark _)) (oi (da (bT K rfl HR.units) (aF mF (pv 0) (cy rfl T.si)) ak (nomark _)))))),?_⟩;exists 9;by_cases c:0<=f
 ·
  rw[if_pos c];have e:decide (f / 18889465931478580854784=0)=decide (0<=f/\f<18889465931478580854784):=by
   rw[decide_eq_decide];lia
  rw[e];exact h
 ·
  rw[if_neg c];rw[decide_eq_false (by lia)] at h;exact h
include T in theorem IS:FA P w K mg base "sign_of" 1 ["code"] vX:=by
 exists 0,T.AD,IA,vX;rename_i c;refine⟨_,(ar (aK (lX (aQ nq (pv 0) (a9 (lI K rfl) (by rfl) T.l9 iR (aE (cy rfl T.sf) aw)) (nomark _)) (bj (qv K rfl) (cy rfl T.sf) (pv 0) (fun _ _=>rfl)) (cy rfl T.AN)))),?_⟩;obtain⟨h0,q⟩:=h;exists 9;have d:kC.length=94:=by decide+kernel
 refine⟨by decide+kernel,?_⟩;unfold sgc at q;by_cases f:c<(94:Int)
 ·
  rw[if_pos (by show c<((kC.length:Nat):Int);rw[d];exact f)];rw[if_pos (by lia)] at q;obtain⟨j,rfl⟩: ∃j:Nat,c=(j:Int):=⟨c.toNat,by lia⟩;rw[Int.toNat_natCast] at q;have i:j<sgl.length:=by rw[JQ];lia
  refine⟨sgl.getD j 0,by decide+kernel,?_,q⟩;have e:sgl[j]?=some (sgl.getD j 0):=by rw[List.getD_eq_getElem?_getD,List.getElem?_eq_getElem i];rfl
  exact sI e
 ·
  rw[if_neg (by show¬c<((kC.length:Nat):Int);rw[d];exact f)];rw[if_neg (by lia)] at q;exact q
include T in theorem Hl:FA P w K mg base "signs_of" 2 ["bits"] sT:=by
 exists 0,T.xG,G0,sT;rename_i b;refine⟨_,(ar (aK (FJ K rfl PySem.F.plainAttrs_str PySem.F.slot_str_join PySem.F.type_str_join (N3 K rfl) bE (aE (gM (N:=(["shift","bits"]:List Str)) (nv:=1) (ix:=[0]) rfl (oR (by kernel_rfl)) (c7 K rfl (cI (aE ak (aE ak (aE ak (aE ak aw)))))) (fun _ _ _ _ _=>(bC (i:=0) (show((["shift","bits"]:List Str)).Nodup by decide) rfl (Or.inl rfl))) (fun _ _ _ _ _=>nF) (fun _ _ _ _ _=>(bq (IS T) HR (by decide) rfl (aE (aF wI (aF mF (pv 1) (pv 0)) ak) aw)))) aw)))),?_⟩;obtain⟨h0,q⟩:=h;obtain⟨b,rfl⟩: ∃j:Nat,b=(j:Int):=⟨b.toNat,by lia⟩;rw[Int.toNat_natCast] at q;exists 9;intro p hp;have ht:=aq (H:=H) (a:=p) (o:= .tup [.int 21,.int 14,.int 7,.int 0]);have s1:=aG (o:= .tup [.int 21,.int 14,.int 7,.int 0]) hp;generalize upd H p (.tup [.int 21,.int 14,.int 7,.int 0])=d at*
 refine AK (p:=fun _=>true) (f:=fun v=>match v with | .int i=> .str (sgc (b / 2 ^ i.toNat % 128))|_=> .non) (dO.of ht) (bc (by simp)) (fun x _ Q h=>h) (fun x hx _ Q h=>?_) ?_
 ·obtain⟨i,hi,rfl⟩: ∃i:Nat,i<=21/\x = .int (i:Int):=by
   simp only[List.mem_cons,List.not_mem_nil,or_false] at hx;rcases hx with rfl|rfl|rfl|rfl
   ·exact⟨21,by decide,rfl⟩
   ·exact⟨14,by decide,rfl⟩
   ·exact⟨7,by decide,rfl⟩
   ·exact⟨0,by decide,rfl⟩
  exists 9;refine⟨by lia,?_⟩;have e:(b:Int) / 2 ^ (i:Int).toNat=((b / 2 ^ i:Nat):Int):=by simp
  rw[e,XW];refine⟨by lia,?_⟩;rw[Int.toNat_natCast];replace h:Q (.str (sgc (b / 2 ^ (i:Int).toNat % 128))) d:=h;rw[Int.toNat_natCast] at h;exact h
 ·have e:((([.int 21,.int 14,.int 7,.int 0]:List V).filter fun _=>true).map fun v=>match v with | .int i=>V.str (sgc (b / 2 ^ i.toNat % 128))|_=> .non)=(oS b).map V.str:=by
   show[V.str (sgc (b / 2 ^ 21 % 128)),V.str (sgc (b / 2 ^ 14 % 128)),V.str (sgc (b / 2 ^ 7 % 128)),V.str (sgc (b / 2 ^ 0 % 128))]=_;unfold oS;simp
  rw[e];refine⟨bc (by show 4<=1000;decide),fun l hl=>⟨oS b,cQ.of aq,?_,q _ (s1.trans (aG hl))⟩⟩;rw[Mq];show 4+4*0<=1000000;decide
include T in theorem IT:FA P w K mg base "kind_of" 1 ["code"] vY:=by
 exists 0,T.AE,IB,vY;rename_i c;refine⟨_,(ar (aK (lX (aQ nq (pv 0) (a9 (lI K rfl) (by rfl) T.l9 iR (aE (lW K rfl rfl T.uX) aw)) (nomark _)) (bj (qv K rfl) (lW K rfl rfl T.uX) (pv 0) (fun _ _=>rfl)) (cy rfl T.AO)))),?_⟩;obtain⟨h0,q⟩:=h;exists 9;intro tk htk x;refine⟨_,.inr (htk _),?_⟩;by_cases m:c<(5:Int)
 ·
  rw[if_pos (show c<(([V.str "bare",V.str "signs",V.str "begin",V.str "end",V.str "ask"]:List V).length:Int) from m)];rw[if_pos (by lia)] at q;intro u f _;obtain⟨j,rfl⟩: ∃j:Nat,c=(j:Int):=⟨c.toNat,by lia⟩;rw[Int.toNat_natCast] at q;have i:j<5:=by lia
  refine dX (f _) (v:= .str (kinds.getD j "")) ?_ q;have d: ∀j:_root_.Fin 5,([V.str "bare",V.str "signs",V.str "begin",V.str "end",V.str "ask"]:List V)[j.val]?=some (.str (kinds.getD j.val "")):=fun j=>by
   obtain⟨j,i⟩:=j
   match j,i with
   |0,_=>rfl
   |1,_=>rfl
   |2,_=>rfl
   |3,_=>rfl
   |4,_=>rfl
  exact sI (d ⟨j,i⟩)
 ·
  rw[if_neg (show¬c<(([V.str "bare",V.str "signs",V.str "begin",V.str "end",V.str "ask"]:List V).length:Int) from m)];rw[if_neg (by lia)] at q;exact q
include T in theorem IW:FA P w K mg base "held_of" 1 ["bits"] wb:=by
 exists 0,T.AI,IE,wb;rename_i b;refine⟨_,(ar (aK (wG (A4 K rfl) (by rfl) T.nM oV (aE (gM (N:=(["step","bits"]:List Str)) (nv:=1) (ix:=[0]) rfl (oR (by kernel_rfl)) (uQ rfl T.dC (aE ak (aE (aF (a_ K rfl) (cy rfl T.pB) ak) aw))) (fun _ _ _ _ _=>(bC (i:=0) (show((["step","bits"]:List Str)).Nodup by decide) rfl (Or.inl rfl))) (fun _ _ _ _ _=>(uO (aQ (bT K rfl HR.units) (aF wI (aF mF (pv 1) (aF cZ (pv 0) ak)) ak) ak (nomark _)))) (fun _ _ _ _ _=>(pv 0))) aw)))),?_⟩;obtain⟨h0,q⟩:=h;obtain⟨b,rfl⟩: ∃j:Nat,b=(j:Int):=⟨b.toNat,by lia⟩;rw[Int.toNat_natCast] at q;exists 9;refine Gr (p:=fun v=>match v with | .int s=>decide (b / 2 ^ (s - 1).toNat % 2=1)|_=>false) (f:=fun v=>v) (bc (by decide)) (fun i hi Q h=>?_) (fun i hi _ Q h=>?_) ?_
 ·
  exists 9;refine⟨by lia,?_⟩;have e:(b:Int) / 2 ^ ((1:Int)+(i:Int) - 1).toNat=((b / 2 ^ i:Nat):Int):=by
   rw[show((1:Int)+(i:Int) - 1).toNat=i by lia];simp
  rw[e,aj8];replace h:Q (decide (b / 2 ^ ((1:Int)+(i:Int) - 1).toNat % 2=1)) H:=h;rw[show((1:Int)+(i:Int) - 1).toNat=i by lia] at h;have d:decide (((b / 2 ^ i % 2:Nat):Int)=1)=decide (b / 2 ^ i % 2=1):=by rw[decide_eq_decide];lia
  rw[d];exact h
 ·
  exists 9;exact h
 ·
  rw[La,HS];have lf:(Held.ones.filter fun s=>decide (b / 2 ^ (s - 1).toNat % 2=1)).length<=15:=Nat.le_trans (List.length_filter_le _ _) (by decide);refine⟨bc (by rw[List.length_map];exact Nat.le_trans lf (by decide)),fun l hl=>⟨_,.inl ⟨cQ.of aq,fun t ht=>q t _ ((aG hl).trans (aG ht)) aq⟩⟩⟩
include T in theorem Bk:FA P w K mg base "likely_piece" 3 ["body"] mh:=by
 exists 0,T.oB,A7,mh;rename_i b;refine⟨_,(MC.h (nE (NI (CD (gY ⟨(bq (IT T) HR (by decide) rfl (aE (aF mF (pv 0) ak) aw))⟩ (gY ⟨(aF wI (aF mF (pv 0) ak) ak)⟩ (gY ⟨(aF wI (aF mF (pv 0) ak) ak)⟩ (gY ⟨(aF wI (aF mF (pv 0) ak) ak)⟩ (gY ⟨(bq (IW T) HR (by decide) rfl (aE (aF mF (pv 0) ak) aw))⟩ (gY ⟨(yg (Qx K rfl) (bq (Hl T) HR (by decide) rfl (aE (pv 0) aw)) J9 (uP (aF wI (aF mF (pv 0) ak) ak)))⟩ my)))))))))),?_⟩;obtain⟨h0,q⟩:=h;obtain⟨b,rfl⟩: ∃u:Nat,b=(u:Int):=⟨b.toNat,by lia⟩;rw[Int.toNat_natCast] at q;exists 9;refine⟨by lia,by lia,fun hh m C f=>⟨by lia,fun G i=>⟨by rw[Int.toNat_natCast,HB];exact bc (by decide),fun t ht=>?_⟩⟩⟩;have e: ∀k:Nat,((b:Int) / (k:Int)).toNat=b / k:=fun k=>by rw[show(b:Int) / (k:Int)=((b / k:Nat):Int) by simp,Int.toNat_natCast]
 have d: ∀k:Nat,(b:Int) / (k:Int)=((b / k:Nat):Int):=fun k=>by simp
 refine q t _ ((C.trans i).trans (aG ht)) ⟨hh,?_,?_,Nat.le_trans (Rp b) (by decide),?_⟩
 ·
  rw[aq];have a1:((b:Int) / 9223372036854775808).toNat=b / 9223372036854775808:=e 9223372036854775808;have z:(b:Int) / 144115188075855872=((b / 144115188075855872:Nat):Int):=d 144115188075855872;have F:(b:Int) / 2251799813685248=((b / 2251799813685248:Nat):Int):=d 2251799813685248;have E:(b:Int) / 70368744177664=((b / 70368744177664:Nat):Int):=d 70368744177664;have v:(b:Int) / 268435456=((b / 268435456:Nat):Int):=d 268435456;rw[a1,z,F,E,v,Ug,Ug,afS,aj7,Int.toNat_natCast];rfl
 ·
  have y:((b:Int) / 2147483648).toNat=b / 2147483648:=e 2147483648;have j: ∀x,x=b / 2147483648->(Held.ones.filter fun s=>decide (x / 2 ^ (s - 1).toNat % 2=1))=Hz b:=by rintro _ rfl;rfl
  replace f:m hh=some (.tup ((Hz b).map V.int)):=f.trans (congrArg (fun l=>some (HO.tup (List.map V.int l))) (j _ y));exact bQ (i _ _ f) ht
 ·
  unfold Mx;have:=Txt.slice_le (Txt.join "" (oS b)) none (some ((b / 268435456 % 8:Nat):Int));rw[HB] at this;lia
include T in theorem Rg:FA P w K mg base "read" 5 ["frame"] (Fj aO aR aI):=by
 exists 1,T.Jl,JT,Fj;rename_i x;refine⟨_,(ao (bI (PT.nox (eE (oh (bq (Hm T) HR (by decide) rfl (aE (pv 0) aw))))) (ar (fh T.uL (vq T) T.wY HR (by decide) o_ rfl rfl rfl (aE (pv 0) aw))) aZ)
 (aH (ao (bI (PT.nox (aQ (rl K rfl HR.units) (bq (yk T) HR (by decide) rfl (aE (pv 0) aw)) ak (nomark _))) (ar (fh T.xR (wL T) T.z5 HR (by decide) o_ rfl rfl rfl (aE (pv 0) aw))) aZ)
 (aH (ao (PS.nox (aP (i:=1) JT.1.nd rfl (Or.inl rfl) (bq (Bk T) HR (by decide) rfl (aE (aF mF (pv 0) (cy rfl T.nL)) aw))))
 (aH (ao (bI (PT.nox (PW.pt (pw_or (eE (oh (bq (AX T) HR (by decide) rfl (aE (pv 1) aw)))) (pw_or1 (aQ (rl K rfl HR.units) (bq (wJ T) HR (by decide) rfl (aE (pv 1) aw)) (pv 0) (nomark _)))))) (ar (fh T.qd (nA T) T.rD HR (by decide) o_ rfl rfl rfl (aE (pv 0) aw))) aZ)
 (aH (ar (PS.nox (aK (pv 1)))))))))))),?_⟩
 obtain⟨q1,q2,q3,q4⟩:=h;generalize h_u1:ax _=u1;exists 9;by_cases c0:0<=x/\x<18889465931478580854784;rotate_left
 ·
  rw[if_pos c0];intro e he
  first|refine⟨aq,fun d hd=>⟨_,aq,?_⟩⟩|refine fun d hd=>⟨_,rfl,?_⟩
  obtain⟨s1,s2⟩:=dropx (C:=aO) (f:="frame") (v:= .int x) (aW.refl _) he hd;exact q1 c0 _ d s1 s2
 rw[if_neg (not_not_intro c0)];obtain⟨fr,rfl⟩: ∃fr:Nat,x=(fr:Int):=⟨x.toNat,by lia⟩;rw[Int.toNat_natCast] at q2 q3 q4;have q2:=q2 c0;have q3:=q3 c0;have q4:=q4 c0;rw[<-h_u1,ax];generalize h_u2:ax _=u2;exists 9;refine⟨⟨by lia,by lia⟩,?_⟩;rw[Int.toNat_natCast];by_cases O:Rem.R fr=0;rotate_left
 ·
  rw[if_pos (by lia)];intro e he
  first|refine⟨aq,fun d hd=>⟨_,aq,?_⟩⟩|refine fun d hd=>⟨_,rfl,?_⟩
  obtain⟨s1,s2⟩:=dropx (C:=aR) (f:="frame") (v:= .int (fr:Int)) (aW.refl _) he hd;exact q2 O _ d s1 s2
 rw[if_neg (by lia)];have q3:=q3 O;have q4:=q4 O;rw[<-h_u2,ax];generalize h_u3:ax _=u3;exists 9;have X:((fr:Int) / 256).toNat=fr / 256:=by lia
 refine⟨by lia,fun t H1 Z F=>?_⟩;rw[X] at F;rw[<-h_u3,ax];generalize h_u4:ax _=u4;exists 9;refine⟨_,_,_,_,_,_,F,fun U I=>?_⟩;have fail:tO fr=false->∀j,aW H j->∀e,j e=none->upd j e (.ext (uT e aI none)) e=some (.ext (uT e aI none))/\∀d,upd j e (.ext (uT e aI none)) d=none->∃dx,upd (upd (upd j e (.ext (uT e aI none))) d (.xd [("what",.int (fr:Int))])) e (.ext (uT e aI (some d))) e=some (.ext (uT e aI dx))/\E (.ref aI) dx (pA (upd (upd (upd j e (.ext (uT e aI none))) d (.xd [("what",.int (fr:Int))])) e (.ext (uT e aI (some d)))) e):=fun g j G e he=>by
  first|refine⟨aq,fun d hd=>⟨_,aq,?_⟩⟩|refine fun d hd=>⟨_,rfl,?_⟩
  obtain⟨s1,s2⟩:=dropx (C:=aI) (f:="what") (v:= .int (fr:Int)) G he hd;exact q3 g _ d s1 s2
 have u:=Z.trans I;cases y:cD (Bw (fr / 256)) (My (fr / 256)) (Mz (fr / 256)) (Ro (fr / 256)) (Hz (fr / 256)) (Mx (fr / 256))
 ·
  rw[if_pos rfl]
  first|exact fail (by unfold tO;rw[y,Bool.false_and]) U u|exact fun e he d hd=>by have z:=(fail (by unfold tO;rw[y,Bool.false_and]) U u e he).2 d hd;rw[aq] at z;exact z
 ·
  rw[if_neg (by decide)];refine⟨_,_,_,_,_,_,F.same I,fun _ j G=>?_,fun hh=>by rw[y] at hh;cases hh⟩;have m:=u.trans G;by_cases J:iw (Bw (fr / 256)) (My (fr / 256)) (Mz (fr / 256)) (Ro (fr / 256)) (Hz (fr / 256)) (Mx (fr / 256))=fr
  ·
   rw[if_neg (by lia)];rw[<-h_u4,ax];exists 9;exact q4 (by unfold tO;rw[y,Bool.true_and,decide_eq_true J]) t j m ((F.same I).same G)
  ·
   rw[if_pos (by lia)]
   first|exact fail (by unfold tO;rw[decide_eq_false J,Bool.and_false]) j m|exact fun e he d hd=>by have z:=(fail (by unfold tO;rw[decide_eq_false J,Bool.and_false]) j m e he).2 d hd;rw[aq] at z;exact z
include T in theorem Rh:FA P w K mg base "need" 1 ["room","lag"] Fl:=by
 exists 0,T.Jm,QB,Fl;rename_i r l;refine⟨_,(ar (aK (lX (aQ (bT K rfl HR.units) (pv 0) ak (nomark _)) (aF (a_ K rfl) ak (aF bV (pv 1) ak)) (aF cZ (aF (a_ K rfl) (aF mG ak (pv 0)) (pv 1)) ak)))),?_⟩;exists 9;unfold om at h;split
 ·rename_i c;rw[if_pos c] at h;exact h
 ·rename_i c;rw[if_neg c] at h;exact h
include T in theorem FN:FA P w K mg base "are_waits" 2 ["first","longest"] qG:=by
 exists 0,T.um,Fo,qG;rename_i f l;refine⟨_,(ar (aK (du (bq (dU T) HR (by decide) rfl (aE (pv 1) (aE (cy rfl T.dZ) (aE (cy rfl T.uG) aw)))) (oi (bq (dU T) HR (by decide) rfl (aE (pv 0) (aE (cy rfl T.dZ) (aE (pv 1) aw)))))))),?_⟩;exists 9;by_cases c:2<=l/\l<=64
 ·
  rw[if_pos (Gd c)];have e:d6 f 2 l=decide ((2<=l/\l<=64)/\2<=f/\f<=l):=by rw[Bool.eq_iff_iff,qx,decide_eq_true_eq];exact⟨fun k=>⟨c,k⟩,fun k=>k.2⟩
  rw[e];exact h
 ·
  rw[if_neg (by rw[Ge c];decide)];rw[decide_eq_false (fun k=>c k.1)] at h;exact h
include T in theorem vp:MA P w K mg base aS "__init__" 1 ["self","least"] (f_ aS):=by
 exists 0,T.iK,vd,f_;rename_i e l;refine⟨_,(ar (tu T.uK T.fA (pv 0) (pv 1))),?_⟩;obtain⟨he,q⟩:=h;exists he;exact⟨e,rfl,he,q⟩
include T in theorem FP:FA P w K mg base "are_rooms" 2 ["rooms"] qI:=by
 exists 0,T.uq,Fq,qI;rename_i p;refine⟨_,(ar (aK (du (a9 (AL K rfl) (by rfl) T.cE cK (aE (pv 0) (aE (yf rfl T.nM oV) aw))) (du (da (bT K rfl HR.units) (a9 (fQ K rfl) (by rfl) T.l9 iR (aE (pv 0) aw)) ak (nomark _)) (oi (a9 (AM K rfl rfl) (by rfl) T.HY Js (aE (gM (N:=(["room"]:List Str)) (nv:=1) (ix:=[]) rfl (oR (by kernel_rfl)) (c7 K rfl (pv 0)) (fun _ _ _ _ _=>(bC (i:=0) (show((["room"]:List Str)).Nodup by decide) rfl (Or.inl rfl))) (fun _ _ _ _ _=>nF) (fun _ _ _ _ _=>(bq (dU T) HR (by decide) rfl (aE (pv 0) (aE ak (aE (cy rfl T.j8) aw)))))) aw))))))),?_⟩;obtain⟨o,t,hp,q⟩:=h;exists hp;refine AK (p:=fun _=>true) (f:=fun x=>match x with | .int i=> .bl (d6 i 1 16)|_=> .non) (dO.of hp) (bc (by simp)) (fun x _ Q h=>h) (fun x hx _ Q h=>?_) ?_
 ·
  simp only[List.mem_cons,List.not_mem_nil,or_false] at hx;rcases hx with rfl|rfl<;>(exists 9;exact h)
 ·
  refine⟨bc (by simp),fun l hl=>⟨[d6 o 1 16,d6 t 1 16],cQ.of aq,?_⟩⟩;have:=q _ (aG (o:= .lst [.bl (d6 o 1 16),.bl (d6 t 1 16)]) hl);have e:([d6 o 1 16,d6 t 1 16].all id)=decide ((1<=o/\o<=16)/\1<=t/\t<=16):=by
   rw[Bool.eq_iff_iff,decide_eq_true_eq,<-qx,<-qx];simp
  rw[e];exact this
include T in theorem ym:MA P w K mg base bR "__init__" 3 ["self","ring","rooms","lag","first","longest"] (i5 bR aU aS):=by
 exists 1,T.lE,o9,i5;rename_i x r p g f l;refine⟨_,(ao (bI (PT.nox (eE (PW.pt (pw_and (oh (bq (dU T) HR (by decide) rfl (aE (pv 1) (aE ak (aE (cy rfl T.uI) aw))))) (pw_and (oh (bq (FP T) HR (by decide) rfl (aE (pv 2) aw))) (pw_and1 (oh (bq (dU T) HR (by decide) rfl (aE (pv 3) (aE ak (aE (cy rfl T.xM) aw))))))))))) (ar (zH T.qD o_ rfl rfl rfl)) aZ)
 (aH (ao (bI (PT.nox (eE (oh (bq (FN T) HR (by decide) rfl (aE (pv 4) (aE (pv 5) aw)))))) (ar (zH T.qD o_ rfl rfl rfl)) aZ)
 (aH (ao (PS.nox (aP (i:=6) o9.1.nd rfl (Or.inl rfl) (a9 (E5 K rfl rfl) (by rfl) T.DE DC (aE (gM (N:=(["room","lag"]:List Str)) (nv:=1) (ix:=[3]) rfl (oR (by kernel_rfl)) (c7 K rfl (pv 2)) (fun _ _ _ _ _=>(bC (i:=0) (show((["room","lag"]:List Str)).Nodup by decide) rfl (Or.inl rfl))) (fun _ _ _ _ _=>nF) (fun _ _ _ _ _=>(bq (Rh T) HR (by decide) rfl (aE (pv 0) (aE (pv 1) aw))))) aw))))
 (aH (ao (bI (PT.nox (aQ nq (pv 1) (pv 6) (nomark _))) (ar (fh T.uK (vp T) T.wX HR (by decide) o_ rfl rfl rfl (aE (pv 6) aw))) aZ)
 (aH (ao (PS.nox (aT (pv 0) (pv 1) T.dB T.dW))
 (ao (PS.nox (aT (pv 0) (pv 2) T.dB T.gE))
 (ao (PS.nox (aT (pv 0) (pv 3) T.dB T.tG))
 (ao (PS.nox (aT (pv 0) (pv 4) T.dB T.lQ))
 (ar (PS.nox (aT (pv 0) (pv 5) T.dB T.gN))))))))))))))),?_⟩
 obtain⟨o,t,dx,hp,hx,q1,q2,q3⟩:=h;generalize h_u1:ax _=u1;exists 9;by_cases c1:2<=r/\r<=64;rotate_left
 ·rw[if_neg (by rw[Ge c1];decide)];exact q1 (fun hg=>c1 hg.1) H (aW.refl _)
 rw[if_pos (Gd c1)];refine⟨o,t,hp,fun y j=>?_⟩;by_cases F:(1<=o/\o<=16)/\1<=t/\t<=16;rotate_left
 ·rw[if_neg F];exact q1 (fun hg=>F hg.2.1) y j
 rw[if_pos F];by_cases E:1<=g/\g<=32;rotate_left
 ·rw[if_pos (Ge E)];exact q1 (fun hg=>E hg.2.2.1) y j
 rw[if_neg (by rw[Gd E];decide)];rw[<-h_u1,ax];generalize h_u2:ax _=u2;exists 9;by_cases z:(2<=l/\l<=64)/\2<=f/\f<=l;rotate_left
 ·rw[if_pos z];exact q1 (fun hg=>z hg.2.2.2) y j
 rw[if_neg (not_not_intro z)];have hg:good r o t g f l:=⟨c1,F,E,z⟩;have I:=j _ _ hp;have G:=j _ _ hx;rw[<-h_u2,ax];generalize h_u3:ax _=u3;exists 9;refine AK (p:=fun _=>true) (f:=fun x=>match x with | .int i=> .int (om i g)|_=> .non) (dO.of I) (bc (by simp)) (fun x _ Q h=>h) (fun x hx _ Q h=>?_) ?_
 ·
  simp only[List.mem_cons,List.not_mem_nil,or_false] at hx;rcases hx with rfl|rfl<;>(exists 9;exact h)
 refine⟨bc (by simp),fun l1 m=>⟨[om o g,om t g],cQ.of aq,by simp,fun M U hle=>?_⟩⟩;have X:M=pS o t g:=by
  have h1:=hle (om o g) (by simp);have h2:=hle (om t g) (by simp);simp only[List.mem_cons,List.not_mem_nil,or_false] at U;unfold pS;split<;>lia
 subst X;have O:aW H _:=fun b u e=>aG (o:= .lst ((([V.int o,V.int t]:List V).filter fun _=>true).map fun x=>match x with | .int i=> .int (om i g)|_=> .non)) m b u (j b u e)
 have RE:=bQ (o:= .lst ((([V.int o,V.int t]:List V).filter fun _=>true).map fun x=>match x with | .int i=> .int (om i g)|_=> .non)) G m
 generalize upd y l1 (.lst ((([V.int o,V.int t]:List V).filter fun _=>true).map fun x=>match x with | .int i=> .int (om i g)|_=> .non))=H2 at*
 rw[<-h_u3,ax];generalize h_u4:ax _=u4;exists 9;by_cases v:r<pS o t g
 ·
  rw[if_pos v];intro e he d hd;refine⟨_,rfl,?_⟩;obtain⟨s1,s2⟩:=dropxl (C:=aS) (l:=[("least",.int (pS o t g))]) O he hd;exact q2 hg v _ d s1 s2
 rw[if_neg v];rw[<-h_u4,ax];exists RE;refine q3 hg v _ ?_ aq;exact fun b o Z J=>by rw[aj J];exact O _ _ Z
include T in theorem yq:MA P w K mg base ai "__init__" 1 ["self","most"] (i8 ai):=by
 exists 0,T.lH,x9,i8;rename_i p m;refine⟨_,(ao (aT (pv 0) (pv 1) T.bG T.nJ)
 (ao (aT (pv 0) (a9 (uV rfl) (by rfl) T.Fb Gw (aE ak (aE (pv 1) aw))) T.bG T.bM)
 (ao (aT (pv 0) (pv 1) T.bG T.dh)
 (ar (aT (pv 0) ak T.bG T.cu))))),?_⟩
 obtain⟨dx,hp,q⟩:=h;exists hp;exact q
include T in theorem yp:MA P w K mg base ai "know_one" 1 ["self"] (i7 ai):=by
 exists 0,T.lG,x8,i7;rename_i p;refine⟨_,(ao (bI (aQ (bT K rfl HR.units) (av (pv 0) T.bG T.bM rfl) (av (pv 0) T.bG T.nJ rfl) (nomark _)) (ar J6) aZ)
 (ao (bI (aQ nq (av (pv 0) T.bG T.bM rfl) (av (pv 0) T.bG T.dh rfl) (nomark _)) (ao (rj (pv 0) ak T.bG T.bM rF)
 (ar J6)) aZ)
 (ao (rj (pv 0) ak T.bG T.cu rF)
 (ar (bI (aQ (bT K rfl HR.units) (av (pv 0) T.bG T.cu rfl) (av (pv 0) T.bG T.bM rfl) (nomark _)) (ao (rj (pv 0) ak T.bG T.bM rF)
 (ar (aT (pv 0) ak T.bG T.cu))) aZ))))),?_⟩
 obtain⟨dx,m,w,k,c,hp,q⟩:=h;exists hp;unfold MeterM.k1 at q;split
 ·
  rename_i c1;rw[if_pos c1] at q;rw[MG hp] at q;exact q
 ·
  rename_i c1;rw[if_neg c1] at q;split
  ·
   rename_i f;rw[if_pos f] at q;exact q
  ·
   rename_i f;rw[if_neg f] at q;split
   ·
    rename_i d;rw[if_pos d] at q;exact q
   ·
    rename_i d;rw[if_neg d] at q;exact q
include T in theorem CN:MA P w K mg base ai "known" 2 ["self","many"] (nY ai):=by
 exists 0,T.qc,td,nY;rename_i p n;refine⟨_,(ar (gr PassesOwn.never rfl (iT rfl T.dC (aE (pv 1) aw)) (bC (i:=2) td.1.nd rfl (Or.inl rfl)) (ar (bL (bK (pv 0) T.bG (yp T) HR (by decide)))))),?_⟩;obtain⟨hn,dx,m,w,k,c,hp,q⟩:=h;exists 9;refine⟨by lia,?_⟩;refine tQ (fun i σ H'=>H'=upd H p (.ins ai dx (ba (.int m) (.int (MeterM.kn m k i (w,c)).1) (.int k) (.int (MeterM.kn m k i (w,c)).2)))/\∃f,σ= [some (.ref p),some (.int n),f]) ⟨by rw[MeterM.kn];exact(MG hp).symm,none,rfl⟩ (fun i σ H' hi d=>?_) (fun σ H' d=>?_)
 ·
  obtain⟨rfl,f,rfl⟩:=d;exists 9;refine⟨dx,m,_,k,_,rfl,?_,_,rfl⟩;rfl
 ·
  obtain⟨rfl,f,rfl⟩:=d;exact q
include T in theorem vP:MA P w K mg base ai "half" 1 ["self"] (pL ai):=by
 exists 0,T.r6,DW,pL;rename_i p;refine⟨_,(ar (aK (a9 (uW rfl) (by rfl) T.DE DC (aE ak (aE (aF bV (av (pv 0) T.bG T.bM rfl) ak) aw))))),?_⟩;obtain⟨dx,m,w,k,c,hp,q⟩:=h;exists hp;exact q
include T in theorem zU:MA P w K mg base ai "ran_out" 2 ["self"] (kr ai):=by
 exists 0,T.mU,zr,kr;rename_i p;refine⟨_,(ao (aT (pv 0) (bK (pv 0) T.bG (vP T) HR (by decide)) T.bG T.dh)
 (ao (aT (pv 0) ak T.bG T.bM)
 (ar (aT (pv 0) ak T.bG T.cu)))),?_⟩
 obtain⟨dx,m,w,k,c,hp,q⟩:=h;exists hp;exact⟨dx,m,w,k,c,rfl,q⟩
include T in theorem zV:MA P w K mg base ai "hurried" 2 ["self"] (ku ai):=by
 exists 0,T.mV,zu,ku;rename_i p;refine⟨_,(ao (aT (pv 0) (bK (pv 0) T.bG (vP T) HR (by decide)) T.bG T.dh)
 (ao (aT (pv 0) (av (pv 0) T.bG T.dh rfl) T.bG T.bM)
 (ar (aT (pv 0) ak T.bG T.cu)))),?_⟩
 obtain⟨dx,m,w,k,c,hp,q⟩:=h;exists hp;exact⟨dx,m,w,k,c,rfl,q⟩
include T in theorem zL:FA P w K mg base "lowest" 1 ["top","bottom"] y9:=by
 exists 0,T.Dy,EI,y9;rename_i t b;refine⟨_,(ao (aP (i:=2) EI.1.nd rfl (Or.inl rfl) (aF wI (aF vM (pv 0) (pv 1)) (NQ Ij (aF vM (pv 0) (pv 1)))))
 (ar (aK (cI (aE (aF CJ (pv 0) (pv 2)) (aE (aF CJ (pv 1) (pv 2)) aw)))))),?_⟩
 obtain⟨⟨h0,h1,d⟩,q⟩:=h;exists 9;rw[WaysI.lowbit h0 h1];have hl:=WaysI.Vb h0 h1;have hd: ∀i,P9 i (WaysM.lb (t.toNat |||b.toNat):Nat):=fun i=>⟨hl.1,d.le (Int.le_of_lt hl.1) hl.2⟩;exact⟨hd _,hd _,q⟩
include T in theorem zO:MA P w K mg base au "__init__" 1 ["self","first","longest"] (ko au):=by
 exists 0,T.mQ,zh,ko;rename_i p f l;refine⟨_,(ao (aT (pv 0) (pv 2) T.bF T.fu)
 (ao (aT (pv 0) cx T.bF T.bw)
 (ao (aT (pv 0) cx T.bF T.bW)
 (ar (aT (pv 0) (pv 1) T.bF T.df))))),?_⟩
 obtain⟨dx,hp,q⟩:=h;exists hp;exact q
include T in theorem vk:MA P w K mg base au "next_spread" 2 ["self","m"] (fW au):=by
 exists 0,T.iE,gi,fW;rename_i p m;refine⟨_,(ao (aP (i:=2) gi.1.nd rfl (Or.inl rfl) (aF pj (bj (cH K rfl) (av (pv 0) T.bF T.bw rfl) ak (fun _ _=>rfl)) (bj (cH K rfl) (av (pv 0) T.bF T.bW rfl) ak (fun _ _=>rfl))))
 (aH (ao (aP (i:=3) gi.1.nd rfl (Or.inl rfl) (a9 PF (by rfl) T.PQ XR (aE (aF cZ (bj (cH K rfl) (av (pv 0) T.bF T.bw rfl) ak (fun _ _=>rfl)) (aF pj (pv 1) (bj (cH K rfl) (av (pv 0) T.bF T.bw rfl) ak (fun _ _=>rfl)))) aw)))
 (aH (ar (aK (bq (zL T) HR (by decide) rfl (aE (aF (a_ K rfl) (aF pj (aF mG ak (bj (cH K rfl) (av (pv 0) T.bF T.bW rfl) ak (fun _ _=>rfl))) (bj (cH K rfl) (av (pv 0) T.bF T.bw rfl) ak (fun _ _=>rfl))) (aF pj (pv 3) (bj (cH K rfl) (av (pv 0) T.bF T.bW rfl) ak (fun _ _=>rfl)))) (aE (aF mG ak (pv 2)) aw))))))))),?_⟩
 obtain⟨dx,L,w,a,A,b,B,W,⟨z,E,hp,hs,f⟩,q⟩:=h;generalize h_u1:ax _=x;exists hp,hs,f;have u:=W.mB;have v:Bd 1002 (3*b):=Bd.mul (a:=2) (Bd.c (k:=3) (by decide)) W.b1;have j:=W.A1.mul W.B1;have d:=((W.a1.up (show 1000<=1020 by decide)).sub (u.mul W.A1)).abs;have C:=Int.mul_pos W.A0 W.B0;refine⟨wV W.A1 W.B1 (by decide) (by decide),?_⟩;rw[<-h_u1,ax];generalize h_u2:ax _=y;exists hp,hs,f;refine⟨wV u W.A1 (by decide) (by decide),_,rfl,?_⟩;rw[aj_];rw[<-h_u2,ax];exists hp,hs,f;refine⟨wV v W.A1 (by decide) (by decide),wV d W.B1 (by decide) (by decide),⟨?_,by lia,((Bd.c (n:=3) (k:=4) (by decide)).mul j).up (by decide)⟩,q⟩;have:=Int.mul_nonneg (Int.mul_nonneg (show(0:Int)<=3 by decide) W.b0) (Int.le_of_lt W.A0);have:=Int.mul_nonneg (Int.natCast_nonneg (a - m*A).natAbs) (Int.le_of_lt W.B0);lia
include T in theorem vm:MA P w K mg base au "next_smooth" 2 ["self","m"] (fX au):=by
 exists 0,T.iF,u9,fX;rename_i p m;refine⟨_,(ar (aK (bq (zL T) HR (by decide) rfl (aE (aF (a_ K rfl) (aF mG ak (bj (cH K rfl) (av (pv 0) T.bF T.bw rfl) ak (fun _ _=>rfl))) (aF pj (pv 1) (bj (cH K rfl) (av (pv 0) T.bF T.bw rfl) ak (fun _ _=>rfl)))) (aE (aF mG ak (bj (cH K rfl) (av (pv 0) T.bF T.bw rfl) ak (fun _ _=>rfl))) aw))))),?_⟩;obtain⟨dx,L,s,d,w,a,A,⟨m0,m1,a0,A0,A1⟩,hp,hs,q⟩:=h;exists hp,hs;have:=Int.mul_nonneg m0 (Int.le_of_lt A0);exact⟨U_ (by lia),⟨by lia,by lia,((Bd.c (n:=3) (k:=4) (by decide)).mul A1).up (by decide)⟩,q⟩
include T in theorem wK:MA P w K mg base au "least_wait" 1 ["self"] (gQ au):=by
 exists 0,T.jW,n8,gQ;rename_i p;refine⟨_,(ao (aP (i:=1) n8.1.nd rfl (Or.inl rfl) (aF (a_ K rfl) (aF pj (bj (cH K rfl) (av (pv 0) T.bF T.bw rfl) ak (fun _ _=>rfl)) (bj (cH K rfl) (av (pv 0) T.bF T.bW rfl) ak (fun _ _=>rfl))) (aF pj (aF mG ak (bj (cH K rfl) (av (pv 0) T.bF T.bW rfl) ak (fun _ _=>rfl))) (bj (cH K rfl) (av (pv 0) T.bF T.bw rfl) ak (fun _ _=>rfl)))))
 (aH (ar (aK (NQ Ij (aF CJ (NQ Ij (pv 1)) (aF pj (bj (cH K rfl) (av (pv 0) T.bF T.bw rfl) ak (fun _ _=>rfl)) (bj (cH K rfl) (av (pv 0) T.bF T.bW rfl) ak (fun _ _=>rfl))))))))),?_⟩
 obtain⟨dx,L,w,a,A,b,B,⟨A0,B0,a1,A1,b1,B1⟩,⟨j,m,hp,hs,d⟩,q⟩:=h;generalize h_u1:ax _=f;exists hp,hs,d;refine⟨wV a1 B1 (by decide) (by decide),wV ((Bd.c (n:=3) (k:=4) (by decide)).mul b1) A1 (by decide) (by decide),?_⟩;rw[<-h_u1,ax];exists hp,hs,d;exact⟨wV A1 B1 (by decide) (by decide),XF (Int.mul_pos A0 B0) (A1.mul B1) (by decide),q⟩
include T in theorem zN:MA P w K mg base au "measured" 3 ["self","m"] (fE au):=by
 exists 0,T.mO,zg,fE;rename_i p m;refine⟨_,(ao (bI (aQ lO (av (pv 0) T.bF T.bw rfl) cx (nomark _)) (ao (aT (pv 0) (cI (aE (pv 1) (aE ak aw))) T.bF T.bw)
 (aH (ar (aT (pv 0) (bq (zL T) HR (by decide) rfl (aE (pv 1) (aE ak aw))) T.bF T.bW)))) (ao (aT (pv 0) (bU (pv 0) T.bF (vk T) HR (by decide) (aE (pv 1) aw)) T.bF T.bW)
 (aH (ar (aT (pv 0) (bU (pv 0) T.bF (vm T) HR (by decide) (aE (pv 1) aw)) T.bF T.bw)))))
 (aH (ar (aT (pv 0) (a9 (uW rfl) (by rfl) T.DE DC (aE (cy rfl T.j7) (aE (a9 (uV rfl) (by rfl) T.Fb Gw (aE (av (pv 0) T.bF T.fu rfl) (aE (bK (pv 0) T.bF (wK T) HR (by decide)) aw))) aw))) T.bF T.df)))),?_⟩
 obtain⟨hm,⟨dx,L,w,hp,q⟩|⟨dx,L,w,a,A,b,B,W,⟨C,pp,hp,hs,J⟩,q⟩⟩:=h
 ·
  generalize h_u1:ax _=U;generalize h_u2:ax _=X;generalize h_u3:ax _=u3;exists hp;intro z x;have n1:p≠z:=aL hp x;have e1:=bQ (o:= .tup [V.int m,V.int 1]) hp x;exists e1;rw[<-h_u1,ax];exists 9;refine⟨⟨hm.1,Bd.up (a:=2) (Bd.c (k:=2) (by decide)) (by decide)⟩,fun E d=>?_⟩;have v:E≠p:=fresh_ne d;have y:z≠E:=fun e=>by rw[<-e,aj n1.symm,aq] at d;cases d
  have G:=bQ (o:= .tup [V.int (WaysM.low m 2).1,V.int (WaysM.low m 2).2]) (aq (H:=upd H z (.tup [V.int m,V.int 1])) (a:=p) (o:= .ins au dx (bB (.int L) (.ref z) .non (.int w)))) d;exists G;rw[<-h_u3,ax];exists 9;obtain⟨s,F⟩:=WaysM.qt (t:=m) (b:=2) hm.1 (by decide);have l1:=F.t0;have l2:=F.b0;have l3:=F.tl;have l4:=F.bl;have O:Bd 20 m:=Bd.of hm.1 (by lia);refine⟨dx,L,w,m,1,(WaysM.low m 2).1,(WaysM.low m 2).2,⟨by decide,l2,O.up (by decide),Bd.up (a:=1) (Bd.c (k:=1) (by decide)) (by decide),(O.le l1 l3).up (by decide),(Bd.le (Bd.c (n:=2) (k:=2) (by decide)) (Int.le_of_lt l2) l4).up (by decide)⟩,⟨z,E,aq,?_,?_⟩,?_⟩
  ·rw[aj n1.symm,aj y,aj n1.symm,aq]
  ·rw[aj v,aq]
  ·
   refine q _ ?_ ⟨z,E,aq,?_,?_⟩
   ·
    intro b o u i;rw[aj i,aj,aj i,aj (aL u x)]
    ·exact u
    ·intro e;rw[e] at u;rw[aj v,aj y.symm] at d;rw[u] at d;cases d
   ·rw[aj n1.symm,aj y,aj n1.symm,aq]
   ·rw[aj v,aq]
 ·
  generalize h_u1:ax _=U;generalize h_u2:ax _=X;generalize h_u3:ax _=u3;exists hp,hs,J;have n0:C≠p:=bX hs hp (by simp);refine⟨dx,L,w,a,A,b,B,W,⟨C,pp,hp,hs,J⟩,fun q1 j=>?_⟩;have n1:p≠q1:=aL hp j;have Z:C≠q1:=aL hs j;have e1:=bQ (o:= .tup [V.int (nsp a A b B m).1,V.int (nsp a A b B m).2]) hp j;exists e1;rw[<-h_u2,ax];exists 9;refine⟨dx,L,.ref q1,C,w,a,A,⟨hm.1,hm.2,W.a0,W.A0,W.A1⟩,rfl,by rw[aj n0,aj Z];exact hs,fun q2 f=>?_⟩;have v:q2≠p:=fresh_ne f;have y:q1≠q2:=fun e=>by rw[<-e,aj n1.symm,aq] at f;cases f
  have G:=bQ (o:= .tup [V.int (nsm a A m).1,V.int (nsm a A m).2]) (aq (H:=upd H q1 (.tup [V.int (nsp a A b B m).1,V.int (nsp a A b B m).2])) (a:=p) (o:= .ins au dx (bB (.int L) (.ref C) (.ref q1) (.int w)))) f;exists G;rw[<-h_u3,ax];exists 9;have B1:=W.ajX;have I:=W.ajW;refine⟨dx,L,w,_,_,_,_,⟨B1.2.1,I.2.1,B1.2.2.1,B1.2.2.2,I.2.2.1,I.2.2.2⟩,⟨q2,q1,aq,?_,?_⟩,?_⟩
  ·rw[aj v,aq]
  ·rw[aj n1.symm,aj y,aj n1.symm,aq]
  ·
   refine q _ ?_ ⟨q2,q1,aq,?_,?_⟩
   ·
    intro b o u i;rw[aj i,aj,aj i,aj (aL u j)]
    ·exact u
    ·intro e;rw[e] at u;rw[aj v,aj y.symm] at f;rw[u] at f;cases f
   ·rw[aj v,aq]
   ·rw[aj n1.symm,aj y,aj n1.symm,aq]
include T in theorem sD:MA P w K mg base au "ran_out" 1 ["self"] (ml au):=by
 exists 0,T.oF,A_,ml;rename_i p;refine⟨_,(ar (aT (pv 0) (a9 (uV rfl) (by rfl) T.Fb Gw (aE (aF mG ak (av (pv 0) T.bF T.df rfl)) (aE (av (pv 0) T.bF T.fu rfl) aw))) T.bF T.df)),?_⟩;obtain⟨dx,L,s,sp,w,hp,q⟩:=h;exists hp;exact q
include T in theorem Ho:FA P w K mg base "ahead" 1 ["ring","one","other"] Cp:=by
 exists 0,T.Gn,M8,Cp;rename_i r a b;refine⟨_,(ar (aK (aF bH (aF cZ (pv 2) (pv 1)) (pv 0)))),?_⟩;exists 9;exact h
include T in theorem lP:MA P w K mg base aa "put" 1 ["self","thing"] (pK aa au ai):=by
 exists 0,T.rY,DU,pK;rename_i x th;refine⟨_,(ar (bL (rk K rfl (av (pv 0) T.ay T.c_ rfl) (pv 1)))),?_⟩;obtain⟨A,z,d,hl,q⟩:=h;exists d.hx,d.ht;refine⟨qf (cQ.of d.ht),by rw[sizeLine_eq];lia,q _ lL.upd ?_⟩;exact d.row d.ht _ z.Kn z.Fi (by simp) (by simp) aq (by rw[aj (bX d.hk d.ht (by simp))];exact d.hk) (by rw[aj (bX d.hf d.ht (by simp))];exact d.hf) (bX d.ht d.ha (by simp))
include T in theorem fo:MA P w K mg base aa "many" 1 ["self"] (nX aa au ai):=by
 exists 0,T.qb,CA,nX;rename_i x;refine⟨_,(ar (aK (a9 (fQ K rfl) (by rfl) T.l9 iR (aE (av (pv 0) T.ay T.c_ rfl) aw)))),?_⟩;obtain⟨A,z,d,q⟩:=h;exists d.hx,d.ht;exact q
include T in theorem sF:MA P w K mg base aa "thing" 1 ["self","place"] (mr aa au ai):=by
 exists 0,T.oI,Bb,mr;rename_i x p;refine⟨_,(ar (aK (bj (cH K rfl) (av (pv 0) T.ay T.c_ rfl) (pv 1) (fun _ _=>rfl)))),?_⟩;obtain⟨A,z,v,d,f,q⟩:=h;exists d.hx,d.ht;exact⟨v,f,q⟩
include T in theorem fq:MA P w K mg base aa "known_above_base" 1 ["self"] (cX aa au ai):=by
 exists 0,T.c9,n9,cX;rename_i x;refine⟨_,(ar (aK (a9 (fQ K rfl) (by rfl) T.l9 iR (aE (gM (N:=(["place","self"]:List Str)) (nv:=1) (ix:=[0]) rfl (oR (by kernel_rfl)) (uQ rfl T.dC (aE (aF (a_ K rfl) (av (pv 0) T.ay T.a8 rfl) ak) (aE (av (pv 0) T.ay T.bu rfl) aw))) (fun _ _ _ _ _=>(bC (i:=0) (show((["place","self"]:List Str)).Nodup by decide) rfl (Or.inl rfl))) (fun _ _ _ _ _=>(uO (zG (NU HR.units (pv 0) (av (pv 1) T.ay T.cb rfl)) (jx rfl)))) (fun _ _ _ _ _=>(pv 0))) aw)))),?_⟩;obtain⟨A,z,d,⟨b0,b1,C⟩,q⟩:=h;exists d.hx;refine⟨by lia,?_⟩;refine Gr (p:=fun v=>match v with | .int i=>knw z.Kn i|_=>false) (f:=fun v=>v) (bc (by lia)) ?_ ?_ ?_
 ·
  intro j u y m;exists d.hx,d.hk;exact m
 ·
  intro j u _ y m;exists 9;exact m
 have e:=Rt (z:=z) rfl;have kl:=Vn (z:=z);refine⟨bc (by rw[e];lia),fun l hl=>?_⟩;rw[e];exact q _ (aG hl)
include T in theorem nz:MA P w K mg base aa "under_way" 2 ["self"] (fY aa au ai):=by
 exists 0,T.iG,va,fY;rename_i x;refine⟨_,(ar (aK (aF cZ (aF cZ (av (pv 0) T.ay T.bu rfl) (av (pv 0) T.ay T.a8 rfl)) (bK (pv 0) T.ay (fq T) HR (by decide))))),?_⟩;obtain⟨A,z,d,f,q⟩:=h;exists d.hx;exact⟨A,z,d,f,fun H' i=>q H' i⟩
include T in theorem kh:MA P w K mg base aa "thing_waits" 2 ["self"] (d_ aa au ai):=by
 exists 0,T.fw,sJ,d_;rename_i x;refine⟨_,(ar (aK (da nq (av (pv 0) T.ay T.bu rfl) (bK (pv 0) T.ay (fo T) HR (by decide)) (nomark _)))),?_⟩;obtain⟨A,z,d,q⟩:=h;exists d.hx;exact⟨A,z,d,q⟩
include T in theorem ro:MA P w K mg base aa "hurry_is_due" 2 ["self"] (dP aa au ai):=by
 exists 0,T.eL,qX,dP;rename_i x;refine⟨_,(ar (aK (du (da nq (av (pv 0) T.ay T.a8 rfl) (av (pv 0) T.ay T.bu rfl) (nomark _)) (du (IL (av (pv 0) T.ay T.cg rfl)) (oi (da CI (bK (pv 0) T.ay (fq T) HR (by decide)) (cy rfl T.lK) (nomark _))))))),?_⟩;obtain⟨A,z,f,i,q⟩:=h;exists f.hx;by_cases c1:z.b<z.t
 ·
  rw[if_pos c1];cases d:z.hur
  ·
   rw[d] at q;refine⟨A,z,f,i,fun H' j=>?_⟩;have:=q H' j;simp only[decide_eq_true c1,Bool.true_and,Bool.not_false] at this;simpa using this
  ·
   rw[d] at q;have:=q H (aW.refl _);simpa [c1] using this
 ·
  rw[if_neg c1];have:=q H (aW.refl _);simpa [c1] using this
include T in theorem tE:MA P w K mg base aa "new_may_go" 3 ["self"] (fc aa au ai):=by
 exists 0,T.gD,s_,fc;rename_i x;refine⟨_,(ar (aK (du (bK (pv 0) T.ay (kh T) HR (by decide)) (du (da nq (av (pv 0) T.ay T.bu rfl) (av (pv 0) T.ay T.dv rfl) (nomark _)) (oi (da nq (bK (pv 0) T.ay (nz T) HR (by decide)) (av (av (pv 0) T.ay T.cq rfl) T.bG T.bM rfl) (nomark _))))))),?_⟩;obtain⟨A,z,f,j,q⟩:=h;exists f.hx;refine⟨A,z,f,?_⟩;by_cases c1:z.t<z.T.length
 ·
  rw[if_pos c1];by_cases d:z.t<z.e
  ·
   rw[if_pos d];refine⟨A,z,f,j,fun H' i=>?_⟩;have S':=f.same i;obtain⟨em,hi⟩:=S'.ms;exists S'.hx,em;have:=q H' i;simpa [c1,d] using this
  ·
   rw[if_neg d];have:=q H (aW.refl _);simpa [c1,d] using this
 ·
  rw[if_neg c1];have:=q H (aW.refl _);simpa [c1] using this
include T in theorem kj:MA P w K mg base aa "newly_known" 1 ["self","places"] (eg aa au ai):=by
 exists 0,T.fz,eC,eg;rename_i x l;refine⟨_,(ao (FF (i:=2) (N:=(["place","self"]:List Str)) (nv:=1) (ix:=[0]) rfl eC.1.nd rfl rfl (oR (by kernel_rfl)) (c7 K rfl (pv 1)) (fun _ _ _ _ _=>(bC (i:=0) (show((["place","self"]:List Str)).Nodup by decide) rfl (Or.inl rfl))) (fun _ _ _ _ _=>(uO (zG (IP HR.units (pv 0) (av (pv 1) T.ay T.cb rfl)) (jx rfl)))) (fun _ _ _ _ _=>(pv 0)))
 (ao (gr PassesOwn.never rfl (c7 K rfl (pv 2)) (bC (i:=3) eC.1.nd rfl (Or.inl rfl)) (ar (FG HR.units (av (pv 0) T.ay T.cb rfl) (pv 3) d5)))
 (ar (aK (pv 2))))),?_⟩
 obtain⟨A,z,C,F,hl,hk,O,q⟩:=h;exists 9;refine KI (xs:=C.map V.int) (p:=fun v=>match v with | .int i=>!knw z.Kn i|_=>false) (f:=fun v=>v) (cQ.of hl) (bc (by rw[List.length_map];lia)) ?_ ?_ ?_
 ·
  intro y m Z E;obtain⟨i,_,rfl⟩:=List.mem_map.mp m;exists F.hx,F.hk;exact E
 ·
  intro y m _ Z E;exists 9;exact E
 rw[Xq];have J:(frs z.Kn C).length<=C.length:=List.length_filter_le _ _;refine⟨bc (by rw[List.length_map];lia),fun l1 j=>?_⟩;generalize frs z.Kn C=fs at*
 have S1:=F.same (aG (o:= .lst (fs.map V.int)) j);have s1:=aG (o:= .lst (fs.map V.int)) j;have k1:=aq (H:=H) (a:=l1) (o:= .lst (fs.map V.int));generalize upd H l1 (.lst (fs.map V.int))=H1 at*
 refine rG (xs:=fs.map V.int) (cQ.of k1) (fun i σ H'=>H' l1=some (.lst (fs.map V.int))/\AR x A H H'/\b_ aa au ai H' x A {z with Kn:=putAll z.Kn (fs.take i)}/\∃v,σ= [some (.ref x),some (.ref l),some (.ref l1),v]) ⟨k1,AR.of s1,S1,none,rfl⟩ (fun i σ H' _ hp=>cQ.of hp.1) (fun i y σ H' m hp=>?_) (fun σ H' hp=>?_)
 ·
  obtain⟨h1,f1,d,v,rfl⟩:=hp;obtain⟨c,rfl,hc⟩:=tJ m;have G:l1≠A.pk:=bX h1 d.hk (by simp);have hkl:(putAll z.Kn (fs.take i)).length<=z.Kn.length+(fs.take i).length:=ri;have U:(fs.take i).length<=fs.length:=by rw[List.length_take];exact Nat.min_le_right _ _
  exists d.hx,d.hk;refine⟨by rw[sizeLine_eq];lia,by rw[aj G];exact h1,fun b u e a1 a2 a3 a4 I a6=>by rw[aj I];exact f1 b u e a1 a2 a3 a4 I a6,?_,_,rfl⟩;have X:putK (putAll z.Kn (fs.take i)) (ik c) (.bl true)=putAll z.Kn (fs.take (i+1)):=by
   rw[List.take_add_one,hc];exact putAll_snoc.symm
  rw[X];exact d.row d.hk z.T (putAll z.Kn (fs.take (i+1))) z.Fi (by simp) (by simp) (by rw[aj (bX d.ht d.hk (by simp))];exact d.ht) aq (by rw[aj d.kf.symm];exact d.hf) d.ka
 ·
  obtain⟨h1,f1,d,v,rfl⟩:=hp;rw[List.length_map,List.take_length] at d;exists 9;exact q l1 _ j f1 d h1
include T in theorem dA:MA P w K mg base aa "set_clock" 1 ["self","turn"] (fZ aa au ai):=by
 exists 0,T.iH,vb,fZ;rename_i x n;refine⟨_,(ar (aT (pv 0) (aF (a_ K rfl) (pv 1) (av (av (pv 0) T.ay T.cp rfl) T.bF T.df rfl)) T.ay T.cO)),?_⟩;obtain⟨A,z,d,q⟩:=h;obtain⟨s0,f,hw⟩:=d.ws.ins;exists d.hx,hw;exact q _ lL.upd (d.put _ _ _ _ _)
include T in theorem vo:MA P w K mg base aa "grow_base" 2 ["self","steps"] (f9 aa au ai):=by
 exists 0,T.iJ,nj,f9;rename_i x st;refine⟨_,(ao (aP (i:=2) nj.1.nd rfl (Or.inl rfl) (av (pv 0) T.ay T.a8 rfl))
 (ao (rj (pv 0) (pv 1) T.ay T.a8 rF)
 (ar (aK (bU (pv 0) T.ay (kj T) HR (by decide) (aE (wG (Jq K rfl rfl) (by rfl) T.Jt RZ (aE (Q3 rfl T.dC (aE (pv 2) (aE (av (pv 0) T.ay T.a8 rfl) aw))) aw)) aw)))))),?_⟩
 obtain⟨A,z,C,⟨b0,b1,j⟩,E,hk,q⟩:=h;exists C.hx;refine⟨by lia,fun p hp=>⟨by lia,by lia,fun l hl=>?_⟩⟩;have U:=C.put (z.b+st) z.t z.e z.clk z.hur;have b1:lL x H (upd H x (HO.ins aa A.dx (aN (V.int z.R) (V.ref A.pw) (V.ref A.pm) (V.ref A.pt) (V.int (z.b+st)) (V.int z.t) (V.int z.e) z.clk (V.bl z.hur) (V.ref A.pk) (V.ref A.pf) (V.ref A.pa)))):=lL.upd;generalize upd H x (HO.ins aa A.dx (aN (V.int z.R) (V.ref A.pw) (V.ref A.pm) (V.ref A.pt) (V.int (z.b+st)) (V.int z.t) (V.int z.e) z.clk (V.bl z.hur) (V.ref A.pk) (V.ref A.pf) (V.ref A.pa)))=y at*
 have v:=(U.same (aG (o:= .rng z.b (z.b+st)) hp)).same (aG (o:= .lst (oY z.b (z.b+st - z.b).toNat)) hl);have j:lL x H (upd (upd y p (.rng z.b (z.b+st))) l (.lst (oY z.b (z.b+st - z.b).toNat))):=(b1.new hp).new hl;generalize upd (upd y p (.rng z.b (z.b+st))) l (.lst (oY z.b (z.b+st - z.b).toNat))=H2 at*
 have F:(irg z.b st.toNat).length<=1000:=by unfold irg;rw[List.length_map,List.length_range];lia
 refine⟨A,_,irg z.b st.toNat,v,by rw[show z.b+st - z.b=st by lia,W5],hk,F,fun f H3 d fr O m=>?_⟩;refine q _ f H3 rfl ?_ (fun b u e a1 J Z X G I=>fr b u (j b u e a1) a1 J Z X G I) O m;cases e:H f with
 |none=>rfl
 |some u=>
  exfalso;by_cases c:f=x
  ·rw[c,v.hx] at d;cases d
  ·rw[j f u e c] at d;cases d
include T in theorem vn:MA P w K mg base aa "note_held" 2 ["self","held"] (f7 aa au ai):=by
 exists 0,T.iI,vc,f7;rename_i x t;refine⟨_,(ar (aK (bU (pv 0) T.ay (kj T) HR (by decide) (aE (gM (N:=(["step","self"]:List Str)) (nv:=1) (ix:=[0]) rfl (oR (by kernel_rfl)) (c7 K rfl (pv 1)) (fun _ _ _ _ _=>(bC (i:=0) (show((["step","self"]:List Str)).Nodup by decide) rfl (Or.inl rfl))) (fun _ _ _ _ _=>(uO (aQ nq (aF (a_ K rfl) (av (pv 1) T.ay T.a8 rfl) (pv 0)) (av (pv 1) T.ay T.bu rfl) (nomark _)))) (fun _ _ _ _ _=>(aF (a_ K rfl) (av (pv 1) T.ay T.a8 rfl) (pv 0)))) aw)))),?_⟩;obtain⟨A,z,hs,j,ht,hl,hk,q⟩:=h;exists j.hx;refine AK (xs:=hs.map V.int) (p:=fun v=>match v with | .int i=>decide (z.b+i<z.t)|_=>false) (f:=fun v=>match v with | .int i=> .int (z.b+i)|v=>v) (dO.of ht) (bc (by rw[List.length_map];lia)) ?_ ?_ ?_
 ·
  intro y C G E;obtain⟨i,_,rfl⟩:=List.mem_map.mp C;exists j.hx;exact E
 ·
  intro y C _ G E;obtain⟨i,_,rfl⟩:=List.mem_map.mp C;exists j.hx;exact E
 rw[W6];have J:=Ga (z:=z) (hs:=hs);refine⟨bc (by rw[List.length_map];lia),fun l d=>?_⟩;have U:=j.same (aG (o:= .lst ((hld z hs).map V.int)) d);have s1:=aG (o:= .lst ((hld z hs).map V.int)) d;refine⟨A,z,_,U,rfl,hk,by lia,fun p H3 hp fr O m=>q _ p H3 rfl ?_ (fun b u e a1 I Z X F H=>fr b u (s1 b u e) a1 I Z X F H) O m⟩;exact Cf s1 hp
include T in theorem oj:MA P w K mg base aa "go_again" 2 ["self","turn"] (gU aa au ai):=by
 exists 0,T.j2,wo,gU;rename_i x n;refine⟨_,(ao (bL (bU (pv 0) T.ay (dA T) HR (by decide) (aE (pv 1) aw)))
 (ao (aT (pv 0) d5 T.ay T.cg)
 (ao (FG HR.units (av (pv 0) T.ay T.cU rfl) (av (pv 0) T.ay T.a8 rfl) d5)
 (ar (aK (cI (aE bE (aE (av (pv 0) T.ay T.a8 rfl) aw)))))))),?_⟩
 obtain⟨A,z,y,hl,q⟩:=h;exists y.hx;refine⟨A,z,y,fun J O f=>?_⟩;have d:A.pa≠x:=bX f.ha f.hx (by simp);exists f.hx,f.ha,aj d,aj d.symm;refine⟨by rw[sizeLine_eq];lia,fun p hp=>?_⟩;have I:=f.put z.b z.t z.e (.int (n+z.w)) true;have E:=I.agk (putK z.Ag (ik z.b) (.bl true));have j:DN x A H (upd (upd J x (.ins aa A.dx (aN (.int z.R) (.ref A.pw) (.ref A.pm) (.ref A.pt) (.int z.b) (.int z.t) (.int z.e) (.int (n+z.w)) (.bl true) (.ref A.pk) (.ref A.pf) (.ref A.pa)))) A.pa (.dK (putK z.Ag (ik z.b) (.bl true)))):=fun b u e a1 C G F m v i=>by rw[aj i,aj a1];exact O b u e a1
 exact q p _ (j.none E hp) (fun b u e a1 C G F m v i=>bQ (j b u e a1 C G F m v i) hp) (E.same (aG hp)) aq
include T in theorem jv:MA P w K mg base aa "clock_is_out" 1 ["self","turn"] (dQ aa au ai):=by
 exists 0,T.eO,qY,dQ;rename_i x n;refine⟨_,(ar (aK (du (da NX (av (pv 0) T.ay T.cO rfl) cx (nomark _)) (oi (da CI (pv 1) (av (pv 0) T.ay T.cO rfl) (nomark _)))))),?_⟩;obtain⟨A,z,r,d,hc,q⟩:=h;have hx:=d.hx;rcases hc with⟨hc,rfl⟩|⟨c,hc,rfl⟩
 ·
  rw[hc] at hx;exists hx;exact q
 ·
  rw[hc] at hx;exists hx;exact q
include T in theorem zR:MA P w K mg base aa "go_new" 2 ["self","turn"] (kq aa au ai):=by
 exists 0,T.mS,qm,kq;rename_i x n;refine⟨_,(ao (aP (i:=2) qm.1.nd rfl (Or.inl rfl) (av (pv 0) T.ay T.bu rfl))
 (yd (bI (aQ (bT K rfl HR.units) (av (pv 0) T.ay T.a8 rfl) (av (pv 0) T.ay T.bu rfl) (nomark _)) (ar (bL (bU (pv 0) T.ay (dA T) HR (by decide) (aE (pv 1) aw)))) aZ)
 (ao (FG HR.units (av (pv 0) T.ay T.cN rfl) (pv 2) (pv 1))
 (ao (rj (pv 0) ak T.ay T.bu rF)
 (ar (aK (cI (aE bE (aE (pv 2) aw))))))))),?_⟩
 obtain⟨A,z,f,hl,q⟩:=h;exists f.hx;refine⟨fun j H'=>lL x H H'/\b_ aa au ai H' x A {z with clk:=if z.b=z.t then .int (n+z.w) else z.clk}/\j= [some (.ref x),some (.int n),some (.int z.t)],?_,?_⟩
 ·
  exists f.hx;by_cases c:z.b=z.t
  ·
   rw[if_pos c,if_pos c];exact⟨A,z,f,fun H' v S'=>⟨v,S'⟩⟩
  ·
   rw[if_neg c,if_neg c];exact⟨lL.refl,f⟩
 rintro j O ⟨v,d,rfl⟩;generalize(if z.b=z.t then V.int (n+z.w) else z.clk)=ck at*
 have m:A.pf≠x:=bX f.hf f.hx (by simp);exists d.hx,d.hf,aj m.symm;refine⟨by rw[sizeLine_eq];lia,fun p hp=>?_⟩;have J:=d.row (u:= .dK (putK z.Fi (ik z.t) (.int n))) d.hf z.T z.Kn (putK z.Fi (ik z.t) (.int n)) (by simp) (by simp) (by rw[aj (bX d.ht d.hf (by simp))];exact d.ht) (by rw[aj d.kf];exact d.hk) aq d.fa;have F:=J.put z.b (z.t+1) z.e ck z.hur;have fr:AR x A H (upd (upd O A.pf (.dK (putK z.Fi (ik z.t) (.int n)))) x (.ins aa A.dx (aN (.int z.R) (.ref A.pw) (.ref A.pm) (.ref A.pt) (.int z.b) (.int (z.t+1)) (.int z.e) ck (.bl z.hur) (.ref A.pk) (.ref A.pf) (.ref A.pa)))):=fun b u e a1 E I G C y=>by rw[aj a1,aj y];exact v b u e a1
 exact q p _ (fr.none F hp) (fun b u e a1 E I G C y=>bQ (fr b u e a1 E I G C y) hp) (F.same (aG hp)) aq
include T in theorem rp:MA P w K mg base aa "ask_for_room" 3 ["self","turn"] (dR aa au ai):=by
 exists 0,T.eP,qZ,dR;rename_i x n;refine⟨_,(ao (bI (aQ lO (av (pv 0) T.ay T.cO rfl) cx (nomark _)) (ao (bL (bU (pv 0) T.ay (dA T) HR (by decide) (aE (pv 1) aw)))
 (aH (ar (aK cx)))) aZ)
 (aH (ao (bI (eE (oh (bU (pv 0) T.ay (jv T) HR (by decide) (aE (pv 1) aw)))) (ar (aK cx)) aZ)
 (aH (ao (bL (bK (av (pv 0) T.ay T.cp rfl) T.bF (sD T) HR (by decide)))
 (aH (ao (bL (bU (pv 0) T.ay (dA T) HR (by decide) (aE (pv 1) aw)))
 (aH (ar (aK (cI (aE bE (aE cx aw))))))))))))),?_⟩
 obtain⟨A,z,d,hc,q⟩:=h;generalize h_u1:ax _=X;generalize h_u2:ax _=Z;exists d.hx;by_cases c0:z.clk = .non
 ·
  rw[if_pos c0];refine⟨A,z,d,fun C m j=>?_⟩;rw[<-h_u1,ax];exists 9;exact q .non C _ (fun b u e a1 _ _ _ _ _ _=>m b u e a1) j (.inl ⟨c0,rfl,rfl⟩)
 rw[if_neg c0];obtain⟨i,hi⟩: ∃i,z.clk = .int i:=hc.resolve_left c0;rw[<-h_u2,ax];generalize h_u3:ax _=u3;exists d.hx;refine⟨A,z,_,d,.inr ⟨i,hi,rfl⟩,?_⟩;by_cases c1:i<=n
 ·
  rw[if_neg (by simpa using c1)];rw[<-h_u3,ax];generalize h_u4:ax _=u4;obtain⟨s0,f,ew,hw⟩:=d.ws.ran;exists d.hx,ew;refine⟨A.dw,z.L,s0,f,z.w,rfl,?_⟩;have j:=d.ways lL.upd hw;have b1:lL A.pw H (upd H A.pw (.ins au A.dw (bB (V.int z.L) s0 f (V.int (if z.L<2*z.w then z.L else 2*z.w))))):=lL.upd;generalize upd H A.pw (.ins au A.dw (bB (V.int z.L) s0 f (V.int (if z.L<2*z.w then z.L else 2*z.w))))=C at*
  rw[<-h_u4,ax];generalize h_u5:ax _=u5;exists j.hx;refine⟨A,_,j,fun F m y=>?_⟩;rw[<-h_u5,ax];exists 9;intro p hp;have E:DN x A H F:=fun b u e a1 v _ _ _ _ _=>m b u (b1 b u e v) a1;exact q (.ref p) _ _ (fun b u e a1 v U O I J G=>bQ (E b u e a1 v U O I J G) hp) (y.same (aG hp)) (.inr (.inr ⟨i,hi,c1,rfl,p,rfl,E.none y hp,aq⟩))
 ·
  rw[if_pos (by simpa using c1)];exact q .non H z (fun b u e _ _ _ _ _ _ _=>e) d (.inr (.inl ⟨i,hi,by lia,rfl,rfl⟩))
include T in theorem FX:MA P w K mg base aa "go" 4 ["self","turn"] (qP aa au ai):=by
 exists 0,T.uy,Ft,qP;rename_i x n;refine⟨_,(ao (bI (PW.pt (pw_and (aQ nq (av (pv 0) T.ay T.a8 rfl) (av (pv 0) T.ay T.bu rfl) (nomark _)) (pw_and1 (oh (bU (pv 0) T.ay (jv T) HR (by decide) (aE (pv 1) aw)))))) (ao (bL (bK (av (pv 0) T.ay T.cp rfl) T.bF (sD T) HR (by decide)))
 (aH (ao (bL (bK (av (pv 0) T.ay T.cq rfl) T.bG (zU T) HR (by decide)))
 (aH (ar (aK (bU (pv 0) T.ay (oj T) HR (by decide) (aE (pv 1) aw)))))))) aZ)
 (aH (ao (bI (oh (bK (pv 0) T.ay (ro T) HR (by decide))) (ao (bL (bK (av (pv 0) T.ay T.cq rfl) T.bG (zV T) HR (by decide)))
 (aH (ar (aK (bU (pv 0) T.ay (oj T) HR (by decide) (aE (pv 1) aw)))))) aZ)
 (aH (ao (bI (oh (bK (pv 0) T.ay (tE T) HR (by decide))) (ar (aK (bU (pv 0) T.ay (zR T) HR (by decide) (aE (pv 1) aw)))) aZ)
 (aH (ao (bI (PW.pt (pw_and (oh (bK (pv 0) T.ay (kh T) HR (by decide))) (pw_and1 (aQ (bT K rfl HR.units) (av (pv 0) T.ay T.a8 rfl) (av (pv 0) T.ay T.bu rfl) (nomark _))))) (ar (aK (bU (pv 0) T.ay (rp T) HR (by decide) (aE (pv 1) aw)))) aZ)
 (ar (aK cx))))))))),?_⟩
 obtain⟨A,z,J,hb,hc,hAg,hFi,q⟩:=h;generalize h_ua:ax _=ua;generalize h_u1:ax _=u1;obtain⟨s0,O,ew,hw⟩:=J.ws.ran;exists J.hx,ew;have f:(z.b<z.t->Hi z.clk n=false)->u1 {nx:=fun _ H'=>Q .non H',rt:=Q} [some (.ref x),some (.int n)] H:=by
  intro y;rw[<-h_u1,ax];generalize h_ub:ax _=ub;generalize h_u2:ax _=u2;exists J.hx;refine⟨A,z,J,hb,fun I C=>?_⟩;have m:=J.same C;obtain⟨em,hi⟩:=m.ms;have ehd:Je z=(decide (z.b<z.t) && !z.hur&&decide ((2:Int)<=kab z)):=rfl;rw[<-ehd];cases hh:Je z
  ·
   rw[if_neg (by decide)];rw[<-h_u2,ax];generalize h_u3:ax _=u3;exists m.hx;refine⟨A,z,m,hb,fun U G=>?_⟩;have d:=m.same G;have E:DN x A H U:=fun b u e _ _ _ _ _ _ _=>G _ _ (C _ _ e);have F: ∀p,U p=none->H p=none:=fun p hp=>by
    cases e:H p with
    |none=>rfl
    |some u=>rw[G _ _ (C _ _ e)] at hp;cases hp
   have enm:cM z=(decide (z.t<z.T.length)&&decide (z.t<z.e)&&decide (z.t - z.b - kab z<z.wi)):=rfl;rw[<-enm];cases hn:cM z
   ·
    rw[if_neg (by decide)];rw[<-h_u3,ax];exists d.hx;refine⟨A,z,d,?_⟩;have qn: ¬(z.t<z.T.length/\z.b=z.t)->Q .non U:=fun X=>q .non U z E d (.inr ⟨y,.inr ⟨hh,.inr ⟨hn,.inr ⟨X,rfl,rfl⟩⟩⟩⟩);by_cases c1:z.t<z.T.length
    ·
     by_cases c2:z.b=z.t
     ·
      rw[if_pos c1,if_pos c2];exact⟨A,z,d,hc,fun v H' z' fr S' g=>q v H' z' (E.trans fr) S' (.inr ⟨y,.inr ⟨hh,.inr ⟨hn,.inl ⟨c1,c2,g.fr F⟩⟩⟩⟩)⟩
     ·
      rw[if_pos c1,if_neg c2];exact qn fun c=>c2 c.2
    ·
     rw[if_neg c1];exact qn fun c=>c1 c.1
   ·
    rw[if_pos rfl];exists d.hx;refine⟨A,z,d,hFi,fun p H3 hp fr S3 j=>?_⟩;exact q (.ref p) H3 _ (E.trans fr.seven) S3 (.inr ⟨y,.inr ⟨hh,.inl ⟨hn,rfl,p,rfl,F p hp,j⟩⟩⟩)
  ·
   rw[if_pos rfl];exists m.hx,em;refine⟨A.dm,z.mo,z.wi,z.kn,z.co,rfl,?_⟩;have Z:1<=MeterM.hf z.wi/\MeterM.hf z.wi<=z.mo:=MeterM.afb hi.1 hi.2.1;have d:=m.meter (H':=upd I A.pm (.ins ai A.dm (ba (.int z.mo) (.int (MeterM.hf z.wi)) (.int (MeterM.hf z.wi)) (.int 0)))) lL.upd ⟨aq,⟨Z.1,Z.2,Int.le_refl _,by show(0:Int)<MeterM.hf z.wi;lia⟩⟩;have E:DN x A H (upd I A.pm (.ins ai A.dm (ba (.int z.mo) (.int (MeterM.hf z.wi)) (.int (MeterM.hf z.wi)) (.int 0)))):=fun b u e _ _ a3 _ _ _ _=>by rw[aj a3];exact C b u e
   generalize upd I A.pm (.ins ai A.dm (ba (.int z.mo) (.int (MeterM.hf z.wi)) (.int (MeterM.hf z.wi)) (.int 0)))=U at*
   rw[<-h_ub,ax];exists d.hx;refine⟨A,_,d,hAg,fun p H3 hp fr S3 j=>?_⟩;exact q (.ref p) H3 _ (E.trans fr) S3 (.inr ⟨y,.inl ⟨hh,rfl,p,rfl,E.none d hp,j⟩⟩)
 by_cases c0:z.b<z.t
 ·
  rw[if_pos c0];have hr:Clk z.clk n (Hi z.clk n):=by
   rcases hc with h|⟨i,h⟩
   ·exact .inl ⟨h,by rw[h];rfl⟩
   ·exact .inr ⟨i,h,by rw[h];rfl⟩
  refine⟨A,z,_,J,hr,?_⟩;cases ho:Hi z.clk n
  ·
   rw[if_neg (by decide)];exact f fun _=>ho
  ·
   rw[if_pos rfl];refine⟨A.dw,z.L,s0,O,z.w,rfl,?_⟩;have m:=J.ways lL.upd hw;have b1:lL A.pw H (upd H A.pw (.ins au A.dw (bB (V.int z.L) s0 O (V.int (if z.L<2*z.w then z.L else 2*z.w))))):=lL.upd;generalize upd H A.pw (.ins au A.dw (bB (V.int z.L) s0 O (V.int (if z.L<2*z.w then z.L else 2*z.w))))=I at*
   obtain⟨em,hi⟩:=m.ms;rw[<-h_ua,ax];generalize h_ud:ax _=ud;exists m.hx,em;refine⟨A.dm,z.mo,z.wi,z.kn,z.co,rfl,?_⟩;have d:=m.meter (H':=upd I A.pm (.ins ai A.dm (ba (.int z.mo) (.int 1) (.int (MeterM.hf z.wi)) (.int 0)))) lL.upd ⟨aq,⟨Int.le_refl _,Int.le_trans hi.1 hi.2.1,Int.le_refl _,by show(0:Int)<1;lia⟩⟩;have E:DN x A H (upd I A.pm (.ins ai A.dm (ba (.int z.mo) (.int 1) (.int (MeterM.hf z.wi)) (.int 0)))):=fun b u e _ a2 a3 _ _ _ _=>by rw[aj a3];exact b1 b u e a2
   generalize upd I A.pm (.ins ai A.dm (ba (.int z.mo) (.int 1) (.int (MeterM.hf z.wi)) (.int 0)))=U at*
   rw[<-h_ud,ax];exists d.hx;refine⟨A,_,d,hAg,fun p H3 hp fr S3 j=>?_⟩;exact q (.ref p) H3 _ (E.trans fr) S3 (.inl ⟨c0,ho,rfl,p,rfl,E.none d hp,j⟩)
 ·
  rw[if_neg c0];exact f fun c=>absurd c c0
include T in theorem Bp:MA P w K mg base aa "heard" 4 ["self","number","room","held","turn"] (mv aa au ai):=by
 exists 0,T.oJ,gK,mv;rename_i x nu X hd tn;refine⟨_,(ao (aP (i:=5) gK.1.nd rfl (Or.inl rfl) (bq (Ho T) HR (by decide) rfl (aE (av (pv 0) T.ay T.lR rfl) (aE (av (pv 0) T.ay T.a8 rfl) (aE (pv 1) aw)))))
 (aH (ao (bI (aQ vN (pv 5) (aF cZ (av (pv 0) T.ay T.bu rfl) (av (pv 0) T.ay T.a8 rfl)) (nomark _)) (ar (aK (jt aw))) aZ)
 (aH (ao (aP (i:=6) gK.1.nd rfl (Or.inl rfl) (aF (a_ K rfl) (bU (pv 0) T.ay (vo T) HR (by decide) (aE (pv 5) aw)) (bU (pv 0) T.ay (vn T) HR (by decide) (aE (pv 3) aw))))
 (aH (ao (aT (pv 0) (a9 (uW rfl) (by rfl) T.DE DC (aE (av (pv 0) T.ay T.dv rfl) (aE (aF (a_ K rfl) (av (pv 0) T.ay T.a8 rfl) (pv 2)) aw))) T.ay T.dv)
 (aH (ao (gr PassesOwn.never rfl (c7 K rfl (pv 6)) (bC (i:=7) gK.1.nd rfl (Or.inl rfl)) (ar (bI (zG (IP HR.units (pv 7) (av (pv 0) T.ay T.cU rfl)) (jx rfl)) (ar (bL (bU (av (pv 0) T.ay T.cp rfl) T.bF (zN T) HR (by decide) (aE (aF cZ (pv 4) (NR HR.units (av (pv 0) T.ay T.cN rfl) (pv 7) (fun _ _=>rfl))) aw)))) aZ)))
 (aH (ao (bL (bU (av (pv 0) T.ay T.cq rfl) T.bG (CN T) HR (by decide) (aE (a9 (fQ K rfl) (by rfl) T.l9 iR (aE (pv 6) aw)) aw)))
 (aH (ao (bI (aQ vN (pv 5) ak (nomark _)) (ao (aT (pv 0) (lX (aQ nq (av (pv 0) T.ay T.a8 rfl) (av (pv 0) T.ay T.bu rfl) (nomark _)) (aF (a_ K rfl) (pv 4) (av (av (pv 0) T.ay T.cp rfl) T.bF T.df rfl)) cx) T.ay T.cO)
 (ar (aT (pv 0) d5 T.ay T.cg))) aZ)
 (ar (aK (pv 6)))))))))))))))),?_⟩
 obtain⟨A,z,hs,hS,hb,hR,hhd,hsl,hnd,RF,hT,hkl,ht,hk,q⟩:=h;generalize h_u0:ax _=u0;exists hS.hx;refine⟨hR,?_⟩;rw[<-h_u0,ax];generalize h_u1:ax _=u1;exists hS.hx;have ef:(nu - z.b) % z.R=far' z nu:=rfl;rw[ef];have far0:0<=far' z nu:=Int.emod_nonneg _ (by lia);by_cases c0:z.t - z.b<far' z nu
 ·
  rw[if_pos c0];intro p hp;exact q p _ hp (fun b u e _ _ _ _ _ _ _=>bQ e hp) (.inl ⟨c0,aG hp,aq⟩)
 rw[if_neg c0];have b0:=hb.b0;have bt:=hb.bt;rw[<-h_u1,ax];generalize h_u2:ax _=u2;exists hS.hx;refine⟨A,z,hS,hb,⟨far0,by lia⟩,by lia,fun fs p H1 efs hp fr S1 l1=>?_⟩;obtain rfl:fs=yO z nu:=efs;replace S1:b_ aa au ai H1 x A (nN z nu):=S1;have hd1:=fr.tup hS hhd;have npt:p≠A.pt:=fun c=>by rw[c,hS.ht] at hp;cases hp
 have fl1:(yO z nu).length<=430:=by
  have h1:(yO z nu).length<=(irg z.b (far' z nu).toNat).length:=List.length_filter_le _ _;have h2:(irg z.b (far' z nu).toNat).length=(far' z nu).toNat:=by unfold irg;rw[List.length_map,List.length_range]
  lia
 have kl1:(nN z nu).Kn.length<=z.Kn.length+(yO z nu).length:=ri;exists S1.hx;refine⟨A,_,hs,S1,hd1,by lia,by lia,fun fs2 p2 H2 efs2 hp2 fr2 S2 l2=>?_⟩;obtain rfl:fs2=xP z nu hs:=efs2;have l12:=fr2.lst S1 l1 npt;have fl2:(xP z nu hs).length<=100:=by
  have h1:(xP z nu hs).length<=(hld (nN z nu) hs).length:=List.length_filter_le _ _;have h2:=Ga (z:=nN z nu) (hs:=hs);lia
 refine DG l12 l2 (bc (by rw[List.length_map,List.length_map];lia)) fun m hp3=>?_;have fr3:AR x A H H2:=fr.trans fr2;have hp30:=fr3.none S2 hp3;have S3:=S2.same (aG (o:= .lst ((yO z nu).map V.int++(xP z nu hs).map V.int)) hp3);have f3:AR x A H (upd H2 m (.lst ((yO z nu).map V.int++(xP z nu hs).map V.int))):=fun b u e a1 F C U I O=>bQ (fr3 b u e a1 F C U I O) hp3;have l3:upd H2 m (.lst ((yO z nu).map V.int++(xP z nu hs).map V.int)) m=some (.lst ((yO z nu++xP z nu hs).map V.int)):=by rw[aq,List.map_append]
 generalize upd H2 m (.lst ((yO z nu).map V.int++(xP z nu hs).map V.int))=H3 at*
 rw[<-h_u2,ax];generalize h_u3:ax _=u3;exists S3.hx;have tN:((z.t.toNat:Nat):Int)=z.t:=by lia
 have i1: ∀a∈yO z nu,knw z.Kn a=false/\0<=a/\a<((z.t.toNat:Nat):Int):=fun a ha=>by
  obtain⟨m1,m2⟩:=Ce ha;have:=Km m1;exact⟨m2,by lia,by lia⟩
 have i2: ∀a∈xP z nu hs,knw (nN z nu).Kn a=false/\0<=a/\a<((z.t.toNat:Nat):Int):=fun a ha=>by
  obtain⟨m1,m2⟩:=Ce ha;obtain⟨h1,k,hk1,rfl⟩:=Ko m1;have h2:=RF k hk1;have h3:(nN z nu).b=z.b+far' z nu:=rfl;have h4:(nN z nu).t=z.t:=rfl;exact⟨m2,by lia,by lia⟩
 have n1:(yO z nu).Nodup:=List.Pairwise.filter _ EV;have n2:(xP z nu hs).Nodup:=List.Pairwise.filter _ (EW hnd);have c1:=yT n1 i1;have c2:=yT n2 i2;have c3:=XM (D:=putAll (nN z nu).Kn (xP z nu hs)) (t:=z.t.toNat);have tot:z.k+((yO z nu).length+(xP z nu hs).length)<=430:=by
  have e1:cnt (nN z nu).Kn z.t.toNat=cnt (putAll z.Kn (yO z nu)) z.t.toNat:=rfl;lia
 have hpl: ∀a∈yO z nu++xP z nu hs,0<=a/\a<z.t:=fun a ha=>by
  rcases List.mem_append.mp ha with h|h
  ·have:=i1 a h;lia
  ·have:=i2 a h;lia
 have efl:(yO z nu++xP z nu hs).length=(yO z nu).length+(xP z nu hs).length:=List.length_append;clear c1 c2 c3 i1 i2 n1 n2;have S4:=S3.put (nN z nu).b (nN z nu).t (if(nN z nu).e<(nN z nu).b+X then(nN z nu).b+X else(nN z nu).e) (nN z nu).clk (nN z nu).hur;have n3x:m≠x:=bX l3 S3.hx (by simp);generalize hE:(if(nN z nu).e<(nN z nu).b+X then(nN z nu).b+X else(nN z nu).e)=e' at*
 have l4:upd H3 x (HO.ins aa A.dx (aN (V.int (nN z nu).R) (V.ref A.pw) (V.ref A.pm) (V.ref A.pt) (V.int (nN z nu).b) (V.int (nN z nu).t) (V.int e') (nN z nu).clk (V.bl (nN z nu).hur) (V.ref A.pk) (V.ref A.pf) (V.ref A.pa))) m=some (.lst ((yO z nu++xP z nu hs).map V.int)):=by rw[aj n3x];exact l3
 have f4:AR x A H (upd H3 x (HO.ins aa A.dx (aN (V.int (nN z nu).R) (V.ref A.pw) (V.ref A.pm) (V.ref A.pt) (V.int (nN z nu).b) (V.int (nN z nu).t) (V.int e') (nN z nu).clk (V.bl (nN z nu).hur) (V.ref A.pk) (V.ref A.pf) (V.ref A.pa)))):=fun b u e a1 F C U I O=>by rw[aj a1];exact f3 b u e a1 F C U I O
 generalize upd H3 x (HO.ins aa A.dx (aN (V.int (nN z nu).R) (V.ref A.pw) (V.ref A.pm) (V.ref A.pt) (V.int (nN z nu).b) (V.int (nN z nu).t) (V.int e') (nN z nu).clk (V.bl (nN z nu).hur) (V.ref A.pk) (V.ref A.pf) (V.ref A.pa)))=H4 at*
 obtain⟨d,j⟩: ∃d:Sd,d=⟨z.R,z.b+far' z nu,z.t,e',z.clk,z.hur,z.T,putAll (nN z nu).Kn (xP z nu hs),z.Fi,z.Ag,z.L,z.w,z.k,z.wi,z.g,z.mo,z.kn,z.co⟩:=⟨_,rfl⟩;replace S4:b_ aa au ai H4 x A d:=by rw[j];exact S4
 have e4F:d.Fi=z.Fi:=by rw[j]
 have e4k:d.k=z.k:=by rw[j]
 have e4A:d.Ag=z.Ag:=by rw[j]
 have e4L:d.L=z.L:=by rw[j]
 have e4w:d.w=z.w:=by rw[j]
 have e4g:d.g=z.g:=by rw[j]
 have J:d.mo=z.mo/\d.wi=z.wi/\d.kn=z.kn/\d.co=z.co:=by rw[j];exact⟨rfl,rfl,rfl,rfl⟩
 clear S3 S2 S1 l3 f3 l1 l12 l2;rw[<-h_u3,ax];generalize h_u4:ax _=u4;exists 9;generalize hfs:yO z nu++xP z nu hs=fs at*
 have kk: ∀{i:Nat} {c:Int},fs[i]?=some c->mall z tn (fs.take (i+1))=Mw z tn (mall z tn (fs.take i)) c:=fun{i c} hc=>by
  rw[List.take_add_one,hc];exact LV
 have S40:b_ aa au ai H4 x A {d with w:=z.w,g:=z.g,k:=z.k}:=by
  have e:({d with w:=z.w,g:=z.g,k:=z.k}:Sd)=d:=by rw[j]
  rw[e];exact S4
 refine rG (xs:=fs.map V.int) (cQ.of l4) (fun i σ H'=> ∃v7,(mall z tn (fs.take i)).2.2<=z.k+i/\AR x A H H'/\H' m=some (.lst (fs.map V.int))/\b_ aa au ai H' x A {d with w:=(mall z tn (fs.take i)).1,g:=(mall z tn (fs.take i)).2.1,k:=(mall z tn (fs.take i)).2.2}/\σ= [some (.ref x),some (.int nu),some (.int X),some (.ref hd),some (.int tn),some (.int (far' z nu)),some (.ref m),v7]) ⟨none,by show z.k<=z.k+0;lia,f4,l4,S40,rfl⟩ (fun i σ H' _ hp=>by obtain⟨_,_,_,hh,_⟩:=hp;exact cQ.of hh) (fun i y σ H5 hy hp=>?_) (fun σ H5 hp=>?_)
 ·
  obtain⟨v7,kle,f5,Z,v,rfl⟩:=hp;obtain⟨c,rfl,hci⟩:=tJ hy;have il:i<fs.length:=(List.getElem?_eq_some_iff.mp hci).1;obtain⟨c0',c1'⟩:=hpl c (List.mem_of_getElem? hci);obtain⟨f,hf,g0,g1⟩:=hT c c0' c1';obtain⟨s0,sp0,ew⟩:=v.ws.ins;have hf5:=v.hf;have ha5:=v.ha;have ff:RP z c=f:=by unfold RP;rw[hf]
  rw[kk hci];generalize mall z tn (fs.take i)=s at*
  exists v.hx,ha5,hf5,ew;cases ea:(bJ d.Ag (ik c)).isSome
  ·have e1:Mw z tn s c=(mws z.L (mgs s.2.1 (tn - f)),mgs s.2.1 (tn - f),s.2.2+1):=by
    unfold Mw knw;rw[<-e4A,ea,ff];rfl
   rw[if_pos rfl,e1];refine⟨_,by rw[e4F];exact hf,?_⟩;exists 9;exact WS.meas (E:=E0) (Q:=fun _ H'=> ∃v7,s.2.2+1<=z.k+(i+1)/\AR x A H H'/\H' m=some (.lst (fs.map V.int))/\b_ aa au ai H' x A {d with w:=mws z.L (mgs s.2.1 (tn - f)),g:=mgs s.2.1 (tn - f),k:=s.2.2+1}/\([some (.ref x),some (.int nu),some (.int X),some (.ref hd),some (.int tn),some (.int (far' z nu)),some (.ref m),some (.int c)]:St)= [some (.ref x),some (.int nu),some (.int X),some (.ref hd),some (.int tn),some (.int (far' z nu)),some (.ref m),v7]) v.ws (by show s.2.2<=440;lia) g0 g1 (fun H6 hB hw=>⟨_,by lia,fun b u e a1 F C U I O=>hB _ _ (f5 b u e a1 F C U I O) F,hB _ _ Z (v.nw Z (by simp)).2.1,by rw[<-e4L];exact v.ways hB hw,rfl⟩)
  ·have e1:Mw z tn s c=s:=by
    unfold Mw knw;rw[<-e4A,ea];rfl
   rw[if_neg (by decide),e1];exact⟨_,by lia,f5,Z,v,rfl⟩
 obtain⟨v7,kle,f5,Z,v,rfl⟩:=hp;rw[List.length_map,List.take_length] at v;obtain⟨em,hi⟩:=v.ms;rw[<-h_u4,ax];generalize h_u5:ax _=u5;exists v.hx,Z,em;refine⟨by rw[List.length_map];lia,A.dm,d.mo,d.wi,d.kn,d.co,rfl,?_⟩;have elen:((fs.map V.int).length:Int).toNat=fs.length:=by rw[List.length_map];lia
 rw[elen];have hst0:MeterM.kn d.mo d.kn fs.length (d.wi,d.co)=MeterM.kn z.mo z.kn fs.length (z.wi,z.co):=by rw[J.1,J.2.1,J.2.2.1,J.2.2.2]
 rw[hst0];generalize hst:MeterM.kn z.mo z.kn fs.length (z.wi,z.co)=st at*
 have hin:MeterM.X0 d.mo st:=by rw[<-hst0];exact MeterM.inb _ _ hi
 have S6:=v.meter (H':=upd H5 A.pm (.ins ai A.dm (ba (.int d.mo) (.int st.1) (.int d.kn) (.int st.2)))) lL.upd ⟨aq,hin⟩;have l6:upd H5 A.pm (.ins ai A.dm (ba (.int d.mo) (.int st.1) (.int d.kn) (.int st.2))) m=some (.lst (fs.map V.int)):=by rw[aj (v.nw Z (by simp)).2.2];exact Z
 have f6:AR x A H (upd H5 A.pm (.ins ai A.dm (ba (.int d.mo) (.int st.1) (.int d.kn) (.int st.2)))):=fun b u e a1 F C U I O=>by rw[aj C];exact f5 b u e a1 F C U I O
 generalize upd H5 A.pm (.ins ai A.dm (ba (.int d.mo) (.int st.1) (.int d.kn) (.int st.2)))=H6 at*
 clear v S4 Z f5 em;obtain⟨s0,sp0,ew⟩:=S6.ws.ins;have hE':e'=if z.e<z.b+far' z nu+X then z.b+far' z nu+X else z.e:=hE.symm;rw[<-h_u5,ax];exists S6.hx,ew;subst j;have G:fsh z nu hs=fs:=hfs;by_cases d0:0<far' z nu
 ·
  rw[if_pos d0];have fin: ∀c:V,c=(if z.b+far' z nu<z.t then .int (tn+(mall z tn fs).1) else .non)->Q (.ref m) (upd H6 x (HO.ins aa A.dx (aN (V.int z.R) (V.ref A.pw) (V.ref A.pm) (V.ref A.pt) (V.int (z.b+far' z nu)) (V.int z.t) (V.int e') c (V.bl false) (V.ref A.pk) (V.ref A.pf) (V.ref A.pa)))):=fun c hcu=>by
   have S7:=S6.put (z.b+far' z nu) z.t e' c false;refine q m _ hp30 (fun b u e a1 F C U I O _=>by rw[aj a1];exact f6 b u e a1 F C U I O) (.inr ⟨by lia,?_,by rw[aj n3x,G];exact l6⟩);unfold hrd;rw[G,if_pos d0,if_pos d0,hst,<-hcu,<-hE'];exact S7
  by_cases d1:z.b+far' z nu<z.t
  ·
   rw[if_pos d1] at fin⊢;exact fin _ rfl
  ·
   rw[if_neg d1] at fin⊢;exact fin _ rfl
 ·
  rw[if_neg d0];refine q m _ hp30 f6.seven (.inr ⟨by lia,?_,by rw[G];exact l6⟩);unfold hrd;rw[G,if_neg d0,if_neg d0,hst,<-hE'];exact S6
include T in theorem wN:MA P w K mg base aa "__init__" 3 ["self","ring","first","longest","most"] (gV aa au ai):=by
 exists 0,T.j3,wq,gV;rename_i x r f l m;refine⟨_,(ao (aT (pv 0) (pv 1) T.ay T.lR)
 (ao (aT (pv 0) (wF T.bF (zO T) HR (by decide) rfl (aE (pv 2) (aE (pv 3) aw))) T.ay T.cp)
 (aH (ao (aT (pv 0) (wF T.bG (yq T) HR (by decide) rfl (aE (pv 4) aw)) T.ay T.cq)
 (aH (ao (aT (pv 0) (jt aw) T.ay T.c_)
 (ao (aT (pv 0) ak T.ay T.a8)
 (ao (aT (pv 0) ak T.ay T.bu)
 (ao (aT (pv 0) ak T.ay T.dv)
 (ao (aT (pv 0) cx T.ay T.cO)
 (ao (aT (pv 0) d5 T.ay T.cg)
 (aH (ao (aT (pv 0) yh T.ay T.cb)
 (aH (ao (aT (pv 0) yh T.ay T.cN)
 (aH (ar (aT (pv 0) yh T.ay T.cU)))))))))))))))))),?_⟩
 obtain⟨hf,dx,hx,q⟩:=h;generalize h_u1:ax _=u1;exists hx;intro pw dw C Z new;refine⟨dw,rfl,?_⟩;have d:x≠pw:=(fresh_ne C).symm;have ndx:x≠dw:=(fresh_ne Z).symm;exists aj d,aj ndx;obtain⟨H1,e1⟩: ∃H1,H1=upd (upd (upd (upd H x (.ins aa dx (iV (.int r)))) dw (.own pw)) pw (.ins au dw (bB (.int l) .non .non (.int f)))) x (.ins aa dx (l8 (.int r) (.ref pw))):=⟨_,rfl⟩;rw[<-e1];rw[aj d.symm] at C;rw[aj ndx.symm] at Z;have X:H1 x=some (.ins aa dx (l8 (.int r) (.ref pw))):=by rw[e1];exact aq
 have w1:H1 pw=some (.ins au dw (bB (.int l) .non .non (.int f))):=by rw[e1,aj d.symm];exact aq
 have b1:lL x H H1:=fun b o e n=>by rw[e1,aj n,aj (aL e C),aj (aL e Z),aj n];exact e
 clear e1;rw[<-h_u1,ax];generalize h_u2:ax _=u2;exists 9;intro pm dm E ndm nem;refine⟨dm,rfl,?_⟩;have i:x≠pm:=aL X E;have ndx2:x≠dm:=aL X ndm;exists aj i,aj ndx2,X;obtain⟨F,e2⟩: ∃F,F=upd (upd (upd H1 dm (.own pm)) pm (.ins ai dm (ba (.int m) (.int (MeterM.mn 2 m)) (.int m) (.int 0)))) x (.ins aa dx (l7 (.int r) (.ref pw) (.ref pm))):=⟨_,rfl⟩;rw[<-e2];have RE:F x=some (.ins aa dx (l7 (.int r) (.ref pw) (.ref pm))):=by rw[e2];exact aq
 have m2:F pm=some (.ins ai dm (ba (.int m) (.int (MeterM.mn 2 m)) (.int m) (.int 0))):=by rw[e2,aj i.symm];exact aq
 have b2:lL x H1 F:=fun b o e n=>by rw[e2,aj n,aj (aL e E),aj (aL e ndm)];exact e
 have nwm:pw≠pm:=aL w1 E;have w2:=b2 _ _ w1 d.symm;clear e2;rw[<-h_u2,ax];generalize h_u3:ax _=u3;exists 9;intro pt npt;have j:x≠pt:=aL RE npt;exists aj j,RE;obtain⟨I,e3⟩: ∃I,I=upd (upd F pt (.lst [])) x (.ins aa dx (lZ (.int r) (.ref pw) (.ref pm) (.ref pt) (.int 0) (.int 0) (.int 1) .non (.bl false))):=⟨_,rfl⟩;rw[<-e3];have hx3:I x=some (.ins aa dx (lZ (.int r) (.ref pw) (.ref pm) (.ref pt) (.int 0) (.int 0) (.int 1) .non (.bl false))):=by rw[e3];exact aq
 have t3:I pt=some (.lst []):=by rw[e3,aj j.symm];exact aq
 have b3:lL x F I:=fun b o e n=>by rw[e3,aj n,aj (aL e npt)];exact e
 clear e3;rw[<-h_u3,ax];generalize h_u4:ax _=u4;exists 9;intro pk O;have u:x≠pk:=aL hx3 O;exists aj u,hx3;obtain⟨G,e4⟩: ∃G,G=upd (upd I pk (.dK [])) x (.ins aa dx (jV (.int r) (.ref pw) (.ref pm) (.ref pt) (.int 0) (.int 0) (.int 1) .non (.bl false) (.ref pk))):=⟨_,rfl⟩;rw[<-e4];have hx4:G x=some (.ins aa dx (jV (.int r) (.ref pw) (.ref pm) (.ref pt) (.int 0) (.int 0) (.int 1) .non (.bl false) (.ref pk))):=by rw[e4];exact aq
 have k4:G pk=some (.dK []):=by rw[e4,aj u.symm];exact aq
 have b4:lL x I G:=fun b o e n=>by rw[e4,aj n,aj (aL e O)];exact e
 clear e4;rw[<-h_u4,ax];generalize h_u5:ax _=u5;exists 9;intro pf y;have z:x≠pf:=aL hx4 y;exists aj z,hx4;obtain⟨J,e5⟩: ∃J,J=upd (upd G pf (.dK [])) x (.ins aa dx (jU (.int r) (.ref pw) (.ref pm) (.ref pt) (.int 0) (.int 0) (.int 1) .non (.bl false) (.ref pk) (.ref pf))):=⟨_,rfl⟩;rw[<-e5];have hx5:J x=some (.ins aa dx (jU (.int r) (.ref pw) (.ref pm) (.ref pt) (.int 0) (.int 0) (.int 1) .non (.bl false) (.ref pk) (.ref pf))):=by rw[e5];exact aq
 have f5:J pf=some (.dK []):=by rw[e5,aj z.symm];exact aq
 have b5:lL x G J:=fun b o e n=>by rw[e5,aj n,aj (aL e y)];exact e
 clear e5;rw[<-h_u5,ax];exists 9;intro pa v;have U:x≠pa:=aL hx5 v;exists aj U,hx5;have b6:lL x J (upd (upd J pa (.dK [])) x (.ins aa dx (aN (.int r) (.ref pw) (.ref pm) (.ref pt) (.int 0) (.int 0) (.int 1) .non (.bl false) (.ref pk) (.ref pf) (.ref pa)))):=fun b o e n=>by rw[aj n,aj (aL e v)];exact e
 have k5:=b5 _ _ k4 u.symm;have fr: ∀b,b∈[pw,pm,pt,pk,pf,pa]->H b=none:=fun b hb=>by
  simp only[List.mem_cons,List.not_mem_nil,or_false] at hb;have B2:lL x H F:=fun b o e n=>b2 _ _ (b1 b o e n) n;have B3:lL x H I:=fun b o e n=>b3 _ _ (B2 b o e n) n;have B4:lL x H G:=fun b o e n=>b4 _ _ (B3 b o e n) n;have B5:lL x H J:=fun b o e n=>b5 _ _ (B4 b o e n) n;rcases hb with rfl|rfl|rfl|rfl|rfl|rfl
  ·exact C
  ·exact dI b1 i E
  ·exact dI B2 j npt
  ·exact dI B3 u O
  ·exact dI B4 z y
  ·exact dI B5 U v
 refine q ⟨dx,pw,pm,pt,pk,pf,pa,dw,dm⟩ _ (fun b o e n=>b6 _ _ (b5 _ _ (b4 _ _ (b3 _ _ (b2 _ _ (b1 b o e n) n) n) n) n) n) fr ⟨aq,b6 _ _ (b5 _ _ (b4 _ _ t3 j.symm) j.symm) j.symm,b6 _ _ k5 u.symm,b6 _ _ f5 z.symm,by rw[aj U.symm];exact aq,⟨by show 2<=l;lia,by show 2<=f/\f<=l;lia,.inl ⟨rfl,rfl,b6 _ _ (b5 _ _ (b4 _ _ (b3 _ _ w2 d.symm) d.symm) d.symm) d.symm⟩⟩,⟨b6 _ _ (b5 _ _ (b4 _ _ (b3 _ _ m2 i.symm) i.symm) i.symm) i.symm,?_⟩,aL k4 y,aL k5 v,aL f5 v,d,i,nwm⟩;show 1<=MeterM.mn 2 m/\MeterM.mn 2 m<=m/\(0:Int)<=0/\(0:Int)<MeterM.mn 2 m;unfold MeterM.mn;split<;>lia
include T in theorem yn:MA P w K mg base az "__init__" 1 ["self","ring","room"] (i6 az):=by
 exists 0,T.lF,xY,i6;rename_i x r m;refine⟨_,(ao (aT (pv 0) (pv 1) T.bp T.jy)
 (ao (aT (pv 0) (pv 2) T.bp T.nI)
 (ao (aT (pv 0) ak T.bp T.cA)
 (ao (aT (pv 0) ak T.bp T.dg)
 (ar (aT (pv 0) yh T.bp T.cV)))))),?_⟩
 obtain⟨dx,hx,q⟩:=h;exists hx;intro f h1;have n1:x≠f:=(fresh_ne h1).symm;exists aj n1;have k1:H f=none:=by rw[aj n1.symm] at h1;exact h1
 refine q f _ k1 ?_ ⟨aq,?_⟩
 ·
  intro b o i d;rw[aj d,aj (aL i k1),aj d];exact i
 ·rw[aj n1.symm,aq]
include T in theorem c6:MA P w K mg base az "room_left" 1 ["self"] (gS az):=by
 exists 0,T.jX,wg,gS;rename_i x;refine⟨_,(ar (aK (aF cZ (aF (a_ K rfl) (av (pv 0) T.bp T.dg rfl) (av (pv 0) T.bp T.nI rfl)) (av (pv 0) T.bp T.cA rfl)))),?_⟩;obtain⟨dx,pk,z,d,q⟩:=h;exists d.hx;exact q
include T in theorem qp:MA P w K mg base az "stand_in_order" 1 ["self"] (dE az):=by
 exists 0,T.dY,iS,dE;rename_i x;refine⟨_,(ao (aP (i:=1) iS.1.nd rfl (Or.inl rfl) (jt aw))
 (ao (Hg PassesOwn.never (zG (NU HR.units (av (pv 0) T.bp T.cA rfl) (av (pv 0) T.bp T.cV rfl)) (jx rfl)) (ao (bL (rk K rfl (pv 1) (NR HR.units (av (pv 0) T.bp T.cV rfl) (av (pv 0) T.bp T.cA rfl) (fun _ _=>rfl))))
 (ar (rj (pv 0) ak T.bp T.cA rF))))
 (ar (aK (pv 1))))),?_⟩
 obtain⟨dx,pk,z,B,F,U,O,q⟩:=h;exists 9;intro p hp;have f:p≠x:=(aL F.hx hp).symm;have G:p≠pk:=(aL F.hD hp).symm;have Z:=F.same (aG (o:= .lst []) hp);have l1:=aq (H:=H) (a:=p) (o:= .lst []);have X:KU x pk H (upd H p (.lst [])):=fun b u e _ _=>bQ e hp;generalize upd H p (.lst [])=H1 at*
 refine⟨fun m σ H'=> ∃n:Nat,m=(B - (z.g+n)).toNat/\(∀j:Nat,j<n->(bJ z.D (ik (z.g+j))).isSome=true)/\KU x pk H H'/\l_ az H' x dx pk {z with g:=z.g+n}/\H' p=some (.lst (vals z.D z.g n))/\σ= [some (.ref x),some (.ref p)],⟨_,0,rfl,fun j J=>by lia,X,by simpa using Z,by simpa [vals] using l1,rfl⟩,?_⟩;rintro m σ H' ⟨n,rfl,hn,I,d,hl,rfl⟩;exists d.hx,d.hD,hl,aj f.symm;have hlen:(vals z.D z.g n).length=n:=by simp[vals]
 cases E:bJ z.D (ik (z.g+n)) with
 |none=>
  rw[if_neg (by simp)];exact q n p H' ⟨hn,E⟩ hp I d hl
 |some v=>
  rw[if_pos (by simp)];have hb:=U _ (by rw[E];rfl);refine⟨fun C y=>y=upd (upd H' p (.lst (vals z.D z.g n++ [v]))) x (.ins az dx (bY (.int z.R) (.int z.M) (.int (z.g+n+1)) (.int z.o) (.ref pk)))/\C= [some (.ref x),some (.ref p)],?_,?_⟩
  ·
   rintro C y ⟨rfl,rfl⟩;refine⟨(B - (z.g+(n+1:Nat))).toNat,by lia,n+1,rfl,?_,?_,⟨?_,?_⟩,?_,rfl⟩
   ·
    intro j J;by_cases c:j<n
    ·exact hn j c
    ·
     have:j=n:=by lia
     subst this;rw[E];rfl
   ·
    intro b u e k1 k2;rw[aj k1,aj (aL e hp)];exact I b u e k1 k2
   ·
    rw[aq];show some (HO.ins az dx (bY _ _ (.int (z.g+n+1)) _ _))=some (HO.ins az dx (bY _ _ (.int (z.g+((n+1:Nat):Int))) _ _));rw[show z.g+((n+1:Nat):Int)=z.g+n+1 by lia]
   ·rw[aj F.n1,aj G.symm];exact d.hD
   ·rw[aj f,aq,y6 E]
  ·
   refine⟨qf (cQ.of hl),v,rfl,?_⟩;exists d.hx,aj f.symm;rw[hlen,sizeLine_eq];lia
include T in theorem D7:MA P w K mg base az "take" 2 ["self","number","thing"] (pI az):=by
 exists 0,T.rV,pP,pI;rename_i x m th;refine⟨_,(ao (aP (i:=3) pP.1.nd rfl (Or.inl rfl) (bq (Ho T) HR (by decide) rfl (aE (av (pv 0) T.bp T.jy rfl) (aE (av (pv 0) T.bp T.cA rfl) (aE (pv 1) aw)))))
 (ao (bI (aQ CI (pv 3) (bK (pv 0) T.bp (c6 T) HR (by decide)) (nomark _)) (ar (aK (cI (aE cx (aE (jt aw) aw))))) aZ)
 (ao (aP (i:=4) pP.1.nd rfl (Or.inl rfl) (aF (a_ K rfl) (av (pv 0) T.bp T.cA rfl) (pv 3)))
 (ao (bI (zG (IP HR.units (pv 4) (av (pv 0) T.bp T.cV rfl)) (jx rfl)) (ar (FG HR.units (av (pv 0) T.bp T.cV rfl) (pv 4) (pv 2))) aZ)
 (ar (aK (cI (aE (pv 4) (aE (bK (pv 0) T.bp (qp T) HR (by decide)) aw))))))))),?_⟩
 obtain⟨dx,pk,z,B,j,Z,U,E,X,hlen,q⟩:=h;exists j.hx;refine⟨Z,dx,pk,z,j,?_⟩;rcases q with⟨c,q⟩|⟨c,q⟩
 ·
  rw[if_pos c];intro l hl p hp;exact q p l _ (fun b o e=>bQ (bQ e hl) hp) (Cf (aG hl) hp) hl aq (bQ aq hp)
 ·
  rw[if_neg (by lia)];exists j.hD,j.hx;have d: ∀{H':Hp} {p:Addr} {J:Tk},KU x pk H H'->l_ az H' x dx pk J->H' p=none->H p=none:=fun{H' p J} fr y hp=>by
   cases e:H p with
   |none=>rfl
   |some u=>
    have:=fr p u e (fun c=>by rw[c,y.hx] at hp;cases hp) (fun c=>by rw[c,y.hD] at hp;cases hp);rw[this] at hp;cases hp
  cases O:bJ z.D (ik (z.g+(m - z.g) % z.R)) with
  |some v=>
   rw[if_neg (by simp)];refine⟨dx,pk,z,B,j,U,E,fun n l H' I hl fr y f p hp=>?_⟩;refine q z.D (by rw[O];rfl) n p l _ I (d fr y hp) hl (fun c=>by rw[c,f] at hp;cases hp) (fun b u e k1 k2=>bQ (fr b u e k1 k2) hp) (y.same (aG hp)) (bQ f hp) aq
  |none=>
   rw[if_pos (by simp)];exists j.hD,aj j.n1.symm,j.hx;refine⟨by rw[sizeLine_eq];lia,?_⟩;have T1:l_ az (upd H pk (.dK (putK z.D (ik (z.g+(m - z.g) % z.R)) (.ref th)))) x dx pk {z with D:=putK z.D (ik (z.g+(m - z.g) % z.R)) (.ref th)}:=⟨by rw[aj j.n1.symm];exact j.hx,aq⟩;have G: ∀i,(bJ (putK z.D (ik (z.g+(m - z.g) % z.R)) (.ref th)) (ik i)).isSome=true->i<B:=fun i hi=>by
    rw[xT] at hi;split at hi
    ·
     rename_i ce;have:=Sum.inl.inj ce;lia
    ·exact U i hi
   refine⟨dx,pk,_,B,T1,G,E,fun n l H' I hl fr y f p hp=>?_⟩;have C:KU x pk H H':=fun b u e k1 k2=>fr b u (by rw[aj k2];exact e) k1 k2;have F:H l=none:=by
    rw[aj (fun c=>by rw[c,aq] at hl;cases hl)] at hl;exact hl
   exact q _ (by rw[O];rfl) n p l _ I (d C y hp) F (fun c=>by rw[c,f] at hp;cases hp) (fun b u e k1 k2=>bQ (C b u e k1 k2) hp) (y.same (aG hp)) (bQ f hp) aq
include T in theorem sE:MA P w K mg base az "answer" 2 ["self"] (mq az):=by
 exists 0,T.oH,sC,mq;rename_i x;refine⟨_,(ao (FF (i:=1) (N:=(["step","self"]:List Str)) (nv:=1) (ix:=[0]) rfl sC.1.nd rfl rfl (oR (by kernel_rfl)) (uQ rfl T.dC (aE ak (aE (bK (pv 0) T.bp (c6 T) HR (by decide)) aw))) (fun _ _ _ _ _=>(bC (i:=0) (show((["step","self"]:List Str)).Nodup by decide) rfl (Or.inl rfl))) (fun _ _ _ _ _=>(uO (zG (NU HR.units (aF (a_ K rfl) (av (pv 1) T.bp T.cA rfl) (pv 0)) (av (pv 1) T.bp T.cV rfl)) (jx rfl)))) (fun _ _ _ _ _=>(pv 0)))
 (ar (aK (cI (aE (aF bH (av (pv 0) T.bp T.cA rfl) (av (pv 0) T.bp T.jy rfl)) (aE (bK (pv 0) T.bp (c6 T) HR (by decide)) (aE (wG (A4 K rfl) (by rfl) T.nM oV (aE (pv 1) aw)) aw))))))),?_⟩
 obtain⟨dx,pk,z,d,y,G,q⟩:=h;exists d.hx;refine⟨dx,pk,z,d,by lia,?_⟩;refine Gr (p:=fun v=>match v with | .int i=>(bJ z.D (ik (z.g+i))).isSome|_=>false) (f:=fun v=>v) (bc (by lia)) ?_ ?_ ?_
 ·
  intro i hi E j;exists d.hx,d.hD;exact j
 ·
  intro i hi _ E j;exists 9;exact j
 rw[held_eq];have hlen:(A2 z.D z.g (z.o+z.M - z.g - 1).toNat).length<=1000:=by
  unfold A2;rw[List.length_map];refine Nat.le_trans (List.length_filter_le _ _) ?_;rw[List.length_range];lia
 refine⟨bc (by rw[List.length_map];exact hlen),fun l hl=>?_⟩;generalize C:A2 z.D z.g (z.o+z.M - z.g - 1).toNat=hs at*
 have u:=d.same (aG (o:= .lst (hs.map V.int)) hl);have l1:=aq (H:=H) (a:=l) (o:= .lst (hs.map V.int));have m:=aG (o:= .lst (hs.map V.int)) hl;generalize upd H l (.lst (hs.map V.int))=F at*
 exists u.hx;refine⟨y,dx,pk,z,u,_,.inl ⟨cQ.of l1,fun t ht p hp=>?_⟩⟩;exact q p t hs _ (fun b o e=>bQ (bQ (m b o e) ht) hp) rfl (Cf (fun b o e=>bQ (m b o e) ht) hp) (Cf m ht) (bQ aq hp) aq
include T in theorem D8:MA P w K mg base az "read" 1 ["self","most"] (pJ az):=by
 exists 0,T.rW,pQ,pJ;rename_i x m;refine⟨_,(ao (aP (i:=2) pQ.1.nd rfl (Or.inl rfl) (jt aw))
 (ao (gr PassesOwn.never rfl (uQ rfl T.dC (aE (av (pv 0) T.bp T.dg rfl) (aE (a9 (uV rfl) (by rfl) T.Fb Gw (aE (aF (a_ K rfl) (av (pv 0) T.bp T.dg rfl) (pv 1)) (aE (av (pv 0) T.bp T.cA rfl) aw))) aw))) (bC (i:=3) pQ.1.nd rfl (Or.inl rfl)) (ar (bL (rk K rfl (pv 2) (Q6 (av (pv 0) T.bp T.cV rfl) (pv 3))))))
 (ao (rj (pv 0) (a9 (fQ K rfl) (by rfl) T.l9 iR (aE (pv 2) aw)) T.bp T.dg rF)
 (ar (aK (pv 2)))))),?_⟩
 obtain⟨dx,pk,z,F,hb,U,q⟩:=h;exists F.hx;intro p hp;have G:p≠x:=(aL F.hx hp).symm;have E:p≠pk:=(aL F.hD hp).symm;have Z:=F.same (aG (o:= .lst []) hp);have l1:=aq (H:=H) (a:=p) (o:= .lst []);have F1:KU x pk H (upd H p (.lst [])):=fun b u e _ _=>bQ e hp;generalize upd H p (.lst [])=H1 at*
 exists Z.hx;refine⟨by constructor<;>(try constructor)<;>(try constructor)<;>(try split)<;>lia,?_⟩
 generalize hN:((if z.g<z.o+m then z.g else z.o+m) - z.o).toNat=N at*
 have hN2:z.o+N<=z.g:=by split at hN<;>lia
 refine tQ (fun i σ H'=>i<=N/\∃(j:List (Key×V)) (I:Option V),(∀k:Int,bJ j (ik k)=if z.o<=k/\k<z.o+i then none else bJ z.D (ik k))/\j.Sublist z.D/\KU x pk H H'/\l_ az H' x dx pk {z with D:=j}/\H' p=some (.lst (vals z.D z.o i))/\σ= [some (.ref x),some (.int m),some (.ref p),I])
  ⟨Nat.zero_le _,z.D,none,fun k=>by rw[if_neg (by lia)],List.Sublist.refl _,F1,Z,by simpa [vals] using l1,rfl⟩ (fun i σ H' hi y=>?_) (fun σ H' y=>?_)
 ·
  obtain⟨J,j,I,f,C,O,d,hl,rfl⟩:=y;exists d.hx,d.hD,hl,aj E;obtain⟨v,X⟩:=Option.isSome_iff_exists.mp (U (z.o+i) (by lia) (by lia));refine⟨qf (cQ.of hl),v,by rw[f,if_neg (by lia)];exact X,?_⟩;refine⟨by simp[vals];rw[sizeLine_eq];lia,by lia,t8 j (ik (z.o+i)),_,fun k=>?_,(show(t8 j (ik (z.o+i))).Sublist j from List.filter_sublist).trans C,?_,⟨?_,?_⟩,by rw[y6 X],rfl⟩
  ·
   rw[KW,f];by_cases c:k=z.o+i
   ·rw[if_pos (by rw[c]),if_pos (by lia)]
   ·
    rw[if_neg (by intro q;exact c (Sum.inl.inj q))];by_cases c2:z.o<=k/\k<z.o+i
    ·rw[if_pos c2,if_pos (by lia)]
    ·rw[if_neg c2,if_neg (by lia)]
  ·
   intro b u e k1 k2;rw[aj (aL e hp),aj k2];exact O b u e k1 k2
  ·rw[aj G.symm,aj F.n1.symm];exact d.hx
  ·rw[aj E.symm,aq]
 ·
  obtain⟨J,j,I,f,C,O,d,hl,rfl⟩:=y;exists d.hx,hl;have hlen:(vals z.D z.o N).length=N:=by simp[vals]
  rw[hlen];refine q N p j _ rfl hp f C ?_ (d.put z.R z.M z.g (z.o+N)) ?_
  ·intro b u e k1 k2;rw[aj k1];exact O b u e k1 k2
  ·rw[aj G];exact hl
include T in theorem hZ:MA P w K mg base aM "__init__" 1 ["self","state","wish"] (gW aM):=by
 exists 0,T.j4,wu,gW;rename_i e v u;refine⟨_,(ao (tu T.nP T.gI (pv 0) (pv 1))
 (ar (NK T.nP T.iZ (pv 0) (pv 2)))),?_⟩
 obtain⟨he,q⟩:=h;exists he;refine⟨e,rfl,he,fun d hd=>?_⟩;have nd:d≠e:=fun z=>by rw[z,he] at hd;cases hd
 refine⟨e,rfl,d,[(("state" : Str),v)],aq,by rw[aj nd];exact aq,rfl,(show 1<1000 by decide),?_⟩;have i:upd (upd (upd H d (.xd [("state",v)])) e (.ext (uT e aM (some d)))) d (.xd ([(("state" : Str),v)]++ [(("wish" : Str),u)]))=upd (upd H d (.xd [("state",v),("wish",u)])) e (.ext (uT e aM (some d))):=by
  funext z;by_cases c1:z=d
  ·
   subst c1;rw[aq,aj nd,aq];rfl
  ·
   rw[aj c1];by_cases f:z=e
   ·subst f;rw[aq,aq]
   ·rw[aj f,aj c1,aj f,aj c1]
 rw[i];exact q d hd
include T in theorem FW:MA P w K mg base aA "name" 1 ["self"] xU:=by
 exists 0,T.ux,Fs,xU;rename_i x;refine⟨_,(ar (aK bE)),?_⟩;exists 9;exact h
include T in theorem Bv:MA P w K mg base ae "name" 1 ["self"] sA:=by
 exists 0,T.oQ,Bh,sA;rename_i x;refine⟨_,(ar (aK bE)),?_⟩;exists 9;exact h
include T in theorem FY:MA P w K mg base aB "name" 1 ["self"] xV:=by
 exists 0,T.uz,Fu,xV;rename_i x;refine⟨_,(ar (aK bE)),?_⟩;exists 9;exact h
include T in theorem FZ:MA P w K mg base aD "name" 1 ["self"] xW:=by
 exists 0,T.uA,Fv,xW;rename_i x;refine⟨_,(ar (aK bE)),?_⟩;exists 9;exact h
include T in theorem Bs:MA P w K mg base af "name" 1 ["self"] sv:=by
 exists 0,T.oN,Bf,sv;rename_i x;refine⟨_,(ar (aK bE)),?_⟩;exists 9;exact h
include T in theorem Bm:MA P w K mg base ag "name" 1 ["self"] so:=by
 exists 0,T.oG,Ba,so;rename_i x;refine⟨_,(ar (aK bE)),?_⟩;exists 9;exact h
include T in theorem Bu:MA P w K mg base ah "name" 1 ["self"] sy:=by
 exists 0,T.oP,Bg,sy;rename_i x;refine⟨_,(ar (aK bE)),?_⟩;exists 9;exact h
include T in theorem wM:MA P w K mg base aA "wish_begin" 1 ["self"] (nW aA ae aB aD af ag ah):=by
 exists 0,T.jZ,wk,nW;rename_i x;refine⟨_,(ar (aK (mE T.d8 T.wR rfl))),?_⟩;exists 9;exact fun y dx d nd _=>h y _ (cY d nd) ⟨_,dx,aq,.tail _ (.head _)⟩
include T in theorem vw:MA P w K mg base ae "wish_end" 1 ["self"] (nh aA ae aB aD af ag ah):=by
 exists 0,T.iP,vi,nh;rename_i x;refine⟨_,(ar (aK (mE T.dF T.rA rfl))),?_⟩;exists 9;exact fun y dx d nd _=>h y _ (cY d nd) ⟨_,dx,aq,.tail _ (.tail _ (.tail _ (.tail _ (.head _))))⟩
include T in theorem zS:MA P w K mg base aB "wish_end" 1 ["self"] (qi aA ae aB aD af ag ah):=by
 exists 0,T.mT,zp,qi;rename_i x;refine⟨_,(ar (aK (mE T.dF T.rA rfl))),?_⟩;exists 9;exact fun y dx d nd _=>h y _ (cY d nd) ⟨_,dx,aq,.tail _ (.tail _ (.tail _ (.tail _ (.head _))))⟩
include T in theorem zW:MA P w K mg base aD "wish_end" 1 ["self"] (qj aA ae aB aD af ag ah):=by
 exists 0,T.mW,zv,qj;rename_i x;refine⟨_,(ar (aK (mE T.dG T.rB rfl))),?_⟩;exists 9;exact fun y dx d nd _=>h y _ (cY d nd) ⟨_,dx,aq,.tail _ (.tail _ (.tail _ (.tail _ (.tail _ (.tail _ (.head _))))))⟩
include T in theorem D9:MA P w K mg base aA "begun" 1 ["self"] (vK aA ae aB aD af ag ah):=by
 exists 0,T.rX,DT,vK;rename_i x;refine⟨_,(ar (aK (mE T.oo T.Ca rfl))),?_⟩;exists 9;exact fun y dx d nd _=>h y _ (cY d nd) ⟨_,dx,aq,.tail _ (.tail _ (.head _))⟩
include T in theorem z3:MA P w K mg base ae "begun" 1 ["self"] (ql aA ae aB aD af ag ah):=by
 exists 0,T.m7,zB,ql;rename_i x;refine⟨_,(ar (aK (mE T.oo T.Ca rfl))),?_⟩;exists 9;exact fun y dx d nd _=>h y _ (cY d nd) ⟨_,dx,aq,.tail _ (.tail _ (.head _))⟩
include T in theorem D_:MA P w K mg base aB "ended" 1 ["self"] (vL aA ae aB aD af ag ah):=by
 exists 0,T.rZ,DV,vL;rename_i x;refine⟨_,(ar (aK (mE T.pT T.F7 rfl))),?_⟩;exists 9;exact fun y dx d nd _=>h y _ (cY d nd) ⟨_,dx,aq,.tail _ (.tail _ (.tail _ (.head _)))⟩
include T in theorem zX:MA P w K mg base af "ended" 1 ["self"] (qk aA ae aB aD af ag ah):=by
 exists 0,T.mX,zw,qk;rename_i x;refine⟨_,(ar (aK (mE T.dG T.rB rfl))),?_⟩;exists 9;exact fun y dx d nd _=>h y _ (cY d nd) ⟨_,dx,aq,.tail _ (.tail _ (.tail _ (.tail _ (.tail _ (.tail _ (.head _))))))⟩
include T in theorem zP:MA P w K mg base ag "ended" 1 ["self"] (qg aA ae aB aD af ag ah):=by
 exists 0,T.mR,zj,qg;rename_i x;refine⟨_,(ar (aK (mE T.mL T.yu rfl))),?_⟩;exists 9;exact fun y dx d nd _=>h y _ (cY d nd) ⟨_,dx,aq,.head _⟩
include T in theorem vt:MA P w K mg base af "answered" 1 ["self"] (m9 aA ae aB aD af ag ah):=by
 exists 0,T.iN,vg,m9;rename_i x;refine⟨_,(ar (aK (mE T.d7 T.wQ rfl))),?_⟩;exists 9;exact fun y dx d nd _=>h y _ (cY d nd) ⟨_,dx,aq,.tail _ (.tail _ (.tail _ (.tail _ (.tail _ (.head _)))))⟩
include T in theorem vv:MA P w K mg base ah "answered" 1 ["self"] (m_ aA ae aB aD af ag ah):=by
 exists 0,T.iO,vh,m_;rename_i x;refine⟨_,(ar (aK (mE T.mL T.yu rfl))),?_⟩;exists 9;exact fun y dx d nd _=>h y _ (cY d nd) ⟨_,dx,aq,.head _⟩
include T in theorem fj {C:Addr} (F:MethAt K C "begun" "State.begun" (ic 53 4)):MA P w K mg base C "begun" 1 ["self"] sX:=by
 exists 0,F,Cz,sX;rename_i x;refine⟨_,(ar (aK (pv 0))),?_⟩;exists 9;exact h
include T in theorem ju {C:Addr} (F:MethAt K C "ended" "State.ended" (ic 53 5)):MA P w K mg base C "ended" 1 ["self"] sW:=by
 exists 0,F,Cy,sW;rename_i x;refine⟨_,(ar (aK (pv 0))),?_⟩;exists 9;exact h
include T in theorem dc {C:Addr} (F:MethAt K C "answered" "State.answered" (ic 53 6)):MA P w K mg base C "answered" 1 ["self"] o8:=by
 exists 0,F,x6,o8;rename_i x;refine⟨_,(ar (aK (pv 0))),?_⟩;exists 9;exact h
include T in theorem wO:MA P w K mg base ae "may_put" 1 ["self"] nZ:=by
 exists 0,T.j5,wx,nZ;rename_i x;refine⟨_,(ar (aK d5)),?_⟩;exists 9;exact h
include T in theorem Bq:MA P w K mg base aB "may_put" 1 ["self"] sr:=by
 exists 0,T.oK,Bc,sr;rename_i x;refine⟨_,(ar (aK d5)),?_⟩;exists 9;exact h
include T in theorem Br:MA P w K mg base aD "may_put" 1 ["self"] su:=by
 exists 0,T.oM,Be,su;rename_i x;refine⟨_,(ar (aK d5)),?_⟩;exists 9;exact h
include T in theorem fL {C:Addr} (F:MethAt K C "may_put" "State.may_put" (ic 53 3)):MA P w K mg base C "may_put" 1 ["self"] qh:=by
 exists 0,F,zk,qh;rename_i x;refine⟨_,(ar (aK d5)),?_⟩;exists 9;exact h
theorem nR {aA ae aB aD af ag ah:Addr} {C:Addr} {nm:Str} (h:(C,nm)∈tbl aA ae aB aD af ag ah):(C=aA/\nm = "shut")\/(C=ae/\nm = "calling")\/(C=aB/\nm = "open")\/(C=aD/\nm = "left")\/(C=af/\nm = "leaving")\/(C=ag/\nm = "waiting")\/(C=ah/\nm = "closing"):=by
 simpa [tbl] using h
theorem zQ (T:Txt K mg):Ez P w K mg base (Ig P w) "name" 1 (y_ aA ae aB aD af ag ah):=by
 intro x H Q E h;unfold y_ at h;split at h;rotate_left
 ·exact h.elim
 rename_i x e;obtain⟨nm,d,q⟩:=h;have f:=d;obtain⟨C,dx,hx,hm⟩:=d;injection e with e1 _;rcases nR hm with⟨rfl,rfl⟩|⟨rfl,rfl⟩|⟨rfl,rfl⟩|⟨rfl,rfl⟩|⟨rfl,rfl⟩|⟨rfl,rfl⟩|⟨rfl,rfl⟩
 ·exact⟨x,_,dx,_,_,_,_,e1,hx,rfl,by decide,T.mL.cl,FW T,q⟩
 ·exact⟨x,_,dx,_,_,_,_,e1,hx,rfl,by decide,T.d8.cl,Bv T,q⟩
 ·exact⟨x,_,dx,_,_,_,_,e1,hx,rfl,by decide,T.oo.cl,FY T,q⟩
 ·exact⟨x,_,dx,_,_,_,_,e1,hx,rfl,by decide,T.pT.cl,FZ T,q⟩
 ·exact⟨x,_,dx,_,_,_,_,e1,hx,rfl,by decide,T.dF.cl,Bs T,q⟩
 ·exact⟨x,_,dx,_,_,_,_,e1,hx,rfl,by decide,T.d7.cl,Bm T,q⟩
 ·exact⟨x,_,dx,_,_,_,_,e1,hx,rfl,by decide,T.dG.cl,Bu T,q⟩
include T in theorem cG {C:Addr} (F:MethAt K C "wish_begin" "State.wish_begin" (ic 53 1)):MA P w K mg base C "wish_begin" 3 ["self"] (m8 aM aA ae aB aD af ag ah):=by
 exists 1,F,u_,m8;rename_i x;refine⟨_,(ar (fh T.nP (hZ T) T.qu HR (by decide) o_ rfl rfl rfl (aE (wD (pv 0) (zQ T) HR (by decide)) (aE bE aw)))),?_⟩;obtain⟨nm,f,q⟩:=h;exists 9;refine⟨nm,f,fun e he d hd=>?_⟩;obtain⟨s1,s2⟩:=dropxl (C:=aM) (l:=[("state",.str nm),("wish",.str "begin")]) (aW.refl H) he hd;exact⟨_,rfl,q _ d s1 s2⟩
include T in theorem eV {C:Addr} (F:MethAt K C "wish_end" "State.wish_end" (ic 53 2)):MA P w K mg base C "wish_end" 3 ["self"] (o7 aM aA ae aB aD af ag ah):=by
 exists 1,F,xZ,o7;rename_i x;refine⟨_,(ar (fh T.nP (hZ T) T.qu HR (by decide) o_ rfl rfl rfl (aE (wD (pv 0) (zQ T) HR (by decide)) (aE bE aw)))),?_⟩;obtain⟨nm,f,q⟩:=h;exists 9;refine⟨nm,f,fun e he d hd=>?_⟩;obtain⟨s1,s2⟩:=dropxl (C:=aM) (l:=[("state",.str nm),("wish",.str "end")]) (aW.refl H) he hd;exact⟨_,rfl,q _ d s1 s2⟩
theorem Bn (T:Txt K mg):Ez P w K mg base (Ig P w) "wish_begin" 3 (mm aM aA ae aB aD af ag ah):=by
 intro x H Q E h;unfold mm at h;split at h;rotate_left
 ·exact h.elim
 rename_i x e;obtain⟨nm,f,q⟩:=h;have d:=f;obtain⟨C,dx,hx,hm⟩:=f;injection e with e1 _;rcases nR hm with⟨rfl,rfl⟩|⟨rfl,rfl⟩|⟨rfl,rfl⟩|⟨rfl,rfl⟩|⟨rfl,rfl⟩|⟨rfl,rfl⟩|⟨rfl,rfl⟩
 ·exact⟨x,_,dx,_,_,_,_,e1,hx,rfl,by decide,T.mL.cl,wM T,q.1 _ (by decide+kernel)⟩
 ·exact⟨x,_,dx,_,_,_,_,e1,hx,rfl,by decide,T.d8.cl,cG T T.eK,⟨_,d,q.2 (by decide+kernel)⟩⟩
 ·exact⟨x,_,dx,_,_,_,_,e1,hx,rfl,by decide,T.oo.cl,cG T T.iz,⟨_,d,q.2 (by decide+kernel)⟩⟩
 ·exact⟨x,_,dx,_,_,_,_,e1,hx,rfl,by decide,T.pT.cl,cG T T.iB,⟨_,d,q.2 (by decide+kernel)⟩⟩
 ·exact⟨x,_,dx,_,_,_,_,e1,hx,rfl,by decide,T.dF.cl,cG T T.eI,⟨_,d,q.2 (by decide+kernel)⟩⟩
 ·exact⟨x,_,dx,_,_,_,_,e1,hx,rfl,by decide,T.d7.cl,cG T T.eG,⟨_,d,q.2 (by decide+kernel)⟩⟩
 ·exact⟨x,_,dx,_,_,_,_,e1,hx,rfl,by decide,T.dG.cl,cG T T.eJ,⟨_,d,q.2 (by decide+kernel)⟩⟩
theorem D5 (T:Txt K mg):Ez P w K mg base (Ig P w) "wish_end" 3 (pG aM aA ae aB aD af ag ah):=by
 intro x H Q E h;unfold pG at h;split at h;rotate_left
 ·exact h.elim
 rename_i x e;obtain⟨nm,f,q⟩:=h;have d:=f;obtain⟨C,dx,hx,hm⟩:=f;injection e with e1 _;rcases nR hm with⟨rfl,rfl⟩|⟨rfl,rfl⟩|⟨rfl,rfl⟩|⟨rfl,rfl⟩|⟨rfl,rfl⟩|⟨rfl,rfl⟩|⟨rfl,rfl⟩
 ·exact⟨x,_,dx,_,_,_,_,e1,hx,rfl,by decide,T.mL.cl,eV T T.lr,⟨_,d,q.2 (by decide+kernel)⟩⟩
 ·exact⟨x,_,dx,_,_,_,_,e1,hx,rfl,by decide,T.d8.cl,vw T,q.1 _ (by decide+kernel)⟩
 ·exact⟨x,_,dx,_,_,_,_,e1,hx,rfl,by decide,T.oo.cl,zS T,q.1 _ (by decide+kernel)⟩
 ·exact⟨x,_,dx,_,_,_,_,e1,hx,rfl,by decide,T.pT.cl,zW T,q.1 _ (by decide+kernel)⟩
 ·exact⟨x,_,dx,_,_,_,_,e1,hx,rfl,by decide,T.dF.cl,eV T T.gA,⟨_,d,q.2 (by decide+kernel)⟩⟩
 ·exact⟨x,_,dx,_,_,_,_,e1,hx,rfl,by decide,T.d7.cl,eV T T.gy,⟨_,d,q.2 (by decide+kernel)⟩⟩
 ·exact⟨x,_,dx,_,_,_,_,e1,hx,rfl,by decide,T.dG.cl,eV T T.gB,⟨_,d,q.2 (by decide+kernel)⟩⟩
theorem IZ (T:Txt K mg):Ez P w K mg base (Ig P w) "begun" 1 (wd aA ae aB aD af ag ah):=by
 intro x H Q E h;unfold wd at h;split at h;rotate_left
 ·exact h.elim
 rename_i x e;obtain⟨nm,f,q⟩:=h;have d:=f;obtain⟨C,dx,hx,hm⟩:=f;injection e with e1 _;rcases nR hm with⟨rfl,rfl⟩|⟨rfl,rfl⟩|⟨rfl,rfl⟩|⟨rfl,rfl⟩|⟨rfl,rfl⟩|⟨rfl,rfl⟩|⟨rfl,rfl⟩
 ·exact⟨x,_,dx,_,_,_,_,e1,hx,rfl,by decide,T.mL.cl,D9 T,q _ (by decide+kernel)⟩
 ·exact⟨x,_,dx,_,_,_,_,e1,hx,rfl,by decide,T.d8.cl,z3 T,q _ (by decide+kernel)⟩
 ·exact⟨x,_,dx,_,_,_,_,e1,hx,rfl,by decide,T.oo.cl,fj T T.pZ,q _ (by decide+kernel) _ _ (aW.refl _) d⟩
 ·exact⟨x,_,dx,_,_,_,_,e1,hx,rfl,by decide,T.pT.cl,fj T T.p8,q _ (by decide+kernel) _ _ (aW.refl _) d⟩
 ·exact⟨x,_,dx,_,_,_,_,e1,hx,rfl,by decide,T.dF.cl,fj T T.lA,q _ (by decide+kernel) _ _ (aW.refl _) d⟩
 ·exact⟨x,_,dx,_,_,_,_,e1,hx,rfl,by decide,T.d7.cl,fj T T.lq,q _ (by decide+kernel) _ _ (aW.refl _) d⟩
 ·exact⟨x,_,dx,_,_,_,_,e1,hx,rfl,by decide,T.dG.cl,fj T T.lC,q _ (by decide+kernel) _ _ (aW.refl _) d⟩
theorem IY (T:Txt K mg):Ez P w K mg base (Ig P w) "ended" 1 (qO aA ae aB aD af ag ah):=by
 intro x H Q E h;unfold qO at h;split at h;rotate_left
 ·exact h.elim
 rename_i x e;obtain⟨nm,f,q⟩:=h;have d:=f;obtain⟨C,dx,hx,hm⟩:=f;injection e with e1 _;rcases nR hm with⟨rfl,rfl⟩|⟨rfl,rfl⟩|⟨rfl,rfl⟩|⟨rfl,rfl⟩|⟨rfl,rfl⟩|⟨rfl,rfl⟩|⟨rfl,rfl⟩
 ·exact⟨x,_,dx,_,_,_,_,e1,hx,rfl,by decide,T.mL.cl,ju T T.pY,q _ (by decide+kernel) _ _ (aW.refl _) d⟩
 ·exact⟨x,_,dx,_,_,_,_,e1,hx,rfl,by decide,T.d8.cl,ju T T.lD,q _ (by decide+kernel) _ _ (aW.refl _) d⟩
 ·exact⟨x,_,dx,_,_,_,_,e1,hx,rfl,by decide,T.oo.cl,D_ T,q _ (by decide+kernel)⟩
 ·exact⟨x,_,dx,_,_,_,_,e1,hx,rfl,by decide,T.pT.cl,ju T T.p7,q _ (by decide+kernel) _ _ (aW.refl _) d⟩
 ·exact⟨x,_,dx,_,_,_,_,e1,hx,rfl,by decide,T.dF.cl,zX T,q _ (by decide+kernel)⟩
 ·exact⟨x,_,dx,_,_,_,_,e1,hx,rfl,by decide,T.d7.cl,zP T,q _ (by decide+kernel)⟩
 ·exact⟨x,_,dx,_,_,_,_,e1,hx,rfl,by decide,T.dG.cl,ju T T.lB,q _ (by decide+kernel) _ _ (aW.refl _) d⟩
theorem D6 (T:Txt K mg):Ez P w K mg base (Ig P w) "answered" 1 (pH aA ae aB aD af ag ah):=by
 intro x H Q E h;unfold pH at h;split at h;rotate_left
 ·exact h.elim
 rename_i x e;obtain⟨nm,f,q⟩:=h;have d:=f;obtain⟨C,dx,hx,hm⟩:=f;injection e with e1 _;rcases nR hm with⟨rfl,rfl⟩|⟨rfl,rfl⟩|⟨rfl,rfl⟩|⟨rfl,rfl⟩|⟨rfl,rfl⟩|⟨rfl,rfl⟩|⟨rfl,rfl⟩
 ·exact⟨x,_,dx,_,_,_,_,e1,hx,rfl,by decide,T.mL.cl,dc T T.lu,q _ (by decide+kernel) _ _ (aW.refl _) d⟩
 ·exact⟨x,_,dx,_,_,_,_,e1,hx,rfl,by decide,T.d8.cl,dc T T.gC,q _ (by decide+kernel) _ _ (aW.refl _) d⟩
 ·exact⟨x,_,dx,_,_,_,_,e1,hx,rfl,by decide,T.oo.cl,dc T T.lx,q _ (by decide+kernel) _ _ (aW.refl _) d⟩
 ·exact⟨x,_,dx,_,_,_,_,e1,hx,rfl,by decide,T.pT.cl,dc T T.ly,q _ (by decide+kernel) _ _ (aW.refl _) d⟩
 ·exact⟨x,_,dx,_,_,_,_,e1,hx,rfl,by decide,T.dF.cl,vt T,q _ (by decide+kernel)⟩
 ·exact⟨x,_,dx,_,_,_,_,e1,hx,rfl,by decide,T.d7.cl,dc T T.gz,q _ (by decide+kernel) _ _ (aW.refl _) d⟩
 ·exact⟨x,_,dx,_,_,_,_,e1,hx,rfl,by decide,T.dG.cl,vv T,q _ (by decide+kernel)⟩
theorem FV (T:Txt K mg):Ez P w K mg base (Ig P w) "may_put" 1 (qN aA ae aB aD af ag ah):=by
 intro x H Q E h;unfold qN at h;split at h;rotate_left
 ·exact h.elim
 rename_i x e;obtain⟨nm,d,q⟩:=h;have f:=d;obtain⟨C,dx,hx,hm⟩:=d;injection e with e1 _;rcases nR hm with⟨rfl,rfl⟩|⟨rfl,rfl⟩|⟨rfl,rfl⟩|⟨rfl,rfl⟩|⟨rfl,rfl⟩|⟨rfl,rfl⟩|⟨rfl,rfl⟩
 ·exact⟨x,_,dx,_,_,_,_,e1,hx,rfl,by decide,T.mL.cl,fL T T.mM,q⟩
 ·exact⟨x,_,dx,_,_,_,_,e1,hx,rfl,by decide,T.d8.cl,wO T,q⟩
 ·exact⟨x,_,dx,_,_,_,_,e1,hx,rfl,by decide,T.oo.cl,Bq T,q⟩
 ·exact⟨x,_,dx,_,_,_,_,e1,hx,rfl,by decide,T.pT.cl,Br T,q⟩
 ·exact⟨x,_,dx,_,_,_,_,e1,hx,rfl,by decide,T.dF.cl,fL T T.iC,q⟩
 ·exact⟨x,_,dx,_,_,_,_,e1,hx,rfl,by decide,T.d7.cl,fL T T.iy,q⟩
 ·exact⟨x,_,dx,_,_,_,_,e1,hx,rfl,by decide,T.dG.cl,fL T T.iD,q⟩
include T in theorem IU:FA P w K mg base "is_text" 1 ["text"] vZ:=by
 exists 0,T.AF,IC,vZ;rename_i z;refine⟨_,(ar (aK (du (a9 (AL K rfl) (by rfl) T.cE cK (aE (pv 0) (aE (yf rfl T.KP PK) aw))) (du (CF CG CG ak (a9 (fQ K rfl) (by rfl) T.l9 iR (aE (pv 0) aw)) (cy rfl T.uH)) (oi (a9 (AM K rfl rfl) (by rfl) T.HY Js (aE (gM (N:=(["sign"]:List Str)) (nv:=1) (ix:=[]) rfl (oR (by kernel_rfl)) (c7 K rfl (pv 0)) (fun _ _ _ _ _=>(bC (i:=0) (show((["sign"]:List Str)).Nodup by decide) rfl (Or.inl rfl))) (fun _ _ _ _ _=>nF) (fun _ _ _ _ _=>(da (FL K rfl) (pv 0) (cy rfl T.sf) (jx rfl)))) aw))))))),?_⟩;obtain⟨m,q⟩:=h;exists 9;refine⟨bc m,?_⟩;by_cases c1:1<=(z.length:Int);rotate_left
 ·
  rw[if_neg c1];have e:o6 z=false:=by unfold o6;rw[decide_eq_false (by lia)];rfl
  rw[<-e];exact q H (aW.refl _)
 rw[if_pos c1];by_cases d:(z.length:Int)<=60;rotate_left
 ·
  rw[if_neg d];have e:o6 z=false:=by unfold o6;rw[decide_eq_false (show¬z.length<=60 by lia),Bool.and_false];rfl
  rw[<-e];exact q H (aW.refl _)
 rw[if_pos d];refine Pw (p:=fun _=>true) (f:=fun x=> .bl (MB x)) (by rw[sizeLine_eq];lia) (fun _ _ Q h=>h) (fun x hx _ Q u=>?_) ?_
 ·
  obtain⟨n,_,rfl⟩:=List.mem_map.mp hx;exists 9;exact u
 have v:(eA z).length=z.length:=by simp[eA,Str.length]
 have e1:((eA z).filter fun _=>true).map (fun x=>V.bl (MB x))=((eA z).map MB).map V.bl:=by
  rw[List.filter_eq_self.mpr (fun _ _=>rfl),List.map_map];rfl
 rw[e1];refine⟨by rw[List.length_map,List.length_map,v,sizeLine_eq];lia,fun p hp=>⟨(eA z).map MB,cQ.of aq,?_⟩⟩;have j:((eA z).map MB).all id=o6 z:=by
  unfold o6;rw[decide_eq_true (show 1<=z.length by lia),decide_eq_true (show z.length<=60 by lia),List.all_map];rfl
 rw[j];exact q _ (aG hp)
include T in theorem qr:MA P w K mg base aC "__init__" 5 ["self","side","terms"] (kB aC az aa au ai aA ae aB aD af ag ah bR):=by
 exists 0,T.m6,zA,kB;rename_i x side tm;refine⟨_,(ao (aT (pv 0) (pv 1) T.aV T.tI)
 (ao (aT (pv 0) (av (pv 2) T.dB T.dW rfl) T.aV T.iU)
 (ao (aT (pv 0) (wF T.bp (yn T) HR (by decide) rfl (aE (av (pv 2) T.dB T.dW rfl) (aE (bj (cH K rfl) (av (pv 2) T.dB T.gE rfl) (pv 1) (fun _ _=>rfl)) aw))) T.aV T.cv)
 (aH (ao (aT (pv 0) (wF T.ay (wN T) HR (by decide) rfl (aE (av (pv 2) T.dB T.dW rfl) (aE (av (pv 2) T.dB T.lQ rfl) (aE (av (pv 2) T.dB T.gN rfl) (aE (bj (cH K rfl) (av (pv 2) T.dB T.gE rfl) (aF cZ ak (pv 1)) (fun _ _=>rfl)) aw))))) T.aV T.bh)
 (aH (ao (aT (pv 0) (mE T.mL T.yu rfl) T.aV T.bP)
 (ao (aT (pv 0) d5 T.aV T.b8)
 (ar (aT (pv 0) (jt aw) T.aV T.di)))))))))),?_⟩
 obtain⟨dx,r,o,t,g,f,l,hx,⟨dt,p,htm,hp⟩,hg,hs,q⟩:=h;have n1:tm≠x:=bX htm hx (by simp[jT]);have n2:p≠x:=bX hp hx (by simp);obtain⟨g1,⟨g2,g3⟩,g4,g5,g6⟩:=hg;have own:oW [V.int o,V.int t] side=some (.int (if side=0 then o else t))/\oW [V.int o,V.int t] (1 - side)=some (.int (if side=0 then t else o)):=by
  rcases hs with rfl|rfl
  ·exact⟨by rw[if_pos rfl];exact DF,by rw[if_pos rfl];exact Fc⟩
  ·exact⟨by rw[if_neg (by decide)];exact Fc,by rw[if_neg (by decide)];exact DF⟩
 have ob:(1<=(if side=0 then o else t)/\(if side=0 then o else t)<=16)/\1<=(if side=0 then t else o):=by split<;>lia
 generalize(if side=0 then o else t)=mo at*
 generalize(if side=0 then t else o)=mt at*
 generalize h_u1:ax _=u1;exists hx,htm,aj n1,aj n2,hp,own.1;intro tk dk O ndk nek;refine⟨dk,rfl,fun kd H1 z b1 t1=>?_⟩;have y:x≠tk:=fresh_ne O |>.symm;have xdk:x≠dk:=fresh_ne ndk |>.symm;have x1:H1 x=some (.ins aC dx (qA (.int side) (.int r))):=b1 _ _ (by rw[aj y,aj xdk,aq]) y;have B1: ∀b u,H b=some u->b≠x->H1 b=some u:=fun b u e n=>by
  have e1:upd H x (.ins aC dx (qA (.int side) (.int r))) b=some u:=by rw[aj n];exact e
  exact b1 _ _ (by rw[aj (aL e1 O),aj (aL e1 ndk)];exact e1) (aL e1 O)
 have ftk:H tk=none:=by rw[aj y.symm] at O;exact O
 have J:H kd=none/\kd≠x:=by
  have k1:kd≠tk:=fresh_ne z;rw[aj k1] at z;have k2:kd≠dk:=fresh_ne z;rw[aj k2] at z;have k3:kd≠x:=fresh_ne z;rw[aj k3] at z;exact⟨z,k3⟩
 clear b1 z;have htm1:=B1 _ _ htm n1;have hp1:=B1 _ _ hp n2;exists x1;have X1:lL x H (upd H1 x (.ins aC dx (d9 (.int side) (.int r) (.ref tk)))):=fun b u e n=>by rw[aj n];exact B1 b u e n
 have x2:upd H1 x (.ins aC dx (d9 (.int side) (.int r) (.ref tk))) x=some (.ins aC dx (d9 (.int side) (.int r) (.ref tk))):=aq;have t2:l_ az (upd H1 x (.ins aC dx (d9 (.int side) (.int r) (.ref tk)))) tk dk kd ⟨r,mo,0,0,[]⟩:=⟨by rw[aj y.symm];exact t1.hx,by rw[aj J.2];exact t1.hD⟩;have htm2:upd H1 x (.ins aC dx (d9 (.int side) (.int r) (.ref tk))) tm=some (.ins bR dt (jT (.int r) (.ref p) (.int g) (.int f) (.int l))):=by rw[aj n1];exact htm1
 have hp2:upd H1 x (.ins aC dx (d9 (.int side) (.int r) (.ref tk))) p=some (.tup [.int o,.int t]):=by rw[aj n2];exact hp1
 generalize upd H1 x (.ins aC dx (d9 (.int side) (.int r) (.ref tk)))=H2 at*
 clear x1 t1 B1 htm1 hp1;rw[<-h_u1,ax];generalize h_u2:ax _=u2;exists htm2,hp2,own.2;intro sd ds U nds nes;refine⟨⟨by lia,by lia,by lia⟩,ds,rfl,fun S Z b3 fr3 s3=>?_⟩;have X:x≠sd:=aL x2 U;have B3: ∀b u,H2 b=some u->Z b=some u:=fun b u e=>b3 _ _ (by rw[aj (aL e U),aj (aL e nds)];exact e) (aL e U);have v: ∀b,b∈[S.pw,S.pm,S.pt,S.pk,S.pf,S.pa]->H2 b=none/\b≠sd:=fun b F=>by
  have k0:=fr3 b F;have k1:b≠sd:=fresh_ne k0;rw[aj k1] at k0;have k2:b≠ds:=fresh_ne k0;rw[aj k2] at k0;exact⟨k0,k1⟩
 clear b3 fr3;have x3:=B3 _ _ x2;have t3:l_ az Z tk dk kd ⟨r,mo,0,0,[]⟩:=⟨B3 _ _ t2.hx,B3 _ _ t2.hD⟩;exists x3;have X3:lL x H (upd Z x (.ins aC dx (dJ (.int side) (.int r) (.ref tk) (.ref sd)))):=fun b u e n=>by rw[aj n];exact B3 _ _ (X1 b u e n)
 have x4:upd Z x (.ins aC dx (dJ (.int side) (.int r) (.ref tk) (.ref sd))) x=some (.ins aC dx (dJ (.int side) (.int r) (.ref tk) (.ref sd))):=aq;have xS: ∀b,b∈[S.pw,S.pm,S.pt,S.pk,S.pf,S.pa]->b≠x:=fun b F e=>by have:=(v b F).1;rw[e,x2] at this;cases this
 have k4:Kp [x] Z (upd Z x (.ins aC dx (dJ (.int side) (.int r) (.ref tk) (.ref sd)))):=Kp.one;have s4:b_ aa au ai (upd Z x (.ins aC dx (dJ (.int side) (.int r) (.ref tk) (.ref sd)))) sd S _:=s3.kp k4 (fun b F m=>by
  rw[List.mem_singleton] at m;rcases List.mem_cons.mp F with e|F
  ·exact X (m.symm.trans e)
  ·exact xS b F m) (fun t l e m=>by rw[List.mem_singleton.mp m,x3] at e;cases e)
 have t4:l_ az (upd Z x (.ins aC dx (dJ (.int side) (.int r) (.ref tk) (.ref sd)))) tk dk kd ⟨r,mo,0,0,[]⟩:=⟨by rw[aj y.symm];exact t3.hx,by rw[aj J.2];exact t3.hD⟩;generalize upd Z x (.ins aC dx (dJ (.int side) (.int r) (.ref tk) (.ref sd)))=H4 at*
 rw[<-h_u2,ax];exists 9;intro st dst nst ndst nest;have S5:aW H4 _:=cY (C:=aA) (fs:=[]) nst ndst;have st5:j_ (tbl aA ae aB aD af ag ah) (upd (upd H4 dst (.own st)) st (.ins aA dst [])) st "shut" :=⟨_,_,aq,.head _⟩;have x5:=S5 _ _ x4;have j:=s4.same S5;have t5:=t4.same S5;have X5:lL x H _:=fun b u e n=>S5 _ _ (X3 b u e n);generalize upd (upd H4 dst (.own st)) st (.ins aA dst [])=H5 at*
 exists x5;intro pe npe;have G:x≠pe:=(fresh_ne npe).symm;exists aj G;have I:H5 pe=none:=by rw[aj G.symm] at npe;exact npe
 have nod:(foot x ⟨dx,tk,dk,kd,sd,S,st,pe⟩).Nodup:=by
  have n_tk:tk≠x:=y.symm;have in2: ∀{b:Addr} {u:HO},H2 b=some u->b ∉ [S.pw,S.pm,S.pt,S.pk,S.pf,S.pa]/\b≠sd:=fun{b u} e=>⟨(fun m=>by have:=(v b m).1;rw[e] at this;cases this),aL e U⟩;have i: ∀{b:Addr} {u:HO},H5 b=some u->b≠pe:=fun e=>aL e I;obtain⟨em,_⟩:=j.ms;obtain⟨_,_,ew⟩:=j.ws.ins;have kx:=in2 x2;have kt:=in2 t2.hx;have kk:=in2 t2.hD;have E:sd ∉ [S.pw,S.pm,S.pt,S.pk,S.pf,S.pa]:=fun m=>(v sd m).2 rfl;have m1:S.pm≠S.pt:=bX em j.ht (by simp);have m2:S.pm≠S.pk:=bX em j.hk (by simp);have m3:S.pm≠S.pf:=bX em j.hf (by simp);have m4:S.pm≠S.pa:=bX em j.ha (by simp);have w1:S.pw≠S.pt:=bX ew j.ht (by simp);have w2:S.pw≠S.pk:=bX ew j.hk (by simp);have w3:S.pw≠S.pf:=bX ew j.hf (by simp);have w4:S.pw≠S.pa:=bX ew j.ha (by simp);have v1:S.pt≠S.pk:=bX j.ht j.hk (by simp);have v2:S.pt≠S.pf:=bX j.ht j.hf (by simp);have v3:S.pt≠S.pa:=bX j.ht j.ha (by simp);simp only[List.mem_cons,List.not_mem_nil,or_false,not_or] at kx kt kk E;simp only[foot,List.nodup_cons,List.mem_cons,List.not_mem_nil,or_false,not_or,List.nodup_nil,and_true,not_false_eq_true];have tkd:tk≠kd:=t2.n1.symm;exact⟨⟨y,J.2.symm,X,kx.1.1,kx.1.2.1,kx.1.2.2.1,kx.1.2.2.2.1,kx.1.2.2.2.2.1,kx.1.2.2.2.2.2,G⟩,
   ⟨tkd,kt.2,kt.1.1,kt.1.2.1,kt.1.2.2.1,kt.1.2.2.2.1,kt.1.2.2.2.2.1,kt.1.2.2.2.2.2,i t5.hx⟩,
   ⟨kk.2,kk.1.1,kk.1.2.1,kk.1.2.2.1,kk.1.2.2.2.1,kk.1.2.2.2.2.1,kk.1.2.2.2.2.2,i t5.hD⟩,
   ⟨E.1,E.2.1,E.2.2.1,E.2.2.2.1,E.2.2.2.2.1,E.2.2.2.2.2,i j.hx⟩,
   ⟨j.wm,w1,w2,w3,w4,i ew⟩,⟨m1,m2,m3,m4,i em⟩,⟨v1,v2,v3,i j.ht⟩,⟨j.kf,j.ka,i j.hk⟩,⟨j.fa,i j.hf⟩,i j.ha⟩
 have kF:Kp [x] H5 (upd (upd (upd H5 x (.ins aC dx (uS (.int side) (.int r) (.ref tk) (.ref sd) (.ref st) (.bl false)))) pe (.lst [])) x (.ins aC dx (aX (.int side) (.int r) (.ref tk) (.ref sd) (.ref st) (.bl false) (.ref pe)))):=fun b u e n=>by
  rw[List.mem_singleton] at n;rw[aj n,aj (aL e I),aj n];exact e
 refine q ⟨dx,tk,dk,kd,sd,S,st,pe⟩ _ (fun b u e n=>kF b u (X5 b u e n) (fun m=>n (List.mem_singleton.mp m))) (fun b F=>?_) ⟨aq,⟨kF _ _ t5.hx (fun m=>y (List.mem_singleton.mp m).symm),kF _ _ t5.hD (fun m=>J.2 (List.mem_singleton.mp m))⟩,j.kp kF (fun b F m=>?_) (fun t l e m=>?_),?_,?_,nod⟩
 ·
  simp only[foot,List.tail_cons,List.mem_cons,List.not_mem_nil,or_false] at F;rcases F with e|e|e|e|e|e|e|e|e|e
  ·rw[e];exact ftk
  ·rw[e];exact J.1
  ·rw[e];exact dI X1 X U
  ·rw[e];exact dI X1 (xS _ (by simp)).symm (v _ (by simp)).1
  ·rw[e];exact dI X1 (xS _ (by simp)).symm (v _ (by simp)).1
  ·rw[e];exact dI X1 (xS _ (by simp)).symm (v _ (by simp)).1
  ·rw[e];exact dI X1 (xS _ (by simp)).symm (v _ (by simp)).1
  ·rw[e];exact dI X1 (xS _ (by simp)).symm (v _ (by simp)).1
  ·rw[e];exact dI X1 (xS _ (by simp)).symm (v _ (by simp)).1
  ·rw[e];exact dI X5 G I
 ·
  rw[List.mem_singleton] at m;rcases List.mem_cons.mp F with e|F
  ·exact X (m.symm.trans e)
  ·exact xS b F m
 ·rw[List.mem_singleton.mp m,x5] at e;cases e
 ·
  obtain⟨C,d,e,hm⟩:=st5;exact⟨C,d,kF _ _ e (fun m=>by have m':st=x:=List.mem_singleton.mp m;rw[m',x5] at e;injection e with e;injection e with _ _ e;simp[dJ] at e),hm⟩
 ·rw[aj G.symm,aq];rfl
include T in theorem rq:MA P w K mg base aC "name" 2 ["self"] (qS aC az aa au ai aA ae aB aD af ag ah):=by
 exists 0,T.uD,Fw,qS;rename_i x;refine⟨_,(ar (aK (wD (av (pv 0) T.aV T.bP rfl) (zQ T) HR (by decide)))),?_⟩;obtain⟨A,z,d,q⟩:=h;exists d.hx;exact⟨_,d.st,q⟩
include T in theorem Ea:MA P w K mg base aC "quiet" 2 ["self"] (pM aC az aa au ai aA ae aB aD af ag ah):=by
 exists 0,T.r9,DX,pM;rename_i x;refine⟨_,(ar (aK (du (CF (bT K rfl HR.units) (bT K rfl HR.units) (av (av (pv 0) T.aV T.bh rfl) T.ay T.a8 rfl) (av (av (pv 0) T.aV T.bh rfl) T.ay T.bu rfl) (bK (av (pv 0) T.aV T.bh rfl) T.ay (fo T) HR (by decide))) (oi (IL (av (pv 0) T.aV T.b8 rfl)))))),?_⟩;obtain⟨A,z,f,q⟩:=h;exists f.hx,f.sd.hx;by_cases c1:z.sd.b=z.sd.t
 ·
  rw[if_pos c1];refine⟨_,_,f.sd,?_⟩;rw[decide_eq_true c1,Bool.true_and] at q;by_cases d:z.sd.t=(z.sd.T.length:Int)
  ·rw[if_pos d];rw[decide_eq_true d,Bool.true_and] at q;exact q
  ·rw[if_neg d];rw[decide_eq_false d,Bool.false_and] at q;exact q
 ·rw[if_neg c1];rw[decide_eq_false c1,Bool.false_and,Bool.false_and] at q;exact q
include T in theorem Eb:MA P w K mg base aC "begin" 4 ["self"] (pN aC az aa au ai aA ae aB aD af ag ah aM K):=by
 exists 1,T.r_,DY,pN;rename_i x;refine⟨_,(ao (aT (pv 0) (Kd (av (pv 0) T.aV T.bP rfl) (Bn T) HR (by decide) o_ rfl) T.aV T.bP)
 (ar (PS.nox (bL (bU (av (pv 0) T.aV T.bh rfl) T.ay (lP T) HR (by decide) (aE (lW K rfl rfl T.Cg) aw)))))),?_⟩
 obtain⟨A,z,f,u,q1,q2⟩:=h;exists f.hx;refine⟨_,f.st,fun nx hn y j m s1=>?_,q2⟩;have h1:=f.same m;exists h1.hx;have d:=h1.own s1 z.due;have k2:Kp (foot x A) H (upd j x (.ins aC A.dx (aX (.int z.side) (.int z.R) (.ref A.tk) (.ref A.sd) (.ref y) (.bl z.due) (.ref A.pe)))):=(Kp.of m).trans (Kp.upd (by simp[foot]));generalize upd j x (.ins aC A.dx (aX (.int z.side) (.int z.R) (.ref A.tk) (.ref A.sd) (.ref y) (.bl z.due) (.ref A.pe)))=C at*
 exists d.sd.hx;exact fun a ha _=>⟨_,_,d.sd,u,fun v i s3=>q1 nx hn a y v ha (k2.trans (Kp.but i (by simp[foot]))) (d.sender (lL.fr7 i) s3)⟩
include T in theorem Hr:MA P w K mg base aC "end" 4 ["self"] (sZ aC az aa au ai aA ae aB aD af ag ah aM K):=by
 exists 1,T.xK,G3,sZ;rename_i x;refine⟨_,(ao (aT (pv 0) (Kd (av (pv 0) T.aV T.bP rfl) (D5 T) HR (by decide) o_ rfl) T.aV T.bP)
 (aH (ao (PS.nox (bL (rk K rfl (av (pv 0) T.aV T.di rfl) (bK (av (pv 0) T.aV T.bh rfl) T.ay (fo T) HR (by decide)))))
 (ar (PS.nox (bL (bU (av (pv 0) T.aV T.bh rfl) T.ay (lP T) HR (by decide) (aE (lW K rfl rfl T.PJ) aw)))))))),?_⟩
 obtain⟨A,z,j,F,he,q1,q2⟩:=h;generalize h_u1:ax _=G;exists j.hx;refine⟨_,j.st,fun nx hn y u v s1=>?_,q2⟩;have h1:=j.same v;exists h1.hx;have f:=h1.own s1 z.due;have k2:Kp (foot x A) H (upd u x (.ins aC A.dx (aX (.int z.side) (.int z.R) (.ref A.tk) (.ref A.sd) (.ref y) (.bl z.due) (.ref A.pe)))):=(Kp.of v).trans (Kp.upd (by simp[foot]));generalize upd u x (.ins aC A.dx (aX (.int z.side) (.int z.R) (.ref A.tk) (.ref A.sd) (.ref y) (.bl z.due) (.ref A.pe)))=i at*
 rw[<-h_u1,ax];exists f.hx,f.sd.hx;refine⟨qf (cQ.of f.he),_,_,f.sd,_,f.he,by rw[List.length_map,sizeLine_eq];show z.ends.length<_;lia,?_⟩;have d:=f.ends (l:=z.ends++ [(z.sd.T.length:Int)]);rw[List.map_append] at d;show∃dx fs,upd i A.pe (.lst (z.ends.map V.int++ [V.int z.sd.T.length])) x=some (HO.ins aC dx fs)/\_;have k3:Kp (foot x A) H (upd i A.pe (.lst (z.ends.map V.int++ [V.int z.sd.T.length]))):=k2.trans (Kp.upd (by simp[foot]));replace d:bO aC az aa au ai (tbl aA ae aB aD af ag ah) (upd i A.pe (.lst (z.ends.map V.int++ [V.int z.sd.T.length]))) x {A with st:=y} {z with nm:=nx,ends:=z.ends++ [(z.sd.T.length:Int)]}:=d;generalize upd i A.pe (.lst (z.ends.map V.int++ [V.int z.sd.T.length]))=I at*
 exists d.hx,d.sd.hx;exact fun a ha _=>⟨_,_,d.sd,F,fun C m E=>q1 nx hn a y C ha (k3.trans (Kp.but m (by simp[foot]))) (d.sender (lL.fr7 m) E)⟩
include T in theorem Hq:MA P w K mg base aC "put" 3 ["self","text"] (sY aC az aa au ai aA ae aB aD af ag ah aM aY):=by
 exists 1,T.xJ,AV,sY;rename_i x t;refine⟨_,(ao (bI (PT.nox (eE (oh (bq (IU T) HR (by decide) rfl (aE (pv 1) aw))))) (ar (zH T.y4 o_ rfl rfl rfl)) aZ)
 (aH (ao (bI (PT.nox (eE (oh (wD (av (pv 0) T.aV T.bP rfl) (FV T) HR (by decide))))) (ar (fh T.nP (hZ T) T.qu HR (by decide) o_ rfl rfl rfl (aE (bK (pv 0) T.aV (rq T) HR (by decide)) (aE bE aw)))) aZ)
 (aH (ar (PS.nox (gr PassesOwn.never rfl (LF rfl T.dC (aE ak (aE (a9 (fQ K rfl) (by rfl) T.l9 iR (aE (pv 1) aw)) (aE (cy rfl T.fS) aw)))) (bC (i:=2) AV.1.nd rfl (Or.inl rfl)) (ar (bL (bU (av (pv 0) T.aV T.bh rfl) T.ay (lP T) HR (by decide) (aE (cI (aE bE (aE (yg (Qx K rfl) (pv 1) (uP (pv 2)) (uP (aF (a_ K rfl) (pv 2) (cy rfl T.fS)))) aw))) aw))))))))))),?_⟩
 obtain⟨A,z,Z,hT,ht,q1,q2,q3⟩:=h;generalize h_u1:ax _=u1;exists 9;refine⟨ht,fun U f=>?_⟩;cases e1:o6 t
 ·
  rw[if_pos rfl];exact q1 e1 U f
 rw[if_neg (by decide)];have h1:=Z.same f;rw[<-h_u1,ax];generalize h_u2:ax _=u2;exists h1.hx;refine⟨_,h1.st,?_⟩;cases G:Rn z.nm
 ·
  rw[if_pos rfl];refine⟨A,z,h1,fun e he d hd=>⟨_,rfl,?_⟩⟩;obtain⟨s1,s2⟩:=dropxl (C:=aM) (l:=[("state",.str z.nm),("wish",.str "put")]) f he hd;exact q2 e1 G _ d s1 s2
 rw[if_neg (by decide)];have X:t.length<=60:=by
  unfold o6 at e1;simp only[Bool.and_eq_true,decide_eq_true_eq] at e1;exact e1.1.2
 rw[<-h_u2,ax];exists 9;refine⟨bc ht,⟨by lia,by lia⟩,?_⟩;rw[show rcount 0 (t.length:Int) 4=(t.length+3) / 4 by unfold rcount Builtin.Range.rangeSize;rw[if_pos (by decide)];split<;>lia]
 refine RR (fun k σ H'=>(∃E,σ= [some (.ref x),some (.str t),E])/\Kp (foot x A) H H'/\∃vs,bO aC az aa au ai (tbl aA ae aB aD af ag ah) H' x A {z with sd:={z.sd with T:=z.sd.T++vs}}/\Paired (fun v s=>ThV H' v "signs" s) vs ((List.range k).map (chunk t))) ⟨⟨_,rfl⟩,Kp.of f,[],by rw[List.append_nil];exact h1,.nil⟩ (fun k σ H' hk hp=>?_) (fun σ H' hp=>?_)
 ·
  obtain⟨⟨E,rfl⟩,m,vs,hh,j⟩:=hp;exists hh.hx,hh.sd.hx;refine⟨bc ht,fun p hp=>?_⟩;rw[show Txt.slice t (some (0+(k:Int)*4)) (some (0+(k:Int)*4+4))=chunk t k by unfold chunk;rw[show(0:Int)+(k:Int)*4=((4*k:Nat):Int) by lia];rfl];have u:=hh.same (aG (o:= .tup [.str "signs",.str (chunk t k)]) hp);have s2:=aG (o:= .tup [.str "signs",.str (chunk t k)]) hp;have F:=aq (H:=H') (a:=p) (o:= .tup [.str "signs",.str (chunk t k)]);generalize upd H' p (.tup [.str "signs",.str (chunk t k)])=H3 at*
  have lv:vs.length<=15:=by rw[pR j,List.length_map,List.length_range];lia
  refine⟨_,_,u.sd,by show(z.sd.T++vs).length<1000;rw[List.length_append];lia,fun I y J=>⟨⟨_,rfl⟩,(m.trans (Kp.of s2)).trans (Kp.but y (by simp[foot])),vs++ [.ref p],?_,?_⟩⟩
  ·
   have h4:=u.sender (lL.fr7 y) J;rw[<-List.append_assoc];exact h4
  ·
   rw[List.range_succ,List.map_append];have tup: ∀{q:Addr} {l:List V},H3 q=some (.tup l)->I q=some (.tup l):=fun e=>y _ _ e (bX e u.sd.ht (by simp));refine zI (fi j fun v s O=>?_) (.cons ⟨p,rfl,tup F⟩ .nil);obtain⟨q,rfl,hq⟩:=O;exact⟨q,rfl,tup (s2 _ _ hq)⟩
 ·
  obtain⟨⟨E,rfl⟩,m,vs,hh,j⟩:=hp;exact q3 e1 G vs H' m hh j
include T in theorem F2:MA P w K mg base aC "read" 2 ["self","many"] (qR aC az aa au ai aA ae aB aD af ag ah K):=by
 exists 0,T.uC,q_,qR;rename_i x m;refine⟨_,(ao (aP (i:=2) q_.1.nd rfl (Or.inl rfl) (da vN (bK (av (pv 0) T.aV T.cv rfl) T.bp (c6 T) HR (by decide)) ak (nomark _)))
 (aH (ao (aP (i:=3) q_.1.nd rfl (Or.inl rfl) (bU (av (pv 0) T.aV T.cv rfl) T.bp (D8 T) HR (by decide) (aE (pv 1) aw)))
 (aH (ao (bI (PW.pt (pw_and (eE (oh (pv 2))) (pw_and1 (aQ vN (bK (av (pv 0) T.aV T.cv rfl) T.bp (c6 T) HR (by decide)) ak (nomark _))))) (ar (aT (pv 0) d5 T.aV T.b8)) aZ)
 (aH (ar (aK (pv 3))))))))),?_⟩
 obtain⟨A,a,⟨z,y,d⟩,⟨m0,m1,o0,og,g1⟩,hD,q⟩:=h;generalize h_u1:ax _=u1;exists y.hx,y.tk.hx;refine⟨_,_,_,y.tk,?_⟩;rw[<-h_u1,ax];generalize h_u2:ax _=u2;exists y.hx,y.tk.hx;have Z: ∀i,z.tk.o<=i->i<z.tk.g->(bJ z.tk.D (ik i)).isSome=true:=fun i h1 F=>by
  rw[d.o] at h1;rw[d.g] at F;cases e:bJ z.tk.D (ik i) with
  |none=>have:=hD i h1 F;rw[d.dn i e] at this;cases this
  |some v=>rfl
 refine⟨_,_,_,y.tk,by rw[d.o,d.g];lia,Z,fun n p D' j en O U X f1 t1 e1=>?_⟩;have f:n=lV a m:=by rw[en,d.o,d.g];rfl
 have nle:a.o+n<=a.g:=by rw[f];unfold lV;split<;>lia
 have h1:=y.taker f1 t1;have k1:Kp (foot x A) H j:=(KU.kp f1).more (fun b hb=>by simp only[List.mem_cons,List.not_mem_nil,or_false] at hb;rcases hb with e|e<;>subst e<;>simp[foot])
 have G:qC H j:=fun b u e i=>k1 _ _ e (y.imm e i);have E: ∀i:Int,bJ D' (ik i)=if a.o<=i/\i<a.o+n then none else bJ z.tk.D (ik i):=fun i=>by rw[U i,d.o]
 have pv:Paired (yX K j) (vals z.tk.D z.tk.o n) (qo a m):=by
  have:=d.vals n a.o (fun i h1 F=>hD i h1 (by lia));rw[d.o];unfold qo;rw[<-f];exact fi this fun _ _ q=>q.keep G
 have C:=d.keep G;rw[<-h_u2,ax];generalize h_u3:ax _=u3;by_cases c:0<a.o+a.M - a.g
 ·have e0:(cw a m).due=z.due:=by
   show(a.due||(decide (a.o+a.M - a.g<=0)&&_))=_;rw[decide_eq_false (by lia),Bool.false_and,Bool.or_false,d.due]
  have fin:HM aC az aa au ai (tbl aA ae aB aD af ag ah) K j x A (cw a m):=⟨_,h1,C.read f E X e0.symm⟩;rw[decide_eq_true (by rw[d.o,d.tM,d.g];exact c)];exists 9;rw[<-h_u3,ax];exists 9;exact q p _ j O k1 fin e1 pv
 ·
  rw[decide_eq_false (by rw[d.o,d.tM,d.g];exact c)];exists h1.hx,h1.tk.hx;refine⟨_,_,_,h1.tk,?_⟩;show if 0<z.tk.o+n+z.tk.M - z.tk.g then _ else _;rw[d.o,d.tM,d.g];by_cases J:0<a.o+n+a.M - a.g
  ·
   rw[if_pos J];have e0:(cw a m).due=true:=by
    show(a.due||(decide (a.o+a.M - a.g<=0)&&decide (0<a.o+(lV a m:Int)+a.M - a.g)))=_;rw[decide_eq_true (by lia),<-f,decide_eq_true J,Bool.true_and,Bool.or_true]
   have F:=h1.own h1.st true;have k2:Kp (foot x A) H (upd j x (.ins aC A.dx (aX (.int z.side) (.int z.R) (.ref A.tk) (.ref A.sd) (.ref A.st) (.bl true) (.ref A.pe)))):=k1.trans (Kp.upd (by simp[foot]));have I:qC j (upd j x (.ins aC A.dx (aX (.int z.side) (.int z.R) (.ref A.tk) (.ref A.sd) (.ref A.st) (.bl true) (.ref A.pe)))):=fun b u e i=>Kp.upd (S:=foot x A) (by simp[foot]) _ _ e (h1.imm e i);have e2:upd j x (.ins aC A.dx (aX (.int z.side) (.int z.R) (.ref A.tk) (.ref A.sd) (.ref A.st) (.bl true) (.ref A.pe))) p=some (.lst (vals z.tk.D z.tk.o n)):=by rw[aj (bX e1 h1.hx (by simp))];exact e1
   have fin:HM aC az aa au ai (tbl aA ae aB aD af ag ah) K (upd j x (.ins aC A.dx (aX (.int z.side) (.int z.R) (.ref A.tk) (.ref A.sd) (.ref A.st) (.bl true) (.ref A.pe)))) x A (cw a m):=⟨_,F,(C.keep I).read f E X e0.symm⟩;rw[<-h_u3,ax];exists 9;exact q p _ _ O k2 fin e2 (fi pv fun _ _ w=>w.keep I)
  ·
   rw[if_neg J];have e0:(cw a m).due=z.due:=by
    show(a.due||(decide (a.o+a.M - a.g<=0)&&decide (0<a.o+(lV a m:Int)+a.M - a.g)))=_;rw[<-f,decide_eq_false J,Bool.and_false,Bool.or_false,d.due]
   have fin:HM aC az aa au ai (tbl aA ae aB aD af ag ah) K j x A (cw a m):=⟨_,h1,C.read f E X e0.symm⟩;rw[<-h_u3,ax];exists 9;exact q p _ j O k1 fin e1 pv
include T in theorem zY:MA P w K mg base aC "stand_to" 4 ["self","kind"] (ky aC az aa au ai aA ae aB aD af ag ah K):=by
 exists 0,T.mY,zy,ky;rename_i x k;refine⟨_,(ao (bI (aQ (bT K rfl HR.units) (pv 1) bE (nomark _)) (ao (bI (aQ (bT K rfl HR.units) (bK (pv 0) T.aV (rq T) HR (by decide)) bE (nomark _)) (ar (bL (bU (av (pv 0) T.aV T.bh rfl) T.ay (lP T) HR (by decide) (aE (lW K rfl rfl T.Cg) aw)))) aZ)
 (aH (ar (aT (pv 0) (wD (av (pv 0) T.aV T.bP rfl) (IZ T) HR (by decide)) T.aV T.bP)))) aZ)
 (aH (ar (bI (aQ (bT K rfl HR.units) (pv 1) bE (nomark _)) (ar (aT (pv 0) (wD (av (pv 0) T.aV T.bP rfl) (IY T) HR (by decide)) T.aV T.bP)) aZ)))),?_⟩
 obtain⟨A,a,⟨z,f,v⟩,Z,q⟩:=h;obtain⟨O,G,I,es3⟩:=v.s;have lT:z.sd.T.length<990:=by
  rw[G];show O.length<990;rw[pR I];exact Z
 generalize h_u1:ax _=u1;exists f.hx;by_cases ck:k=Str.ofString "begin"
 ·
  rw[if_pos ck];have nk:k≠Str.ofString "end" :=by rw[ck];decide+kernel
  refine⟨A,z,f,?_⟩;have go: ∀(d:Hn) (a1:iX) (j:Hp),bO aC az aa au ai (tbl aA ae aB aD af ag ah) j x A d->c8 K j d a1->a1.nm=a.nm->Kp (foot x A) H j->gP a k={a1 with nm:=(fT a.nm "begun").getD a.nm}->u1 {nx:=ax (Qr (JJ (Qq (Bi K false) (GS 1) (tC (V.str (Str.ofString "end"))))) (Na aC (Str.ofString "state") (GS 0) (MK (qO aA ae aB aD af ag ah) E0 (MO aC (Str.ofString "state") (GS 0)))) JM) {nx:=fun x H'=>Q V.non H',rt:=Q},rt:=Q} [some (V.ref x),some (V.str k)] j:=fun d a1 j hh X en kk es=>by
   rw[<-h_u1,ax];exists hh.hx;refine⟨_,hh.st,fun nx hn y C m s2=>?_⟩;have F:=hh.same m;exists F.hx;have J:=F.own s2 d.due;have k3:Kp (foot x A) C (upd C x (.ins aC A.dx (aX (.int d.side) (.int d.R) (.ref A.tk) (.ref A.sd) (.ref y) (.bl d.due) (.ref A.pe)))):=Kp.upd (by simp[foot]);have U:qC j (upd C x (.ins aC A.dx (aX (.int d.side) (.int d.R) (.ref A.tk) (.ref A.sd) (.ref y) (.bl d.due) (.ref A.pe)))):=fun b u e i=>k3 _ _ (m _ _ e) (F.imm (m _ _ e) i);generalize upd C x (.ins aC A.dx (aX (.int d.side) (.int d.R) (.ref A.tk) (.ref A.sd) (.ref y) (.bl d.due) (.ref A.pe)))=H3 at*
   rw[ax];exists 9;rw[if_neg nk];refine q y H3 ((kk.trans (Kp.of m)).trans k3) ⟨_,J,?_⟩;have E:nx=(fT a.nm "begun").getD a.nm:=by
    rw[X.nm,en,wU (by decide+kernel) (by decide+kernel)] at hn;injection hn with hn;exact hn.symm
   rw[es,E];exact(X.keep U).name
  by_cases cs:z.nm=Str.ofString "shut"
  ·
   rw[if_pos cs];refine⟨_,_,f.sd.hx,?_⟩;rw[qy];refine⟨rfl,fun b hb _=>⟨_,_,f.sd,by lia,fun j b1 s1=>?_⟩⟩;have h1:=f.sender (lL.fr7 b1) s1;have k1:Kp (foot x A) H j:=Kp.but b1 (by simp[foot]);have i1:qC H j:=fun c u e i=>k1 _ _ e (f.imm e i);refine go _ (bS a [(Str.ofString "begin",Str.ofString "")]) j h1 ((v.keep i1).agn ⟨b,rfl,hb j⟩) rfl k1 ?_;unfold gP;rw[if_pos ck,if_pos (by rw[<-v.nm];exact cs)]
  ·
   rw[if_neg cs];refine go z a H f v rfl Kp.refl ?_;unfold gP;rw[if_pos ck,if_neg (by rw[<-v.nm];exact cs)]
 ·
  rw[if_neg ck,ax];exists f.hx;by_cases ce:k=Str.ofString "end"
  ·
   rw[if_pos ce];refine⟨_,f.st,fun nx hn y C m s2=>?_⟩;have F:=f.same m;exists F.hx;have J:=F.own s2 z.due;have k3:Kp (foot x A) C (upd C x (.ins aC A.dx (aX (.int z.side) (.int z.R) (.ref A.tk) (.ref A.sd) (.ref y) (.bl z.due) (.ref A.pe)))):=Kp.upd (by simp[foot]);have U:qC H (upd C x (.ins aC A.dx (aX (.int z.side) (.int z.R) (.ref A.tk) (.ref A.sd) (.ref y) (.bl z.due) (.ref A.pe)))):=fun b u e i=>k3 _ _ (m _ _ e) (F.imm (m _ _ e) i);refine q y _ ((Kp.of m).trans k3) ⟨_,J,?_⟩;have E:nx=(fT a.nm "ended").getD a.nm:=by
    rw[v.nm,wU (by decide+kernel) (by decide+kernel)] at hn;injection hn with hn;exact hn.symm
   rw[show gP a k={a with nm:=(fT a.nm "ended").getD a.nm} by unfold gP;rw[if_neg ck,if_pos ce],E];exact(v.keep U).name
  ·
   rw[if_neg ce];refine q A.st H Kp.refl ⟨z,f,?_⟩;rw[show gP a k=a by unfold gP;rw[if_neg ck,if_neg ce]];exact v
include T in theorem Bt:MA P w K mg base aC "take_in" 5 ["self","number","thing"] (mw aC az aa au ai aA ae aB aD af ag ah K):=by
 exists 0,T.oO,mx,mw;rename_i x m th;refine⟨_,(ao (aP (i:=3) mx.1.nd rfl (Or.inl rfl) (bU (av (pv 0) T.aV T.cv rfl) T.bp (D7 T) HR (by decide) (aE (pv 1) (aE (pv 2) aw))))
 (aH (ao (gr PassesOwn.never rfl (c7 K rfl (bj (cH K rfl) (pv 3) ak (fun _ _=>rfl))) (bC (i:=4) mx.1.nd rfl (Or.inl rfl)) (ar (bL (bU (pv 0) T.aV (zY T) HR (by decide) (aE (bj (qv K rfl) (pv 4) ak (fun _ _=>rfl)) aw)))))
 (aH (ar (aK (lX (aQ lO (bj (cH K rfl) (pv 3) ak (fun _ _=>rfl)) cx (nomark _)) (cI (aE bE (aE cx aw))) (cI (aE bE (aE (bj (cH K rfl) (pv 3) ak (fun _ _=>rfl)) aw)))))))))),?_⟩
 obtain⟨A,a,t,⟨z,C,f⟩,Z,⟨r0,m0,m1,og,hT⟩,q⟩:=h;generalize h_u1:ax _=u1;exists C.hx,C.tk.hx;have hB: ∀i:Int,(bJ z.tk.D (ik i)).isSome=true->i<a.o+a.M:=fun i hi=>by
  obtain⟨j,e,_,h2⟩:=f.db _ (GJ hi);rw[Jd e];exact h2
 have hl:=f.len m0;refine⟨_,_,_,a.o+a.M,C.tk,by rw[f.tR];exact r0,hB,by rw[f.g];lia,by rw[f.o,f.tM];lia,by lia,?_⟩;rw[f.o,f.tM,f.g,f.tR];by_cases c:a.o+a.M - a.g<=(m - a.g) % a.R
 ·
  refine .inl ⟨c,fun p l U S1 np nl hp d=>?_⟩;rw[<-h_u1,ax];generalize h_u2:ax _=u2;exists hp,d;refine rG (xs:=[]) (cQ.of d) (fun i σ H'=>H'=U/\σ= [some (.ref x),some (.int m),some (.ref th),some (.ref p),none]) ⟨rfl,rfl⟩ (fun i σ H' _ hp=>by rw[hp.1];exact cQ.of d) (fun i y σ H' X hp=>by simp at X) (fun σ H' hp'=>?_);obtain⟨rfl,rfl⟩:=hp';rw[<-h_u2,ax];exists hp,d;intro r nr;have F:=S1.trans (G4 (o:= .tup [.str (Str.ofString "old"),.non]) nr);refine q A.st r _ (Kp.of F) ?_ ?_
  ·
   unfold Fg;rw[if_pos c];exact HM.same ⟨z,C,f⟩ F
  ·
   unfold GR;rw[if_pos c];exact dO.of aq
 ·
  refine .inr ⟨by lia,fun D' eD n p l U rn np nl pl f1 t1 d hp=>?_⟩;have h1:=C.taker f1 t1;have k1:Kp (foot x A) H U:=(KU.kp f1).more (fun b hb=>by simp only[List.mem_cons,List.not_mem_nil,or_false] at hb;rcases hb with e|e<;>subst e<;>simp[foot])
  have I:qC H U:=fun b u e i=>k1 _ _ e (C.imm e i);obtain⟨G,en,pv⟩:=Mc (f.keep I) (Z.keep I) m0 og r0 (by lia) eD rn;rw[f.tR,f.tM,f.g,f.o] at G;have lN:(DP a m t).length<=16:=by
   unfold DP y8;rw[List.length_map,List.length_range];have:=JV (D:=vV a m t) a.M.toNat a.g;lia
  have fl:l ∉ foot x A:=C.fresh nl;have fp:p ∉ foot x A:=C.fresh np;rw[<-h_u1,ax];generalize h_u2:ax _=u2;exists hp,d;refine rG (xs:=vals D' a.g n) (cQ.of d) (fun i σ H'=>(∃v4,σ= [some (.ref x),some (.int m),some (.ref th),some (.ref p),v4])/\Kp (foot x A) H H'/\H' l=some (.lst (vals D' a.g n))/\H' p=some (.tup [.int (uZ a m),.ref l])/\Paired (yX K H') (vals D' a.g n) (DP a m t)/\∃v,HM aC az aa au ai (tbl aA ae aB aD af ag ah) K H' x {A with st:=v} (Iv {a with g:=a.g+(y8 a m t:Int),D:=vV a m t} ((DP a m t).take i))) ⟨⟨_,rfl⟩,k1,d,hp,pv,A.st,_,h1,G⟩ (fun i σ H' _ hp=>cQ.of hp.2.2.1) (fun i y σ H' X hq=>?_) (fun σ H' hq=>?_)
  ·
   obtain⟨⟨v4,rfl⟩,kk,el,ep,O,v,hh⟩:=hq;obtain⟨tt,et,q0,rfl,hs⟩:=NL O X;have hh':=hh;obtain⟨zz,hz,_⟩:=hh';exists hz.hx;refine⟨_,_,.inr hs,DF,?_⟩;refine⟨_,_,hh,?_,fun J H2 k2 hm=>?_⟩
   ·
    have:=GX ((DP a m t).take i) {a with g:=a.g+(y8 a m t:Int),D:=vV a m t};rw[List.length_take] at this;have e:({a with g:=a.g+(y8 a m t:Int),D:=vV a m t}:iX).T=a.T:=rfl;rw[e] at this;lia
   ·
    have i2:qC H' H2:=fun b u e j=>k2 _ _ e (hz.imm e j);refine⟨⟨_,rfl⟩,kk.trans k2,k2 _ _ el fl,k2 _ _ ep fp,fi O fun _ _ w=>w.keep i2,J,?_⟩;rw[K4 et];exact hm
  ·
   obtain⟨⟨v4,rfl⟩,kk,el,ep,O,v,hh⟩:=hq;rw[<-h_u2,ax];exists ep;intro r nr;have F:aW H' _:=G4 (o:= .tup [.str (Str.ofString "filed"),.int (uZ a m)]) nr;refine q v r _ (kk.trans (Kp.of F)) ?_ ?_
   ·
    unfold Fg;rw[if_neg c];have E:=hh.same F;rw[pR O,List.take_length] at E;exact E
   ·
    unfold GR;rw[if_neg c];exact dO.of aq
include T in theorem F3:MA P w K mg base aC "hear" 5 ["self","piece","turn"] (qT aC az aa au ai aA ae aB aD af ag ah K):=by
 exists 0,T.uE,rf,qT;rename_i x pc tn;refine⟨_,(ao (aP (i:=3) rf.1.nd rfl (Or.inl rfl) (av (av (pv 0) T.aV T.bh rfl) T.ay T.a8 rfl))
 (aH (ao (bL (bU (av (pv 0) T.aV T.bh rfl) T.ay (Bp T) HR (by decide) (aE (bj (cH K rfl) (pv 1) ak (fun _ _=>rfl)) (aE (bj (cH K rfl) (pv 1) ak (fun _ _=>rfl)) (aE (bj (cH K rfl) (pv 1) ak (fun _ _=>rfl)) (aE (pv 2) aw))))))
 (aH (ar (gr PassesOwn.never rfl (c7 K rfl (av (pv 0) T.aV T.di rfl)) (bC (i:=4) rf.1.nd rfl (Or.inl rfl)) (ar (bI (Hf CG nq (pv 3) (pv 4) (av (av (pv 0) T.aV T.bh rfl) T.ay T.a8 rfl)) (ar (aT (pv 0) (wD (av (pv 0) T.aV T.bP rfl) (D6 T) HR (by decide)) T.aV T.bP)) aZ)))))))),?_⟩
 obtain⟨A,a,kd,n,nu,E,hd,sg,hs,⟨z,C,hR⟩,hp,hhd,ok,q⟩:=h;obtain⟨vs,I,es2,es3⟩:=hR.s;have hS:=C.sd;rw[I] at hS;generalize h_u1:ax _=u1;exists C.hx,hS.hx;rw[<-h_u1,ax];generalize h_u2:ax _=u2;exists C.hx,hS.hx,hp;refine⟨_,_,hs,hS,⟨ok.bz.b0,ok.bz.bt,ok.bz.t1⟩,ok.r0,hhd,ok.hl,ok.hn,ok.hp,ok.tq,ok.kl,ok.tm,ok.kc,fun p H1 np f1 alt=>?_⟩;have h1:bO aC az aa au ai (tbl aA ae aB aD af ag ah) H1 x A {z with sd:={nB a.s nu E hs tn with T:=vs}}:=by
  rw[<-RH];rcases alt with⟨c,S1,_⟩|⟨c,s1,_⟩
  ·
   have e:nB {a.s with T:=vs} nu E hs tn={a.s with T:=vs}:=by unfold nB;rw[if_pos c]
   rw[e,<-I];exact C.same S1
  ·
   have e:nB {a.s with T:=vs} nu E hs tn=hrd {a.s with T:=vs} nu E hs tn:=by unfold nB;rw[if_neg (by lia)]
   rw[e];exact C.sender f1 s1
 have k1:Kp (foot x A) H H1:=(DN.kp f1).more (fun b hb=>by simp only[List.mem_cons,List.not_mem_nil,or_false] at hb;rcases hb with e|e|e|e|e|e|e<;>subst e<;>simp[foot])
 have U:qC H H1:=fun b u e i=>k1 _ _ e (C.imm e i);have m:=hR.keep U;have es2':Paired (yX K H1) vs a.T:=fi es2 fun _ _ w=>w.keep U;have O:(nB a.s nu E hs tn).T.length=vs.length:=by rw[O7];exact es3
 unfold Kq at q;clear alt;generalize nB a.s nu E hs tn=s2 at*
 rw[<-h_u2,ax];exists h1.hx,h1.sd.hx;refine rG (xs:=z.ends.map V.int) (cQ.of h1.he) (fun i σ H'=>(∃v4,σ= [some (.ref x),some (.ref pc),some (.int tn),some (.int a.s.b),v4])/\Kp (foot x A) H H'/\∃f d,d.sd.b=s2.b/\d.ends=z.ends/\d.nm=GA a.s.b s2.b (a.ends.take i) a.nm/\bO aC az aa au ai (tbl aA ae aB aD af ag ah) H' x {A with st:=f} d/\c8 K H' d {a with s:=s2,nm:=GA a.s.b s2.b (a.ends.take i) a.nm}) ⟨⟨_,rfl⟩,k1,A.st,_,rfl,rfl,m.nm,h1,?_⟩ (fun i σ H' _ G=>?_) (fun i y σ H' F G=>?_) (fun σ H' G=>?_)
 ·
  show c8 K H1 _ {a with s:=s2,nm:=a.nm};rw[m.nm];exact c8.snd m es2' O
 ·
  obtain⟨_,_,f,d,_,ee,_,hh,_⟩:=G;have:=hh.he;rw[ee] at this;exact cQ.of this
 ·
  obtain⟨⟨v4,rfl⟩,Z,f,d,e1,e2,e3,hh,v⟩:=G;obtain⟨pl,j,rfl⟩: ∃pl,a.ends[i]?=some pl/\y = .int pl:=by
   rw[List.getElem?_map,hR.ends] at F;cases e:a.ends[i]? with
   |none=>rw[e] at F;cases F
   |some pl=>rw[e] at F;cases F;exact⟨pl,rfl,rfl⟩
  exists hh.hx,hh.sd.hx;rw[e1];by_cases c1:a.s.b<=pl
  ·
   rw[if_pos c1];by_cases X:pl<s2.b
   ·
    rw[if_pos X];refine⟨_,hh.st,fun nx hn y H2 S2 t2=>?_⟩;have h2:=hh.same S2;exists h2.hx;have h3:=h2.own t2 d.due;have k3:Kp (foot x A) H2 (upd H2 x (.ins aC A.dx (aX (.int d.side) (.int d.R) (.ref A.tk) (.ref A.sd) (.ref y) (.bl d.due) (.ref A.pe)))):=Kp.upd (by simp[foot]);have i3:qC H' (upd H2 x (.ins aC A.dx (aX (.int d.side) (.int d.R) (.ref A.tk) (.ref A.sd) (.ref y) (.bl d.due) (.ref A.pe)))):=fun b u e i=>k3 _ _ (S2 _ _ e) (h2.imm (S2 _ _ e) i);have J:nx=GA a.s.b s2.b (a.ends.take (i+1)) a.nm:=by
     rw[qB j,if_pos ⟨c1,X⟩];rw[e3,wU (by decide+kernel) (by decide+kernel)] at hn;injection hn with hn;exact hn.symm
    refine⟨⟨_,rfl⟩,(Z.trans (Kp.of S2)).trans k3,y,{d with nm:=nx},e1,e2,J,h3,?_⟩;rw[J];exact(v.keep i3).name
   ·
    rw[if_neg X];refine⟨⟨_,rfl⟩,Z,f,d,e1,e2,?_,hh,?_⟩
    ·rw[qB j,if_neg (fun c=>X c.2)];exact e3
    ·rw[qB j,if_neg (fun c=>X c.2)];exact v
  ·
   rw[if_neg c1];refine⟨⟨_,rfl⟩,Z,f,d,e1,e2,?_,hh,?_⟩
   ·rw[qB j,if_neg (fun c=>c1 c.1)];exact e3
   ·rw[qB j,if_neg (fun c=>c1 c.1)];exact v
 ·
  obtain⟨⟨v4,rfl⟩,Z,f,d,e1,e2,e3,hh,v⟩:=G;rw[List.length_map,hR.ends,List.take_length] at v;exact q f H' Z ⟨d,hh,v⟩
include T in theorem Bj:FA P w K mg base "read_or_none" 6 ["frame"] (mf aO aR aI):=by
 exists 0,T.oA,A6,mf;rename_i f;refine⟨_,(ar (NJ (fun _ _ _=>(ar (aK (UT (Rg T) HR (by decide) rfl (yi rfl) (aE (pv 0) aw))))) (UO rfl (F5 T.vU rfl (F5 T.y2 rfl (F5 T.vT rfl U9))) (by simp) (fun _=>(ar (aK cx))) NN))),?_⟩;obtain⟨q1,q2⟩:=h;exists T.eU,T.fH,T.gL,T.eS,T.fJ,T.eQ,T.eY,T.fN,T.gO,T.eX,T.fO,T.eW;refine⟨fun c H' d i _ t nt u ne=>q1 ?_ _ ((i.trans (aG nt)).trans (aG ne)),fun c j H' d i _ t nt u ne=>q1 ?_ _ ((i.trans (aG nt)).trans (aG ne)),fun c j m H' d i _ t nt u ne=>q1 ?_ _ ((i.trans (aG nt)).trans (aG ne)),fun c j m t H' i rt=>q2 ?_ t H' i rt⟩
 ·unfold Aa;rw[decide_eq_false c];rfl
 ·unfold Aa;rw[decide_eq_false j,Bool.false_and,Bool.and_false]
 ·unfold Aa;rw[m,Bool.and_false,Bool.and_false]
 ·unfold Aa;rw[decide_eq_true c,decide_eq_true j,m];rfl
include T in theorem yr:MA P w K mg base aC "come" 7 ["self","frame","turn"] (qU aC az aa au ai aA ae aB aD af ag ah aO aR aI K):=by
 exists 0,T.uF,x_,qU;rename_i x f tn;refine⟨_,(ao (aP (i:=3) x_.1.nd rfl (Or.inl rfl) (bq (Bj T) HR (by decide) rfl (aE (pv 1) aw)))
 (aH (ao (bI (PW.pt (pw_or (aQ lO (pv 3) cx (nomark _)) (pw_or (aQ CI (bj (cH K rfl) (pv 3) ak (fun _ _=>rfl)) (av (pv 0) T.aV T.iU rfl) (nomark _)) (pw_or1 (aQ CI (bj (cH K rfl) (pv 3) ak (fun _ _=>rfl)) (av (pv 0) T.aV T.iU rfl) (nomark _)))))) (ar (aK (cI (aE bE (aE cx aw))))) aZ)
 (aH (ao (bL (bU (pv 0) T.aV (F3 T) HR (by decide) (aE (pv 3) (aE (pv 2) aw))))
 (aH (ao (bI (aQ (bT K rfl HR.units) (bj (cH K rfl) (pv 3) ak (fun _ _=>rfl)) bE (nomark _)) (ar (aK (cI (aE bE (aE cx aw))))) aZ)
 (aH (ao (aT (pv 0) d5 T.aV T.b8)
 (aH (ao (bI (aQ (bT K rfl HR.units) (bj (cH K rfl) (pv 3) ak (fun _ _=>rfl)) bE (nomark _)) (ar (aK (cI (aE bE (aE cx aw))))) aZ)
 (aH (ar (aK (bU (pv 0) T.aV (Bt T) HR (by decide) (aE (bj (cH K rfl) (pv 3) ak (fun _ _=>rfl)) (aE (cI (aE (bj (cH K rfl) (pv 3) ak (fun _ _=>rfl)) (aE (bj (cH K rfl) (pv 3) ak (fun _ _=>rfl)) aw))) aw))))))))))))))))),?_⟩
 obtain⟨A,a,⟨z,hH,hR⟩,ok,⟨r0,m0,m1,og,hT⟩,q⟩:=h;have G: ∀v,aW H v->dM a f=false->∀p,v p=none->Q (.ref p) (upd v p (.tup [.str (Str.ofString "spoilt"),.non])):=fun v j c p F=>by
  have S2:=j.trans (aG (o:= .tup [.str (Str.ofString "spoilt"),.non]) F);refine q A.st p _ (Kp.of S2) ?_ ?_
  ·
   unfold vR;rw[if_neg (by rw[c];decide)];exact HM.same ⟨z,hH,hR⟩ S2
  ·
   unfold yS;rw[if_neg (by rw[c];decide)];exact dO.of aq
 generalize h_u1:ax _=u1;exists hH.hx;refine⟨fun c v j=>?_,fun c pc v j rt=>?_⟩
 ·
  rw[<-h_u1,ax];generalize h_u2:ax _=u2;exists (hH.same j).hx;exact G v j (by unfold dM;rw[c];rfl)
 have h1:=hH.same j;have hR1:=hR.keep (qC.of j);obtain⟨hd,hp,hhd⟩:=rt;rw[<-h_u1,ax];generalize h_u2:ax _=u2;exists h1.hx,hp;rw[hR.R];by_cases c1:a.R<=My (f.toNat / 256)
 ·
  rw[if_pos c1];exact G v j (by unfold dM sL;rw[decide_eq_false (by lia),Bool.false_and,Bool.and_false])
 rw[if_neg c1];by_cases c2:a.R<=Mz (f.toNat / 256)
 ·
  rw[if_pos c2];exact G v j (by unfold dM sL;rw[decide_eq_false (show¬Mz (f.toNat / 256)<a.R by lia),Bool.and_false,Bool.and_false])
 rw[if_neg c2];have E:dM a f=true:=by unfold dM sL;rw[c,decide_eq_true (by lia),decide_eq_true (by lia)];rfl
 unfold vR yS at q;rw[if_pos E,if_pos E] at q;rw[<-h_u2,ax];generalize h_u3:ax _=u3;exists h1.hx;refine⟨A,a,_,_,_,_,_,_,_,⟨z,h1,hR1⟩,hp,hhd.1,ok E,fun d C k2 m2=>?_⟩;have Z:pc ∉ foot x A:=h1.imm hp (.inl ⟨_,rfl⟩);have O:=k2 _ _ hp Z;have kk:Kp (foot x A) H C:=(Kp.of j).trans k2;have m2':HM aC az aa au ai (tbl aA ae aB aD af ag ah) K C x {A with st:=d} (vQ a f tn):=m2;obtain⟨y,m,hr2⟩:=m2';rw[<-h_u3,ax];generalize h_u4:ax _=u4;exists O;by_cases J:Bw (f.toNat / 256)=Str.ofString "bare"
 ·
  rw[if_pos J];intro p F;have X:=aG (o:= .tup [.str (Str.ofString "bare"),.non]) F;refine q d p _ (kk.trans (Kp.of X)) ?_ ?_
  ·
   rw[if_pos (show Bw (sL f) = "bare" from J)];exact HM.same m2 X
  ·
   rw[if_pos (show Bw (sL f) = "bare" from J)];exact dO.of aq
 rw[if_neg J];rw[if_neg (show¬Bw (sL f) = "bare" from J),if_neg (show¬Bw (sL f) = "bare" from J)] at q;rw[<-h_u4,ax];generalize h_u5:ax _=u5;exists m.hx;have h3:=m.own m.st true;have k3:Kp (foot x A) C (upd C x (.ins aC A.dx (aX (.int y.side) (.int y.R) (.ref A.tk) (.ref A.sd) (.ref d) (.bl true) (.ref A.pe)))):=Kp.upd (by simp[foot]);have i3:qC C (upd C x (.ins aC A.dx (aX (.int y.side) (.int y.R) (.ref A.tk) (.ref A.sd) (.ref d) (.bl true) (.ref A.pe)))):=fun b u e i=>k3 _ _ e (m.imm e i);have m3:HM aC az aa au ai (tbl aA ae aB aD af ag ah) K (upd C x (.ins aC A.dx (aX (.int y.side) (.int y.R) (.ref A.tk) (.ref A.sd) (.ref d) (.bl true) (.ref A.pe)))) x {A with st:=d} {vQ a f tn with due:=true}:=⟨_,h3,(hr2.keep i3).dued⟩;generalize upd C x (.ins aC A.dx (aX (.int y.side) (.int y.R) (.ref A.tk) (.ref A.sd) (.ref d) (.bl true) (.ref A.pe)))=H3 at*
 have U:=k3 _ _ O Z;rw[<-h_u5,ax];generalize h_u6:ax _=u6;exists U;by_cases I:Bw (f.toNat / 256)=Str.ofString "ask"
 ·
  rw[if_pos I];intro p F;have X:=aG (o:= .tup [.str (Str.ofString "ask"),.non]) F;refine q d p _ ((kk.trans k3).trans (Kp.of X)) ?_ ?_
  ·
   rw[if_pos (show Bw (sL f) = "ask" from I)];exact HM.same m3 X
  ·
   rw[if_pos (show Bw (sL f) = "ask" from I)];exact dO.of aq
 rw[if_neg I];rw[if_neg (show¬Bw (sL f) = "ask" from I),if_neg (show¬Bw (sL f) = "ask" from I)] at q;rw[<-h_u6,ax];exists h3.hx,U;intro p F;have S4:=aG (o:= .tup [.str (Bw (f.toNat / 256)),.str (Mx (f.toNat / 256))]) F;exact⟨_,_,(Bw (f.toNat / 256),Mx (f.toNat / 256)),HM.same m3 S4,⟨p,rfl,dO.of aq⟩,⟨r0,m0,m1,og,hT⟩,fun st' r H' k4 m4 s4=>q st' r H' (((kk.trans k3).trans (Kp.of S4)).trans k4) m4 s4⟩
include T in theorem zZ:MA P w K mg base aC "piece_of" 3 ["self","word","place"] (kz aC az aa au ai aA ae aB aD af ag ah K):=by
 exists 0,T.mZ,kD,kz;rename_i x w pl;refine⟨_,(ao (aP (i:=3) kD.1.nd rfl (Or.inl rfl) (bK (av (pv 0) T.aV T.cv rfl) T.bp (sE T) HR (by decide)))
 (aH (ao (bI (aQ lO (pv 2) cx (nomark _)) (ar (aK (cI (aE (pv 1) (aE ak (aE (bj (cH K rfl) (pv 3) ak (fun _ _=>rfl)) (aE (bj (cH K rfl) (pv 3) ak (fun _ _=>rfl)) (aE (bj (cH K rfl) (pv 3) ak (fun _ _=>rfl)) (aE bE aw))))))))) aZ)
 (aH (ao (aP (i:=4) kD.1.nd rfl (Or.inl rfl) (bU (av (pv 0) T.aV T.bh rfl) T.ay (sF T) HR (by decide) (aE (pv 2) aw)))
 (ar (aK (cI (aE (bj (qv K rfl) (pv 4) ak (fun _ _=>rfl)) (aE (aF bH (pv 2) (av (pv 0) T.aV T.iU rfl)) (aE (bj (cH K rfl) (pv 3) ak (fun _ _=>rfl)) (aE (bj (cH K rfl) (pv 3) ak (fun _ _=>rfl)) (aE (bj (cH K rfl) (pv 3) ak (fun _ _=>rfl)) (aE (bj (qv K rfl) (pv 4) ak (fun _ _=>rfl)) aw)))))))))))))),?_⟩
 obtain⟨A,a,⟨z,m,d⟩,⟨r0,m0,m1⟩,q⟩:=h;generalize h_u1:ax _=O;exists m.hx,m.tk.hx;refine⟨_,_,_,m.tk,by rw[d.tR];exact r0,by rw[d.o,d.tM,d.g];exact⟨m0,m1⟩,fun p t hs X u j Z nt ht hp=>?_⟩;rw[d.held] at j;rw[d.o,d.tM,d.g,d.tR] at hp;subst j;have hl:(yU a).length<=1000:=by
  unfold yU;rw[List.length_map];refine Nat.le_trans (List.length_filter_le _ _) ?_;rw[List.length_range];lia
 have h1:=m.same u;have C:=d.keep (qC.of u);rw[<-h_u1,ax];generalize h_u2:ax _=U;rcases q with⟨rfl,q⟩|⟨pp,th,rfl,F,H,q⟩
 ·
  exists hp;intro y f;exact q y _ (u.trans (aG f)) ⟨t,aq,by rw[aj (fun z=>by rw[z,f] at ht;cases ht)];exact ht,hl,by decide+kernel⟩
 ·
  exists hp;rw[<-h_u2,ax];generalize h_u3:ax _=u3;exists h1.hx,h1.sd.hx;obtain⟨vs,G,E,I⟩:=C.s;obtain⟨v,J,tp,rfl,hs⟩:=UM E F;refine⟨_,_,.ref tp,h1.sd,by rw[G];exact J,?_⟩;refine⟨_,_,.inr hs,DF,?_⟩;exists h1.hx,hp;rw[d.R];refine⟨r0,?_⟩;refine⟨_,_,.inr hs,Fc,fun y f=>?_⟩;exact q y _ (u.trans (aG f)) ⟨t,aq,by rw[aj (fun z=>by rw[z,f] at ht;cases ht)];exact ht,hl,H⟩
include T in theorem F0:MA P w K mg base aC "send" 5 ["self","turn"] (qQ aC az aa au ai aA ae aB aD af ag ah aI K):=by
 exists 1,T.uB,nC,qQ;rename_i x n;refine⟨_,(ao (PS.nox (aP (i:=2) nC.1.nd rfl (Or.inl rfl) (bU (av (pv 0) T.aV T.bh rfl) T.ay (FX T) HR (by decide) (aE (pv 1) aw))))
 (aH (ao (PS.nox (bI (PW.pt (pw_and (aQ lO (pv 2) cx (nomark _)) (pw_and1 (eE (oh (av (pv 0) T.aV T.b8 rfl)))))) (ar (aK cx)) aZ))
 (aH (ao (PS.nox (aP (i:=3) nC.1.nd rfl (Or.inl rfl) (lX (aQ lO (pv 2) cx (nomark _)) bE (bj (cH K rfl) (pv 2) ak (fun _ _=>rfl)))))
 (aH (ao (PS.nox (aP (i:=4) nC.1.nd rfl (Or.inl rfl) (lX (aQ lO (pv 2) cx (nomark _)) cx (bj (cH K rfl) (pv 2) ak (fun _ _=>rfl)))))
 (aH (ao (PS.nox (aT (pv 0) d5 T.aV T.b8))
 (aH (ar (aK (cI (aE (UU (wJ T) HR (by decide) rfl o_ rfl (aE (bU (pv 0) T.aV (zZ T) HR (by decide) (aE (pv 3) (aE (pv 4) aw))) aw)) (aE (pv 3) (aE (pv 4) aw)))))))))))))))),?_⟩
 obtain⟨A,a,⟨z,hH,hR⟩,ok,q1,q2⟩:=h;obtain⟨vs,es1,es2,Z⟩:=hR.s;have hS:=hH.sd;rw[es1] at hS;generalize h_u1:ax _=u1;exists hH.hx,hS.hx;refine⟨_,_,hS,⟨ok.bz.b0,ok.bz.bt,ok.bz.t1⟩,ok.ck,ok.la,ok.lf,fun v f z' f1 s1 g1=>?_⟩;obtain⟨e1,alt⟩:=afB g1;rw[afC Z] at e1 alt;subst e1;have h1:bO aC az aa au ai (tbl aA ae aB aD af ag ah) f x A {z with sd:={(By a.s n).1 with T:=vs}}:=hH.sender f1 s1;have k1:Kp (foot x A) H f:=(DN.kp f1).more (fun b hb=>by simp only[List.mem_cons,List.not_mem_nil,or_false] at hb;rcases hb with e|e|e|e|e|e|e<;>subst e<;>simp[foot])
 have U:qC H f:=fun b u e i=>k1 _ _ e (hH.imm e i);have F:=hR.keep U;have y:Paired (yX K f) vs a.T:=fi es2 fun _ _ w=>w.keep U;have el:(By a.s n).1.T.length=vs.length:=by rw[Xo];exact Z
 rw[<-h_u1,ax];generalize h_u2:ax _=u2;rcases alt with⟨e2,rfl⟩|⟨w,pl,p,e2,rfl,np,hp⟩
 ·
  exists h1.hx;cases ed:z.due
  ·
   rw[if_pos rfl];have ea:a.due=false:=by rw[<-hR.due];exact ed
   refine q1 (by unfold we;rw[show(By a.s n).2=none from e2];show(if a.due then _ else _)=_;rw[ea];rfl) f k1 ⟨_,h1,?_⟩;have m:=c8.sent (d:=z.due) F y el;rw[show cT a n={a with s:=(By a.s n).1,due:=z.due} by unfold cT;rw[ed]];exact m
  rw[if_neg (by decide)];have ea:a.due=true:=by rw[<-hR.due];exact ed
  have sw:we a n=some (Str.ofString "bare",none):=by unfold we;rw[show(By a.s n).2=none from e2];show(if a.due then _ else _)=_;rw[ea];rfl
  have pb:=ok.pb _ _ sw;rw[<-h_u2,ax];generalize h_u3:ax _=u3;exists 9;rw[<-h_u3,ax];generalize h_u4:ax _=u4;exists 9;rw[<-h_u4,ax];generalize h_u5:ax _=u5;exists h1.hx;have O:=h1.own h1.st false;have k3:Kp (foot x A) f (upd f x (.ins aC A.dx (aX (.int z.side) (.int z.R) (.ref A.tk) (.ref A.sd) (.ref A.st) (.bl false) (.ref A.pe)))):=Kp.upd (by simp[foot]);have X:qC f (upd f x (.ins aC A.dx (aX (.int z.side) (.int z.R) (.ref A.tk) (.ref A.sd) (.ref A.st) (.bl false) (.ref A.pe)))):=fun b u e i=>k3 _ _ e (h1.imm e i);have I:HM aC az aa au ai (tbl aA ae aB aD af ag ah) K (upd f x (.ins aC A.dx (aX (.int z.side) (.int z.R) (.ref A.tk) (.ref A.sd) (.ref A.st) (.bl false) (.ref A.pe)))) x A (cT a n):=⟨{z with sd:={(By a.s n).1 with T:=vs},due:=false},O,c8.sent (F.keep X) (fi y fun _ _ w=>w.keep X) el⟩;generalize upd f x (.ins aC A.dx (aX (.int z.side) (.int z.R) (.ref A.tk) (.ref A.sd) (.ref A.st) (.bl false) (.ref A.pe)))=H3 at*
  rw[<-h_u5,ax];exists O.hx;refine⟨A,cT a n,I,⟨ok.r0,ok.m0,ok.m1⟩,?_⟩;refine .inl fun t H4 C tt=>?_;refine⟨_,_,_,_,_,_,tt,fun _ H5 E J j=>?_,fun c=>absurd (pb.1.symm.trans c) (by decide)⟩;exact q2 _ _ sw J _ (((k1.trans k3).trans (Kp.of C)).trans (Kp.of (E.trans (aG j)))) (HM.same I ((C.trans E).trans (aG j))) aq
 ·
  exists h1.hx;have sw:we a n=some (w,pl):=by unfold we;rw[show(By a.s n).2=some (w,pl) from e2]
  have pb:=ok.pb _ _ sw;rw[<-h_u2,ax];generalize h_u3:ax _=u3;exists hp;rw[<-h_u3,ax];generalize h_u4:ax _=u4;exists hp;rw[<-h_u4,ax];generalize h_u5:ax _=u5;exists h1.hx;have O:=h1.own h1.st false;have k3:Kp (foot x A) f (upd f x (.ins aC A.dx (aX (.int z.side) (.int z.R) (.ref A.tk) (.ref A.sd) (.ref A.st) (.bl false) (.ref A.pe)))):=Kp.upd (by simp[foot]);have X:qC f (upd f x (.ins aC A.dx (aX (.int z.side) (.int z.R) (.ref A.tk) (.ref A.sd) (.ref A.st) (.bl false) (.ref A.pe)))):=fun b u e i=>k3 _ _ e (h1.imm e i);have I:HM aC az aa au ai (tbl aA ae aB aD af ag ah) K (upd f x (.ins aC A.dx (aX (.int z.side) (.int z.R) (.ref A.tk) (.ref A.sd) (.ref A.st) (.bl false) (.ref A.pe)))) x A (cT a n):=⟨{z with sd:={(By a.s n).1 with T:=vs},due:=false},O,c8.sent (F.keep X) (fi y fun _ _ w=>w.keep X) el⟩;generalize upd f x (.ins aC A.dx (aX (.int z.side) (.int z.R) (.ref A.tk) (.ref A.sd) (.ref A.st) (.bl false) (.ref A.pe)))=H3 at*
  rw[<-h_u5,ax];exists O.hx;refine⟨A,cT a n,I,⟨ok.r0,ok.m0,ok.m1⟩,?_⟩;cases pl with
  |none=>
   refine .inl ⟨rfl,fun t H4 C tt=>?_⟩;refine⟨_,_,_,_,_,_,tt,fun _ H5 E J j=>?_,fun c=>absurd (pb.1.symm.trans c) (by decide)⟩;exact q2 _ _ sw J _ (((k1.trans k3).trans (Kp.of C)).trans (Kp.of (E.trans (aG j)))) (HM.same I ((C.trans E).trans (aG j))) aq
  |some G=>
   obtain⟨th,t1,t2⟩:=pb.2 G rfl;have et:DZ a w (some G)=th:=by
    show(oW a.T G).getD _=th;rw[t1];rfl
   have sb:cD th.1 (G % a.R) (a.g % a.R) (a.o+a.M - a.g) (yU a) th.2=true:=by
    have:=pb.1;unfold Iy at this;rw[et] at this;exact this
   have en:K7 a w (some G)=iw th.1 (G % a.R) (a.g % a.R) (a.o+a.M - a.g) (yU a) th.2:=by
    unfold K7;rw[et];rfl
   refine .inr ⟨G,th,rfl,t1,t2,fun t H4 C tt=>?_⟩;refine⟨_,_,_,_,_,_,tt,fun _ H5 E J j=>?_,fun c=>absurd (sb.symm.trans c) (by decide)⟩;exact q2 _ _ sw J _ (((k1.trans k3).trans (Kp.of C)).trans (Kp.of (E.trans (aG j)))) (HM.same I ((C.trans E).trans (aG j))) (by rw[en];exact aq)
include T in theorem mH:FA P w K mg base "_law_cell_at" 1 ["_law_script","_law_k"] (mj K):=by
 exists 0,T.oE,A9,mj;rename_i a k;refine⟨_,(ao (bI (aQ nq (pv 1) (a9 (lI K rfl) (by rfl) T.l9 iR (aE (pv 0) aw)) (nomark _)) (ar (aK (bj (qv K rfl) (pv 0) (pv 1) (fun _ _=>rfl)))) aZ)
 (ar (aK ak))),?_⟩
 obtain⟨ns,d,h0,q⟩:=h;exists 9;refine⟨_,.inl d,?_⟩;rw[List.length_map];split
 ·rename_i c;exact OB d h0 c (q _)
 ·exact q _
include T in theorem vO:FA P w K mg base "_law_mixed" 1 ["_law_cell","_law_k"] pF:=by
 exists 0,T.rT,lM,pF;rename_i c k;refine⟨_,(ao (bI (PW.pt (pw_and (aQ CI (pv 0) (aF fK ak ak) (nomark _)) (pw_and1 (aQ vN (aF mF (pv 0) (aF (a_ K rfl) ak (aF mG ak (pv 1)))) ak (nomark _))))) (ar (aK (aF bH (aF mF (pv 0) (aF (a_ K rfl) ak (aF mG ak (pv 1)))) ak))) aZ)
 (aH (ao (aP (i:=2) lM.1.nd rfl (Or.inl rfl) (aF (a_ K rfl) (aF bH (pv 0) ak) ak))
 (ao (gr PassesOwn.never rfl (iT rfl T.dC (aE ak aw)) (bC (i:=3) lM.1.nd rfl (Or.inl rfl)) (ar (aP (i:=2) lM.1.nd rfl (Or.inl rfl) (aF bH (aF (a_ K rfl) (aF (a_ K rfl) (aF mG (pv 2) (pv 2)) (aF mG ak (pv 2))) (pv 1)) ak))))
 (ar (aK (pv 2))))))),?_⟩
 obtain⟨h0,q⟩:=h;generalize h_u1:ax _=f;exists 9;have sh:P6 1 90:=⟨⟨by decide,by decide⟩,by decide+kernel,by decide+kernel⟩;have tail:f {nx:=fun _ H'=>Q .non H',rt:=Q} [some (.int c),some (.int k),none,none] H:=by
  rw[<-h_u1,ax];exists 9;refine tQ (lo:=0) (n:=3) (fun i σ H'=>H'=H/\∃v d,σ= [some (.int c),some (.int k),some (.int v),d]/\0<=v/\v<2147483647+(if i=0 then 48271 else 0)) ⟨rfl,_,none,rfl,by lia,by rw[if_pos rfl];lia⟩ (fun i σ H' _ hp=>?_) (fun σ H' hp=>?_)
  ·
   obtain⟨rfl,v,d,rfl,h0,h1⟩:=hp;exists 9;have j:v<3000000000:=by split at h1<;>lia
   exact⟨.inl ⟨by lia,by lia⟩,_,_,rfl,Int.emod_nonneg _ (by decide),Int.emod_lt_of_pos _ (by decide)⟩
  ·
   obtain⟨rfl,v,d,rfl,h0,h1⟩:=hp;exists 9;exact q v h0 (by rw[if_neg (by decide)] at h1;lia)
 refine⟨sh,?_⟩;split
 ·
  refine⟨by lia,?_⟩;split
  ·exact⟨by lia,q _ (Int.emod_nonneg _ (by decide)) (Int.emod_lt_of_pos _ (by decide))⟩
  ·exact tail
 ·exact tail
include T in theorem D3:FA P w K mg base "_law_terms" 5 ["_law_cell","_law_other"] (pD bR):=by
 exists 0,T.rR,cJ,pD;rename_i c n;refine⟨_,(ao (aP (i:=2) cJ.1.nd rfl (Or.inl rfl) (cI (aE (aF (a_ K rfl) ak (aF bH (pv 0) ak)) (aE (aF (a_ K rfl) ak (aF bH (aF bV (pv 0) ak) ak)) aw))))
 (ao (aP (i:=3) cJ.1.nd rfl (Or.inr rfl) (aF (a_ K rfl) ak (aF bH (aF bV (pv 0) ak) ak)))
 (aH (yd (bI (aQ vN (aF bH (aF bV (pv 0) ak) ak) ak (nomark _)) (ao (aP (i:=2) cJ.1.nd rfl (Or.inl rfl) (cI (aE (aF (a_ K rfl) ak (aF bH (pv 0) ak)) (aE (aF (a_ K rfl) ak (aF bH (aF bV (pv 0) ak) ak)) aw))))
 (ar (aP (i:=3) cJ.1.nd rfl (Or.inr rfl) (aF (a_ K rfl) ak (aF bH (aF bV (pv 0) ak) ak))))) aZ)
 (aH (ao (aP (i:=4) cJ.1.nd rfl (Or.inl rfl) (a9 (E5 K rfl rfl) (by rfl) T.DE DC (aE (aF (a_ K rfl) (jt (aE (aF (a_ K rfl) ak (aF bV (pv 3) ak)) aw)) (gM (N:=(["_law_room","_law_lag"]:List Str)) (nv:=1) (ix:=[3]) rfl (oR (by kernel_rfl)) (c7 K rfl (pv 2)) (fun _ _ _ _ _=>(bC (i:=0) (show((["_law_room","_law_lag"]:List Str)).Nodup by decide) rfl (Or.inl rfl))) (fun _ _ _ _ _=>(uO (aQ vN (pv 0) ak (nomark _)))) (fun _ _ _ _ _=>(aF cZ (aF (a_ K rfl) (aF mG ak (pv 0)) (pv 1)) ak)))) aw)))
 (aH (ao (aP (i:=5) cJ.1.nd rfl (Or.inl rfl) (aF (a_ K rfl) ak (aF bH (pv 1) ak)))
 (aH (yd (bI (aQ vN (aF bH (aF bV (pv 1) ak) ak) ak (nomark _)) (ar (aP (i:=5) cJ.1.nd rfl (Or.inl rfl) (aF (a_ K rfl) ak (aF bH (pv 1) ak)))) aZ)
 (aH (ao (aP (i:=6) cJ.1.nd rfl (Or.inl rfl) (aF (a_ K rfl) (pv 4) (aF bH (aF bV (pv 1) ak) (aF cZ ak (pv 4)))))
 (aH (ar (aK (wF T.dB (ym T) HR (by decide) rfl (aE (pv 6) (aE (pv 2) (aE (pv 3) (aE (pv 5) (aE (aF (a_ K rfl) (pv 5) (aF bH (aF bV (pv 1) ak) (aF cZ ak (pv 5)))) aw))))))))))))))))))))),?_⟩
 generalize h_u1:ax _=u1;exists 9;have S0:aW H H:=aW.refl H;intro p0 U;have Z:=aq (H:=H) (a:=p0) (o:=(.tup [.int (1+c % 16),.int (1+c / 16 % 16)]));have I:=aG (H:=H) (o:=(.tup [.int (1+c % 16),.int (1+c / 16 % 16)])) U;replace S0:=S0.trans I;generalize upd H p0 ((.tup [.int (1+c % 16),.int (1+c / 16 % 16)]))=H1 at*
 rw[<-h_u1,ax];generalize h_u2:ax _=u2;refine⟨fun d H'=> ∃p o t g,d= [some (.int c),some (.int n),some (.ref p),some (.int g),none,none,none]/\aW H H'/\H' p=some (.tup [.int o,.int t])/\(1<=o/\o<=16)/\(1<=t/\t<=16)/\(1<=g/\g<=32),?_,?_⟩
 ·
  exists 9;split
  ·
   intro p1 hp1;exact⟨p1,_,_,_,rfl,S0.trans (aG hp1),aq,by lia,by lia,by lia⟩
  ·exact⟨p0,_,_,_,rfl,S0,Z,by lia,by lia,by lia⟩
 rintro d H2 ⟨p,o,t,g,rfl,F,hp,bo,bt,bg⟩;rw[<-h_u2,ax];generalize h_u3:ax _=u3;exists 9;intro p3 O;have j:=aq (H:=H2) (a:=p3) (o:=(.lst [.int (2+g / 2)]));have y:=aG (H:=H2) (o:=(.lst [.int (2+g / 2)])) O;replace hp:=y _ _ hp;replace F:=F.trans y;generalize upd H2 p3 ((.lst [.int (2+g / 2)]))=H3 at*
 refine AK (p:=fun x=>match x with | .int i=>decide (1<i)|_=>false) (f:=fun x=>match x with | .int i=> .int (2*i+g - 1)|_=> .non) (dO.of hp) (bc (by simp)) (fun x hx Q h=>?_) (fun x hx _ Q h=>?_) ?_
 ·
  simp only[List.mem_cons,List.not_mem_nil,or_false] at hx;rcases hx with rfl|rfl<;>(exists 9;exact h)
 ·
  simp only[List.mem_cons,List.not_mem_nil,or_false] at hx;rcases hx with rfl|rfl<;>(exists 9;exact h)
 obtain⟨ns,en,ln,n1,n2,n3⟩: ∃ns:List Int,List.map (fun x=>match x with|V.int i=>V.int (2*i+g - 1)|_=>V.non) (List.filter (fun x=>match x with|V.int i=>decide (1<i)|_=>false) [V.int o,V.int t])=ns.map V.int/\ns.length<=2/\(1<o->2*o+g - 1∈ns)/\(1<t->2*t+g - 1∈ns)/\∀m∈ns,m<=63:=by
  by_cases c1:1<o<;>by_cases E:1<t
  ·exact⟨[2*o+g - 1,2*t+g - 1],by simp[c1,E],by simp,fun _=>by simp,fun _=>by simp,fun m hm=>by simp at hm;lia⟩
  ·exact⟨[2*o+g - 1],by simp[c1,E],by simp,fun _=>by simp,fun h=>absurd h E,fun m hm=>by simp at hm;lia⟩
  ·exact⟨[2*t+g - 1],by simp[c1,E],by simp,fun h=>absurd h c1,fun _=>by simp,fun m hm=>by simp at hm;lia⟩
  ·exact⟨[],by simp[c1,E],by simp,fun h=>absurd h c1,fun h=>absurd h E,fun m hm=>by cases hm⟩
 rw[en];refine⟨bc (by rw[List.length_map];lia),?_⟩;intro p4 G;have X:=aq (H:=H3) (a:=p4) (o:=(.lst (ns.map V.int)));have v:=aG (H:=H3) (o:=(.lst (ns.map V.int))) G;replace hp:=v _ _ hp;replace j:=v _ _ j;replace F:=F.trans v;generalize upd H3 p4 ((.lst (ns.map V.int)))=H4 at*
 refine DG j X (by rw[List.length_map,sizeLine_eq];simp;lia) ?_;intro p5 J;have S5:=F.trans (aG (o:= .lst ([V.int (2+g / 2)]++ns.map V.int)) J);have z:=bQ (o:= .lst ([V.int (2+g / 2)]++ns.map V.int)) hp J;refine⟨(2+g / 2)::ns,cQ.of aq,by simp,fun M hM hle=>?_⟩;generalize upd H4 p5 (.lst ([V.int (2+g / 2)]++ns.map V.int))=H5 at*
 have M1:=hle _ (List.mem_cons_self ..);have M2:1<o->2*o+g - 1<=M:=fun q=>hle _ (List.mem_cons_of_mem _ (n1 q));have M3:1<t->2*t+g - 1<=M:=fun q=>hle _ (List.mem_cons_of_mem _ (n2 q));have M4:M<=63:=by
  rcases List.mem_cons.mp hM with q|q
  ·lia
  ·exact n3 _ q
 rw[<-h_u3,ax];generalize h_u4:ax _=u4;exists 9;rw[<-h_u4,ax];generalize h_u5:ax _=u5;refine⟨fun d H'=> ∃f,d= [some (.int c),some (.int n),some (.ref p),some (.int g),some (.int M),some (.int f),none]/\H'=H5/\(2<=f/\f<=64),?_,?_⟩
 ·
  exists 9;split
  ·exact⟨_,rfl,by lia,by lia⟩
  ·exact⟨_,rfl,by lia,by lia⟩
 rintro d H' ⟨f,rfl,rfl,bf⟩;rw[<-h_u5,ax];generalize h_u6:ax _=u6;exists 9;have r0:=Int.emod_nonneg (n / 252) (show 65 - M≠0 by lia);have r1:=Int.emod_lt_of_pos (n / 252) (show 0<65 - M by lia);generalize n / 252 % (65 - M)=rr at*
 refine⟨by lia,?_⟩;rw[<-h_u6,ax];exists 9;have l0:=Int.emod_nonneg (n / 16128) (show 65 - f≠0 by lia);have l1:=Int.emod_lt_of_pos (n / 16128) (show 0<65 - f by lia);generalize n / 16128 % (65 - f)=ll at*
 refine⟨by lia,fun x dx hx hdx ne=>?_⟩;have S6:=cY (C:=bR) (fs:=[]) hx hdx;have hg:good (M+rr) o t g f (f+ll):=⟨by lia,⟨bo,bt⟩,bg,by lia,by lia⟩;have hw: ¬M+rr<pS o t g:=by
  unfold pS om;split<;>split<;>lia
 refine⟨o,t,dx,S6 _ _ z,rfl,fun ng=>absurd hg ng,fun _ hr=>absurd hr hw,fun _ _ H7 b7 h7=>?_⟩;refine h x _ o t g f _ H7 (fun b u e=>b7 _ _ (S6 _ _ (S5 _ _ e)) (aL (S5 _ _ e) hx)) ⟨dx,p,h7,b7 _ _ (S6 _ _ z) (aL z hx)⟩ ⟨hg,hw⟩
include T in theorem FR:FA P w K mg base "_law_text" 2 ["_law_cell","_law_size"] qK:=by
 exists 0,T.uu,fG,qK;rename_i c n;refine⟨_,(ao (aP (i:=2) fG.1.nd rfl (Or.inl rfl) bE)
 (ao (aP (i:=2) fG.1.nd rfl (Or.inl rfl) (aF (a_ K rfl) (pv 2) bE))
 (aH (ao (aP (i:=3) fG.1.nd rfl (Or.inl rfl) bE)
 (aH (ao (gr PassesOwn.never rfl (iT rfl T.dC (aE (pv 1) aw)) (bC (i:=4) fG.1.nd rfl (Or.inl rfl)) (ar (aP (i:=3) fG.1.nd rfl (Or.inl rfl) (aF (a_ K rfl) (pv 3) (bj (cH K rfl) (pv 2) (aF bH (aF bV (bq (vO T) HR (by decide) rfl (aE (pv 0) (aE (aF (a_ K rfl) ak (aF bV (pv 4) ak)) aw))) (bj (cH K rfl) (jt (aE ak (aE ak (aE ak (aE ak aw))))) (aF bH (pv 4) ak) (fun _ _=>rfl))) ak) (fun _ _=>rfl))))))
 (aH (ar (aK (pv 3)))))))))),?_⟩
 obtain⟨hn,q⟩:=h;generalize h_u1:ax _=I;exists 9;refine⟨by rw[sizeLine_eq];decide+kernel,?_⟩;rw[show(Str.ofString " !\"#$&'()*+,-./0123456789:;<=>?@ABCDEFGHIJKLMNOPQRSTUVWXYZ[\\]^_`" ++Str.ofString "abcdefghijklmnopqrstuvwxyz{|}~")=kC by decide+kernel];rw[<-h_u1,ax];generalize h_u2:ax _=J;exists 9;rw[<-h_u2,ax];generalize h_u3:ax _=X;exists 9;refine⟨by lia,?_⟩;refine tQ (lo:=0) (n:=n.toNat) (fun k σ H'=>aW H H'/\∃z C,σ= [some (.int c),some (.int n),some (.str kC),some (.str z),C]/\z.length=k/\∀c∈z.cps.toList,c∈sgl) ⟨aW.refl _,_,_,rfl,rfl,fun c hc=>by cases hc⟩ (fun k σ H' hk hp=>?_) (fun σ H' hp=>?_)
 ·
  obtain⟨y,z,C,rfl,m,x⟩:=hp;exists 9;refine⟨by lia,fun v O U p hp=>?_⟩;obtain⟨d,ed,bd⟩: ∃d,oW [V.int 1,V.int 94,V.int 8836,V.int 830584] ((0+(k:Int)) % 4)=some (.int d)/\(0<d/\d<1000000):=by
   obtain e|e|e|e:(0+(k:Int)) % 4=0\/(0+(k:Int)) % 4=1\/(0+(k:Int)) % 4=2\/(0+(k:Int)) % 4=3:=by lia
   ·rw[e];exact⟨_,DF,by decide⟩
   ·rw[e];exact⟨_,Fc,by decide⟩
   ·rw[e];exact⟨_,PV,by decide⟩
   ·rw[e];exact⟨_,PU,by decide⟩
  refine⟨_,ed,?_⟩;exists 9;refine⟨⟨bd.1,by lia⟩,?_⟩;rw[Nr];have Z:=Int.emod_nonneg (v / d) (show(94:Int)≠0 by decide);have G:=Int.emod_lt_of_pos (v / d) (show(0:Int)<94 by decide);obtain⟨j,F⟩: ∃j:Nat,v / d % 94=(j:Int):=⟨(v / d % 94).toNat,by lia⟩;rw[F] at G⊢;have E:j<sgl.length:=by rw[JQ];lia
  refine⟨sgl[j],by rw[sizeLine_eq];decide+kernel,sI (List.getElem?_eq_getElem E),?_⟩;exists 9;refine⟨by rw[sizeLine_eq];simp[Str.length];rw[show z.cps.size=z.length from rfl,m];lia,y.trans (aG hp),_,_,rfl,?_,fun u hc=>?_⟩
  ·
   show(z.cps ++ #[sgl[j]]).size=k+1;rw[Array.size_append,show z.cps.size=z.length from rfl,m];rfl
  ·
   have f:u∈(z.cps ++ #[sgl[j]]).toList:=hc;rw[Array.toList_append,List.mem_append] at f;rcases f with f|f
   ·exact x u f
   ·
    have e:u=sgl[j]:=by simpa using f
    rw[e];exact List.getElem_mem E
 ·
  obtain⟨y,z,C,rfl,m,x⟩:=hp;rw[<-h_u3,ax];exists 9;exact q z H' y (by lia) x
theorem Kt {S:List Addr} {H H':Hp} {l:Addr} (k:Kp S H H') (n:H' l=none) (m:l ∉ S):H l=none:=by
 cases e:H l with
 |none=>rfl
 |some o=>rw[k l o e m] at n;cases n
theorem Cu {a:iX} {n:Int} (h:KS a.s n):(we a n=none/\cS a n=none)\/∃w pl,we a n=some (w,pl)/\cS a n=some (((K7 a w pl:Nat):Int),w,pl)/\((w=Str.ofString "bare" /\pl=none)\/(w=Str.ofString "new" /\pl=some a.s.t/\(cT a n).s.t=a.s.t+1)):=by
 obtain⟨e1,d⟩:=uM h;unfold cS;rw[e1];by_cases c:cM a.s=true
 ·
  rw[if_pos c];refine .inr ⟨_,_,rfl,rfl,.inr ⟨rfl,rfl,?_⟩⟩;show(By _ n).1.t=_;rw[d,if_pos c];rfl
 ·
  rw[if_neg c];cases a.due
  ·exact .inl ⟨rfl,rfl⟩
  ·exact .inr ⟨_,_,rfl,rfl,.inl ⟨rfl,rfl⟩⟩
include T in theorem FT:FA P w K mg base "_law_sent" 6 ["_law_hand","_law_turn"] (qL aC az aa au ai aA ae aB aD af ag ah aI K):=by
 exists 0,T.uv,i_,qL;rename_i x n;refine⟨_,(ao (aP (i:=2) i_.1.nd rfl (Or.inl rfl) (bU (pv 0) T.aV (F0 T) HR (by decide) (aE (pv 1) aw)))
 (aH (ao (bI (aQ lO (pv 2) cx (nomark _)) (ar (aK (jt aw))) aZ)
 (aH (ao (QZ (pv 2) (Ka K (n:=3) rfl rfl (ER (bC (i:=3) i_.1.nd rfl (Or.inl rfl)) (ER (bC (i:=4) i_.1.nd rfl (Or.inl rfl)) (ER (bC (i:=5) i_.1.nd rfl (Or.inl rfl)) J_)))))
 (aH (ao (bI (PW.pt (pw_or (PW.pt (pw_and (aQ (bT K rfl HR.units) (pv 4) bE (nomark _)) (pw_and1 (aQ (bT K rfl HR.units) (pv 5) (aF cZ (av (av (pv 0) T.aV T.bh rfl) T.ay T.bu rfl) ak) (nomark _))))) (pw_or1 (PW.pt (pw_and (aQ (bT K rfl HR.units) (pv 4) bE (nomark _)) (pw_and1 (aQ lO (pv 5) cx (nomark _)))))))) (ar (aK (jt (aE (pv 2) aw)))) aZ)
 (ar (aK cx))))))))),?_⟩
 obtain⟨A,a,y,I,C,q⟩:=h;have v:=y;obtain⟨z,G,_⟩:=v;generalize h_u1:ax _=X;exists G.hx;refine⟨A,a,y,I,fun e1 j k1 m1=>?_,fun w pl e1 r j k1 m1 E=>?_⟩
 ·
  rcases Cu C with⟨_,f⟩|⟨w,pl,f,_⟩
  ·
   rw[<-h_u1,ax];exists 9;intro l nl;obtain⟨m,d,_⟩:=m1;have nf:=Kt k1 nl (d.fresh nl);exact q l _ (k1.trans (Kp.of (aG nl))) nf (HM.same ⟨m,d,‹_›⟩ (aG nl)) (.inl ⟨f,aq⟩)
  ·rw[e1] at f;cases f
 ·
  rcases Cu C with⟨f,_⟩|⟨Z,J,f,O,hc⟩
  ·rw[e1] at f;cases f
  ·
   rw[e1] at f;injection f with f;injection f with U H;subst U H;have F:=m1;obtain⟨m,d,u⟩:=F;rw[<-h_u1,ax];exists 9;generalize h_u2:ax _=u2;rw[<-h_u2,ax];exists E;generalize h_u3:ax _=u3;rw[<-h_u3,ax];have e6:m.sd.t=(cT a n).s.t:=by obtain⟨vs,e,_⟩:=u.s;rw[e]
   have fin: ∀l,j l=none->Q (V.ref l) (upd j l (.lst [V.ref r])):=fun l nl=>q l _ (k1.trans (Kp.of (aG nl))) (Kt k1 nl (d.fresh nl)) (m1.same (aG nl)) (.inr ⟨_,_,_,r,O,aq,bQ E nl⟩);rcases hc with⟨rfl,rfl⟩|⟨rfl,rfl,e7⟩
   ·
    exists d.hx,d.sd.hx;rw[if_neg (by decide+kernel),if_pos (show YC none=V.non from rfl)];exact fin
   ·
    exists d.hx,d.sd.hx;show Bi K false (V.int a.s.t) (V.int (m.sd.t - 1)) j _;rw[Hb,decide_eq_true (by lia)];exact⟨true,rfl,fin⟩
include T in theorem CK:FA P w K mg base "_law_things" 2 ["_law_hand"] (nT aC az aa au ai aA ae aB aD af ag ah K):=by
 exists 0,T.p9,Cw,nT;rename_i x;refine⟨_,(ar (aK (gM (N:=(["_law_place","_law_hand"]:List Str)) (nv:=1) (ix:=[0]) rfl (oR (by kernel_rfl)) (iT rfl T.dC (aE (bK (av (pv 0) T.aV T.bh rfl) T.ay (fo T) HR (by decide)) aw)) (fun _ _ _ _ _=>(bC (i:=0) (show((["_law_place","_law_hand"]:List Str)).Nodup by decide) rfl (Or.inl rfl))) (fun _ _ _ _ _=>nF) (fun _ _ _ _ _=>(bU (av (pv 1) T.aV T.bh rfl) T.ay (sF T) HR (by decide) (aE (pv 0) aw)))))),?_⟩;obtain⟨A,a,E,hl,q⟩:=h;obtain⟨z,d,F⟩:=E;obtain⟨vs,e1,u,G⟩:=F.s;exists d.hx,d.sd.hx;refine⟨A.S,z.sd,d.sd,?_⟩;have y:z.sd.T=vs:=by rw[e1]
 have lv:=pR u;rw[y];refine⟨⟨by lia,by lia⟩,?_⟩;refine Gr (p:=fun _=>true) (f:=fun v=>match v with | .int i=>(vs[i.toNat]?).getD .non|v=>v) (bc (by lia)) (fun i hi C m=>m) (fun i hi _ C m=>?_) ?_
 ·
  have j:i<vs.length:=by lia
  exists d.hx,d.sd.hx;refine⟨A.S,z.sd,vs[i],d.sd,by rw[y];rw[show(0+(i:Int))=(i:Int) by lia];exact sI (List.getElem?_eq_getElem j),?_⟩;have q2:C ((vs[(0+(i:Int)).toNat]?).getD .non) H:=m;rw[show(0+(i:Int)).toNat=i by lia,List.getElem?_eq_getElem j,Option.getD_some] at q2;exact q2
 ·have ef:(List.filter (fun x=>true) (oY 0 ((vs.length:Int)).toNat)).map (fun v=>match v with|V.int i=>(vs[i.toNat]?).getD .non|v=>v)=vs:=by
   rw[List.filter_eq_self.mpr (fun _ _=>rfl),oY,List.map_map];apply List.ext_getElem?;intro i;rw[List.getElem?_map];by_cases c:i<vs.length
   ·
    rw[List.getElem?_range (by lia)];show some ((vs[(0+(i:Int)).toNat]?).getD .non)=vs[i]?;rw[show(0+(i:Int)).toNat=i by lia,List.getElem?_eq_getElem c];rfl
   ·rw[List.getElem?_eq_none (by simp;lia),List.getElem?_eq_none (by lia)];rfl
  rw[ef];exact⟨bc (by lia),fun l nl=>q l vs _ (aG nl) aq (fi u fun _ _ t=>t.keep (qC.of (aG nl)))⟩
noncomputable def Yb:Option Int->Dt
 |none=> .t [.str (Str.ofString "bare"),.non]
 |some q=> .t [.str (Str.ofString "filed"),.int q]
theorem JI {K:W.Frag} {H:Hp} {r:Addr} {p:Option Int} (h:dO K H r (EF p)):Dn K H 1 (.ref r) (Yb p):=by
 cases p with
 |none=>exact .inr (.inr ⟨r,_,_,rfl,rfl,h,.cons t9 (.cons (.inl ⟨rfl,rfl⟩) .nil)⟩)
 |some q=>exact .inr (.inr ⟨r,_,_,rfl,rfl,h,.cons t9 (.cons dy .nil)⟩)
include T in theorem FU:FA P w K mg base "_law_come" 8 ["_law_hand","_law_turn","_law_sent_here"] (qM aC az aa au ai aA ae aB aD af ag ah aO aR aI K):=by
 exists 0,T.uw,dS,qM;rename_i x n l;refine⟨_,(ao (gr PassesOwn.never rfl (c7 K rfl (pv 2)) (Ka K (n:=3) rfl rfl (ER (bC (i:=3) dS.1.nd rfl (Or.inl rfl)) (ER (bC (i:=4) dS.1.nd rfl (Or.inl rfl)) (ER (bC (i:=5) dS.1.nd rfl (Or.inl rfl)) J_)))) (ao (aP (i:=6) dS.1.nd rfl (Or.inl rfl) (cI (aE (pv 4) (aE cx aw))))
 (aH (yd (bI (aQ (bT K rfl HR.units) (pv 4) bE (nomark _)) (ar (aP (i:=6) dS.1.nd rfl (Or.inl rfl) (cI (aE bE (aE (pv 5) aw))))) aZ)
 (aH (ao (aP (i:=7) dS.1.nd rfl (Or.inl rfl) (bU (pv 0) T.aV (yr T) HR (by decide) (aE (pv 3) (aE (pv 1) aw))))
 (aH (ar (bI (PW.pt (pw_or (eE (oh (a9 (E6 K rfl) (by rfl) T.cE cK (aE (pv 7) (aE (yf rfl T.nM oV) aw))))) (pw_or1 (aQ (rl K rfl HR.units) (pv 7) (pv 6) (nomark _))))) (ar (aK d5)) aZ)))))))))
 (aH (ar (aK d5)))),?_⟩
 obtain⟨A,a,y,X,hS,hl,hc,hb,q⟩:=h;generalize h_u1:ax _=u1;exists 9;rcases hS with⟨G,j⟩|⟨f,w,p,r,G,j,hr⟩
 ·
  refine rG (xs:=[]) (cQ.of j) (fun i σ H'=>H'=H/\σ= [some (V.ref x),some (V.int n),some (V.ref l),none,none,none,none,none]) ⟨rfl,rfl⟩ (fun i σ H' hi hh=>by rw[hh.1];exact cQ.of j) (fun i y σ H' C hh=>by cases C) (fun σ H' hh=>?_);obtain⟨rfl,rfl⟩:=hh;show ax _ _ _ _;unfold ax;exists 9;subst G;exact q A.st _ Kp.refl X
 obtain⟨c1,c2,c3⟩:=hc f w p G;subst G;obtain⟨PP,u⟩: ∃PP:Nat->St->Hp->Prop,PP=fun i σ H'=>(i=0/\H'=H/\σ= [some (V.ref x),some (V.int n),some (V.ref l),none,none,none,none,none])\/(i=1/\H' l=some (.lst [V.ref r])/\(∃v,Kp (foot x A) H H'/\HM aC az aa au ai (tbl aA ae aB aD af ag ah) K H' x {A with st:=v} (vR a f n))/\∃v3 v4 v5 Z v7,σ= [some (V.ref x),some (V.int n),some (V.ref l),v3,v4,v5,Z,v7]):=⟨_,rfl⟩;refine rG (xs:=[V.ref r]) (cQ.of j) PP (by rw[u];exact .inl ⟨rfl,rfl,rfl⟩) (fun i σ H' hi hh=>?_) (fun i y σ H' C hh=>?_) (fun σ H' hh=>?_)
 ·
  rw[u] at hh;rcases hh with⟨_,e,_⟩|⟨_,e,_⟩
  ·rw[e];exact cQ.of j
  ·exact cQ.of e
 ·
  rw[u] at hh;rcases hh with⟨rfl,rfl,rfl⟩|⟨rfl,_⟩
  ·
   injection C with C;subst C;exists hr;intro d0 J;have s0:=aG (o:= .tup [V.str w,V.non]) J;have e0:=aq (H:=H') (a:=d0) (o:= .tup [V.str w,V.non]);generalize upd H' d0 (.tup [V.str w,V.non])=H1 at*
   rw[<-h_u1,ax];generalize h_u3:ax _=u3;refine⟨fun F I=> ∃d,F= [some (V.ref x),some (V.int n),some (V.ref l),some (V.int f),some (V.str w),some (YC p),some (V.ref d),none]/\aW H' I/\I d=some (.tup (EF p)),?_,?_⟩
   ·
    exists 9;rcases c3 with⟨rfl,rfl⟩|⟨rfl,q0,rfl⟩
    ·
     rw[if_neg (by decide+kernel)];exact⟨d0,rfl,s0,e0⟩
    ·
     rw[if_pos rfl];exact fun d1 U=>⟨d1,rfl,s0.trans (aG U),aq⟩
   rintro F I ⟨d,rfl,s2,hd⟩;have m2:=X.same s2;have m3:=m2;obtain⟨z2,E,_⟩:=m3;rw[<-h_u3,ax];generalize h_u4:ax _=u4;exists E.hx;refine⟨A,a,m2,c1,hb,fun v rr H3 k3 m4 z=>?_⟩;rw[c2] at z;have nd:=E.imm hd (.inl ⟨_,rfl⟩);have O:=k3 _ _ hd nd;rw[<-h_u4,ax];exists 9;refine⟨⟨_,z⟩,1,_,_,by decide,JI z,JI (dO.of O),.inl ⟨rfl,false,rfl,?_⟩⟩;rw[if_neg (by decide),u];exact .inr ⟨rfl,k3 _ _ (s2 _ _ j) hl,⟨v,(Kp.of s2).trans k3,m4⟩,_,_,_,_,_,rfl⟩
  ·cases C
 ·
  rw[u] at hh;rcases hh with⟨e,_⟩|⟨_,_,⟨v,k,m⟩,v3,v4,v5,Z,v7,rfl⟩
  ·cases e
  ·
   show ax _ _ _ _;unfold ax;exists 9;exact q v _ k m
theorem c8.putn {K:W.Frag} {H:Hp} {z:Hn} {a:iX} {us:List V} {ts:List Th} {nm:Str} {es:List Int} (h:c8 K H z a) (d:Paired (yX K H) us ts):c8 K H {z with nm:=nm,ends:=es,sd:={z.sd with T:=z.sd.T++us}} {a with nm:=nm,ends:=es,T:=a.T++ts,s:={a.s with T:=a.s.T++ts.map fun _=>V.non}}:=by
 obtain⟨vs,e1,f,i⟩:=h.s;refine{h with s:=⟨_,?_,zI f d,?_⟩,nm:=rfl,ends:=rfl}
 ·simp_all
 ·rw[List.length_append,List.length_append,i,List.length_map,pR d]
theorem Ks {k:Str} (hk:k = "begin" \/k = "end"):A5 (k,Str.ofString ""):=by
 rcases hk with rfl|rfl
 ·exact C4
 ·
  refine⟨by trivial,by trivial,by trivial,fun n a r n0 n1 a0 a1 r0 r1=>?_⟩;unfold cD;rw[show Cd _ _=true by trivial,show Cd _ _=false by trivial,show Held.dH 0 []=true by trivial,show pO _ _=true by trivial];simp[d6];lia
theorem M6 {c:Nat} (h:c∈sgl):MB (.str ⟨#[c]⟩)=true:=by
 show(!(Builtin.Str.occurrences _ _ 0 _ 1).isEmpty)=true;rw[(pq h).1];rfl
theorem Qm {z:Str} (h1:1<=z.length) (f:z.length<=60) (hc: ∀c∈z.cps.toList,c∈sgl):o6 z=true:=by
 unfold o6;rw[decide_eq_true h1,decide_eq_true f,Bool.true_and,Bool.true_and,List.all_eq_true];intro v d;obtain⟨c,hm,rfl⟩:=List.mem_map.mp d;exact M6 (hc c hm)
theorem M5 {z:Str} {a b:Nat} (h:z.length<=b):Txt.slice z (some (a:Int)) (some (b:Int))=Txt.slice z (some (a:Int)) (some (z.length:Int)):=by
 have hi:Builtin.Str.strSliceIndices (some (a)) (some (b)) 1 z.length=Builtin.Str.strSliceIndices (some (a)) (some (z.length)) 1 z.length:=by
  have a1: ¬((b:Int)<0):=by lia
  have d: ¬((z.length:Int)<0):=by lia
  have f:max (0) (min (b:Int) (z.length))=max (0) (min (z.length:Int) (z.length)):=by lia
  simp only[Builtin.Str.strSliceIndices,a1,d,if_false,f,show((1:Int) > 0)=True from by simp,if_true]
 show StrLaws.sliceText z _ _=StrLaws.sliceText z _ _;unfold StrLaws.sliceText;rw[hi]
theorem Jg {t:Str} (hc: ∀c∈t.cps.toList,c∈sgl): ∀s∈chunks t,A5 (Str.ofString "signs",s):=by
 intro s hs;obtain⟨i,hi,rfl⟩:=List.mem_map.mp hs;rw[List.mem_range] at hi;have hl:t.cps.toList.length=t.length:=rfl;obtain⟨b,f,m,e⟩: ∃b,4*i<b/\(b<=t.length/\b<=4*i+4)/\chunk t i=⟨((t.cps.toList.drop _).take (b - 4*i)).toArray⟩:=by
  unfold chunk;by_cases c:4*i+4<=t.length
  ·exact⟨_,by lia,⟨c,by lia⟩,StrLaws.sliceText_nat t (by lia) c⟩
  ·
   rw[M5 (by lia)];exact⟨_,by lia,⟨by lia,by lia⟩,StrLaws.sliceText_nat t (by lia) (by lia)⟩
 rw[e];have ln:(⟨((t.cps.toList.drop (4*i)).take (b - 4*i)).toArray⟩:Str).length=b - 4*i:=by
  show((t.cps.toList.drop _).take _).toArray.size=_;rw[List.size_toArray,List.length_take,List.length_drop];lia
 refine⟨by show Str.ofString _≠Str.ofString _;decide+kernel,by show Str.ofString _≠Str.ofString _;decide+kernel,by lia,fun n a r n0 n1 a0 a1 r0 r1=>?_⟩;unfold cD;rw[show Cd (.str (Str.ofString _)) _=true by decide+kernel,show Cd _ _=false by rfl,show Held.dH 0 []=true by rfl];have j:pO (Str.ofString "signs") ⟨((t.cps.toList.drop (4*i)).take (b - 4*i)).toArray⟩=true:=by
  unfold pO;rw[if_pos rfl,ln,decide_eq_true (show 1<=b - 4*i by lia),decide_eq_true (show b - 4*i<=4 by lia),Bool.true_and,Bool.true_and,List.all_eq_true];intro v d;obtain⟨c,hm,rfl⟩:=List.mem_map.mp d;exact M6 (hc c (List.mem_of_mem_drop (List.mem_of_mem_take hm)))
 rw[j];simp[d6];lia
theorem Jx.no {a:iX}:Jx a a:=⟨a.nm,a.ends,[],fun t ht=>absurd ht List.not_mem_nil,by simp,by lia,by simp⟩
include T in theorem FQ:FA P w K mg base "_law_wish" 5 ["_law_hand","_law_cell"] (qJ aC az aa au ai aA ae aB aD af ag ah aM aY K):=by
 exists 0,T.ur,i9,qJ;rename_i x c;refine⟨_,(ao (aP (i:=2) i9.1.nd rfl (Or.inl rfl) (aF (a_ K rfl) ak (aF bH (aF bV (pv 1) ak) ak)))
 (aH (yd (bI (aQ (bT K rfl HR.units) (aF bH (aF bV (pv 1) ak) ak) ak (nomark _)) (ar (aP (i:=2) i9.1.nd rfl (Or.inl rfl) (aF (a_ K rfl) ak (aF bH (aF bV (pv 1) ak) ak)))) aZ)
 (aH (ao (aP (i:=3) i9.1.nd rfl (Or.inl rfl) bE)
 (ao (NJ (fun _ _ _=>(ar (bI (aQ nq (aF bH (pv 1) ak) ak (nomark _)) (ar (bL (Ke (pv 0) T.aV (Eb T) HR (by decide) (yi rfl)))) (ar (bI (aQ (bT K rfl HR.units) (aF bH (pv 1) ak) ak (nomark _)) (ar (bL (Ke (pv 0) T.aV (Hr T) HR (by decide) (yi rfl)))) (ar (bI (aQ nq (aF bH (pv 1) ak) ak (nomark _)) (ar (bL (US (pv 0) T.aV (Hq T) HR (by decide) (yi rfl) (aE (bq (FR T) HR (by decide) rfl (aE (aF bV (pv 1) ak) (aE (pv 2) aw))) aw)))) aZ))))))) (NO rfl T.y3 rfl (fun _=>(ar (aP (i:=3) i9.1.nd rfl (Or.inl rfl) bE))) NN))
 (aH (ar (aK (pv 3)))))))))),?_⟩
 obtain⟨A,a,J,hT,hE,q⟩:=h;have U:=J;obtain⟨z,E,F⟩:=U;generalize h_u1:ax _=u1;exists 9;rw[<-h_u1,ax];generalize h_u2:ax _=u2;refine⟨fun G H'=> ∃m,G= [some (V.ref x),some (V.int c),some (V.int m),none]/\H'=H/\1<=m/\m<=60,?_,?_⟩
 ·
  exists 9;split
  ·exact⟨_,rfl,by lia,by lia⟩
  ·exact⟨_,rfl,by lia,by lia⟩
 rintro G H' ⟨m,rfl,rfl,m1,m2⟩;rw[<-h_u2,ax];generalize h_u3:ax _=Z;have fin: ∀u I v f,Kp (foot x A) H' f->HM aC az aa au ai (tbl aA ae aB aD af ag ah) K f x {A with st:=u} I->Jx a I->Z {nx:=fun x H'=>Q V.non H',rt:=Q} [some (V.ref x),some (V.int c),some (V.int m),some v] f:=fun u I v f k m w=>by
  rw[<-h_u3,ax];exists 9;exact q u I v f k m w
 have no: ∀v f y o,aW H' f->f y=none->Z {nx:=fun x H'=>Q V.non H',rt:=Q} [some (V.ref x),some (V.int c),some (V.int m),some v] (upd f y o):=fun v f y o s2 j=>fin A.st a v _ (Kp.of (s2.trans (aG j))) (J.same (s2.trans (aG j))) Jx.no;have ik: ∀f,Kp (foot x A) H' f->qC H' f:=fun f k p o e i=>k p o e (E.imm e i);have lz:z.sd.T.length=a.T.length:=by obtain⟨vs,e1,e2,_⟩:=F.s;rw[e1];exact pR e2
 have le:z.ends.length=a.ends.length:=by rw[F.ends]
 exists E.hx,T.z9,T.fB,T.wA,T.gn,T.gv,T.eU,T.eY,T.kP,T.k_,T.jk,T.jK,T.g_,T.ig,T.jj,T.jJ,T.jl,T.jL,T.kQ,T.lg,T.C6,T.gH,T.zE,T.gZ,T.h9,T.fH,T.fN,T.gL,T.gO,T.kG,T.kU,T.ja,T.jB,T.kE,T.kT,T.kH,T.kW,T.mz,T.mI,T.z8,T.gJ,T.wz,T.gm,T.gu,T.eS,T.eX,T.fJ,T.fO,T.eQ,T.eW,T.g9,T.ie,T.jh,T.jH,T.ji,T.jI,T.kO,T.k9,T.wZ,T.tj,T.fg,T.fv,T.hV,T.ir,T.jr,T.jQ,T.hU,T.iq,T.gq,T.gx,T.hJ,T.ip,T.hX,T.iu,T.js,T.jR,T.z7,T.fA,T.wy,T.gj,T.gs,T.je,T.jE,T.kI,T.kX,T.jd,T.jD,T.g7,T.h_,T.jc,T.jC,T.jf,T.jF,T.kJ,T.kY,T.z_,T.wB,T.gp,T.gw,T.jo,T.jO,T.kR,T.lh,T.jn,T.jN,T.hG,T.ij,T.jm,T.jM,T.jq,T.jP,T.kS,T.lp,T.C7,T.gI,T.iZ,T.zF,T.g8,T.ia,T.kM,T.k7,T.mC,T.mJ,T.kL,T.k6,T.jg,T.jG,T.kK,T.kZ,T.kN,T.k8,T.mD,T.mK;split
 ·
  refine⟨A,z,E,by lia,fun nx hn p u f hp kp hh=>fin u _ _ f kp ⟨_,hh,(F.keep (ik f kp)).putn (us:=[.ref p]) (ts:=[(Str.ofString "begin",Str.ofString "")]) (.cons ⟨p,rfl,hp f⟩ .nil)⟩ ⟨nx,z.ends,_,?_,by simp,by lia,rfl⟩,fun hn f d O hd y j=>no _ f y _ O j⟩;intro t ht;rw[List.mem_singleton.mp ht];exact Ks (.inl rfl)
 split
 ·
  refine⟨A,z,E,by lia,by lia,fun nx hn p u f hp kp hh=>fin u _ _ f kp ⟨_,hh,(F.keep (ik f kp)).putn (us:=[.ref p]) (ts:=[(Str.ofString "end",Str.ofString "")]) (.cons ⟨p,rfl,hp f⟩ .nil)⟩ ⟨nx,_,_,?_,by simp,by simp;lia,rfl⟩,fun hn f d O hd y j=>no _ f y _ O j⟩;intro t ht;rw[List.mem_singleton.mp ht];exact Ks (.inr rfl)
 split
 ·
  refine⟨⟨by lia,by lia⟩,fun tx f s2 ltx ctx=>?_⟩;have tb:=Qm (by lia) (by lia) ctx;have C:=E.same s2;refine⟨A,z,C,by lia,by lia,(fun e=>by rw[tb] at e;cases e),fun _ _ X d S3 hd y j=>no _ X y _ (s2.trans S3) j,fun _ _ vs X k3 hh pp=>fin A.st _ _ X ((Kp.of s2).trans k3) ⟨_,hh,(F.keep ((qC.of s2).trans fun p o e i=>k3 p o e (C.imm e i))).putn (us:=vs) (ts:=(chunks tx).map fun s=>(Str.ofString "signs",s)) (J7 (fi pp fun v s hv=>?_))⟩ ⟨z.nm,z.ends,_,?_,?_,by lia,rfl⟩⟩
  ·
   obtain⟨p,rfl,hp⟩:=hv;exact⟨p,rfl,dO.of hp⟩
  ·
   intro t ht;obtain⟨s,hs,rfl⟩:=List.mem_map.mp ht;exact Jg ctx s hs
  ·
   rw[List.length_map];unfold chunks;rw[List.length_map,List.length_range];lia
 ·exact fin A.st a _ H' Kp.refl J Jx.no
theorem WS.dn {C p dx:Addr} {H:Hp} {L w:Int} {g:Wg} {k:Nat} (K:W.Frag) (h:WS C H p dx L w g k): ∃s sp,H p=some (.ins C dx (bB (V.int L) s sp (V.int w)))/\∀H',qC H H'->Dn K H' 1 s (gsm g)/\Dn K H' 1 sp (gsp g):=by
 obtain⟨_,_,⟨_,rfl,hi⟩|⟨n,P,S,D,a,A,b,B,rfl,_,_,⟨j,m,f,i,d⟩⟩⟩:=h
 ·exact⟨_,_,hi,fun H' s=>⟨.inl (.inl ⟨rfl,rfl⟩),.inl (.inl ⟨rfl,rfl⟩)⟩⟩
 ·exact⟨_,_,f,fun H' s=>⟨pX (s _ _ i (.inl ⟨_,rfl⟩)) (.cons dy (.cons dy .nil)),pX (s _ _ d (.inl ⟨_,rfl⟩)) (.cons dy (.cons dy .nil))⟩⟩
theorem Gk {K:W.Frag} {H:Hp} {n:Nat}: ∀hs:List Int,Paired (Dn K H n) (hs.map V.int) (hs.map Dt.int)
 | []=> .nil
 |_::t=> .cons dy (Gk t)
include T in theorem tD:FA P w K mg base "_law_stands" 3 ["_law_hand"] (nU aC az aa au ai aA ae aB aD af ag ah K):=by
 exists 0,T.p_,fe,nU;rename_i x;refine⟨_,(MC.h (cn ⟨(aP (i:=1) fe.1.nd rfl (Or.inl rfl) (av (pv 0) T.aV T.bh rfl))⟩
 (cL (cn (uN (i:=2) fe.1.nd rfl (Or.inl rfl) (CD (gY ⟨(av (av (pv 1) T.ay T.cp rfl) T.bF T.bw rfl)⟩ (gY ⟨(av (av (pv 1) T.ay T.cp rfl) T.bF T.bW rfl)⟩ (gY ⟨(av (av (pv 1) T.ay T.cp rfl) T.bF T.df rfl)⟩ my)))))
 (cL (cn (uN (i:=3) fe.1.nd rfl (Or.inl rfl) (CD (gY ⟨(av (av (pv 1) T.ay T.cq rfl) T.bG T.bM rfl)⟩ (gY ⟨(av (av (pv 1) T.ay T.cq rfl) T.bG T.dh rfl)⟩ (gY ⟨(av (av (pv 1) T.ay T.cq rfl) T.bG T.cu rfl)⟩ my)))))
 (cL (cn (uN (i:=4) fe.1.nd rfl (Or.inl rfl) (CD (gY ⟨(av (pv 1) T.ay T.a8 rfl)⟩ (gY ⟨(av (pv 1) T.ay T.bu rfl)⟩ (gY ⟨(av (pv 1) T.ay T.dv rfl)⟩ (gY ⟨(bK (pv 1) T.ay (fo T) HR (by decide))⟩ (gY ⟨(bK (pv 1) T.ay (nz T) HR (by decide))⟩ my)))))))
 (cL (nE (NI (CD (gY ⟨(bK (pv 0) T.aV (rq T) HR (by decide))⟩ (gY ⟨(bK (pv 0) T.aV (Ea T) HR (by decide))⟩ (gY ⟨(pv 4)⟩ (gY ⟨(pv 2)⟩ (gY ⟨(pv 3)⟩ (gY ⟨(av (av (pv 0) T.aV T.cv rfl) T.bp T.cA rfl)⟩ (gY ⟨(av (av (pv 0) T.aV T.cv rfl) T.bp T.dg rfl)⟩ (gY ⟨(bK (av (pv 0) T.aV T.cv rfl) T.bp (sE T) HR (by decide))⟩ my)))))))))))))))))))),?_⟩
 obtain⟨A,a,hM,I,hR,hm,q⟩:=h;have J:=hM;obtain⟨z,u,d⟩:=J;obtain⟨vs,e1,e2,e3⟩:=d.s;obtain⟨ws,wp,w1,w2⟩:=u.sd.ws.dn K;obtain⟨m1,_⟩:=u.sd.ms;generalize h_u1:ax _=u1;exists u.hx;rw[<-h_u1,ax];generalize h_u2:ax _=u2;exists u.sd.hx,w1;intro pw nw;have sw:=aG (o:= .tup [ws,wp,V.int z.sd.w]) nw;have ew:=aq (H:=H) (a:=pw) (o:= .tup [ws,wp,V.int z.sd.w]);generalize upd H pw (.tup [ws,wp,V.int z.sd.w])=U at*
 rw[<-h_u2,ax];generalize h_u3:ax _=u3;exists sw _ _ u.sd.hx,sw _ _ m1;intro pm y;have j:=sw.trans (aG (o:= .tup [V.int z.sd.wi,V.int z.sd.kn,V.int z.sd.co]) y);have em:=aq (H:=U) (a:=pm) (o:= .tup [V.int z.sd.wi,V.int z.sd.kn,V.int z.sd.co]);replace ew:=bQ (o:= .tup [V.int z.sd.wi,V.int z.sd.kn,V.int z.sd.co]) ew y;generalize upd U pm (.tup [V.int z.sd.wi,V.int z.sd.kn,V.int z.sd.co])=H2 at*
 have m:=u.same j;rw[<-h_u3,ax];generalize h_u4:ax _=u4;exists m.sd.hx;have bz:Bz z.sd:=by rw[e1];exact⟨I.b0,I.bt,I.t1⟩
 refine⟨A.S,z.sd,m.sd,A.S,z.sd,m.sd,bz,fun H3 s3 pc G=>?_⟩;replace j:=j.trans (s3.trans (aG (o:= .tup [V.int z.sd.b,V.int z.sd.t,V.int z.sd.e,V.int z.sd.T.length,V.int (z.sd.t - z.sd.b - kab z.sd)]) G));replace ew:=bQ (o:= .tup [V.int z.sd.b,V.int z.sd.t,V.int z.sd.e,V.int z.sd.T.length,V.int (z.sd.t - z.sd.b - kab z.sd)]) (s3 _ _ ew) G;replace em:=bQ (o:= .tup [V.int z.sd.b,V.int z.sd.t,V.int z.sd.e,V.int z.sd.T.length,V.int (z.sd.t - z.sd.b - kab z.sd)]) (s3 _ _ em) G;have ec:=aq (H:=H3) (a:=pc) (o:= .tup [V.int z.sd.b,V.int z.sd.t,V.int z.sd.e,V.int z.sd.T.length,V.int (z.sd.t - z.sd.b - kab z.sd)]);generalize upd H3 pc (.tup [V.int z.sd.b,V.int z.sd.t,V.int z.sd.e,V.int z.sd.T.length,V.int (z.sd.t - z.sd.b - kab z.sd)])=H4 at*
 have f:=u.same j;rw[<-h_u4,ax];exists f.hx,f.tk.hx;refine⟨A,z,f,A,z,f,A.dt,A.kd,z.tk,f.tk,by rw[d.tR];exact hR,by rw[d.o,d.tM,d.g];exact hm,fun pa pt hs H5 O C _ _ ht ha pf nf=>?_⟩;rw[d.held] at C;subst C;rw[d.g,d.o,d.tM,d.tR] at ha;have Z:=aG (o:=HO.tup [V.str z.nm,V.bl (decide (z.sd.b=z.sd.t)&&decide (z.sd.t = ↑z.sd.T.length) && !z.due),V.ref pc,V.ref pw,V.ref pm,V.int z.tk.g,V.int z.tk.o,V.ref pa]) nf;refine q pf _ (j.trans (O.trans Z)) fun E X=>?_;have F:=(qC.of Z).trans X;have v:=(qC.of O).trans F;have eT:z.sd.T.length=a.s.T.length:=by rw[e1,e3]
 have es:z.sd={a.s with T:=z.sd.T}:=by rw[e1]
 have d1:Dn K E 2 (.ref pc) (.t [.int a.s.b,.int a.s.t,.int a.s.e,.int a.s.T.length,.int (a.s.t - a.s.b - kab a.s)]):=by
  have:=pX (K:=K) (n:=1) (v _ _ ec (.inl ⟨_,rfl⟩)) (.cons dy (.cons dy (.cons dy (.cons dy (.cons dy .nil)))));rw[eT,es] at this;exact this
 have d2:Dn K E 2 (.ref pw) (.t [gsm a.s.g,gsp a.s.g,.int a.s.w]):=by
  have:=pX (K:=K) (n:=1) (v _ _ ew (.inl ⟨_,rfl⟩)) (.cons (w2 _ ((qC.of j).trans v)).1 (.cons (w2 _ ((qC.of j).trans v)).2 (.cons dy .nil)));rw[es] at this;exact this
 have d3:Dn K E 2 (.ref pm) (.t [.int a.s.wi,.int a.s.kn,.int a.s.co]):=by
  have:=pX (K:=K) (n:=1) (v _ _ em (.inl ⟨_,rfl⟩)) (.cons dy (.cons dy (.cons dy .nil)));rw[es] at this;exact this
 have d4:Dn K E 2 (.ref pa) (.t [.int (a.g % a.R),.int (a.o+a.M - a.g),.t ((yU a).map .int)]):=pX (F _ _ ha (.inl ⟨_,rfl⟩)) (.cons dy (.cons dy (.cons (pX (n:=0) (F _ _ ht (.inl ⟨_,rfl⟩)) (Gk _)) .nil)));have:=pX (K:=K) (n:=2) (X _ _ aq (.inl ⟨_,rfl⟩)) (.cons t9 (.cons afJ (.cons d1 (.cons d2 (.cons d3 (.cons dy (.cons dy (.cons d4 .nil))))))));rw[d.nm,eT,d.due,d.g,d.o,es] at this;exact this
theorem MY {fr:Nat} {pl run:Int} (j:fr<2 ^ 74) (d:Rem.R fr=0) (hp:0<=pl/\pl<=66) (i:0<run/\run<=255): ∃n:Nat,Builtin.bitXor (fr:Int) (run*2 ^ pl.toNat)=(n:Int)/\Rem.R n≠0:=by
 obtain⟨run,rfl⟩: ∃r:Nat,run=(r):=⟨run.toNat,by lia⟩;have f:(run)*2 ^ pl.toNat=((run*2 ^ pl.toNat:Nat):Int):=rfl;refine⟨_,by rw[f,BitI.JD],?_⟩;have:=RemM.PZ (n:=fr) (a:=run) (p:=pl.toNat) (by lia) (by lia);rwa [d] at this
theorem N1 {f:Int} (h:f<0\/18889465931478580854784<=f):Aa f=false:=by
 unfold Aa;rw[decide_eq_false (by lia)];rfl
theorem F4 {a:iX} {f:Int} (h:Aa f=false):dM a f=false:=by
 unfold dM;rw[h];rfl
include T in theorem D4:FA P w K mg base "_law_noise" 5 ["_law_cell","_law_ring","_law_frames"] (pE aI):=by
 exists 0,T.rS,dr,pE;rename_i c R l;refine⟨_,(MC.h (cn ⟨(aP (i:=3) dr.1.nd rfl (Or.inl rfl) (aF bH (aF bV (pv 0) ak) (aF Q9 ak ak)))⟩
 (cL (cn (Hd (aQ (bT K rfl HR.units) (aF bH (pv 0) ak) ak (nomark _)) (nE ⟨(aK (aF cZ (aF cZ ak ak) (pv 3)))⟩) yc)
 (cL (cn (Hd (aQ (bT K rfl HR.units) (aF bH (pv 0) ak) ak (nomark _)) (nE ⟨(aK (aF (a_ K rfl) (aF fK ak ak) (pv 3)))⟩) yc)
 (cL (cn (Hd (PW.pt (pw_and (aQ (bT K rfl HR.units) (aF bH (pv 0) ak) ak (nomark _)) (pw_and1 (aQ (rl K rfl HR.units) (pv 2) (jt aw) (nomark _))))) (nE ⟨(aK (aF NW (bj (cH K rfl) (pv 2) (aF bH (pv 3) (a9 (fQ K rfl) (by rfl) T.l9 iR (aE (pv 2) aw))) (fun _ _=>rfl)) (aF fK (aF (a_ K rfl) ak (aF bH (aF bV (pv 3) ak) ak)) (aF bH (aF bV (pv 3) ak) ak))))⟩) yc)
 (cL (cn (Hd (PW.pt (pw_and (aQ (bT K rfl HR.units) (aF bH (pv 0) ak) ak (nomark _)) (pw_and1 (aQ nq (pv 1) ak (nomark _))))) (cn ⟨(aP (i:=4) dr.1.nd rfl (Or.inl rfl) (bj (cH K rfl) (jt (aE bE (aE bE (aE bE (aE bE aw))))) (aF bH (pv 3) ak) (fun _ _=>rfl)))⟩
 (cL (cn ⟨(aP (i:=5) dr.1.nd rfl (Or.inl rfl) ak)⟩
 (cn ⟨(aP (i:=6) dr.1.nd rfl (Or.inl rfl) (aF (a_ K rfl) (pv 1) (aF bH (aF bV (pv 3) ak) (aF cZ ak (pv 1)))))⟩
 (cL (cn (Hd (PW.pt (pw_and (aQ vN (aF bH (pv 3) ak) ak (nomark _)) (pw_and1 (aQ (bT K rfl HR.units) (aF bH (aF bV (pv 3) ak) ak) ak (nomark _))))) (cn ⟨(aP (i:=5) dr.1.nd rfl (Or.inl rfl) (pv 6))⟩
 (nE ⟨(aP (i:=6) dr.1.nd rfl (Or.inl rfl) (aF bH (aF bV (pv 3) ak) (pv 1)))⟩)) yc)
 (cL (nE ⟨(aK (bq (wJ T) HR (by decide) rfl (aE (cI (aE (pv 4) (aE (pv 5) (aE (pv 6) (aE (aF bH (aF bV (pv 3) ak) ak) (aE (cI (aE ak (aE (aF (a_ K rfl) ak (aF bH (aF bV (pv 3) ak) ak)) aw))) (aE bE aw))))))) aw)))⟩)))))))) yc)
 (cL (nE ⟨(aK (aF cZ (aF cZ ak (pv 3)) ak))⟩)))))))))))),?_⟩
 obtain⟨hR,fs,hl,hn,hf,q⟩:=h;generalize h_u1:ax _=u1;exists 9;obtain⟨d,ef⟩: ∃n,n=c / 4 % 10000000000000000000000000000000000000000:=⟨_,rfl⟩;rw[<-ef];have f0:0<=d:=by rw[ef];exact Int.emod_nonneg _ (by decide)
 clear ef;rw[<-h_u1,ax];generalize h_u2:ax _=u2;exists 9;split
 ·exact q _ H (aW.refl _) fun a _=>F4 (N1 (.inl (by lia)))
 rw[<-h_u2,ax];generalize h_u3:ax _=u3;exists 9;split
 ·exact⟨⟨⟨by decide,by decide⟩,by decide+kernel,by decide+kernel⟩,q _ H (aW.refl _) fun a _=>F4 (N1 (.inr (by lia)))⟩
 have last: ∀H',aW H H'->Q (.int (0 - d - 2)) H':=fun H' s=>q _ H' s fun a _=>F4 (N1 (.inl (by lia)));rw[<-h_u3,ax];generalize h_u4:ax _=u4;exists hl;have rest: ∀H',aW H H'->u4 {nx:=fun x H'=>Q V.non H',rt:=Q} [some (V.int c),some (V.int R),some (V.ref l),some (V.int d),none,none,none] H':=by
  intro H' s1;rw[<-h_u4,ax];generalize h_u5:ax _=u5;generalize h_u6:ax _=Z;have X: ∀v4 J U H',aW H H'->Z {nx:=fun x H'=>Q V.non H',rt:=Q} [some (V.int c),some (V.int R),some (V.ref l),some (V.int d),v4,J,U] H':=fun v4 J U H' s=>by
   rw[<-h_u6,ax];exists 9;exact last H' s
  exists 9;split
  ·
   split
   ·
    rename_i cR;intro p E;obtain⟨k,ek,hk⟩: ∃k,oW [V.str (Str.ofString "bare"),V.str (Str.ofString "ask"),V.str (Str.ofString "begin"),V.str (Str.ofString "end")] (d % 4)=some (.str k)/\(((k=Str.ofString "bare" \/k=Str.ofString "ask")/\d % 4<=1)\/(k=Str.ofString "begin" \/k=Str.ofString "end")):=by
     rcases(show d % 4=0\/d % 4=1\/d % 4=2\/d % 4=3 by lia) with e|e|e|e<;>rw[e]
     ·exact⟨_,DF,.inl ⟨.inl rfl,by decide⟩⟩
     ·exact⟨_,Fc,.inl ⟨.inr rfl,by decide⟩⟩
     ·exact⟨_,PV,.inr (.inl rfl)⟩
     ·exact⟨_,PU,.inr (.inr rfl)⟩
    refine⟨_,ek,?_⟩;have s2:=s1.trans (aG (o:=HO.lst [V.str (Str.ofString "bare"),V.str (Str.ofString "ask"),V.str (Str.ofString "begin"),V.str (Str.ofString "end")]) E);generalize upd H' p (HO.lst [V.str (Str.ofString "bare"),V.str (Str.ofString "ask"),V.str (Str.ofString "begin"),V.str (Str.ofString "end")])=H2 at*
    rw[<-h_u5,ax];generalize h_u7:ax _=u7;exists 9;have b0:=Int.emod_nonneg (d / 4) (show 64 - R≠0 by lia);have b1:=Int.emod_lt_of_pos (d / 4) (show 0<64 - R by lia);refine⟨by lia,?_⟩;generalize d / 4 % (64 - R)=y at*
    rw[<-h_u7,ax];generalize h_u8:ax _=u8;have f: ∀nn an,(0<=nn/\nn<64)->(0<=an/\an<64)->(R<=nn\/R<=an)->(d % 4<=1->nn=0)->u8 {nx:=Z {nx:=fun x H'=>Q V.non H',rt:=Q},rt:=Q} [some (V.int c),some (V.int R),some (V.ref l),some (V.int d),some (V.str k),some (V.int nn),some (V.int an)] H2:=by
     intro nn an n1 a1 o1 z1;rw[<-h_u8,ax];exists 9;intro G F pt v;have s3:=s2.trans ((aG F).trans (aG (o:=HO.tup [V.str k,V.int nn,V.int an,V.int (d / 512 % 17),V.ref G,V.str (Str.ofString "")]) v));have pb:cD k nn an (d / 512 % 17) [1,2+d / 64 % 14] (Str.ofString "")=true:=by
      refine N4 (n:=nn) (a:=an) (r:=d / 512 % 17) ?_ (by lia) ?_ (by lia) (by lia) ?_ ?_ (fun _=>rfl)
      ·rcases hk with⟨rfl|rfl,_⟩|rfl|rfl<;>decide+kernel
      ·
       intro hb;rcases hk with⟨_,e⟩|rfl|rfl
       ·exact z1 e
       ·
        rcases hb with h|h
        ·exact absurd h (by decide+kernel)
        ·exact absurd h (by decide+kernel)
       ·
        rcases hb with h|h
        ·exact absurd h (by decide+kernel)
        ·exact absurd h (by decide+kernel)
      ·
       simp[Held.dH];lia
      ·
       intro hs;rcases hk with⟨rfl|rfl,_⟩|rfl|rfl<;>exact absurd hs (by decide+kernel)
     refine⟨k,nn,an,_,[1,2+d / 64 % 14],_,⟨G,aq,bQ aq v,by simp,by decide+kernel⟩,fun _ H4 s4=>q _ H4 (s3.trans s4) fun a ha=>?_,(fun e=>by rw[pb] at e;cases e)⟩;obtain⟨_,_,z,g3,_⟩:=Ku pb rfl;unfold dM;rw[z,g3,ha];rcases o1 with o|o
     ·rw[decide_eq_false (show¬nn<R by lia),Bool.false_and,Bool.and_false]
     ·rw[decide_eq_false (show¬an<R by lia),Bool.and_false,Bool.and_false]
    exists 9;split
    ·
     split
     ·
      have b2:=Int.emod_nonneg (d / 512) (show R≠0 by lia);have b3:=Int.emod_lt_of_pos (d / 512) (show 0<R by lia);exact⟨by lia,f _ _ ⟨by lia,by lia⟩ ⟨by lia,by lia⟩ (.inl (by lia)) (fun _=>by lia)⟩
     ·exact f _ _ ⟨by lia,by lia⟩ ⟨by lia,by lia⟩ (.inr (by lia)) (fun _=>rfl)
    ·exact f _ _ ⟨by lia,by lia⟩ ⟨by lia,by lia⟩ (.inr (by lia)) (fun _=>rfl)
   ·exact X _ _ _ _ s1
  ·exact X _ _ _ _ s1
 split
 ·
  intro p E;have s1:=aG (o:=HO.lst []) E;have d1:Dn K (upd H p (HO.lst [])) 1 (.ref l) (.l (fs.map Dt.int)):=xF (s1 _ _ hl) (Gk fs);refine⟨1,_,_,by decide,d1,xF aq .nil,?_⟩;cases fs with
  |nil=>exact .inl ⟨rfl,false,rfl,by rw[if_neg (by decide)];exact rest _ s1⟩
  |cons m u=>
   refine .inr ⟨by simp,true,rfl,?_⟩;have C:=s1 _ _ hl;generalize upd H p (HO.lst [])=H1 at*
   rw[if_pos rfl];exists C;have O:(1000:Int)<2 ^ 512:=by decide+kernel
   have i0:=Int.emod_nonneg d (show(((u.map V.int).length+1:Nat):Int)≠0 by lia);have i1:=Int.emod_lt_of_pos d (show(0:Int)<(((u.map V.int).length+1:Nat):Int) by lia);rw[List.length_map] at i0 i1⊢;refine⟨by lia,?_⟩;obtain⟨j,ej,I⟩: ∃j:Nat,d % ((u.length+1:Nat):Int)=(j:Int)/\j<(m::u).length:=⟨(d % ((u.length+1:Nat):Int)).toNat,by lia,by rw[List.length_cons];lia⟩;rw[ej];refine⟨.int (m::u)[j],sI (show((m::u).map V.int)[j]?=_ by rw[List.getElem?_map,List.getElem?_eq_getElem I];rfl),⟨⟨by lia,by lia⟩,by lia,by lia⟩,?_⟩;obtain⟨fr,e1,e2,e3⟩:=hf _ (List.getElem_mem I);rw[e1];obtain⟨nn,g1,z⟩:=MY (pl:=d / 1785 % 67) (run:=1+d / 7 % 255) e2 e3 ⟨by lia,by lia⟩ ⟨by lia,by lia⟩;exists 9;rw[g1];refine q _ H1 s1 fun a _=>F4 ?_;unfold Aa;rw[Int.toNat_natCast,decide_eq_false z,Bool.false_and,Bool.and_false]
 ·exact rest H (aW.refl _)
theorem MX {K:W.Frag} {H H':Hp} {r:Addr} {xs:List V} (s:aW H H') (h:dO K H r xs):dO K H' r xs:=by
 rcases h with(h|⟨o,h⟩)|h
 ·exact .inl (.inl (s _ _ h))
 ·exact .inl (.inr ⟨o,s _ _ h⟩)
 ·exact .inr h
include T in theorem CL:FA P w K mg base "_law_spoilt" 8 ["_law_hand","_law_frame","_law_turn"] (nV aC az aa au ai aA ae aB aD af ag ah aO aR aI K):=by
 exists 0,T.qa,n6,nV;rename_i x f n;refine⟨_,(ao (aP (i:=3) n6.1.nd rfl (Or.inl rfl) (bq (tD T) HR (by decide) rfl (aE (pv 0) aw)))
 (aH (ao (aP (i:=4) n6.1.nd rfl (Or.inl rfl) (bU (pv 0) T.aV (yr T) HR (by decide) (aE (pv 1) (aE (pv 2) aw))))
 (aH (ar (aK (du (a9 (E6 K rfl) (by rfl) T.cE cK (aE (pv 4) (aE (yf rfl T.nM oV) aw))) (du (da (bT K rfl HR.units) (pv 4) (cI (aE bE (aE cx aw))) (nomark _)) (oi (da (bT K rfl HR.units) (bq (tD T) HR (by decide) rfl (aE (pv 0) aw)) (pv 3) (nomark _))))))))))),?_⟩
 obtain⟨A,a,E,hc,G,hb,q⟩:=h;obtain⟨b1,b2,H,O,b5,I⟩:=hb;have ef:vR a f n=a:=by unfold vR;rw[if_neg (by rw[hc];decide)]
 have ev:yS a f n= [.str (Str.ofString "spoilt"),.non]:=by unfold yS;rw[if_neg (by rw[hc];decide)]
 generalize h_u1:ax _=u1;exists 9;refine⟨A,a,E,G,b1,⟨by lia,by lia⟩,fun p1 U s1 d1=>?_⟩;have m1:=E.same s1;have C:=m1;obtain⟨z,F,_⟩:=C;rw[<-h_u1,ax];generalize h_u2:ax _=u2;exists F.hx;refine⟨A,a,m1,(fun e=>by rw[hc] at e;cases e),⟨b1,b2,H,O,I⟩,fun y r J k2 u v=>?_⟩;rw[ef] at u;rw[ev] at v;rw[<-h_u2,ax];exists 9;refine⟨⟨_,v⟩,fun p Z=>?_⟩;have s3:=aG (o:=HO.tup [V.str (Str.ofString "spoilt"),V.non]) Z;have ik:qC U J:=fun p o e i=>k2 p o e (F.imm e i);have j:=MX s3 v;refine⟨1,_,_,by decide,.inr (.inr ⟨r,_,_,rfl,rfl,j,.cons t9 (.cons (.inl ⟨rfl,rfl⟩) .nil)⟩),pX aq (.cons t9 (.cons (.inl ⟨rfl,rfl⟩) .nil)),.inl ⟨rfl,true,rfl,?_⟩⟩;rw[if_pos rfl];refine⟨_,a,u.same s3,G,b1,⟨by lia,by lia⟩,fun p4 d m X=>⟨3,_,_,by decide,X d (qC.of (aW.refl _)),d1 d ((ik.trans (qC.of s3)).trans (qC.of m)),.inl ⟨rfl,q y d ?_ ((u.same s3).same m)⟩⟩⟩;exact(Kp.of s1).trans (k2.trans (Kp.of (s3.trans m)))
def Lp (z C F O G E:Addr) (I:List (Addr×Str)) (K:W.Frag) (H:Hp) (a tm:Addr) (ns:List Int) (d u j po m v:Addr) (r o t g f l:Int) (i:Nat) (pw pf:Addr):Prop:= ∃A0 A1 a0 a1 y x J U fs,Wk z C F O G I K H d u j po m v A0 A1 a0 a1 (a1.T.take a0.o.toNat) (a0.T.take a1.o.toNat)/\Wy (foot d A0++(foot u A1++ [j,po,m,v])) H pw J U pf y x fs/\Bo a0 a1 y x ((i:Int) - 1) (3*i) (16*i)/\a0.R=r/\Qb (foot d A0++(foot u A1++ [j,po,m,v])) K H a (ns.map V.int)/\tm ∉ foot d A0++(foot u A1++ [j,po,m,v])/\EA E H tm r o t g f l/\(∀f∈fs,FrP f)/\fs.length<=2*i
theorem U8 (T:Txt K mg):FnAt P w K mg base CX0 "law" 9 ["_law_script"] (GY K):=by
 refine T.KG.fn gf.1 gf.2 (fun vs H Q E h=>?_) fun f cdv A outer s H vs Q E HR h=>?_
 ·unfold GY at h;split at h<;>first|rfl|exact h.elim
 ·
  unfold GY at h;split at h
  ·
   rename_i a;obtain⟨ns,hS,hl,_,q⟩:=h;refine⟨_,(MC.h (cn ⟨(aP (i:=1) gf.1.nd rfl (Or.inl rfl) (bq (D3 T) HR (by decide) rfl (aE (bq (mH T) HR (by decide) rfl (aE (pv 0) (aE ak aw))) (aE (bq (mH T) HR (by decide) rfl (aE (pv 0) (aE ak aw))) aw))))⟩
 (cL (cn (uN (i:=2) gf.1.nd rfl (Or.inl rfl) (wC (gY ⟨(wF T.aV (qr T) HR (by decide) rfl (aE ak (aE (pv 1) aw)))⟩ (gY ⟨(wF T.aV (qr T) HR (by decide) rfl (aE ak (aE (pv 1) aw)))⟩ my))))
 (cL (cn (uN (i:=3) gf.1.nd rfl (Or.inl rfl) (wC (gY (wC my) (gY (wC my) my))))
 (cn (uN (i:=4) gf.1.nd rfl (Or.inl rfl) (wC (gY (wC my) (gY (wC my) my))))
 (cn ⟨(aP (i:=5) gf.1.nd rfl (Or.inl rfl) (jt aw))⟩
 (cL (cn ⟨(gr PassesOwn.never rfl (iT rfl T.dC (aE (aF (a_ K rfl) (a9 (fQ K rfl) (by rfl) T.l9 iR (aE (yg (Qx K rfl) (pv 0) (uP ak) (uP ak)) aw)) ak) aw)) (bC (i:=6) gf.1.nd rfl (Or.inr rfl)) (ao (aP (i:=7) gf.1.nd rfl (Or.inl rfl) (bq (mH T) HR (by decide) rfl (aE (pv 0) (aE (aF (a_ K rfl) (pv 6) ak) aw))))
 (ao (aP (i:=8) gf.1.nd rfl (Or.inl rfl) (bq (vO T) HR (by decide) rfl (aE (pv 7) (aE (pv 6) aw))))
 (aH (ao (bI (eE (oh (bq (CL T) HR (by decide) rfl (aE (bj (cH K rfl) (pv 2) (aF bH (pv 8) ak) (fun _ _=>rfl)) (aE (bq (D4 T) HR (by decide) rfl (aE (aF (a_ K rfl) (aF bV (pv 8) ak) (aF bV (pv 7) ak)) (aE (av (pv 1) T.dB T.dW rfl) (aE (pv 5) aw)))) (aE (pv 6) aw)))))) (ar (aK d5)) aZ)
 (aH (ao (gr PassesOwn.never rfl (iT rfl T.dC (aE ak aw)) (bC (i:=9) gf.1.nd rfl (Or.inl rfl)) (ar (bI (eE (oh (bq (FU T) HR (by decide) rfl (aE (bj (cH K rfl) (pv 2) (pv 9) (fun _ _=>rfl)) (aE (pv 6) (aE (bj (cH K rfl) (pv 4) (aF cZ ak (pv 9)) (fun _ _=>rfl)) aw)))))) (ar (aK d5)) aZ)))
 (aH (ao (bL (bq (FQ T) HR (by decide) rfl (aE (bj (cH K rfl) (pv 2) (aF bH (aF bV (pv 7) ak) ak) (fun _ _=>rfl)) (aE (pv 7) aw))))
 (aH (ao (gr PassesOwn.never rfl (iT rfl T.dC (aE ak aw)) (bC (i:=9) gf.1.nd rfl (Or.inl rfl)) (ar (bL (NT PySem.F.plainAttrs_list PySem.F.slot_list_extend PySem.F.type_list_extend LQ (bj (cH K rfl) (pv 3) (pv 9) (fun _ _=>rfl)) (aE (bU (bj (cH K rfl) (pv 2) (pv 9) (fun _ _=>rfl)) T.aV (F2 T) HR (by decide) (aE ak aw)) aw)))))
 (aH (ao (FF (i:=4) (N:=(["_law_hand","_law_turn"]:List Str)) (nv:=1) (ix:=[6]) rfl gf.1.nd rfl rfl (oR (by kernel_rfl)) (c7 K rfl (pv 2)) (fun _ _ _ _ _=>(bC (i:=0) (show((["_law_hand","_law_turn"]:List Str)).Nodup by decide) rfl (Or.inl rfl))) (fun _ _ _ _ _=>nF) (fun _ _ _ _ _=>(bq (FT T) HR (by decide) rfl (aE (pv 0) (aE (pv 1) aw)))))
 (aH (ao (bI (aQ (Ra K rfl HR.units) cx (pv 4) (jx rfl)) (ar (aK d5)) aZ)
 (aH (ar (aP (i:=5) gf.1.nd rfl (Or.inl rfl) (aF (a_ K rfl) (pv 5) (gM (N:=(["_law_found"]:List Str)) (nv:=1) (ix:=[]) rfl (oR (by kernel_rfl)) (c7 K rfl (aF (a_ K rfl) (bj (cH K rfl) (pv 4) ak (fun _ _=>rfl)) (bj (cH K rfl) (pv 4) ak (fun _ _=>rfl)))) (fun _ _ _ _ _=>(bC (i:=0) (show((["_law_found"]:List Str)).Nodup by decide) rfl (Or.inl rfl))) (fun _ _ _ _ _=>nF) (fun _ _ _ _ _=>(bj (cH K rfl) (pv 0) ak (fun _ _=>rfl)))))))))))))))))))))))⟩
 (cL (cn ⟨(gr PassesOwn.never rfl (iT rfl T.dC (aE ak aw)) (bC (i:=9) gf.1.nd rfl (Or.inl rfl)) (ar (bI (aQ (rl K rfl HR.units) (bj (cH K rfl) (pv 3) (pv 9) (fun _ _=>rfl)) (yg (Qx K rfl) (bq (CK T) HR (by decide) rfl (aE (bj (cH K rfl) (pv 2) (aF cZ ak (pv 9)) (fun _ _=>rfl)) aw)) J9 (uP (av (av (bj (cH K rfl) (pv 2) (pv 9) (fun _ _=>rfl)) T.aV T.cv rfl) T.bp T.dg rfl))) (nomark _)) (ar (aK d5)) aZ)))⟩
 (cL (nE ⟨(aK d5)⟩)))))))))))))),?_⟩
   generalize h_ua:ax _=ua;exists 9;refine⟨ns,hS,fun c0=>⟨ns,hS,fun c1 tm r o t g fl l U s1 I hw=>?_⟩⟩;replace hS:=n_ s1 hS;clear s1;have hSH:=hS;have hTH:=I;rw[<-h_ua,ax];generalize h_ub:ax _=ub;exists 9;intro O dx0 nx0 nd0 ne0;have s2:=cY (C:=aC) (fs:=[]) nx0 nd0;refine⟨dx0,r,o,t,g,fl,l,rfl,I.same s2,hw.1,fun A0 G B2 f2 h0=>?_⟩;have S2:aW U G:=fun b o' e=>B2 b o' (s2 b o' e) (aL e nx0);replace hS:=n_ S2 hS;replace I:=I.same S2;have fr0: ∀b u,U b=some u->b ∉ foot O A0:=fun b u e m=>by
    rcases List.mem_cons.mp m with m|m
    ·rw[m,nx0] at e;cases e
    ·
     have:=f2 b m;rw[s2 b u e] at this;cases this
   clear B2 f2 s2 nd0 ne0 nx0;intro J dx1 nx1 nd1 ne1;have s3:=cY (C:=aC) (fs:=[]) nx1 nd1;refine⟨dx1,r,o,t,g,fl,l,rfl,I.same s3,hw.1,fun A1 H3 B3 f3 h1=>?_⟩;have S3:aW G H3:=fun b o' e=>B3 b o' (s3 b o' e) (aL e nx1);replace hS:=n_ S3 hS;replace I:=I.same S3;have nd:(foot O A0++foot J A1).Nodup:=by
    refine List.nodup_append.mpr ⟨h0.nd,h1.nd,fun b hb c hc e=>?_⟩;subst e;obtain⟨u,hu⟩:=h0.live hb;rcases List.mem_cons.mp hc with e|e
    ·rw[e,nx1] at hu;cases hu
    ·
     have:=f3 b e;rw[s3 b u hu] at this;cases this
   replace h0:=h0.same S3;have fr1: ∀b u,U b=some u->b ∉ foot J A1:=fun b u e m=>by
    have e:=S2 b u e;rcases List.mem_cons.mp m with m|m
    ·rw[m,nx1] at e;cases e
    ·
     have:=f3 b m;rw[s3 b u e] at this;cases this
   replace S2:=S2.trans S3;clear B3 f3 s3 nd1 ne1 S3 nx1;intro d nph;have s4:=aG (o:=HO.lst [V.ref O,V.ref J]) nph;have eh:=aq (H:=H3) (a:=d) (o:=HO.lst [V.ref O,V.ref J]);have nd4:(foot O A0++(foot J A1++ [d])).Nodup:=by
    rw[<-List.append_assoc];refine List.nodup_append.mpr ⟨nd,by simp,fun b hb c hc e=>?_⟩;rw[List.mem_singleton] at hc;subst e hc;rcases List.mem_append.mp hb with m|m
    ·
     obtain⟨u,hu⟩:=h0.live m;rw[nph] at hu;cases hu
    ·
     obtain⟨u,hu⟩:=h1.live m;rw[nph] at hu;cases hu
   replace h0:=h0.same s4;replace h1:=h1.same s4;replace hS:=n_ s4 hS;replace I:=I.same s4;have nph': ∀b u,U b=some u->b≠d:=fun b u e m=>by
    have e:=S2 b u e;rw[m,nph] at e;cases e
   replace S2:=S2.trans s4;clear nd s4 nph;generalize upd H3 d (HO.lst [V.ref O,V.ref J])=H4 at*
   rw[<-h_ub,ax];generalize h_uc:ax _=uc;exists 9;intro o0 m0 o1 m1 po m2;have W:=Wk.start (K:=K) ⟨_,h0,c8.new⟩ ⟨_,h1,c8.new⟩ nd4 eh m0 m1 m2;have s5:=((aG (o:= .lst []) m0).trans (aG (o:= .lst []) m1)).trans (aG (o:=HO.lst [V.ref o0,V.ref o1]) m2);replace hS:=n_ s5 hS;replace I:=I.same s5;have fr: ∀b u,U b=some u->b ∉ foot O A0++(foot J A1++ [d,po,o0,o1]):=fun b u e m=>by
    have e0:=S2 b u e;have e1:=aG (o:= .lst []) m0 b u e0;have e2:=aG (o:= .lst []) m1 b u e1;simp only[List.mem_append,List.mem_cons,List.not_mem_nil,or_false] at m;rcases m with m|m|m|m|m|m
    ·exact fr0 b u e m
    ·exact fr1 b u e m
    ·exact nph' b u e m
    ·rw[m,m2] at e2;cases e2
    ·rw[m,m0] at e0;cases e0
    ·rw[m,m1] at e1;cases e1
   replace S2:=S2.trans s5;clear h0 h1 nd4 eh m0 m1 m2 s5 fr0 fr1 nph';generalize upd (upd (upd H4 o0 (.lst [])) o1 (.lst [])) po (HO.lst [V.ref o0,V.ref o1])=H5 at*
   intro v0 k0 v1 k1 pw k2 pf k3;have Y:=Wy.start W k0 k1 k2 k3;have s6:=(((aG (o:= .lst []) k0).trans (aG (o:= .lst []) k1)).trans (aG (o:=HO.lst [V.ref v0,V.ref v1]) k2)).trans (aG (o:= .lst []) k3);replace hS:=n_ s6 hS;replace I:=I.same s6;replace W:=W.same s6;clear k0 k1 k2 k3 s6;generalize upd (upd (upd (upd H5 v0 (.lst [])) v1 (.lst [])) pw (HO.lst [V.ref v0,V.ref v1])) pf (.lst [])=H6 at*
   rw[<-h_uc,ax];generalize h_ud:ax _=ud;exists 9;refine zC hS fun p2 hp2=>?_;obtain⟨ms,em,hms⟩:=afM (ns:=ns);rw[em];have s7:=aG (o:= .lst (ms.map V.int)) hp2;have e7:=aq (H:=H6) (a:=p2) (o:= .lst (ms.map V.int));have htm:tm ∉ foot O A0++(foot J A1++ [d,po,o0,o1]):=by
    obtain⟨_,_,e,_⟩:=hTH;exact fr _ _ e
   have Sq:=Qb.of hSH (n_ s7 hS) fr;replace W:=W.same s7;replace I:=I.same s7;replace Y:=Y.kp (S':=[]) (Kp.of s7) (fun b m=>absurd m List.not_mem_nil) (fun _ _ _ _=>List.not_mem_nil);clear hS hSH hTH fr s7 hp2 em S2;generalize upd H6 p2 (.lst (ms.map V.int))=H7 at*
   exists e7;refine⟨by rw[List.length_map];lia,?_⟩;rw[show(((ms.map V.int).length:Int)+6).toNat=ms.length+6 by rw[List.length_map];lia];refine tQ (lo:=0) (n:=ms.length+6) (fun i σ H'=> ∃pw pf v6 v7 v8 v9,σ= [some (V.ref a),some (V.ref tm),some (V.ref d),some (V.ref po),some (V.ref pw),some (V.ref pf),v6,v7,v8,v9]/\Lp aC az aa au ai bR (tbl aA ae aB aD af ag ah) K H' a tm ns O J d po o0 o1 r o t g fl l i pw pf) ⟨pw,pf,_,_,_,_,rfl,A0,A1,_,_,none,none,v0,v1,[],W,Y,Bo.start hw.1,rfl,Sq,htm,I,fun _ m=>absurd m List.not_mem_nil,Nat.le_refl _⟩ (fun i σ H' hi hp=>?_) (fun σ H' hp=>?_)
   ·
    obtain⟨pw,pf,v6,v7,v8,v9,rfl,A0,A1,a0,a1,y0,y1,v0,v1,fs,W,Y,B,hR,Sq,htm,I,hfs,hfl⟩:=hp;generalize h_ue:ax _=ue;exists 9;refine⟨ns,Sq.sq,by lia,fun c=>⟨by lia,fun v v0' v1'=>?_⟩⟩;refine O9 fun DD eDD=>?_;rw[<-h_ud,ax];generalize h_uf:ax _=uf;obtain⟨n,en⟩: ∃n:Int,n=(i:Int) - 1:=⟨_,rfl⟩;rw[<-en] at B;rw[show(0:Int)+(i:Int)=n+1 by lia];have al:Al aC az aa au ai bR (tbl aA ae aB aD af ag ah) K a tm ns O J d po o0 o1 r o t g fl l pw v0 v1 pf y0 y1 fs H' A0 A1 a0 a1 (a1.T.take a0.o.toNat) (a0.T.take a1.o.toNat):=⟨W,Y,Sq,htm,I⟩;have hr1:a1.R=r:=B.eR.symm.trans hR;have l0:=B.l0;have l1:=B.l1;have q0:=B.d1.og;have q1:=B.d0.og;have m0:=B.c0.m1;have m1:=B.c1.m1;have m2:=B.c0.X8;have m3:=B.c1.X8;have r2:=B.c0.r2;have r3:=B.c0.r64;have ra: ∀U A0 A1,Al aC az aa au ai bR (tbl aA ae aB aD af ag ah) K a tm ns O J d po o0 o1 r o t g fl l pw v0 v1 pf y0 y1 fs U A0 A1 a0 a1 (a1.T.take a0.o.toNat) (a0.T.take a1.o.toNat)->uf DD [some (V.ref a),some (V.ref tm),some (V.ref d),some (V.ref po),some (V.ref pw),some (V.ref pf),some (V.int (n+1)),some (V.int c),some (V.int v),v9] U:=?_
    ·
     obtain⟨dxt,pt,et,_⟩:=I;exists W.eh;refine MJ rfl (fun _=>?_) fun _=>?_
     ·
      exists et;refine⟨by lia,fs,Y.ef,by lia,hfs,fun f U s1 hf=>?_⟩;exact⟨A0,a0,W.h0.same s1,hf a0 hR,B.j0.B,⟨by lia,by lia,by lia,by lia,by lia,by lia⟩,fun st' G k2 m2=>ra _ _ _ ((al.same s1).tL k2 m2)⟩
     ·
      exists et;refine⟨by lia,fs,Y.ef,by lia,hfs,fun f U s1 hf=>?_⟩;exact⟨A1,a1,W.h1.same s1,hf a1 hr1,B.j1.B,⟨by lia,by lia,by lia,by lia,by lia,by lia⟩,fun st' G k2 m2=>ra _ _ _ ((al.same s1).C3 k2 m2)⟩
    clear al W Y Sq htm I A0 A1;intro U A0 A1 al;rw[<-h_uf,ax];generalize h_ug:ax _=ug;exists 9;have hq:3*i<=1600:=by lia
    refine tQ (lo:=0) (n:=2) (fun j σ H'=> ∃v9 A0 A1,σ= [some (V.ref a),some (V.ref tm),some (V.ref d),some (V.ref po),some (V.ref pw),some (V.ref pf),some (V.int (n+1)),some (V.int c),some (V.int v),v9]/\Al aC az aa au ai bR (tbl aA ae aB aD af ag ah) K a tm ns O J d po o0 o1 r o t g fl l pw v0 v1 pf y0 y1 fs H' A0 A1 (fst j a0 (Gq a0 y1 (n+1))) (snd j a1 (Gq a1 y0 (n+1))) (a1.T.take a0.o.toNat) (a0.T.take a1.o.toNat)) ⟨_,A0,A1,rfl,al⟩ (fun j σ H' hj hp=>?_) fun σ H' hp=>?_
    ·
     obtain⟨w9,A0,A1,rfl,al⟩:=hp;rcases(show j=0\/j=1 by lia) with rfl|rfl
     ·
      rw[show(0:Int)+((0:Nat):Int)=0 from rfl];exists al.W.eh,al.Y.ew;refine⟨A0,a0,y1,al.W.h0,al.Y.t1,fun m=>al.Y.n1 (List.mem_append_left _ m),fun f w p e=>?_,⟨by lia,by lia,by lia,by lia,by lia⟩,fun st' G k m=>⟨_,_,A1,rfl,al.tL k m⟩⟩;obtain⟨_,c2,c3,c4⟩:=B.come.2 f w p e;rw[c2];exact⟨fun _=>B.j0.hear hq,c3,c4⟩
     ·
      rw[show(0:Int)+((1:Nat):Int)=1 from rfl];exists al.W.eh,al.Y.ew;refine⟨A1,a1,y0,al.W.h1,al.Y.t0,fun m=>al.Y.n0 (List.mem_append_right _ (List.mem_append_left _ m)),fun f w p e=>?_,⟨by lia,by lia,by lia,by lia,by lia⟩,fun st' G k m=>⟨_,A0,_,rfl,al.C3 k m⟩⟩;obtain⟨_,c2,c3,c4⟩:=B.flip.come.2 f w p e;rw[c2];exact⟨fun _=>B.j1.hear hq,c3,c4⟩
    clear al;obtain⟨w9,A0,A1,rfl,al⟩:=hp;replace al:Al aC az aa au ai bR (tbl aA ae aB aD af ag ah) K a tm ns O J d po o0 o1 r o t g fl l pw v0 v1 pf y0 y1 fs H' A0 A1 (Gq a0 y1 (n+1)) (Gq a1 y0 (n+1)) (a1.T.take a0.o.toNat) (a0.T.take a1.o.toNat):=al;have C0:=B.come.1 al.W.h0.wait.1;have C1:=B.flip.come.1 al.W.h1.wait.1;generalize Gq a0 y1 (n+1)=b0 at*
    generalize Gq a1 y0 (n+1)=b1 at*
    rw[<-h_ug,ax];generalize h_uh:ax _=uh;have rb: ∀U A0 A1 z0 z1,Jx b0 z0->Jx b1 z1->Al aC az aa au ai bR (tbl aA ae aB aD af ag ah) K a tm ns O J d po o0 o1 r o t g fl l pw v0 v1 pf y0 y1 fs U A0 A1 z0 z1 (a1.T.take a0.o.toNat) (a0.T.take a1.o.toNat)->uh DD [some (V.ref a),some (V.ref tm),some (V.ref d),some (V.ref po),some (V.ref pw),some (V.ref pf),some (V.int (n+1)),some (V.int c),some (V.int v),w9] U:=?_
    ·
     have e0:=B.e0;have e1:=B.e1;obtain⟨t0,_,X,f0,_⟩:=C0.T;obtain⟨t1,_,Z,f1,_⟩:=C1.T;have g0:b0.T.length=a0.T.length+t0.length:=by rw[f0,List.length_append]
     have g1:b1.T.length=a1.T.length+t1.length:=by rw[f1,List.length_append]
     exists al.W.eh;refine MJ rfl (fun _=>?_) fun _=>?_
     ·exact⟨A0,b0,al.W.h0,by lia,by rw[C0.es];lia,fun st' a' _ G k m w=>rb _ _ _ _ _ w Jx.no (al.tL k m)⟩
     ·exact⟨A1,b1,al.W.h1,by lia,by rw[C1.es];lia,fun st' a' _ G k m w=>rb _ _ _ _ _ Jx.no w (al.C3 k m)⟩
    clear al A0 A1 U H';intro U A0 A1 z0 z1 w0 w1 al;rw[<-h_uh,ax];generalize h_ui:ax _=ui;exists 9;obtain⟨P0,d0,g0,g1,_⟩:=C0.pre w0 B.d1.og B.top;obtain⟨_,d1,g2,g3,_⟩:=C1.pre w1 B.d0.og B.flip.top;have lt0:=B.d1.lo;have lt1:=B.d0.lo;have tb0:=B.j0.B.b0;have tb1:=B.j1.B.b0;have tg0:=B.d1.tg;have tg1:=B.d0.tg;have tm0:=B.j0.tm;have tm1:=B.j1.tm;have tl0:=B.c0.tl;have tl1:=B.c1.tl;refine tQ (lo:=0) (n:=2) (fun j σ H'=> ∃v9 A0 A1,σ= [some (V.ref a),some (V.ref tm),some (V.ref d),some (V.ref po),some (V.ref pw),some (V.ref pf),some (V.int (n+1)),some (V.int c),some (V.int v),v9]/\Al aC az aa au ai bR (tbl aA ae aB aD af ag ah) K a tm ns O J d po o0 o1 r o t g fl l pw v0 v1 pf y0 y1 fs H' A0 A1 (fst j z0 (cw z0 60)) (snd j z1 (cw z1 60)) (fst j (a1.T.take a0.o.toNat) (a1.T.take a0.o.toNat++qo z0 60)) (snd j (a0.T.take a1.o.toNat) (a0.T.take a1.o.toNat++qo z1 60))) ⟨_,A0,A1,rfl,al⟩ (fun j σ H' hj hp=>?_) fun σ H' hp=>?_
    ·
     obtain⟨w9,A0,A1,rfl,al⟩:=hp;rcases(show j=0\/j=1 by lia) with rfl|rfl
     ·
      rw[show(0:Int)+((0:Nat):Int)=0 from rfl];exists al.W.eh,al.W.eo;obtain⟨_,er,_⟩:=al.W.r0;obtain⟨zz,hz,_⟩:=al.W.h0;refine⟨qf (cQ.of er),?_⟩;exists hz.hx;refine⟨A0,z0,al.W.h0,by lia,d0,fun p vs G hp k m e pp=>?_⟩;have a2:=al.tL (st:=A0.st) k m;refine a2.W.r0.ext e pp ?_ fun H3 k3 m3=>⟨_,_,_,rfl,a2.UB k3 m3⟩;have:=EM (z:=z0) (m:=60) (by lia) (by lia);show(a1.T.take a0.o.toNat).length+_<=_;rw[List.length_take];lia
     ·
      rw[show(0:Int)+((1:Nat):Int)=1 from rfl];exists al.W.eh,al.W.eo;obtain⟨_,er,_⟩:=al.W.r1;obtain⟨zz,hz,_⟩:=al.W.h1;refine⟨qf (cQ.of er),?_⟩;exists hz.hx;refine⟨A1,z1,al.W.h1,by lia,d1,fun p vs G hp k m e pp=>?_⟩;have a2:=al.C3 (st:=A1.st) k m;refine a2.W.r1.ext e pp ?_ fun H3 k3 m3=>⟨_,_,_,rfl,a2.UA k3 m3⟩;have:=EM (z:=z1) (m:=60) (by lia) (by lia);show(a0.T.take a1.o.toNat).length+_<=_;rw[List.length_take];lia
    clear al A0 A1 U;obtain⟨w9,A0,A1,rfl,al⟩:=hp;replace al:Al aC az aa au ai bR (tbl aA ae aB aD af ag ah) K a tm ns O J d po o0 o1 r o t g fl l pw v0 v1 pf y0 y1 fs H' A0 A1 (cw z0 60) (cw z1 60) (a1.T.take a0.o.toNat++qo z0 60) (a0.T.take a1.o.toNat++qo z1 60):=al;obtain⟨B2,⟨s0,rd0⟩,s1,rd1⟩:=B.next (by lia) (by lia) C0 C1 w0 w1 al.W.h0.wait al.W.h1.wait
    obtain⟨_,_,_,_,eT0,hT0⟩:=B.mid C0 w0 (by lia);obtain⟨_,_,_,_,eT1,hT1⟩:=B.flip.mid C1 w1 (by lia);rw[B.outs C0 w0 hT1,B.flip.outs C1 w1 hT0] at al;rw[eT0,eT1] at al;have hR0:(cw z0 60).R=r:=P0.R.trans hR;clear P0;generalize cw z0 60=X at*
    generalize cw z1 60=Z at*
    rw[<-h_ui,ax];generalize h_uj:ax _=uj;exists 9;refine Px (cQ.of al.W.eh) (bc (by show 2<=1000;decide)) (fun j ys σ H'=> ∃v A0 A1,σ= [v,some (V.int (n+1))]/\Al aC az aa au ai bR (tbl aA ae aB aD af ag ah) K a tm ns O J d po o0 o1 r o t g fl l pw v0 v1 pf y0 y1 fs H' A0 A1 (fst j X (cT X (n+1))) (snd j Z (cT Z (n+1))) (Z.T.take X.o.toNat) (X.T.take Z.o.toNat)/\Snt (foot O A0++(foot J A1++ [d,po,o0,o1])) H' ys ([cS X (n+1),cS Z (n+1)].take j)) ⟨none,A0,A1,rfl,al,rfl⟩ ?_ ?_ ?_ ?_
    ·
     rintro j ys σ H' ⟨v,A0,A1,_,al,sn⟩;rw[sn.len,List.length_take];lia
    ·
     rintro j ys σ H' ⟨v,A0,A1,_,al,_⟩;exact cQ.of al.W.eh
    ·
     rintro j x ys σ H' hx ⟨v,A0,A1,rfl,al,sn⟩;rcases(show j=0\/j=1 by have:=(List.getElem?_eq_some_iff.mp hx).1;have e: [V.ref O,V.ref J].length=2:=rfl;lia) with rfl|rfl
     ·
      cases hx;have sn:ys= []:=sn;subst sn;exists 9;exact⟨A0,X,al.W.h0,s0,rd0,fun l G k hl m st=>⟨_,A0,A1,rfl,al.tL (st:=A0.st) k m,l,rfl,st,al.W.out (aW.refl _) hl⟩⟩
     ·
      cases hx;obtain⟨l0,rfl,t0,n0⟩:=sn;exists 9;exact⟨A1,Z,al.W.h1,s1,rd1,fun l G k hl m st=>⟨_,A0,A1,rfl,al.C3 (st:=A1.st) k m,l0,l,rfl,⟨t0.kp k (fun z=>n0 (List.mem_append_right _ (List.mem_append_left _ z))) al.W.h1.imm,n0⟩,st,al.W.out (aW.refl _) hl⟩⟩
    clear al A0 A1 H';rintro ys σ U ⟨v',A0,A1,rfl,al,sn⟩;obtain⟨l0,l1,rfl,⟨t0,n0⟩,t1,n1⟩:=sn;replace al:Al aC az aa au ai bR (tbl aA ae aB aD af ag ah) K a tm ns O J d po o0 o1 r o t g fl l pw v0 v1 pf y0 y1 fs U A0 A1 (cT X (n+1)) (cT Z (n+1)) (Z.T.take X.o.toNat) (X.T.take Z.o.toNat):=al;refine⟨bc (by show 2<=1000;decide),fun lw nlw=>?_⟩;have nw:=al.W.out (aW.refl _) nlw;have s2:=aG (o:=HO.lst [V.ref l0,V.ref l1]) nlw;have ew:=aq (H:=U) (a:=lw) (o:=HO.lst [V.ref l0,V.ref l1]);replace al:=al.same s2;replace t0:=t0.same s2;replace t1:=t1.same s2;clear s2;generalize upd U lw (HO.lst [V.ref l0,V.ref l1])=G at*
    rw[<-h_uj,ax];generalize h_uk:ax _=uk;exists 9;obtain⟨dd0,D0⟩:=t0.dn (K:=K);obtain⟨dd1,D1⟩:=t1.dn (K:=K);refine⟨2,[l0,l1],[dd0,dd1],by decide,cQ.of ew,.cons D0 (.cons D1 .nil),?_⟩;rw[<-h_uk,ax];exists ew;obtain⟨xs0,e0,i0,j0,k0⟩:=t0.fr;obtain⟨xs1,e1,i1,j1,k1⟩:=t1.fr;refine .inl ⟨_,_,xs0,xs1,rfl,rfl,e0,e1,bc (by lia),fun pc npc=>?_⟩;have s3:=aG (o:=HO.lst (xs0++xs1)) npc;have ec:=aq (H:=G) (a:=pc) (o:=HO.lst (xs0++xs1));replace ew:=s3 _ _ ew;replace t0:=t0.same s3;replace t1:=t1.same s3;have iA: ∀x∈xs0++xs1,∃r f w p,x = .ref r/\upd G pc (.lst (xs0++xs1)) r=some (.tup [.int f,w,p])/\Xm G x = .int f:=fun x hx=>by
     obtain⟨r,f,w,p,rfl,e⟩: ∃r f w p,x=V.ref r/\G r=some (.tup [.int f,w,p]):=by
      rcases List.mem_append.mp hx with hx|hx
      ·exact i0 x hx
      ·exact i1 x hx
     exact⟨r,f,w,p,rfl,s3 _ _ e,by unfold Xm;simp only[e]⟩
    have jA:(xs0++xs1).map (Xm G)=(sfr (cS X (n+1))++sfr (cS Z (n+1))).map V.int:=by rw[List.map_append,List.map_append,j0,j1]
    replace al:=al.same s3;have kA:(xs0++xs1).length<=2:=by rw[List.length_append];lia
    clear i0 i1 j0 j1 k0 k1 e0 e1;generalize Xm G=ff at*
    generalize xs0++xs1=xs at*
    generalize upd G pc (HO.lst xs)=H3 at*
    refine KI (p:=fun _=>true) (f:=ff) (cQ.of ec) (bc (by lia)) (fun x hx Q' q'=>q') (fun x hx _ Q' q'=>?_) ?_
    ·
     obtain⟨r,f,w,p,rfl,e,ef⟩:=iA x hx;exists e;rw[ef] at q';exact q'
    rw[List.filter_eq_self.mpr (fun _ _=>rfl),jA];refine⟨bc (by rw[List.length_map,List.length_append];have:=Fn (y:=cS X (n+1));have:=Fn (y:=cS Z (n+1));lia),fun pn npn=>?_⟩;have s4:=aG (o:=HO.lst ((sfr (cS X (n+1))++sfr (cS Z (n+1))).map V.int)) npn;have en:=aq (H:=H3) (a:=pn) (o:=HO.lst ((sfr (cS X (n+1))++sfr (cS Z (n+1))).map V.int));have ln:(sfr (cS X (n+1))++sfr (cS Z (n+1))).length<=2:=by rw[List.length_append];have:=Fn (y:=cS X (n+1));have:=Fn (y:=cS Z (n+1));lia
    refine .inl ⟨_,_,fs.map V.int,_,rfl,rfl,s4 _ _ al.Y.ef,en,bc (by rw[List.length_map,List.length_map];lia),fun pg npg=>?_⟩;have ng:=al.W.out s4 npg;have s5:=s4.trans (aG (o:=HO.lst (fs.map V.int++(sfr (cS X (n+1))++sfr (cS Z (n+1))).map V.int)) npg);replace al:=al.same s5;have eB:Bo (cT X (n+1)) (cT Z (n+1)) (cS X (n+1)) (cS Z (n+1)) (((i+1:Nat):Int) - 1) (3*(i+1)) (16*(i+1)):=by
     rw[show((i+1:Nat):Int) - 1=n+1 by lia];exact B2
    rw[eDD];refine⟨lw,pg,_,_,_,_,rfl,A0,A1,_,_,_,_,l0,l1,fs++(sfr (cS X (n+1))++sfr (cS Z (n+1))),al.W,⟨s5 _ _ ew,t0.same s5,t1.same s5,?_,nw,n0,n1,ng⟩,eB,hR0,al.Q,al.n,al.t,fun f hf=>?_,?_⟩
    ·exact aq.trans (congrArg (fun z=>some (HO.lst z)) List.map_append.symm)
    ·
     rcases List.mem_append.mp hf with hf|hf
     ·exact hfs f hf
     ·
      rcases List.mem_append.mp hf with hf|hf
      ·exact eB.k0.frP f hf
      ·exact eB.k1.frP f hf
    ·rw[List.length_append];lia
   ·
    obtain⟨pw,pf,v6,v7,v8,v9,rfl,A0,A1,a0,a1,y0,y1,v0,v1,fs,W,Y,B,hR,Sq,htm,I,hfs,hfl⟩:=hp;show ax _ _ _ _;unfold ax;exists 9;have l0:=B.l0;have l1:=B.l1;have q0:=B.d1.og;have q1:=B.d0.og;have p0:=B.d1.lo;have p1:=B.d0.lo;have p2:=B.j1.B.b0;have p3:=B.j0.B.b0;refine tQ (lo:=0) (n:=2) (fun j σ H'=> ∃v9,σ= [some (V.ref a),some (V.ref tm),some (V.ref d),some (V.ref po),some (V.ref pw),some (V.ref pf),v6,v7,v8,v9]/\Wk aC az aa au ai (tbl aA ae aB aD af ag ah) K H' O J d po o0 o1 A0 A1 a0 a1 (a1.T.take a0.o.toNat) (a0.T.take a1.o.toNat)) ⟨_,rfl,W⟩ (fun j σ H' hj hp=>?_) fun σ H' hp=>?_
    ·
     obtain⟨w9,rfl,W⟩:=hp;rcases(show j=0\/j=1 by lia) with rfl|rfl
     ·
      rw[show(0:Int)+((0:Nat):Int)=0 from rfl];exists W.eh,W.eo;refine⟨A1,a1,W.h1,by lia,fun p vs G s hp pp=>?_⟩;replace W:=W.same s;obtain⟨zz,hz,hr⟩:=W.h0;exists W.eh,hz.hx,hz.tk.hx;obtain⟨nn,en⟩: ∃nn:Nat,zz.tk.o=(nn:Int):=⟨zz.tk.o.toNat,by rw[hr.o];lia⟩;rw[en];refine zC (cQ.of hp) fun p2 np2=>?_;have W2:=W.same (aG (o:=HO.lst (yR vs none (some (nn:Int)))) np2);have D2:=xF (K:=K) (H:=upd G p2 (HO.lst (yR vs none (some (nn:Int))))) (a:=p2) aq (by rw[KH];exact yX.row (fi (FH nn pp) fun _ _ t=>t.keep (qC.of (aG np2))));have D1:=W2.r0.dn;refine⟨2,_,_,by decide,D1,D2,.inl ⟨?_,false,rfl,?_⟩⟩
      ·rw[show a0.o.toNat=nn by have:=hr.o;lia]
      ·
       rw[if_neg (by decide)];exact⟨_,rfl,W2⟩
     ·
      rw[show(0:Int)+((1:Nat):Int)=1 from rfl];exists W.eh,W.eo;refine⟨A0,a0,W.h0,by lia,fun p vs G s hp pp=>?_⟩;replace W:=W.same s;obtain⟨zz,hz,hr⟩:=W.h1;exists W.eh,hz.hx,hz.tk.hx;obtain⟨nn,en⟩: ∃nn:Nat,zz.tk.o=(nn:Int):=⟨zz.tk.o.toNat,by rw[hr.o];lia⟩;rw[en];refine zC (cQ.of hp) fun p2 np2=>?_;have W2:=W.same (aG (o:=HO.lst (yR vs none (some (nn:Int)))) np2);have D2:=xF (K:=K) (H:=upd G p2 (HO.lst (yR vs none (some (nn:Int))))) (a:=p2) aq (by rw[KH];exact yX.row (fi (FH nn pp) fun _ _ t=>t.keep (qC.of (aG np2))));have D1:=W2.r1.dn;refine⟨2,_,_,by decide,D1,D2,.inl ⟨?_,false,rfl,?_⟩⟩
      ·rw[show a1.o.toNat=nn by have:=hr.o;lia]
      ·
       rw[if_neg (by decide)];exact⟨_,rfl,W2⟩
    ·
     obtain⟨w9,rfl,W⟩:=hp;exists 9;exact q _
  ·exact h.elim
end
theorem fin (i:K.In h) (G:h.Ns mainGlobals mg) (d:mg "law" = some (.ref fa)) (T:Txt K mg):
  ∃f:FuncData,(∀(s:Shared) (u:Value),BindsTo s f ⟨[u],[]⟩ [("_law_script",u)])/\∀base:Heap,K.In base->base.Ns mainGlobals mg->yZ P w K mg base CX0 9 fa f ["_law_script"] (GY K):=
 law_fin d T.KG gf.2 fun base=>U8 T
end K66
open PySem PySem.W PyProof.Rows
noncomputable def PySem.W.Fast.tw8897884002145067582:PySem.Program:=PySem.Challenge.pw_slowroad_k66_spoilt_frames
theorem PySem.W.Fast.te8897884002145067582:PySem.Challenge.pw_slowroad_k66_spoilt_frames=PySem.W.Fast.tw8897884002145067582:=rfl
set_option maxRecDepth 100000 in
set_option maxHeartbeats 0 in
theorem PySem.Challenge.cw_slowroad_k66_spoilt_frames_holds : PySem.Challenge.rw_slowroad_k66_spoilt_frames.Holds := by
 w_on;o_law
 refine holds_open (q:=K66.eF) (loose:=[]) (Xt:=fun s=>xlAt K66.eF [] s&&recOk (RowW.records (OpenRow.toRowW (OpenLaw.row Challenge.rw_slowroad_k66_spoilt_frames))) s) (XP:=XL K66.eF []) (Yf:=Hook.obs (kHook K66.Gb K66.jS K66.yx)) (Ya:=Hook.val (kHook K66.Gb K66.jS K66.yx)) (YP:=Hook.says (kHook K66.Gb K66.jS K66.yx)) (N:=17280) K66.afw (Hook.of (kHook K66.Gb K66.jS K66.yx)) (Hook.keeps (kHook K66.Gb K66.jS K66.yx)) (fun s e=>xl_of s (Bool.and_eq_true_iff.mp e).1) XL.keeps (by rfl) (by rfl) (by rfl) (fun s e=>recFacts_of (Bool.and_eq_true_iff.mp e).2) (by rfl) (by first|assumption|decide+kernel) (by decide+kernel) ⟨rfl,rfl,rfl,rfl,rfl,by decide+kernel⟩ ?hw ?hc
 case hw=>w_witness2
 k_fill
 refine L2.Od (l:=Challenge.rw_slowroad_k66_spoilt_frames) (k:=9) (x:="_law_script") rfl rfl ⟨rfl,by decide,by decide⟩ (fun w h Y=>W.kIn_of Y) ?F
 case F=>
  intro w mg fa h KX G hmg;refine' K66.fin KX G hmg ?TT
  case TT=>
   refine' K66.Txt.mk ?bG ?nJ ?bM ?dh ?cu ?bF ?fu ?bw ?bW ?df ?ay ?lR ?cp ?cq ?c_ ?a8 ?bu ?dv ?cO ?cg ?cb ?cN ?cU ?bp ?jy ?nI ?cA ?dg ?cV ?aV ?tI ?iU ?cv ?bh ?bP ?b8 ?di ?dB ?dW ?gE ?tG ?lQ ?gN ?xQ ?vU ?y2 ?vT ?AS ?Ck ?Cm ?y3 ?uL ?z9 ?wY ?fB ?wA ?gn ?gv ?eU ?eY ?kP ?k_ ?jk ?jK ?g_ ?ig ?jj ?jJ ?jl ?jL ?kQ ?lg ?xR ?C6 ?z5 ?gH ?zE ?gZ ?h9 ?fH ?fN ?gL ?gO ?kG ?kU ?ja ?jB ?kE ?kT ?kH ?kW ?mz ?mI ?qd ?z8 ?rD ?gJ ?wz ?gm ?gu ?eS ?eX ?fJ ?fO ?eQ ?eW ?g9 ?ie ?jh ?jH ?ji ?jI ?kO ?k9 ?qD ?wZ ?tj ?fg ?fv ?hV ?ir ?jr ?jQ ?hU ?iq ?gq ?gx ?hJ ?ip ?hX ?iu ?js ?jR ?uK ?z7 ?wX ?fA ?wy ?gj ?gs ?je ?jE ?kI ?kX ?jd ?jD ?g7 ?h_ ?jc ?jC ?jf ?jF ?kJ ?kY ?y4 ?z_ ?wB ?gp ?gw ?jo ?jO ?kR ?lh ?jn ?jN ?hG ?ij ?jm ?jM ?jq ?jP ?kS ?lp ?nP ?C7 ?qu ?gI ?iZ ?zF ?g8 ?ia ?kM ?k7 ?mC ?mJ ?kL ?k6 ?jg ?jG ?kK ?kZ ?kN ?k8 ?mD ?mK ?Kl ?mL ?d8 ?oo ?pT ?dF ?d7 ?dG ?yu ?lr ?mM ?pY ?lu ?wR ?eK ?lD ?gC ?Ca ?iz ?pZ ?lx ?F7 ?iB ?p8 ?p7 ?ly ?rA ?eI ?gA ?iC ?lA ?wQ ?eG ?gy ?iy ?lq ?gz ?rB ?eJ ?gB ?iD ?lC ?lB ?iM ?jY ?iL ?iK ?j4 ?AH ?xH ?AG ?uo ?t_ ?AA ?AJ ?oC ?mN ?xI ?Jl ?oB ?AE ?AI ?xG ?AD ?lH ?qc ?lG ?r6 ?mU ?mV ?Gn ?Dy ?mQ ?mO ?iE ?iF ?jW ?oF ?j3 ?rY ?qb ?oI ?oJ ?iJ ?iI ?fz ?c9 ?iG ?fw ?eO ?eL ?gD ?uy ?iH ?j2 ?mS ?eP ?ux ?jZ ?rX ?oQ ?iP ?j5 ?m7 ?uz ?mT ?oK ?rZ ?uA ?mW ?oM ?oN ?mX ?iN ?oG ?mR ?oP ?iO ?lF ?jX ?rV ?dY ?oH ?rW ?AF ?oA ?m6 ?uD ?r_ ?xK ?xJ ?uC ?uF ?uE ?oO ?mY ?uB ?mZ ?r9 ?Jm ?uq ?um ?lE ?oE ?rT ?rR ?uu ?ur ?p9 ?uw ?uv ?p_ ?rS ?qa ?KG ?PQ ?HY ?Ju ?PN ?cE ?l9 ?Jt ?DE ?Fb ?dC ?KP ?PM ?nM ?uX ?sf ?se ?lU ?iQ ?pB ?fS ?si ?nL ?AQ ?oU ?lJ ?AO ?AN ?j7 ?lK ?uH ?Cg ?PJ ?uI ?j8 ?xM ?dZ ?uG
   case bG|bF|ay|bp|aV|dB|Kl|mL|d8|oo|pT|dF|d7|dG=>refine' L2.Of KX G ?a ?pg ?hd ?po ?sa ?mk ?kc;(case a=>k_is);(case pg=>k_is);(case hd=>k_is);(case po=>k_is);(case sa=>k_is);(case mk=>k_is);(case kc=>k_is)
   case nJ|bM|dh|cu|fu|bw|bW|df|lR|cp|cq|c_|a8|bu|dv|cO|cg|cb|cN|cU|jy|nI|cA|dg|cV|tI|iU|cv|bh|bP|b8|di|dW|gE|tG|lQ|gN=>refine' L2.LN ?a;(case a=>k_is)
   case xQ|vU|y2|vT|AS|Ck|Cm|y3=>refine' L2.Qf KX G ?a ?t ?b;(case a=>k_is);(case t=>k_is);(case b=>k_is)
   case uL|xR|qd|uK|nP=>refine' ⟨_,L2.JG KX G ?a ?l ?o ?i ?t ?l2 ?o2 ?i2 ?t2⟩;(case a=>k_is);(case l=>k_is);(case o=>kernel_rfl);(case i=>k_is);(case t=>k_is);(case l2=>k_is);(case o2=>kernel_rfl);(case i2=>k_is);(case t2=>k_is)
   case z9|C6|z8|wZ|z7|z_|C7=>refine' L2.Qg ?a ?b ?c ?d ?e ?f ?g ?h;(case a=>k_is);(case b=>k_is);(case c=>k_is);(case d=>k_is);(case e=>k_is);(case f=>k_is);(case g=>k_is);(case h=>k_is)
   case wY|z5|rD|wX|qu=>k_is
   case fB|gH|gJ|fA|gI|iZ=>refine' ⟨?a,?b⟩;(case a=>k_is);(case b=>k_is)
   case wA|gn|eU|kP|jk|g_|jj|jl|kQ|zE|gZ|fH|gL|kG|ja|kE|kH|mz|wz|gm|eS|fJ|eQ|g9|jh|ji|kO|tj|fg|hV|jr|hU|gq|hJ|hX|js|wy|gj|je|kI|jd|g7|jc|jf|kJ|wB|gp|jo|kR|jn|hG|jm|jq|kS|zF|g8|kM|mC|kL|jg|kK|kN|mD=>kit_is
   case gv|eY|k_|jK|ig|jJ|jL|lg|h9|fN|gO|kU|jB|kT|kW|mI|gu|eX|fO|eW|ie|jH|jI|k9|fv|ir|jQ|iq|gx|ip|iu|jR|gs|jE|kX|jD|h_|jC|jF|kY|gw|jO|lh|jN|ij|jM|jP|lp|ia|k7|mJ|k6|jG|kZ|k8|mK=>refine' (show W.mroIn _ _ _=_ from ?a);(case a=>k_is)
   case qD|y4=>refine' L2.JG KX G ?a ?l ?o ?i ?t ?l2 ?o2 ?i2 ?t2;(case a=>k_is);(case l=>k_is);(case o=>kernel_rfl);(case i=>k_is);(case t=>k_is);(case l2=>k_is);(case o2=>kernel_rfl);(case i2=>k_is);(case t2=>k_is)
   case yu|wR|Ca|F7|rA|wQ|rB=>refine' L2.N0 ?a;(case a=>k_is)
   case lr|mM|pY|lu|eK|lD|gC|iz|pZ|lx|iB|p8|p7|ly|eI|gA|iC|lA|eG|gy|iy|lq|gz|eJ|gB|iD|lC|lB|iM|jY|iL|iK|j4|lH|qc|lG|r6|mU|mV|mQ|mO|iE|iF|jW|oF|j3|rY|qb|oI|oJ|iJ|iI|fz|c9|iG|fw|eO|eL|gD|uy|iH|j2|mS|eP|ux|jZ|rX|oQ|iP|j5|m7|uz|mT|oK|rZ|uA|mW|oM|oN|mX|iN|oG|mR|oP|iO|lF|jX|rV|dY|oH|rW|m6|uD|r_|xK|xJ|uC|uF|uE|oO|mY|uB|mZ|r9|lE=>refine' L2.LU ?a ?i ?l ?c ?k;(case a=>k_is);(case i=>k_is);(case l=>k_is);(case c=>k_is);(case k=>k_is)
   case AH|xH|AG|uo|t_|AA|AJ|oC|mN|xI|Jl|oB|AE|AI|xG|AD|Gn|Dy|AF|oA|Jm|uq|um|oE|rT|rR|uu|ur|p9|uw|uv|p_|rS|qa|KG=>refine' L2.Pq KX G ?a ?l ?c ?k;(case a=>k_is);(case l=>k_is);(case c=>k_is);(case k=>k_is)
   case PQ|HY|Ju|PN|cE|l9|Jt|DE|Fb|dC|KP|PM|nM=>refine' W.mg_none_of KX G ?a;(case a=>k_is)
   case uX=>refine' L2.GO KX G ?a ?l ?c ?d ?e ?z ?r;(case a=>k_is);(case l=>k_is);(case c=>rfl);(case d=>rfl);(case e=>rfl);(case z=>decide);(case r=>exact .cons ⟨_,rfl⟩ (.cons ⟨_,rfl⟩ (.cons ⟨_,rfl⟩ (.cons ⟨_,rfl⟩ (.cons ⟨_,rfl⟩ (.nil))))))
   case sf|lU|iQ|pB|fS|si|nL|AQ|oU|lJ|AO|AN|j7|lK|uH|uI|j8|xM|dZ|uG=>refine' ⟨_,W.mg_of KX G ?a,?r⟩;(case a=>k_is);(case r=>exact⟨_,rfl⟩)
   case se|Cg|PJ=>refine' L2.GO KX G ?a ?l ?c ?d ?e ?z ?r;(case a=>k_is);(case l=>k_is);(case c=>rfl);(case d=>rfl);(case e=>rfl);(case z=>decide);(case r=>exact .cons ⟨_,rfl⟩ (.cons ⟨_,rfl⟩ (.nil)))
#print axioms Challenge.cw_slowroad_k66_spoilt_frames_holds
