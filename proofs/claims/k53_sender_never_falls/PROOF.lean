import PyProof.Rows.All
import Wide.All
import OpenK.AllK
import Wide.FinOn
import PyProof.EqAt
import PyProof.EqKinds
import PyProof.TupleCall
import PyProof.NeKinds
import PyProof.Rows.BitMore
import PyProof.FitsBits
import PyProof.Rows.TupAssign
import PyProof.ListRange
import Lean
import PySem.Challenge.RW_slowroad_k53_sender_never_falls
set_option maxRecDepth 100000
set_option maxHeartbeats 4000000
set_option Elab.async false
set_option linter.all false
set_option compiler.extract_closed false
namespace L2
open PySem PySem.Spec PyProof.Rows
noncomputable abbrev Key:=Sum Int Str
noncomputable def nI:Key->Value->Bool
 | .inl k,v=>Value.isInt k v
 | .inr x,v=>Value.isStrOf x v
noncomputable def EV (w:World):Key->Int
 | .inl k=>hashInt k
 | .inr x=>hashStr w x
def bH: ∀{k:Key} {v:Value},nI k v=true->(∃i t,k=Sum.inl i/\v=Value.int i t)\/(∃x t,k=Sum.inr x/\v=Value.str x t)
 | .inl i,v,h=>by
  obtain ⟨t,e⟩:=Value.isInt_shape (k:=i) (v:=v) h;exact .inl ⟨i,t,rfl,e⟩
 | .inr x,v,h=>by
  obtain ⟨t,e⟩:=Value.isStrOf_shape (x:=x) (v:=v) h;exact .inr ⟨x,t,rfl,e⟩
def sv (i:Int) (t:Tok):nI (.inl i) (.int i t)=true:=by simp [nI,Value.isInt]
def su (x:Str) (t:Tok):nI (.inr x) (.str x t)=true:=by simp [nI,Value.isStrOf]
def yW (a b:Int):decide ((Sum.inl a:Key)=Sum.inl b)=(a == b):=by
 by_cases e:a=b
 ·subst e;simp
 ·
  have h: ¬(Sum.inl a:Key)=Sum.inl b:=fun q=>e (Sum.inl.inj q);rw [decide_eq_false h];exact (beq_eq_false_iff_ne.mpr e).symm
def yT (a b:Str):decide ((Sum.inr a:Key)=Sum.inr b)=decide (a=b):=by
 by_cases e:a=b
 ·subst e;simp
 ·
  have h: ¬(Sum.inr a:Key)=Sum.inr b:=fun q=>e (Sum.inr.inj q);rw [decide_eq_false h,decide_eq_false e]
def yV (a:Int) (b:Str):decide ((Sum.inl a:Key)=Sum.inr b)=false:=decide_eq_false (fun q=>nomatch q)
def yU (a:Str) (b:Int):decide ((Sum.inr a:Key)=Sum.inl b)=false:=decide_eq_false (fun q=>nomatch q)
noncomputable def cB (prog:Program) (w:World):PySem.KeyKind prog w Key where
 is:=nI
 hash:=EV w
 inj:=fun v a b ha hb=>by
  rcases bH ha with ⟨i,t,rfl,rfl⟩|⟨x,t,rfl,rfl⟩
  ·
   rcases bH hb with ⟨j,u,rfl,e⟩|⟨y,u,rfl,e⟩
   ·injection e with e1 _;rw [e1]
   ·exact nomatch e
  ·
   rcases bH hb with ⟨j,u,rfl,e⟩|⟨y,u,rfl,e⟩
   ·exact nomatch e
   ·injection e with e1 _;rw [e1]
 byValue:=fun k v h=>by
  rcases bH h with ⟨i,t,rfl,rfl⟩|⟨x,t,rfl,rfl⟩<;>rfl
 pyHash:=fun hv h=>by
  rcases bH hv with ⟨i,t,rfl,rfl⟩|⟨x,t,rfl,rfl⟩
  ·exact wpAny_pyHash_int h
  ·exact wpAny_pyHash_str h
 eqBool:=fun hu hv h=>by
  rcases bH hu with ⟨i,t,rfl,rfl⟩|⟨x,t,rfl,rfl⟩
  ·
   rcases bH hv with ⟨j,u,rfl,rfl⟩|⟨y,u,rfl,rfl⟩
   ·rw [yW] at h;exact wpAny_eqBool_int h
   ·rw [yV] at h;exact SeqAt.EqAt.int_str i t y u _ _ _ _ h
  ·
   rcases bH hv with ⟨j,u,rfl,rfl⟩|⟨y,u,rfl,rfl⟩
   ·rw [yU] at h;exact SeqAt.EqAt.str_int x t j u _ _ _ _ h
   ·rw [yT] at h;exact wpAny_eqBool_str h
 «strs» :=fun k x t v h=>by
  rcases bH h with ⟨i,u,rfl,e⟩|⟨y,u,rfl,e⟩
  ·exact nomatch e
  ·
   injection e with e1 _;subst e1;cases v<;>rfl
def oX (prog:Program) (w:World) (i:Int) (t:Tok):(cB prog w).is (.inl i) (.int i t)=true:=sv i t
def oW (prog:Program) (w:World) (x:Str) (t:Tok):(cB prog w).is (.inr x) (.str x t)=true:=su x t
inductive V where
 |non|bl (b:Bool)|int (i:Int)|str (x:Str)|byt (b:Array UInt8)|flt (b:UInt64)|ref (a:Addr)|ty (n:String)
 deriving DecidableEq
def RelV:V->Value->Prop
 | .non,u=>u=Value.none
 | .bl b,u=>u=Value.bool b
 | .int i,u=> ∃t,u=Value.int i t
 | .str x,u=> ∃t,u=Value.str x t
 | .byt b,u=> ∃t,u=Value.bytes b t
 | .flt b,u=> ∃t,u=Value.float b t
 | .ref a,u=>u=Value.ref a
 | .ty n,u=>u=Value.type n
abbrev Vals:List V->List Value->Prop:=Paired RelV
def Vals.length {xs:List V} {us:List Value} (r:Vals xs us):xs.length=us.length:=Paired.length r
def Vals.get: ∀{xs:List V} {us:List Value} {i:Nat} {x:V},Vals xs us->xs[i]?=some x->∃u,us[i]?=some u/\RelV x u
 |_,_,_,_,.nil,e=>by simp at e
 |_,_,0,_,.cons r _,e=>by simp at e;subst e;exact ⟨_,rfl,r⟩
 |_,_,i+1,x,.cons _ t,e=>by
  obtain ⟨u,h1,h2⟩:=Vals.get (i:=i) (x:=x) t (by simpa using e);exact ⟨u,by simpa using h1,h2⟩
def Vals.append: ∀{xs ys:List V} {us ws:List Value},Vals xs us->Vals ys ws->Vals (xs++ys) (us++ws)
 |_,_,_,_,.nil,s=>s
 |_,_,_,_,.cons r t,s=> .cons r (Vals.append t s)
def Vals.take: ∀{xs:List V} {us:List Value} (n:Nat),Vals xs us->Vals (xs.take n) (us.take n)
 |_,_,0,_=> .nil
 |_,_,_+1,.nil=> .nil
 |_,_,n+1,.cons r t=> .cons r (Vals.take n t)
def Vals.drop: ∀{xs:List V} {us:List Value} (n:Nat),Vals xs us->Vals (xs.drop n) (us.drop n)
 |_,_,0,r=>r
 |_,_,_+1,.nil=> .nil
 |_,_,n+1,.cons _ t=>Vals.drop n t
def iU:Option V->Option Value->Prop
 |some v,some u=>RelV v u
 |none,none=>True
 |_,_=>False
def KV {κ:Type}:List (κ×V)->List (κ×Value)->Prop:=Paired fun (p:κ×V) (q:κ×Value)=>p.1=q.1/\RelV p.2 q.2
noncomputable def kV:Key->V
 | .inl i=> .int i
 | .inr x=> .str x
inductive HO where

 |lst (xs:List V)

 |tup (xs:List V)

 |dK (kvs:List (Key×V))|dT (kvs:List (List Key×V))

 |set (S:Int->Bool) (n:Nat)

 |ins (C dx:Addr) (fs:List (Str×V))

 |own (x:Addr)

 |xd (fs:List (Str×V))

 |met (f x:Addr)

 |rng (lo hi:Int)

 |frz (o:Obj) (u:HO)

 |tbl (ps:Array Value)

 |ext (φ:Heap->Prop)
noncomputable abbrev Hp:=Addr->Option HO
noncomputable def upd (H:Hp) (a:Addr) (o:HO):Hp:=fun b=>if b=a then some o else H b
def au {H:Hp} {a:Addr} {o:HO}:upd H a o a=some o:=by unfold upd;rw [if_pos rfl]
def aj {H:Hp} {a b:Addr} {o:HO} (h:b≠a):upd H a o b=H b:=by unfold upd;rw [if_neg h]
def vH {H:Hp} {a:Addr} {o u:HO}:upd (upd H a o) a u=upd H a u:=by
 funext b;unfold upd;split<;>rfl
def a_ {H:Hp} {a b:Addr} {o u:HO} (h:H a=some o) (h':H b=some u) (d:o≠u):a≠b:=by
 intro e;subst e;rw [h] at h';exact d (Option.some.inj h')
def aA {H:Hp} {a b:Addr} {o:HO} (h:H a=some o) (h':H b=none):a≠b:=by
 intro e;subst e;rw [h] at h';cases h'
section
variable (P:Program) (w:World)
def bB (H:Hp) (h:Heap) (a:Addr):HO->Prop
 | .lst xs=>xs.length<=sizeLine/\∃(its:List Value) (n:Nat),Vals xs its/\h.get? a=some {cls:= .type "list",data:= .seq its.toArray n}
 | .tup xs=>xs.length<=sizeLine/\∃its:List Value,Vals xs its/\IsTup h a its.toArray
 | .dK kvs=>kvs.length<=sizeLine/\(a == sysModules)=false/\∃vs,KV kvs vs/\h.DictOf (cB P w) a vs
 |
   .dT kvs=>kvs.length<=sizeLine/\(a == sysModules)=false/\∃xs:List (List Key×Addr×Value),
   Paired (fun (p:List Key×V) (q:List Key×Addr×Value)=>p.1=q.1/\H q.2.1=some (.tup (p.1.map kV))/\RelV p.2 q.2.2) kvs xs/\
   ∃o es ep,h.get? a=some o/\o.ExactDict/\o.data = .dict es ep/\es.toList=xs.map (entryOfKey (tupleKind (cB P w)))/\(xs.map (·.1)).Nodup
 | .set S n=>h.SetOf (intKind P w) a S n
 |
   .ins C dx fs=>H dx=some (.own a)/\fs.length<=1000/\dx≠a/\h.get? a=some (W.instObj C dx)/\
   ∃mA,h.Ns1 dx mA/\(∀f,iU (fs.lookup f) (mA f))/\PySem.Within mA (fs.map (·.1))
 | .own _=> ∃o,h.get? a=some o
 | .xd fs=> ∃mA,h.Ns1 a mA/\∀f,iU (fs.lookup f) (mA f)
 | .rng lo hi=> ∃t u v,h.get? a=some {cls:= .type "range",data:= .fields #[.int lo t,.int hi u,.int 1 v]}
 | .frz o u=>h.get? a=some o/\bB H h a u
 | .tbl ps=>h.get? a=some {cls:= .none,data:= .fields ps}
 | .met f x=>h.get? a=some (W.methodObj (.ref f) (.ref x))
 | .ext φ=>φ h/\(∃o,h.get? a=some o)/\∀h1 h2:Heap,φ h1->(∀o,h1.get? a=some o->h2.get? a=some o)->φ h2
def jy (H:Hp) (h:Heap):Prop:= ∀a o,H a=some o->bB P w H h a o
end
section
variable {P:Program} {w:World} {H H':Hp} {h h':Heap} {a:Addr} {o:HO}
def bB.lt (x:bB P w H h a o):a<h.objs.size:=by
 cases o with
 |lst xs=>obtain ⟨_,_,_,_,e⟩:=x;exact Heap.lt_size e
 |tup xs=>obtain ⟨_,_,_,p⟩:=x;exact p.lt
 |dK kvs=>obtain ⟨_,_,_,_,o,_,_,e,_⟩:=x;exact Heap.lt_size e
 |dT kvs=>obtain ⟨_,_,_,_,o,_,_,e,_⟩:=x;exact Heap.lt_size e
 |set S n=>obtain ⟨o,_,_,_,e,_⟩:=x;exact Heap.lt_size e
 |ins C dx fs=>obtain ⟨_,_,_,e,_⟩:=x;exact Heap.lt_size e
 |own y=>obtain ⟨_,e⟩:=x;exact Heap.lt_size e
 |xd fs=>obtain ⟨_,⟨_,_,_,e,_⟩,_⟩:=x;exact Heap.lt_size e
 |rng lo hi=>obtain ⟨_,_,_,e⟩:=x;exact Heap.lt_size e
 |frz ob u=>obtain ⟨e,_⟩:=x;exact Heap.lt_size e
 |tbl ps=>exact Heap.lt_size (show h.get? a=some _ from x)
 |met f y=>exact Heap.lt_size (show h.get? a=some _ from x)
 |ext φ=>obtain ⟨_,⟨_,e⟩,_⟩:=x;exact Heap.lt_size e
def Paired.yG {α β:Type} {F G:α->β->Prop}: ∀{l₁:List α} {l₂:List β},Paired F l₁ l₂->(∀a b,F a b->G a b)->Paired G l₁ l₂
 |_,_,.nil,_=> .nil
 |_,_,.cons r t,f=> .cons (f _ _ r) (Paired.yG t f)
def bB.stay (x:bB P w H h a o) (k: ∀b u,(b=a\/H b=some (.own a))->h.get? b=some u->h'.get? b=some u)
  (ho: ∀b,H b=some (.own a)->H' b=some (.own a)) (ht: ∀b xs,H b=some (.tup xs)->H' b=some (.tup xs)):bB P w H' h' a o:=by
 induction o with
 |lst xs=>obtain ⟨z,its,n,r,e⟩:=x;exact ⟨z,its,n,r,k _ _ (.inl rfl) e⟩
 |tup xs=>obtain ⟨z,its,r,ob,e,c⟩:=x;exact ⟨z,its,r,ob,k _ _ (.inl rfl) e,c⟩
 |dK kvs=>obtain ⟨z,y,vs,r,ob,es,ep,e,c⟩:=x;exact ⟨z,y,vs,r,ob,es,ep,k _ _ (.inl rfl) e,c⟩
 |dT kvs=>
  obtain ⟨z,y,xs,r,ob,es,ep,e,c⟩:=x;exact ⟨z,y,xs,Paired.yG r fun p q z=>⟨z.1,ht _ _ z.2.1,z.2.2⟩,ob,es,ep,k _ _ (.inl rfl) e,c⟩
 |set S n=>obtain ⟨ob,es,ep,t,e,c⟩:=x;exact ⟨ob,es,ep,t,k _ _ (.inl rfl) e,c⟩
 |ins C dx fs=>
  obtain ⟨d,z,ne,e,mA,⟨od,es,ep,e2,c⟩,r⟩:=x;exact ⟨ho _ d,z,ne,k _ _ (.inl rfl) e,mA,⟨od,es,ep,k _ _ (.inr d) e2,c⟩,r⟩
 |own y=>obtain ⟨ob,e⟩:=x;exact ⟨ob,k _ _ (.inl rfl) e⟩
 |xd fs=>obtain ⟨mA,⟨od,es,ep,e,c⟩,r⟩:=x;exact ⟨mA,⟨od,es,ep,k _ _ (.inl rfl) e,c⟩,r⟩
 |rng lo hi=>obtain ⟨t,u,v,e⟩:=x;exact ⟨t,u,v,k _ _ (.inl rfl) e⟩
 |frz ob u ih=>obtain ⟨e,q⟩:=x;exact ⟨k _ _ (.inl rfl) e,ih q⟩
 |tbl ps=>
  have e:h.get? a=some {cls:= .none,data:= .fields ps}:=x;show h'.get? a=some {cls:= .none,data:= .fields ps};exact k a _ (.inl rfl) e
 |met f y=>
  have e:h.get? a=some (W.methodObj (.ref f) (.ref y)):=x;show h'.get? a=some (W.methodObj (.ref f) (.ref y));exact k a _ (.inl rfl) e
 |ext φ=>obtain ⟨p,⟨o,e⟩,st⟩:=x;exact ⟨st _ _ p fun o q=>k _ _ (.inl rfl) q,⟨o,k _ _ (.inl rfl) e⟩,st⟩
def jy.lt (x:jy P w H h) (e:H a=some o):a<h.objs.size:=(x a o e).lt
def jy.fresh (x:jy P w H h) (e:h.objs.size<=a):H a=none:=by
 cases q:H a with
 |none=>rfl
 |some u=>exact absurd (Nat.lt_of_lt_of_le (x.lt q) e) (Nat.lt_irrefl _)
def jy.kept (x:jy P w H h) (k: ∀b u,h.get? b=some u->h'.get? b=some u):jy P w H h':=fun a o e=>
 (x a o e).stay (fun b u _ q=>k b u q) (fun _ q=>q) fun _ _ q=>q
def jy.laid (x:jy P w H h) (k: ∀b u,h.get? b=some u->h'.get? b=some u) (hp:h.objs.size<=a) (new:bB P w (upd H a o) h' a o):jy P w (upd H a o) h':=fun b u e=>by
 have hn:=x.fresh hp;by_cases hb:b=a
 ·subst hb;rw [au] at e;cases e;exact new
 ·
  rw [aj hb] at e;exact (x b u e).stay (fun c v _ q=>k c v q) (fun c q=>by rw [aj (aA q hn)];exact q) fun c xs q=>by rw [aj (aA q hn)];exact q
end
def Rd (H:Hp) (a:Addr) (u:HO):Prop:=H a=some u\/∃o,H a=some (.frz o u)
def Rd.ok {P:Program} {w:World} {H:Hp} {h:Heap} {a:Addr} {u:HO} (r:Rd H a u) (x:jy P w H h):bB P w H h a u:=by
 rcases r with r|⟨o,r⟩
 ·exact x a u r
 ·
  obtain ⟨_,q⟩:=x a _ r;exact q
def DB:Option HO->Prop
 |some (.lst _)=>True
 |some (.dK _)=>True
 |some (.dT _)=>True
 |some (.set _ _)=>True
 |some (.ins _ _ _)=>True
 |some (.ext _)=>True
 |_=>False
section
variable {P:Program} {w:World} {H:Hp} {h h':Heap} {x e:Addr} {o':HO}
def jy.write (ok:jy P w H h) (mu:DB (H x)) (he:e=x\/H e=some (.own x)) (k: ∀b u,b≠e->h.get? b=some u->h'.get? b=some u) (heo: ∃u,h'.get? e=some u)
  (new:bB P w (upd H x o') h' x o'):jy P w (upd H x o') h':=fun b u q=>by
 have nown: ∀c y,H c=some (.own y)->c≠x:=fun c y r z=>by subst z;rw [r] at mu;exact mu
 have ntup: ∀c xs,H c=some (.tup xs)->c≠x:=fun c xs r z=>by subst z;rw [r] at mu;exact mu
 by_cases hb:b=x
 ·subst hb;rw [au] at q;cases q;exact new
 ·
  rw [aj hb] at q;by_cases hbe:b=e
  ·have q':H b=some (.own x):=by
    rcases he with z|z
    ·exact absurd (hbe.trans z) hb
    ·rw [hbe];exact z
   rw [q] at q';cases q';obtain ⟨v,hv⟩:=heo;exact ⟨v,by rw [hbe];exact hv⟩
  ·
   refine (ok b u q).stay (fun c v hc r=>k c v ?_ r) (fun c r=>by rw [aj (nown c b r)];exact r) fun c xs r=>by rw [aj (ntup c xs r)];exact r
   rcases hc with rfl|hc
   ·exact hbe
   ·
    rintro rfl;rcases he with z|z
    ·exact nown c b hc z
    ·rw [hc] at z;cases z;exact hb rfl
end
structure Un (fs ex:List Addr) (H H':Hp) (h h':Heap):Prop where
 keep: ∀b o,h.get? b=some o->H b=none->b ∉ fs->b ∉ ex->h'.get? b=some o
 slot: ∀b o,h.get? b=some o->H b=none->b∈fs->b ∉ ex->∃sl,h'.get? b=some {o with slots:=sl}
 free: ∀b o,h.get? b=some o->H b=none->b ∉ ex->H' b=none
 there: ∀b o,h.get? b=some o->b ∉ ex->∃o',h'.get? b=some o'
 tups: ∀b xs,H b=some (.tup xs)->H' b=some (.tup xs)
 frzs: ∀b o u,H b=some (.frz o u)->H' b=some (.frz o u)
 tbls: ∀b ps,H b=some (.tbl ps)->∃more,H' b=some (.tbl (ps++more))
section
variable {fs fs' ex ex':List Addr} {H H1 H2:Hp} {h h1 h2 h':Heap} {a x e:Addr} {o:HO}
def Un.any (u:Un fs ex H H1 h h1) {b:Addr} {ob:Obj} (q:h.get? b=some ob) (n:H b=none) (hx:b ∉ ex): ∃sl,h1.get? b=some {ob with slots:=sl}:=by
 by_cases hb:b∈fs
 ·exact u.slot b ob q n hb hx
 ·exact ⟨ob.slots,u.keep b ob q n hb hx⟩
def Un.kept (k: ∀b u,h.get? b=some u->h'.get? b=some u):Un fs ex H H h h':=
 ⟨fun b ob q _ _ _=>k b ob q,fun b ob q _ _ _=>⟨ob.slots,k b ob q⟩,fun _ _ _ n _=>n,fun b ob q _=>⟨ob,k b ob q⟩,fun _ _ q=>q,fun _ _ _ q=>q,fun _ ps q=>⟨#[],by rw [q];simp⟩⟩
def Un.refl:Un fs ex H H h h:=Un.kept fun _ _ q=>q
def Un.laid (k: ∀b u,h.get? b=some u->h'.get? b=some u) (hp:h.objs.size<=a) (hn:H a=none):Un fs ex H (upd H a o) h h' where
 keep:=fun b u q _ _ _=>k b u q
 slot:=fun b u q _ _ _=>⟨u.slots,k b u q⟩
 free:=fun b u q n _=>by rw [aj (Nat.ne_of_lt (Nat.lt_of_lt_of_le (Heap.lt_size q) hp))];exact n
 there:=fun b u q _=>⟨u,k b u q⟩
 tups:=fun b xs q=>by rw [aj (aA q hn)];exact q
 frzs:=fun b u xs q=>by rw [aj (aA q hn)];exact q
 tbls:=fun b ps q=>⟨#[],by rw [aj (aA q hn),q];simp⟩
def Un.write (mu:DB (H x)) (he:e=x\/H e=some (.own x)) (k: ∀b u,b≠e->h.get? b=some u->h'.get? b=some u) (heo: ∃u,h'.get? e=some u):Un fs ex H (upd H x o) h h':=by
 have hx: ∀b,H b=none->b≠x:=fun b n z=>by subst z;rw [n] at mu;exact mu
 have hb: ∀b,H b=none->b≠e:=fun b n z=>by
  subst z;rcases he with r|r
  ·exact hx b n r
  ·rw [n] at r;cases r
 have hm: ∀b u,H b=some u->¬DB (some u)->b≠x:=fun b u q nm z=>by subst z;rw [q] at mu;exact nm mu
 refine ⟨fun b u q n _ _=>k b u (hb b n) q,fun b u q n _ _=>⟨u.slots,k b u (hb b n) q⟩,fun b u q n _=>by rw [aj (hx b n)];exact n,fun b u q _=>?_,
  fun b xs q=>by rw [aj (hm b _ q fun z=>z)];exact q,fun b u xs q=>by rw [aj (hm b _ q fun z=>z)];exact q,fun b ps q=>⟨#[],by rw [aj (hm b _ q fun z=>z),q];simp⟩⟩
 by_cases hbe:b=e
 ·subst hbe;exact heo
 ·exact ⟨u,k b u hbe q⟩
end
noncomputable def trk (h:Heap) (H:Hp):List Addr:=(List.range h.objs.size).filter fun a=>(H a).isSome
noncomputable def ou (h:Heap) (H:Hp):Heap:=W.hideAll h (trk h H)
def sD (h:Heap) (H:Hp):(ou h H).objs.size=h.objs.size:=W.hideAll_size _ _
def uW {h:Heap} {H:Hp} {b:Addr} {o:Obj} (e:h.get? b=some o) (n:H b=none):(ou h H).get? b=some o:=
 W.hideAll_get _ e fun hm=>by
  have q:(H b).isSome=true:=(List.mem_filter.mp hm).2;rw [n] at q;simp at q
def wH {h:Heap} {H:Hp} {b:Addr} {o:Obj} (e:(ou h H).get? b=some o):h.get? b=some o/\H b=none:=by
 have e':h.get? b=some o:=W.of_hideAll (trk h H) e;refine ⟨e',?_⟩;cases q:H b with
 |none=>rfl
 |some x=>
  have hm:b∈trk h H:=List.mem_filter.mpr ⟨List.mem_range.mpr (Heap.lt_size e'),by simp [q]⟩;have z:(ou h H).get? b=none:=W.hideAll_none (trk h H) hm;rw [z] at e;cases e
structure Mod (K:W.Frag) (mg:Str->Option Value) (base:Heap):Prop where
 kin:K.In base
 glob:base.Ns mainGlobals mg
 blt: ∃mb,base.Ns builtinsNs mb/\∀x:Str,x≠ "__name__" ->mb x=bootBuiltins x
 nolimit:base.NoLimit
structure Cx where
 prog:Program
 w:World
 K:W.Frag
 mg:Str->Option Value
 base:Heap
 A:Around
 N:List Str
 s₀:Shared
 H₀:Hp
 env:Env
 outer:List Env
 stack:List Env
 ex:List Addr
 fn:Str->Bool
 calm:Bool
 pn:List (Addr×Obj)
 xe:Value->Shared->Prop
noncomputable def frs (l:List Env):List Addr:=l.filterMap (·.frame)
noncomputable abbrev Cx.fs (X:Cx):List Addr:=frs X.outer
def DM (sc:Scope) (x:Str):Prop:=sc.names.lookup x=some .local\/sc.names.lookup x=some .cell\/sc.names.lookup x=some .free
def Loc (sc:Scope) (x:Str):Prop:=sc.names.lookup x=some .local\/sc.names.lookup x=some .cell
def Look (env:Env) (h:Heap) (m:Str->Option Value) (x:Str) (u:Value):Prop:=
 (env.kindOf x=some .local/\m x=some u)\/((env.kindOf x=some .cell\/env.kindOf x=some .free)/\∃c,env.cells.lookup x=some c/\h.IsCell c (some u))
structure Cx.Ok (X:Cx):Prop where
 mod:Mod X.K X.mg X.base
 kind:X.env.scope.kind = .function
 glob:X.env.globals=mainGlobals
 blt:X.env.builtins=builtinsNs
 above:X.s₀.heap.objs.size<=X.env.locals
 inj: ∀x y c,X.env.cells.lookup x=some c->X.env.cells.lookup y=some c->x=y
 has: ∀x,(X.env.kindOf x=some .cell\/X.env.kindOf x=some .free)->∃c,X.env.cells.lookup x=some c
 cab: ∀x c,X.fn x=true->X.env.cells.lookup x=some c->X.s₀.heap.objs.size<=c
 hd:X.calm=true->X.A.handled=none
 frames:X.A.frames=some X.stack
 stk:X.stack=X.outer\/(X.stack=X.env::X.outer/\X.env.frame=some X.env.locals)
 exf: ∀b∈X.ex,b≠X.env.locals/\∀x c,X.env.cells.lookup x=some c->c≠b
 bs: ∀b o,X.base.get? b=some o->X.s₀.heap.get? b=some o/\X.H₀ b=none
 bsz:X.base.objs.size<=X.s₀.heap.objs.size
 noex: ∀b o,X.base.get? b=some o->b ∉ X.ex
 exfs: ∀b∈X.ex,b ∉ X.fs
 funs:X.s₀.heap.FunFrames X.base X.outer
 frf: ∀b∈X.fs,X.H₀ b=none
structure Inv (X:Cx) (pins:List (Addr×Obj)) (σ:List (Option V)) (H:Hp) (s:Shared):Prop where
 ok:X.Ok
 os:s.os=X.s₀.os
 bare:AllBare s.gens
 base:Un X.fs X.ex X.H₀ H X.s₀.heap s.heap
 loc: ∃m,s.heap.Ns X.env.locals m/\∀(i:Nat) (x:Str) (v:V),X.N[i]?=some x->σ[i]?=some (some v)->DM X.env.scope x->∃u,RelV v u/\Look X.env s.heap m x u
 cell: ∀x c,X.env.cells.lookup x=some c->∃v,s.heap.IsCell c v
 free:H X.env.locals=none
 i0: ∀x c,X.env.cells.lookup x=some c->H c=none
 pin: ∀p∈X.pn++pins,s.heap.get? p.1=some p.2/\H p.1=none/\p.1≠X.env.locals/\p.1 ∉ X.fs/\∀v,p.2.data≠ .cell v
 hok:jy X.prog X.w H s.heap
 len:σ.length=X.N.length
section
variable {X:Cx} {pins:List (Addr×Obj)} {σ:List (Option V)} {H H':Hp} {s:Shared} {h':Heap}
def Cx.Ok.nofr (ok:X.Ok) {b:Addr} {o:Obj} (e:X.base.get? b=some o):b ∉ X.fs:=fun hb=>by
 have:=(ok.funs.mem hb).1;rw [e] at this;cases this
def Inv.bs (I:Inv X pins σ H s): ∀b o,X.base.get? b=some o->s.heap.get? b=some o/\H b=none:=fun b o e=>
 ⟨I.base.keep b o (I.ok.bs b o e).1 (I.ok.bs b o e).2 (I.ok.nofr e) (I.ok.noex b o e),I.base.free b o (I.ok.bs b o e).1 (I.ok.bs b o e).2 (I.ok.noex b o e)⟩
def Inv.bk (I:Inv X pins σ H s): ∀b o,X.base.get? b=some o->s.heap.get? b=some o:=fun b o e=>(I.bs b o e).1
def Inv.mod (I:Inv X pins σ H s):Mod X.K X.mg X.base:=I.ok.mod
def Inv.kU (I:Inv X pins σ H s):X.K.In s.heap:=I.ok.mod.kin.keeps I.bk
def Inv.lt (I:Inv X pins σ H s):X.env.locals<s.heap.objs.size:=let ⟨_,hn,_⟩:=I.loc;hn.lt
def Inv.sz (I:Inv X pins σ H s):X.s₀.heap.objs.size<=s.heap.objs.size:=Nat.le_trans I.ok.above (Nat.le_of_lt I.lt)
def Inv.nofs (I:Inv X pins σ H s) {a:Addr} (h:s.heap.objs.size<=a):a ∉ X.fs:=fun hb=>by
 obtain ⟨_,o,ho,_⟩:=I.ok.funs.mem hb;exact absurd (Nat.lt_of_lt_of_le (Heap.lt_size ho) (Nat.le_trans I.sz h)) (Nat.lt_irrefl _)
def Inv.cne (I:Inv X pins σ H s): ∀x c,X.env.cells.lookup x=some c->c≠X.env.locals:=fun x c e z=>by
 obtain ⟨v,o,ho,hd⟩:=I.cell x c e;obtain ⟨m,⟨o',es,ep,ho',hd',_⟩,_⟩:=I.loc;rw [z,ho'] at ho;cases ho;rw [hd'] at hd;cases hd
def Inv.funs (I:Inv X pins σ H s):s.heap.FunFrames X.base X.outer:=by
 have all: ∀(l:List Env),(∀b∈frs l,b∈X.fs)->X.s₀.heap.FunFrames X.base l->s.heap.FunFrames X.base l:=by
  intro l
  induction l with
  |nil=>intro _ _;trivial
  |cons env r ih=>
   intro hs hl;obtain ⟨hk,⟨L,o,hf,hn,ho,hd⟩,hr⟩:=hl;have hL:L∈X.fs:=hs L (by unfold frs;rw [List.filterMap_cons,hf];exact List.mem_cons_self);obtain ⟨sl,e⟩:=I.base.slot L o ho (I.ok.frf L hL) hL fun z=>I.ok.exfs L z hL;exact ⟨hk,⟨L,_,hf,hn,e,hd⟩,ih (fun b hb=>hs b (by unfold frs;rw [List.filterMap_cons,hf];exact List.mem_cons_of_mem _ hb)) hr⟩
 exact all X.outer (fun _ hb=>hb) I.ok.funs
def Inv.stack (I:Inv X pins σ H s):s.heap.FunFrames X.base X.stack:=by
 rcases I.ok.stk with e|⟨e,hf⟩
 ·rw [e];exact I.funs
 ·
  rw [e];obtain ⟨m,hn,_⟩:=I.loc;refine .cons (by rw [I.ok.kind];decide) hf hn ?_ I.funs;exact Heap.get?_none_of_le (Nat.le_trans I.ok.bsz I.ok.above)
def Inv.lO (I:Inv X pins σ H s): ∀b∈frs X.stack,b∈X.env.locals::X.fs:=fun b hb=>by
 rcases I.ok.stk with e|⟨e,hf⟩
 ·rw [e] at hb;exact List.mem_cons_of_mem _ hb
 ·
  rw [e] at hb;unfold frs at hb;rw [List.filterMap_cons,hf] at hb;exact hb
def Inv.qt (I:Inv X pins σ H s): ∀b∈frs X.stack,H b=none:=fun b hb=>by
 rcases List.mem_cons.mp (I.lO b hb) with e|hb
 ·rw [e];exact I.free
 ·
  obtain ⟨_,o,ho,_⟩:=I.ok.funs.mem hb;exact I.base.free b o ho (I.ok.frf b hb) fun z=>I.ok.exfs b z hb
def Inv.step {g':Array GenState} {t':Nat} {d':Drawn} {ch:List Addr} (I:Inv X pins σ H s)
  (hch: ∀b∈ch,(b∈X.ex\/X.s₀.heap.objs.size<=b)/\b≠X.env.locals/\(∀x c,X.env.cells.lookup x=some c->c≠b)/\∀p∈X.pn++pins,p.1≠b)
  (keep: ∀b o,b≠X.env.locals->b ∉ X.fs->b ∉ ch->s.heap.get? b=some o->H b=none->h'.get? b=some o)
  (slot: ∀b o,b≠X.env.locals->b∈X.fs->b ∉ ch->s.heap.get? b=some o->H b=none->∃sl,h'.get? b=some {o with slots:=sl}) (free: ∀b o,b ∉ ch->s.heap.get? b=some o->H b=none->H' b=none)
  (there: ∀b o,b ∉ ch->s.heap.get? b=some o->∃o',h'.get? b=some o')
  (tups: ∀b xs,H b=some (.tup xs)->H' b=some (.tup xs)) (frzs: ∀b o u,H b=some (.frz o u)->H' b=some (.frz o u)) (tbls: ∀b ps,H b=some (.tbl ps)->∃more,H' b=some (.tbl (ps++more)))
  (ns: ∀m,s.heap.Ns X.env.locals m->h'.Ns X.env.locals m) (hok:jy X.prog X.w H' h') (hg:AllBare g'):
  Inv X pins σ H' {s with heap:=h',gens:=g',drawn:=d',toks:=t'}:=by
 have neL: ∀b o,X.s₀.heap.get? b=some o->b≠X.env.locals:=fun b o e=>Nat.ne_of_lt (Nat.lt_of_lt_of_le (Heap.lt_size e) I.ok.above);have neC: ∀b o,X.s₀.heap.get? b=some o->b ∉ X.ex->b ∉ ch:=fun b o e hx hb=>by
  rcases (hch b hb).1 with z|z
  ·exact hx z
  ·exact absurd (Nat.lt_of_lt_of_le (Heap.lt_size e) z) (Nat.lt_irrefl _)
 have cellK: ∀x c,X.env.cells.lookup x=some c->∀v,s.heap.IsCell c v->h'.IsCell c v:=fun x c e v ⟨o,ho,hd⟩=>by
  have nch:c ∉ ch:=fun z=>(hch c z).2.2.1 x c e rfl;by_cases hc:c∈X.fs
  ·
   obtain ⟨sl,q⟩:=slot c o (I.cne x c e) hc nch ho (I.i0 x c e);exact ⟨_,q,hd⟩
  ·exact ⟨o,keep c o (I.cne x c e) hc nch ho (I.i0 x c e),hd⟩
 refine ⟨I.ok,I.os,hg,⟨fun b o e n hb hx=>?_,fun b o e n hb hx=>?_,fun b o e n hx=>?_,fun b o e hx=>?_,fun b xs e=>tups b xs (I.base.tups b xs e),fun b o xs e=>frzs b o xs (I.base.frzs b o xs e),fun b ps e=>?_⟩,?_,fun x c e=>?_,?_,fun x c e=>?_,fun p hp=>?_,hok,I.len⟩
 ·exact keep b o (neL b o e) hb (neC b o e hx) (I.base.keep b o e n hb hx) (I.base.free b o e n hx)
 ·
  obtain ⟨sl,e1⟩:=I.base.slot b o e n hb hx;obtain ⟨sl',e2⟩:=slot b _ (neL b o e) hb (neC b o e hx) e1 (I.base.free b o e n hx);exact ⟨sl',e2⟩
 ·
  obtain ⟨o',e1⟩:=I.base.there b o e hx;exact free b o' (neC b o e hx) e1 (I.base.free b o e n hx)
 ·
  obtain ⟨o',e1⟩:=I.base.there b o e hx;exact there b o' (neC b o e hx) e1
 ·
  obtain ⟨m1,e1⟩:=I.base.tbls b ps e;obtain ⟨m2,e2⟩:=tbls b _ e1;exact ⟨m1++m2,by rw [e2,Array.append_assoc]⟩
 ·
  obtain ⟨m,hn,hl⟩:=I.loc;refine ⟨m,ns m hn,fun i x v e1 e2 e3=>?_⟩;obtain ⟨u,r,l⟩:=hl i x v e1 e2 e3;refine ⟨u,r,?_⟩;rcases l with l|⟨k,c,e,z⟩
  ·exact .inl l
  ·exact .inr ⟨k,c,e,cellK x c e _ z⟩
 ·
  obtain ⟨v,z⟩:=I.cell x c e;exact ⟨v,cellK x c e v z⟩
 ·
  obtain ⟨m,⟨o,_,_,ho,_⟩,_⟩:=I.loc;exact free _ o (fun z=>(hch _ z).2.1 rfl) ho I.free
 ·
  obtain ⟨v,o,ho,hd⟩:=I.cell x c e;exact free c o (fun z=>(hch c z).2.2.1 x c e rfl) ho (I.i0 x c e)
 ·
  obtain ⟨e,n,ne,nf,d⟩:=I.pin p hp;have nch:p.1 ∉ ch:=fun z=>(hch p.1 z).2.2.2 p hp rfl;exact ⟨keep p.1 p.2 ne nf nch e n,free p.1 p.2 nch e n,ne,nf,d⟩
def Inv.un {t':Nat} (I:Inv X pins σ H s) (u:Un X.fs [] H H' s.heap h') (hok:jy X.prog X.w H' h'):Inv X pins σ H' {s with heap:=h',toks:=t'}:=by
 obtain ⟨m,⟨o,es,ep,ho,r⟩,_⟩:=id I.loc;obtain ⟨sl,hL⟩:=u.any ho I.free (by simp);exact I.step (g':=s.gens) (d':=s.drawn) (ch:=[]) (fun _ z=>nomatch z) (fun b o _ hb _ e n=>u.keep b o e n hb (by simp)) (fun b o _ hb _ e n=>u.slot b o e n hb (by simp)) (fun b o _ e n=>u.free b o e n (by simp)) (fun b o _ e=>u.there b o e (by simp)) u.tups u.frzs u.tbls (fun m' hm=>by
  obtain ⟨o',es',ep',ho',r'⟩:=hm;rw [ho] at ho';cases ho';exact ⟨_,es',ep',hL,r'⟩) hok I.bare
def Inv.call {g':Array GenState} {t':Nat} {d':Drawn} {ch:List Addr} (I:Inv X pins σ H s) (u:Un (frs X.stack) ch H H' s.heap h') (hok:jy X.prog X.w H' h') (hg:AllBare g')
  (hch: ∀b∈ch,(b∈X.ex\/X.s₀.heap.objs.size<=b)/\b≠X.env.locals/\(∀x c,X.env.cells.lookup x=some c->c≠b)/\∀p∈X.pn++pins,p.1≠b):
  Inv X pins σ H' {s with heap:=h',gens:=g',drawn:=d',toks:=t'}:=by
 obtain ⟨m,⟨o,es,ep,ho,r⟩,_⟩:=id I.loc;obtain ⟨sl,hL⟩:=u.any ho I.free fun z=>(hch _ z).2.1 rfl;exact I.step (ch:=ch) hch (fun b o hL hb hc e n=>u.keep b o e n (fun z=>(List.mem_cons.mp (I.lO b z)).elim hL hb) hc) (fun b o _ _ hc e n=>u.any e n hc) (fun b o hc e n=>u.free b o e n hc) (fun b o hc e=>u.there b o e hc) u.tups u.frzs u.tbls (fun m' hm=>by
  obtain ⟨o',es',ep',ho',r'⟩:=hm;rw [ho] at ho';cases ho';exact ⟨_,es',ep',hL,r'⟩) hok hg
def Inv.turned {t':Nat} {it:Addr} (I:Inv X pins σ H s) (k: ∀b o,b≠it->s.heap.get? b=some o->h'.get? b=some o) (hn:H it=none) (hL:it≠X.env.locals)
  (h1:it∈X.ex\/X.s₀.heap.objs.size<=it) (h2: ∀x c,X.env.cells.lookup x=some c->c≠it) (h3: ∀p∈X.pn++pins,p.1≠it):Inv X pins σ H {s with heap:=h',toks:=t'}:=by
 have nit: ∀b u,H b=some u->b≠it:=fun b u e z=>by rw [z,hn] at e;cases e
 refine I.step (g':=s.gens) (d':=s.drawn) (ch:=[it]) (fun b hb=>?_) (fun b o _ _ hc e _=>k b o (fun z=>hc (by simp [z])) e) (fun b o _ _ hc e _=>⟨o.slots,k b o (fun z=>hc (by simp [z])) e⟩) (fun _ _ _ _ n=>n)
  (fun b o hc e=>⟨o,k b o (fun z=>hc (by simp [z])) e⟩) (fun _ _ e=>e) (fun _ _ _ e=>e) (fun b ps e=>⟨#[],by rw [e];simp⟩) (fun m hm=>?_) (fun b u e=>?_) I.bare
 ·
  have e:b=it:=by simpa using hb
  subst e;exact ⟨h1,hL,h2,h3⟩
 ·
  obtain ⟨o,es,ep,ho,r⟩:=hm;exact ⟨o,es,ep,k _ o (Ne.symm hL) ho,r⟩
 ·
  refine (I.hok b u e).stay (fun c v hc q=>k c v ?_ q) (fun _ q=>q) fun _ _ q=>q;rcases hc with z|z
  ·rw [z];exact nit b u e
  ·exact nit c _ z
def Inv.tok (I:Inv X pins σ H s) (t:Nat):Inv X pins σ H {s with toks:=t}:=I.un (h':=s.heap) (t':=t) Un.refl I.hok
def Inv.kept {t':Nat} (I:Inv X pins σ H s) (k: ∀b u,s.heap.get? b=some u->h'.get? b=some u):Inv X pins σ H {s with heap:=h',toks:=t'}:=I.un (Un.kept k) (I.hok.kept k)
def Inv.laid {a:Addr} {o:HO} {t':Nat} (I:Inv X pins σ H s) (k: ∀b u,s.heap.get? b=some u->h'.get? b=some u) (hp:s.heap.objs.size<=a) (new:bB X.prog X.w (upd H a o) h' a o):
  Inv X pins σ (upd H a o) {s with heap:=h',toks:=t'}:=I.un (Un.laid k hp (I.hok.fresh hp)) (I.hok.laid k hp new)
def Inv.write {x e:Addr} {o:HO} {t':Nat} (I:Inv X pins σ H s) (mu:DB (H x)) (he:e=x\/H e=some (.own x)) (k: ∀b u,b≠e->s.heap.get? b=some u->h'.get? b=some u) (heo: ∃u,h'.get? e=some u)
  (new:bB X.prog X.w (upd H x o) h' x o):Inv X pins σ (upd H x o) {s with heap:=h',toks:=t'}:=I.un (Un.write mu he k heo) (I.hok.write mu he k heo new)
def Inv.lF {pins':List (Addr×Obj)} (I:Inv X pins σ H s) (h: ∀p∈pins',s.heap.get? p.1=some p.2/\H p.1=none/\p.1≠X.env.locals/\p.1 ∉ X.fs/\∀v,p.2.data≠ .cell v):Inv X pins' σ H s:=
 ⟨I.ok,I.os,I.bare,I.base,I.loc,I.cell,I.free,I.i0,fun p hp=>(List.mem_append.mp hp).elim (fun z=>I.pin p (List.mem_append_left _ z)) (h p),I.hok,I.len⟩
def oV {N:List Str} (hN:N.Nodup) {i j:Nat} {x:Str} (a:N[i]?=some x) (b:N[j]?=some x):i=j:=by
 obtain ⟨h1,e1⟩:=List.getElem?_eq_some_iff.mp a;obtain ⟨h2,e2⟩:=List.getElem?_eq_some_iff.mp b;exact (List.getElem_inj hN).mp (e1.trans e2.symm)
def nr {M:Model} {A:Around} {E:Value->Shared->Prop} {i:Nat} {x:Str} {v:V} {u:Value} {Q:Unit->Shared->Prop} (I:Inv X pins σ H s) (hN:X.N.Nodup) (hi:X.N[i]?=some x) (hx:Loc X.env.scope x) (r:RelV v u)
  (h: ∀s',Inv X pins (σ.set i (some v)) H s'->(∃a,Heap.SameBut a s.heap s'.heap/\(a=X.env.locals\/X.env.cells.lookup x=some a))->Q () s') (hf:X.fn x=true\/X.env.scope.names.lookup x=some .local:=by first|exact .inl rfl|exact .inr rfl|assumption):wpAny M A (storeName X.env x u) Q E s:=by
 obtain ⟨m,hn,hl⟩:=id I.loc;have hcls:(X.env.scope.kind == .class||(X.env.scope.kind == .module&&X.env.locals != X.env.globals))=false:=by rw [I.ok.kind];rfl
 have hiσ:i<σ.length:=by rw [I.len];exact (List.getElem?_eq_some_iff.mp hi).1
 have cne:=I.cne;have tracked: ∀{a:Addr} {h':Heap},(∃o,s.heap.get? a=some o/\H a=none)->Heap.SameBut a s.heap h'->jy X.prog X.w H h':=fun {a h'} ha hs b ob e=>by
  obtain ⟨_,_,hfree⟩:=ha;refine (I.hok b ob e).stay (fun c w' hc q=>(hs.2 c ?_).trans q) (fun _ q=>q) fun _ _ q=>q;rintro rfl;rcases hc with rfl|hc
  ·rw [hfree] at e;cases e
  ·rw [hfree] at hc;cases hc
 rcases hx with hk|hk
 ·
  refine wpAny_storeName_local hk hn (fun h' hn' hs=>?_) hcls;obtain ⟨oL,_,_,hoL,_⟩:=id hn;refine h _ ⟨I.ok,I.os,I.bare,⟨fun b o e n hb hx=>?_,fun b o e n hb hx=>?_,I.base.free,fun b o e hx=>?_,I.base.tups,I.base.frzs,I.base.tbls⟩,⟨_,hn',fun j y v' e1 e2 e3=>?_⟩,fun y c e=>?_,I.free,I.i0,fun p hp=>?_,tracked ⟨oL,hoL,I.free⟩ hs,by simpa using I.len⟩ ⟨_,hs,.inl rfl⟩
  ·exact (hs.2 b (Nat.ne_of_lt (Nat.lt_of_lt_of_le (Heap.lt_size e) I.ok.above))).trans (I.base.keep b o e n hb hx)
  ·
   obtain ⟨sl,e1⟩:=I.base.slot b o e n hb hx;exact ⟨sl,(hs.2 b (Nat.ne_of_lt (Nat.lt_of_lt_of_le (Heap.lt_size e) I.ok.above))).trans e1⟩
  ·
   obtain ⟨o',e1⟩:=I.base.there b o e hx;exact ⟨o',(hs.2 b (Nat.ne_of_lt (Nat.lt_of_lt_of_le (Heap.lt_size e) I.ok.above))).trans e1⟩
  ·
   by_cases hj:j=i
   ·
    subst hj;rw [hi] at e1;cases e1;rw [List.getElem?_set_self hiσ] at e2;cases e2;exact ⟨u,r,.inl ⟨hk,by simp⟩⟩
   ·
    rw [List.getElem?_set_ne (Ne.symm hj)] at e2;obtain ⟨u',r',q⟩:=hl j y v' e1 e2 e3;refine ⟨u',r',?_⟩;rcases q with ⟨k,e⟩|⟨k,c,e,z⟩
    ·
     refine .inl ⟨k,?_⟩;have:y≠x:=fun e=>hj (oV hN e1 (e▸hi));simp [this,e]
    ·exact .inr ⟨k,c,e,z.sameBut hs (cne y c e)⟩
  ·
   obtain ⟨w',z⟩:=I.cell y c e;exact ⟨w',z.sameBut hs (cne y c e)⟩
  ·
   obtain ⟨e,n,ne,nf,d⟩:=I.pin p hp;exact ⟨(hs.2 p.1 ne).trans e,n,ne,nf,d⟩
 ·have hfn:X.fn x=true:=by
   rcases hf with z|z
   ·exact z
   ·rw [z] at hk;cases hk
  obtain ⟨c,hc⟩:=I.ok.has x (.inl hk);obtain ⟨w',z⟩:=I.cell x c hc;refine wpAny_storeName_cell I.ok.kind hk hc z (fun h' hc' hs=>?_);obtain ⟨oc,hoc,hocd⟩:=id z;refine h {s with heap:=h'} ⟨I.ok,I.os,I.bare,⟨fun b o e n hb hx=>?_,fun b o e n hb hx=>?_,I.base.free,fun b o e hx=>?_,I.base.tups,I.base.frzs,I.base.tbls⟩,⟨m,hn.sameBut hs (Ne.symm (cne x c hc)),fun j y v' e1 e2 e3=>?_⟩,fun y c' e=>?_,I.free,I.i0,fun p hp=>?_,tracked ⟨oc,hoc,I.i0 x c hc⟩ hs,by simpa using I.len⟩ ⟨c,hs,.inr hc⟩
  ·exact (hs.2 b (Nat.ne_of_lt (Nat.lt_of_lt_of_le (Heap.lt_size e) (I.ok.cab x c hfn hc)))).trans (I.base.keep b o e n hb hx)
  ·
   obtain ⟨sl,e1⟩:=I.base.slot b o e n hb hx;exact ⟨sl,(hs.2 b (Nat.ne_of_lt (Nat.lt_of_lt_of_le (Heap.lt_size e) (I.ok.cab x c hfn hc)))).trans e1⟩
  ·
   obtain ⟨o',e1⟩:=I.base.there b o e hx;exact ⟨o',(hs.2 b (Nat.ne_of_lt (Nat.lt_of_lt_of_le (Heap.lt_size e) (I.ok.cab x c hfn hc)))).trans e1⟩
  ·
   by_cases hj:j=i
   ·
    subst hj;rw [hi] at e1;cases e1;rw [List.getElem?_set_self hiσ] at e2;cases e2;exact ⟨u,r,.inr ⟨.inl hk,c,hc,hc'⟩⟩
   ·
    rw [List.getElem?_set_ne (Ne.symm hj)] at e2;obtain ⟨u',r',q⟩:=hl j y v' e1 e2 e3;refine ⟨u',r',?_⟩;rcases q with q|⟨k,c',e,z'⟩
    ·exact .inl q
    ·
     refine .inr ⟨k,c',e,z'.sameBut hs ?_⟩;rintro rfl;exact hj (oV hN e1 (I.ok.inj _ _ _ e hc▸hi))
  ·
   by_cases hcc:c'=c
   ·subst hcc;exact ⟨_,hc'⟩
   ·
    obtain ⟨w2,z2⟩:=I.cell y c' e;exact ⟨w2,z2.sameBut hs hcc⟩
  ·
   obtain ⟨e,n,ne,nf,d⟩:=I.pin p hp;refine ⟨(hs.2 p.1 ?_).trans e,n,ne,nf,d⟩;intro q;rw [q,hoc] at e;have q':oc=p.2:=Option.some.inj e;exact d w' (by rw [<-q'];exact hocd)
def oP {M:Model} {A:Around} {E:Value->Shared->Prop} {i:Nat} {x:Str} {v:V} {u:Value} {Q:Unit->Shared->Prop} (I:Inv X pins σ H s) (hN:X.N.Nodup) (hi:X.N[i]?=some x) (hx:Loc X.env.scope x) (r:RelV v u)
  (h: ∀s',Inv X pins (σ.set i (some v)) H s'->Q () s') (hf:X.fn x=true\/X.env.scope.names.lookup x=some .local:=by first|exact .inl rfl|exact .inr rfl|assumption):wpAny M A (storeName X.env x u) Q E s:=
 nr I hN hi hx r (fun s' I' _=>h s' I') hf
def Inv.call' {s':Shared} {ch:List Addr} (I:Inv X pins σ H s) (ho:s'.os=s.os) (u:Un (frs X.stack) ch H H' s.heap s'.heap) (hok:jy X.prog X.w H' s'.heap) (hg:AllBare s'.gens)
  (hch: ∀b∈ch,(b∈X.ex\/X.s₀.heap.objs.size<=b)/\b≠X.env.locals/\(∀x c,X.env.cells.lookup x=some c->c≠b)/\∀p∈X.pn++pins,p.1≠b):Inv X pins σ H' s':=by
 obtain ⟨h',g',d',t',o'⟩:=s';have e:o'=s.os:=ho;subst e;exact I.call (g':=g') (t':=t') (d':=d') u hok hg hch
end
noncomputable abbrev XK:=Value->Option Addr->Hp->Prop
noncomputable abbrev St:=List (Option V)
noncomputable abbrev VK:=V->Hp->Prop
noncomputable abbrev TE:=St->Hp->VK->Prop
noncomputable abbrev TT:=St->Hp->(Bool->Hp->Prop)->Prop
noncomputable abbrev TA:=St->Hp->(List V->Hp->Prop)->Prop
structure Ends where
 nx:St->Hp->Prop
 rt:VK
 bk:St->Hp->Prop:=fun _ _=>False
 ct:St->Hp->Prop:=fun _ _=>False
noncomputable abbrev TS:=Ends->St->Hp->Prop
def EP (X:Cx) (pins:List (Addr×Obj)) (σ:St) (Q:VK) (u:Value) (s':Shared):Prop:= ∃v H',Inv X pins σ H' s'/\RelV v u/\Q v H'
def TP (X:Cx) (pins:List (Addr×Obj)) (σ:St) (Q:Bool->Hp->Prop) (b:Bool) (s':Shared):Prop:= ∃H',Inv X pins σ H' s'/\Q b H'
def AP (X:Cx) (pins:List (Addr×Obj)) (σ:St) (Q:List V->Hp->Prop) (us:List Value) (s':Shared):Prop:= ∃vs H',Inv X pins σ H' s'/\Vals vs us/\Q vs H'
def SP (X:Cx) (pins:List (Addr×Obj)) (D:Ends) (f:Flow) (s':Shared):Prop:=
 match f with
 | .next=> ∃σ' H',Inv X pins σ' H' s'/\D.nx σ' H'
 | .brk=> ∃σ' H',Inv X pins σ' H' s'/\D.bk σ' H'
 | .cont=> ∃σ' H',Inv X pins σ' H' s'/\D.ct σ' H'
 | .ret u=> ∃v σ' H',Inv X pins σ' H' s'/\RelV v u/\D.rt v H'
def PE (X:Cx) (e:Expr) (t:TE):Prop:=
 ∀(pins:List (Addr×Obj)) (s:Shared) (σ:St) (H:Hp) (Q:VK),Inv X pins σ H s->t σ H Q->wpAny (model X.prog X.w) X.A (eval e X.env) (EP X pins σ Q) X.xe s
def PT (X:Cx) (e:Expr) (t:TT):Prop:=
 ∀(pins:List (Addr×Obj)) (s:Shared) (σ:St) (H:Hp) (Q:Bool->Hp->Prop),Inv X pins σ H s->t σ H Q->wpAny (model X.prog X.w) X.A (isTrue e X.env (eval e X.env)) (TP X pins σ Q) X.xe s
def PW (X:Cx) (e:Expr) (t:TT):Prop:=
 ∀(whole:Sem Value) (pins:List (Addr×Obj)) (s:Shared) (σ:St) (H:Hp) (Q:Bool->Hp->Prop),Inv X pins σ H s->t σ H Q->wpAny (model X.prog X.w) X.A (isTrue e X.env whole) (TP X pins σ Q) X.xe s
def PW.pt {X:Cx} {e:Expr} {t:TT} (h:PW X e t):PT X e t:=h _
def PA (X:Cx) (es:List Expr) (t:TA):Prop:=
 ∀(pos:Pos) (pins:List (Addr×Obj)) (s:Shared) (σ:St) (H:Hp) (Q:List V->Hp->Prop),Inv X pins σ H s->t σ H Q->wpAny (model X.prog X.w) X.A (spliced (backTo pos (starEach es X.env))) (AP X pins σ Q) X.xe s
def PS (X:Cx) (st:Stmt) (t:TS):Prop:=
 ∀(pins:List (Addr×Obj)) (s:Shared) (σ:St) (H:Hp) (D:Ends),Inv X pins σ H s->t D σ H->wpAny (model X.prog X.w) X.A (exec st X.env) (SP X pins D) X.xe s
def pF (X:Cx) (st:List Stmt) (t:TS):Prop:=
 ∀(pins:List (Addr×Obj)) (s:Shared) (σ:St) (H:Hp) (D:Ends),Inv X pins σ H s->t D σ H->wpAny (model X.prog X.w) X.A (execs st X.env) (SP X pins D) X.xe s
def thn {α:Type} {t:Sem α} {Q Q':α->Shared->Prop} {M:Model} {A:Around} {E:Value->Shared->Prop} {s:Shared} (h:wpAny M A t Q E s) (hQ: ∀a s,Q a s->Q' a s):wpAny M A t Q' E s:=wpAny_mono h hQ fun _ _ x=>x
section
variable {X:Cx}
def x5 (i:Nat):TE:=fun σ H Q=> ∃v,σ[i]?=some (some v)/\Q v H
def tC (v:V):TE:=fun _ H Q=>Q v H
def yq {i:Nat} {x:Str} {pos:Pos} (hN:X.N[i]?=some x) (hv:DM X.env.scope x) (hd:(x == ("__debug__" : Str))=false:=by decide) (hcd:(x == ("__classdict__" : Str))=false:=by decide):PE X (.Name x pos) (x5 i):=by
 intro pins s σ H Q I h;obtain ⟨v,e,h⟩:=h;obtain ⟨m,hn,hl⟩:=I.loc;obtain ⟨u,r,l⟩:=hl i x v hN e hv;have fin:EP X pins σ Q u s:=⟨v,H,I,r,h⟩;rcases l with ⟨hk,hm⟩|⟨hk,c,hc,hcell⟩
 ·exact wpAny_Name (wpAny_loadName_local I.ok.kind hk hn hm fin) hd
 ·
  rcases hk with hk|hk
  ·exact wpAny_Name (wpAny_loadName_cell I.ok.kind hk hc hcell fin) hd
  ·exact wpAny_Name (wpAny_loadName_free I.ok.kind hk hc hcell fin hcd) hd
def ah {i j pos}:PE X (.Constant (.int i) j pos) (tC (.int i)):=fun _ _ _ H _ I h=>wpAny_Constant_int ⟨.int i,H,I.tok _,⟨_,rfl⟩,h⟩
def g7 {b j pos}:PE X (.Constant (.bool b) j pos) (tC (.bl b)):=fun _ _ _ H _ I h=>Constant_bool ⟨.bl b,H,I,rfl,h⟩
def b9 {j pos}:PE X (.Constant .none j pos) (tC .non):=fun _ _ _ H _ I h=>Constant_none ⟨.non,H,I,rfl,h⟩
def g6 {x j pos}:PE X (.Constant (.str x) j pos) (tC (.str x)):=fun _ _ _ H _ I h=>Calls.Constant_str ⟨.str x,H,I.tok _,⟨_,rfl⟩,h⟩
def Gl (X:Cx) (x:Str):Prop:=X.env.kindOf x=some .globalImplicit
def oj {E:Value->Shared->Prop} {pins:List (Addr×Obj)} {s:Shared} {σ:St} {H:Hp} {x:Str} {u:Value} {pos:Pos} {Q:Value->Shared->Prop} (I:Inv X pins σ H s) (hg:Gl X x) (hm:X.mg x=some u) (h:Q u s)
  (hd:(x == ("__debug__" : Str))=false:=by decide):wpAny (model X.prog X.w) X.A (eval (.Name x pos) X.env) Q E s:=
 Calls.Name_function_global I.ok.kind hg (Calls.loadGlobal_global (by rw [I.ok.glob];exact I.mod.glob.keeps I.bk) hm h) hd
def kg {E:Value->Shared->Prop} {pins:List (Addr×Obj)} {s:Shared} {σ:St} {H:Hp} {x:Str} {u:Value} {pos:Pos} {Q:Value->Shared->Prop} (I:Inv X pins σ H s) (hg:Gl X x) (hm:X.mg x=none) (hv:bootBuiltins x=some u) (h:Q u s)
  (hn:x≠ "__name__" :=by decide) (hd:(x == ("__debug__" : Str))=false:=by decide):wpAny (model X.prog X.w) X.A (eval (.Name x pos) X.env) Q E s:=by
 obtain ⟨mb,h1,h2⟩:=I.mod.blt;exact Calls.Name_function_global I.ok.kind hg (Calls.loadGlobal_builtin (by rw [I.ok.glob];exact I.mod.glob.keeps I.bk) hm (by rw [I.ok.blt];exact h1.keeps I.bk) ((h2 x hn).trans hv) h) hd
def wz {x:Str} {v:V} {u:Value} {pos:Pos} (hg:Gl X x) (hm:X.mg x=some u) (r:RelV v u) (hd:(x == ("__debug__" : Str))=false:=by decide):PE X (.Name x pos) (tC v):=
 fun _ _ _ H _ I h=>oj I hg hm ⟨v,H,I,r,h⟩ hd
def wB {x:Str} {v:V} {u:Value} {pos:Pos} (hg:Gl X x) (hm:X.mg x=none) (hv:bootBuiltins x=some u) (r:RelV v u) (hn:x≠ "__name__" :=by decide) (hd:(x == ("__debug__" : Str))=false:=by decide):PE X (.Name x pos) (tC v):=
 fun _ _ _ H _ I h=>kg I hg hm hv ⟨v,H,I,r,h⟩ hn hd
variable {a b:Expr} {ta tb:TE} {pos:Pos}
def PC (X:Cx) (op:CmpOp) (a b:Expr) (t:TE):Prop:=
 ∀(pins:List (Addr×Obj)) (s:Shared) (σ:St) (H:Hp) (Q:VK),Inv X pins σ H s->t σ H Q->
  wpAny (model X.prog X.w) X.A (eval a X.env) (fun v s₁=>wpAny (model X.prog X.w) X.A (eval b X.env) (fun u s₂=>wpAny (model X.prog X.w) X.A (compareOp op v u) (EP X pins σ Q) X.xe s₂) X.xe s₁) X.xe s
def tB (t:TE):TT:=fun σ H Q=>t σ H fun x H1=> ∃c,x = .bl c/\Q c H1
def pW {op:CmpOp} {t:TE} (h:PC X op a b t) (h1:behindInMarks op b=false:=by first|exact nobehind _ (by decide) (by decide)|rfl):PT X (.Compare a [op] [b] pos) (tB t):=by
 intro pins s σ H Q I hw;refine wpAny_isTrue_Compare1 (thn (h pins s σ H _ I hw) fun v s1 h1=>thn h1 fun u s2 h2=>thn h2 fun c s3 ⟨x,H1,I1,r1,q1⟩=>?_) h1;obtain ⟨d,rfl,q⟩:=q1;cases r1;exact wpAny_truthy_bool ⟨H1,I1,q⟩
def yk {e:Expr} {t:TE} (h:PE X e t) (he: ∀whole,isTrue e X.env whole=(do let v<-whole;standAt e.pos;holding [v] (truthy v)):=by intro _;rfl):PT X e (tB t):=by
 intro pins s σ H Q I hw;refine isTrue_plain (thn (h pins s σ H _ I hw) fun v s1 ⟨x,H1,I1,r1,q1⟩=>?_) (he _);obtain ⟨d,rfl,q⟩:=q1;cases r1;exact wpAny_truthy_bool ⟨H1,I1,q⟩
variable {tA tB':TT} {rest:List Expr}
def AD (t u:TT):TT:=fun σ H Q=>t σ H fun c H1=>if c=true then u σ H1 Q else Q false H1
def Fh (t u:TT):TT:=fun σ H Q=>t σ H fun c H1=>if c=true then Q true H1 else u σ H1 Q
def Av (t:TT):TT:=fun σ H Q=>t σ H fun c H1=>Q (!c) H1
def pw_and1 (ha:PT X a tA):PW X (.BoolOp .And [a] pos) tA:=by
 intro wh pins s σ H Q I h;refine isTrue_and (thn (ha pins s σ H Q I h) fun c s1 e=>?_);cases c with
 |true=>exact isTrue_and_nil e
 |false=>exact e
def pw_or1 (ha:PT X a tA):PW X (.BoolOp .Or [a] pos) tA:=by
 intro wh pins s σ H Q I h;refine isTrue_or (thn (ha pins s σ H Q I h) fun c s1 e=>?_);cases c with
 |false=>exact isTrue_or_nil e
 |true=>exact e
def pw_and (ha:PT X a tA) (hb:PW X (.BoolOp .And (b::rest) pos) tB'):PW X (.BoolOp .And (a::b::rest) pos) (AD tA tB'):=by
 intro wh pins s σ H Q I h;refine isTrue_and (thn (ha pins s σ H _ I h) fun c s1 ⟨H1,I1,q1⟩=>?_);cases c with
 |true=>exact hb wh pins s1 σ H1 Q I1 q1
 |false=>exact ⟨H1,I1,q1⟩
def pw_or (ha:PT X a tA) (hb:PW X (.BoolOp .Or (b::rest) pos) tB'):PW X (.BoolOp .Or (a::b::rest) pos) (Fh tA tB'):=by
 intro wh pins s σ H Q I h;refine isTrue_or (thn (ha pins s σ H _ I h) fun c s1 ⟨H1,I1,q1⟩=>?_);cases c with
 |true=>exact ⟨H1,I1,q1⟩
 |false=>exact hb wh pins s1 σ H1 Q I1 q1
def gY (ha:PT X a tA):PT X (.UnaryOp .Not a pos) (Av tA):=by
 intro pins s σ H Q I h;exact isTrue_not (ha pins s σ H (fun c H1=>Q (!c) H1) I h)
def xD (ta tb:TE):TE:=fun σ H Q=>ta σ H fun x H1=> ∃c,x = .bl c/\if c=true then tb σ H1 Q else Q (.bl false) H1
def DP (ta tb:TE):TE:=fun σ H Q=>ta σ H fun x H1=> ∃c,x = .bl c/\if c=true then Q (.bl true) H1 else tb σ H1 Q
def xy (ta:TE):TE:=fun σ H Q=>ta σ H fun x H1=> ∃c,x = .bl c/\Q (.bl (!c)) H1
def nZ {op} {t:TE} (h:PE X a t):PE X (.BoolOp op [a] pos) t:=fun pins s σ H Q I hw=>BoolOp_one (h pins s σ H Q I hw)
def j7 (ha:PE X a ta) (hb:PE X (.BoolOp .And (b::rest) pos) tb):PE X (.BoolOp .And (a::b::rest) pos) (xD ta tb):=by
 intro pins s σ H Q I h;refine BoolOp_and (thn (ha pins s σ H _ I h) fun v s1 ⟨x,H1,I1,r1,q1⟩=>?_);obtain ⟨c,rfl,q1⟩:=q1;cases r1;refine wpAny_truthy_bool ?_;cases c with
 |true=>exact hb pins s1 σ H1 Q I1 q1
 |false=>exact ⟨.bl false,H1,I1,rfl,q1⟩
def ug (ha:PE X a ta):PE X (.UnaryOp .Not a pos) (xy ta):=by
 intro pins s σ H Q I h;refine UnaryOp_ (thn (ha pins s σ H _ I h) fun v s1 ⟨x,H1,I1,r1,q1⟩=>?_);obtain ⟨c,rfl,q1⟩:=q1;cases r1;exact not_of (wpAny_truthy_bool ⟨.bl (!c),H1,I1,rfl,q1⟩)
def Fj (t:TT) (ta tb:TE):TE:=fun σ H Q=>t σ H fun c H1=>if c=true then ta σ H1 Q else tb σ H1 Q
def uh {c:Expr} (hc:PT X c tA) (ha:PE X a ta) (hb:PE X b tb):PE X (.IfExp c a b pos) (Fj tA ta tb):=by
 intro pins s σ H Q I h;refine wpAny_IfExp (thn (hc pins s σ H _ I h) fun d s1 ⟨H1,I1,q1⟩=>?_);cases d with
 |true=>exact ha pins s1 σ H1 Q I1 q1
 |false=>exact hb pins s1 σ H1 Q I1 q1
end
def cD (K:W.Frag) (H:Hp) (a:Addr) (xs:List V):Prop:=
 Rd H a (.lst xs)\/
  ∃(o:Obj) (its:Array Value) (n:Nat),K.lookup a=some o/\o.cls = .type "list" /\o.dict=none/\o.data = .seq its n/\its.size<=sizeLine/\Vals xs its.toList
def dZ (K:W.Frag) (H:Hp) (a:Addr) (xs:List V):Prop:=
 Rd H a (.tup xs)\/
  ∃(o:Obj) (its:Array Value) (n:Nat),K.lookup a=some o/\o.cls = .type "tuple" /\o.data = .seq its n/\its.size<=sizeLine/\Vals xs its.toList
noncomputable def Fb:Value->Option V
 | .none=>some .non
 | .bool b=>some (.bl b)
 | .int i _=>some (.int i)
 | .str x _=>some (.str x)
 | .bytes b _=>some (.byt b)
 | .float b _=>some (.flt b)
 | .ref a=>some (.ref a)
 | .type n=>some (.ty n)
 |_=>none
def RelV.abs {x:V} {u:Value} (r:RelV x u):Fb u=some x:=by
 cases x with
 |non=>cases r;rfl
 |bl _=>cases r;rfl
 |int _=>obtain ⟨t,rfl⟩:=r;rfl
 |str _=>obtain ⟨t,rfl⟩:=r;rfl
 |byt _=>obtain ⟨t,rfl⟩:=r;rfl
 |flt _=>obtain ⟨t,rfl⟩:=r;rfl
 |ref _=>cases r;rfl
 |ty _=>cases r;rfl
def RelV.inj {x y:V} {u:Value} (r:RelV x u) (q:RelV y u):x=y:=Option.some.inj (r.abs.symm.trans q.abs)
def Vals.inj: ∀{xs ys:List V} {us:List Value},Vals xs us->Vals ys us->xs=ys
 |_,_,_,.nil,.nil=>rfl
 |_,_,_,.cons r t,.cons r' t'=>by rw [r.inj r',Vals.inj t t']
section
variable {X:Cx} {pins:List (Addr×Obj)} {σ:St} {H:Hp} {s:Shared} {a:Addr} {xs ys:List V}
def cD.of {K:W.Frag} (h:H a=some (.lst xs)):cD K H a xs:= .inl (.inl h)
def dZ.of {K:W.Frag} (h:H a=some (.tup xs)):dZ K H a xs:= .inl (.inl h)
def Inv.list (I:Inv X pins σ H s) (h:cD X.K H a xs): ∃its:List Value,Vals xs its/\PlainL s.heap a its.toArray/\xs.length<=sizeLine:=by
 rcases h with h|⟨o,its,n,hk,hc,hd,hs,hz,r⟩
 ·
  obtain ⟨z,its,n,r,e⟩:=h.ok I.hok;exact ⟨its,r,⟨_,n,e,rfl,rfl,rfl⟩,z⟩
 ·
  refine ⟨its.toList,r,⟨o,n,I.kU a o hk,hc,hd,by simpa using hs⟩,?_⟩;have e:=r.length;simp only [Array.length_toList] at e;lia
def Inv.tuple (I:Inv X pins σ H s) (h:dZ X.K H a xs): ∃its:List Value,Vals xs its/\IsTup s.heap a its.toArray/\xs.length<=sizeLine:=by
 rcases h with h|⟨o,its,n,hk,hc,hs,hz,r⟩
 ·
  obtain ⟨z,its,r,p⟩:=h.ok I.hok;exact ⟨its,r,p,z⟩
 ·
  refine ⟨its.toList,r,⟨o,I.kU a o hk,hc,n,by simpa using hs⟩,?_⟩;have e:=r.length;simp only [Array.length_toList] at e;lia
def Inv.oY (I:Inv X pins σ H s) (h:cD X.K H a xs) (h':cD X.K H a ys):xs=ys:=by
 obtain ⟨its,r,⟨o,n,e,_,_,d⟩,_⟩:=I.list h;obtain ⟨its',r',⟨o',n',e',_,_,d'⟩,_⟩:=I.list h';rw [e] at e';cases e';rw [d] at d';injection d' with d1 _;have:its=its':=by simpa using congrArg Array.toList d1
 subst this;exact r.inj r'
def Inv.nk (I:Inv X pins σ H s) (h:dZ X.K H a xs) (h':dZ X.K H a ys):xs=ys:=by
 obtain ⟨its,r,⟨o,e,_,n,d⟩,_⟩:=I.tuple h;obtain ⟨its',r',⟨o',e',_,n',d'⟩,_⟩:=I.tuple h';rw [e] at e';cases e';rw [d] at d';injection d' with d1 _;have:its=its':=by simpa using congrArg Array.toList d1
 subst this;exact r.inj r'
end
noncomputable abbrev Cx.wish (X:Cx) (E:Value->Shared->Prop):Cx:={X with xe:=E}
noncomputable abbrev Cx.nox (X:Cx):Cx:=X.wish fun _ _=>False
def Cx.Ok.wish {X:Cx} (ok:X.Ok) (E:Value->Shared->Prop):(X.wish E).Ok:=
 ⟨ok.mod,ok.kind,ok.glob,ok.blt,ok.above,ok.inj,ok.has,ok.cab,ok.hd,ok.frames,ok.stk,ok.exf,ok.bs,ok.bsz,ok.noex,ok.exfs,ok.funs,ok.frf⟩
def Cx.Ok.unwish {X:Cx} {E:Value->Shared->Prop} (ok:(X.wish E).Ok):X.Ok:=
 ⟨ok.mod,ok.kind,ok.glob,ok.blt,ok.above,ok.inj,ok.has,ok.cab,ok.hd,ok.frames,ok.stk,ok.exf,ok.bs,ok.bsz,ok.noex,ok.exfs,ok.funs,ok.frf⟩
section
variable {X:Cx} {pins:List (Addr×Obj)} {σ:St} {H:Hp} {s:Shared} {E:Value->Shared->Prop}
def Inv.wish (I:Inv X pins σ H s) (E:Value->Shared->Prop):Inv (X.wish E) pins σ H s:=⟨I.ok.wish E,I.os,I.bare,I.base,I.loc,I.cell,I.free,I.i0,I.pin,I.hok,I.len⟩
def Inv.unwish (I:Inv (X.wish E) pins σ H s):Inv X pins σ H s:=⟨I.ok.unwish,I.os,I.bare,I.base,I.loc,I.cell,I.free,I.i0,I.pin,I.hok,I.len⟩
def SP.unwish {D:Ends} {f:Flow} {s':Shared} (h:SP (X.wish E) pins D f s'):SP X pins D f s':=by
 cases f with
 |next=>obtain ⟨σ',H',I,q⟩:=h;exact ⟨σ',H',I.unwish,q⟩
 |brk=>obtain ⟨σ',H',I,q⟩:=h;exact ⟨σ',H',I.unwish,q⟩
 |cont=>obtain ⟨σ',H',I,q⟩:=h;exact ⟨σ',H',I.unwish,q⟩
 |ret u=>obtain ⟨v,σ',H',I,r,q⟩:=h;exact ⟨v,σ',H',I.unwish,r,q⟩
def pF.nox {st:List Stmt} {t:TS} (h:pF X.nox st t):pF X st t:=fun pins s σ H D I hw=>
 wpAny_mono (h pins s σ H D (I.wish _) hw) (fun _ _ q=>q.unwish) fun _ _ z=>False.elim z
end
section
variable {X:Cx} {st:Stmt} {rest:List Stmt} {t u:TS} {e:Expr} {te:TE} {pos:Pos}
def xA:TS:=fun D σ H=>D.nx σ H
def As (t u:TS):TS:=fun D σ H=>t {D with nx:=u D} σ H
def aL:pF X [] xA:=fun _ _ σ H _ I h=>wpAny_execs_nil ⟨σ,H,I,h⟩
def af (h1:PS X st t) (h2:pF X rest u):pF X (st::rest) (As t u):=by
 intro pins s σ H D I h;refine wpAny_execs_cons (thn (h1 pins s σ H {D with nx:=u D} I h) fun f s1 q=>?_);cases f with
 |next=>
  obtain ⟨σ',H',I',q⟩:=q;exact h2 pins s1 σ' H' D I' q
 |ret v=>exact q
 |brk=>exact q
 |cont=>exact q
def aq (h1:PS X st t):pF X [st] t:=by
 intro pins s σ H D I h;refine wpAny_execs_cons (thn (h1 pins s σ H D I h) fun f s1 q=>?_);cases f with
 |next=>exact wpAny_execs_nil q
 |ret v=>exact q
 |brk=>exact q
 |cont=>exact q
def x9:TS:=fun D σ H=>D.bk σ H
def Az:TS:=fun D σ H=>D.ct σ H
def Inv.quiet {pins:List (Addr×Obj)} {σ:St} {H:Hp} {s:Shared} (I:Inv X pins σ H s):interactive X.env=false:=by simp [interactive,I.ok.kind]
def qq (te:TE):TS:=fun D σ H=>te σ H fun _ H1=>D.nx σ H1
def wo (he:PE X e te) (hs:swapsWith e none pos.line X.env=pure false:=by rfl):PS X (.Expr e pos) (qq te):=by
 intro pins s σ H D I h;exact wpAny_Expr_any (thn (he pins s σ H _ I h) fun v s1 ⟨x,H1,I1,r1,q1⟩=>⟨σ,H1,I1,q1⟩) I.quiet hs
def Au (te:TE):TS:=fun D σ H=>te σ H D.rt
def aE (he:PE X e te):PS X (.Return (some e) pos) (Au te):=by
 intro pins s σ H D I h;exact wpAny_Return_some (thn (he pins s σ H _ I h) fun v s1 ⟨x,H1,I1,r1,q1⟩=>⟨x,σ,H1,I1,r1,q1⟩)
def xu:TS:=fun D _ H=>D.rt .non H
def qE:PS X (.Return none pos) xu:=fun _ _ σ H _ I h=>wpAny_Return_none ⟨.non,σ,H,I,rfl,h⟩
def Ax (c:TT) (t u:TS):TS:=fun D σ H=>c σ H fun b H1=>if b=true then t D σ H1 else u D σ H1
def bg {c:Expr} {a b:List Stmt} {tc:TT} (hc:PT X c tc) (ha:pF X a t) (hb:pF X b u):PS X (.If c a b pos) (Ax tc t u):=by
 intro pins s σ H D I h;refine wpAny_If (thn (hc pins s σ H _ I h) fun d s1 ⟨H1,I1,q1⟩=>?_);cases d with
 |true=>exact ha pins s1 σ H1 D I1 q1
 |false=>exact hb pins s1 σ H1 D I1 q1
end
noncomputable abbrev TG:=V->St->Hp->(St->Hp->Prop)->Prop
noncomputable abbrev pE:=List V->St->Hp->(St->Hp->Prop)->Prop
def PG (X:Cx) (target:Expr) (t:TG):Prop:=
 ∀(pins:List (Addr×Obj)) (s:Shared) (σ:St) (H:Hp) (v:V) (u:Value) (Q:St->Hp->Prop),Inv X pins σ H s->RelV v u->t v σ H Q->
  wpAny (model X.prog X.w) X.A (assign target X.env u) (fun _ s'=> ∃σ' H',Inv X pins σ' H' s'/\Q σ' H') X.xe s
def xn (X:Cx) (ts:List Expr) (t:pE):Prop:=
 ∀(pins:List (Addr×Obj)) (s:Shared) (σ:St) (H:Hp) (vs:List V) (us:List Value) (Q:St->Hp->Prop),Inv X pins σ H s->Vals vs us->t vs σ H Q->
  wpAny (model X.prog X.w) X.A (assignInOrder ((assignEach ts X.env).map (·.2)) us) (fun _ s'=> ∃σ' H',Inv X pins σ' H' s'/\Q σ' H') X.xe s
noncomputable abbrev Fe:=V->V->V->Hp->(Hp->Prop)->Prop
noncomputable abbrev GA:=V->V->Hp->VK->Prop
section
variable {X:Cx} {pos:Pos}
def jL (i:Nat):TG:=fun v σ H Q=>Q (σ.set i (some v)) H
def aU {i:Nat} {x:Str} (hN:X.N.Nodup) (hi:X.N[i]?=some x) (hx:Loc X.env.scope x) (hf:X.fn x=true\/X.env.scope.names.lookup x=some .local:=by first|exact .inl rfl|exact .inr rfl|assumption):PG X (.Name x pos) (jL i):=by
 intro pins s σ H v u Q I r h;exact wpAny_assign_Name (oP I hN hi hx r (fun s' I'=>⟨_,H,I',h⟩) hf)
def Dn:pE:=fun vs σ H Q=>vs= []/\Q σ H
def u_ (t:TG) (u:pE):pE:=fun vs σ H Q=> ∃v r,vs=v::r/\t v σ H fun σ' H'=>u r σ' H' Q
def lG:xn X [] Dn:=by
 intro pins s σ H vs us Q I r h;obtain ⟨e,h⟩:=h;subst e;cases r;exact assignInOrder_nil ⟨σ,H,I,h⟩
def t_ {e:Expr} {es:List Expr} {t:TG} {u:pE} (h1:PG X e t) (h2:xn X es u)
  (hs:(assignEach (e::es) X.env).map (·.2)=assign e X.env::(assignEach es X.env).map (·.2):=by rfl):xn X (e::es) (u_ t u):=by
 intro pins s σ H vs us Q I r h;obtain ⟨v,vr,e1,h⟩:=h;subst e1;cases r with
 |cons r rr=>
  rw [hs];refine assignInOrder_cons (thn (h1 pins s σ H _ _ _ I r h) fun _ s1 ⟨σ1,H1,I1,q1⟩=>?_);exact h2 pins s1 σ1 H1 _ _ Q I1 rr q1
def wZ (K:W.Frag) (n:Nat) (t:pE):TG:=fun v σ H Q=> ∃a xs,v = .ref a/\dZ K H a xs/\xs.length=n/\t xs σ H Q
def yp {es:List Expr} {k:Nat} {t:pE} {n:Nat} (hc:X.calm=true) (h:xn X es t)
  (hn:(assignEach es X.env).length=n:=by rfl) (hst:(assignEach es X.env).findIdx? (·.1)=none:=by rfl):PG X (.Tuple es k pos) (wZ X.K n t):=by
 intro pins s σ H v u Q I r hw;obtain ⟨a,xs,e1,hq,hl,hw⟩:=hw;subst e1;cases r;obtain ⟨its,rv,ht,hz⟩:=I.tuple hq;refine assign_Tuple_tuple (I.ok.hd hc) ht (by simp [hn,<-hl,rv.length]) hst fun h' hx=>?_;have I1:Inv X pins σ H {s with heap:=h'}:=I.kept (t':=s.toks) fun b o e=>hx b o (Nat.ne_of_lt (Heap.lt_size e)) e;exact h pins _ σ H xs _ Q I1 (by simpa using rv) hw
def E8 (to ti:TE) (t:Fe):TG:=fun v σ H Q=>to σ H fun o H1=>ti σ H1 fun i H2=>t o i v H2 fun H3=>Q σ H3
def rk (te:TE) (g:TG):TS:=fun D σ H=>te σ H fun x H1=>g x σ H1 D.nx
def yn {tg e:Expr} {te:TE} {g:TG} (he:PE X e te) (hg:PG X tg g) (hs:swapsWithSole [tg] e pos.line X.env=pure false:=by rfl) (hw:swappedStores [tg] e X.env=pure none:=by rfl)
  (h1:(assignEach [tg] X.env).map (·.2)= [assign tg X.env]:=by rfl):PS X (.Assign [tg] e pos) (rk te g):=by
 intro pins s σ H D I h;refine wpAny_Assign_stores (thn (he pins s σ H _ I h) fun v s1 ⟨x,H1,I1,r1,q1⟩=>?_) hs hw;rw [h1];exact thn (hg pins s1 σ H1 x v _ I1 r1 q1) fun _ s2 q=>q
def ym {i:Nat} {x:Str} {e:Expr} {te:TE} {pos':Pos} (hN:X.N.Nodup) (hi:X.N[i]?=some x) (hx:Loc X.env.scope x) (he:PE X e te) (hs:swapsWith e (some (.Name x pos')) pos.line X.env=pure false:=by rfl) (hf:X.fn x=true\/X.env.scope.names.lookup x=some .local:=by first|exact .inl rfl|exact .inr rfl|assumption):
  PS X (.Assign [.Name x pos'] e pos) (rk te (jL i)):=by
 intro pins s σ H D I h;refine wpAny_Assign_Name (thn (he pins s σ H _ I h) fun v s1 ⟨y,H1,I1,r1,q1⟩=>?_) hs;exact oP I1 hN hi hx r1 (fun s2 I2=>⟨_,H1,I2,q1⟩) hf
def DS (i:Nat) (te:TE) (ti:GA):TS:=fun D σ H=> ∃x,σ[i]?=some (some x)/\te σ H fun y H1=>ti x y H1 fun z H2=>D.nx (σ.set i (some z)) H2
end
section
variable {X:Cx} {pos:Pos}
end
structure It where
 go:Nat->Hp->Prop
 yld:Nat->Hp->V->Hp->Prop
 stop:Nat->Hp->Prop
def mM (X:Cx) (pins:List (Addr×Obj)) (H:Hp) (b:Addr):Prop:=
 H b=none/\b≠X.env.locals/\b ∉ X.fs/\(b∈X.ex\/X.s₀.heap.objs.size<=b)/\(∀x c,X.env.cells.lookup x=some c->c≠b)/\∀p∈X.pn++pins,p.1≠b
def Inv.sG {X:Cx} {pins:List (Addr×Obj)} {σ:St} {H H':Hp} {s:Shared} {b:Addr} (I:Inv X pins σ H s) (hb:s.heap.objs.size<=b) (hn:H' b=none):mM X pins H' b:=by
 refine ⟨hn,Nat.ne_of_gt (Nat.lt_of_lt_of_le I.lt hb),I.nofs hb,.inr (Nat.le_trans I.sz hb),fun x c e z=>?_,fun p hp z=>?_⟩
 ·
  obtain ⟨v,q⟩:=I.cell x c e;exact absurd (Nat.lt_of_lt_of_le q.lt (by rw [z];exact hb)) (Nat.lt_irrefl _)
 ·exact absurd (Nat.lt_of_lt_of_le (Heap.lt_size (I.pin p hp).1) (by rw [z];exact hb)) (Nat.lt_irrefl _)
structure Turn (P:Program) (w:World) (K:W.Frag) (tg:Expr) (J:It) (fp:List Addr) (it:Addr) (tn:Nat->Heap->Prop):Prop where
 mem:it∈fp
 obj: ∀i h,tn i h->∀b∈fp,∃o,h.get? b=some o/\∀v,o.data≠ .cell v
 keep: ∀i h h',tn i h->(∀b∈fp,∀o,h.get? b=some o->h'.get? b=some o)->tn i h'
 item: ∀(X:Cx),X.prog=P->X.w=w->X.K=K->X.calm=true->∀(i:Nat) (pins:List (Addr×Obj)) (s:Shared) (σ:St) (H:Hp) (E:Value->Shared->Prop),Inv X pins σ H s->(∀b∈fp,mM X pins H b)->tn i s.heap->J.go i H->
  wpAny (model P w) X.A (pyNext (.ref it)) (fun r s1=> ∃u,r=some u/\
   wpAny (model P w) X.A (letOwnedTupleGo tg (.ref it) u) (fun _ s2=> ∃x H',Inv X pins σ H' s2/\RelV x u/\J.yld i H x H'/\tn (i+1) s2.heap/\∀b∈fp,H' b=none) E s1) E s
 done: ∀(X:Cx),X.prog=P->X.w=w->X.K=K->X.calm=true->∀(i:Nat) (pins:List (Addr×Obj)) (s:Shared) (σ:St) (H:Hp) (E:Value->Shared->Prop),Inv X pins σ H s->(∀b∈fp,mM X pins H b)->tn i s.heap->J.stop i H->
  wpAny (model P w) X.A (pyNext (.ref it)) (fun r s1=>r=none/\Inv X pins σ H s1) E s
 self: ∀(A:Around) (i:Nat) (s:Shared) (Q:Value->Shared->Prop) (E:Value->Shared->Prop),tn i s.heap->Q (.ref it) s->wpAny (model P w) A (pyIter (.ref it)) Q E s
noncomputable abbrev TI:=St->Hp->(It->Hp->Prop)->Prop
def FX (X:Cx) (pins:List (Addr×Obj)) (σ:St) (tg:Expr) (R:It->Hp->Prop) (itv:Value) (s2:Shared):Prop:=
 ∃(it:Addr) (fp:List Addr) (tn:Nat->Heap->Prop) (J:It) (H':Hp),itv = .ref it/\Inv X pins σ H' s2/\Turn X.prog X.w X.K tg J fp it tn/\tn 0 s2.heap/\(∀b∈fp,mM X pins H' b)/\R J H'
def PI (X:Cx) (tg iter:Expr) (wi:TI):Prop:=
 ∀(pins:List (Addr×Obj)) (s:Shared) (σ:St) (H:Hp) (R:It->Hp->Prop),Inv X pins σ H s->wi σ H R->
  wpAny (model X.prog X.w) X.A (eval iter X.env) (fun v s1=>wpAny (model X.prog X.w) X.A (pyIter v) (FX X pins σ tg R) X.xe s1) X.xe s
def qP {M:Model} {A:Around} {E:Value->Shared->Prop} {s:Shared} {tg:Expr} {it:Addr} {u:Value} {o:Obj} {n:String} {vs:Array Value} {Q:Unit->Shared->Prop} (ho:s.heap.get? it=some o) (hc:o.cls = .type n) (hd:o.data = .fields vs)
    (hn: ["enumerate","zip","dict_itemiterator","dict_reverseitemiterator","odict_iterator","itertools.zip_longest","itertools.pairwise"].contains n=false) (hQ:Q () s):wpAny M A (letOwnedTupleGo tg (.ref it) u) Q E s:=by
  unfold letOwnedTupleGo;cases tg<;>first
    |exact wpAny_pure hQ
    |(cases u<;>first
        |exact wpAny_pure hQ
        |(
           refine wpAny_bind (wpAny_load ho ?_);rw [hc,hd];show wpAny M A (if (["enumerate","zip","dict_itemiterator","dict_reverseitemiterator","odict_iterator","itertools.zip_longest","itertools.pairwise"].contains n&&vs[0]? == some (rawInt _))=true then _ else _) Q E s;rw [if_neg (by intro h;rw [hn,Bool.false_and] at h;cases h)];exact wpAny_pure hQ))
noncomputable def DD (K:W.Frag) (a:Addr):It:=
 ⟨fun i H=> ∃xs x,cD K H a xs/\xs[i]?=some x,fun i H x H'=>H'=H/\∀xs,cD K H a xs->xs[i]?=some x,fun i H=> ∃xs,cD K H a xs/\xs.length<=i⟩
noncomputable def FZ (K:W.Frag) (a:Addr):It:=
 ⟨fun i H=> ∃xs x,dZ K H a xs/\xs[i]?=some x,fun i H x H'=>H'=H/\∀xs,dZ K H a xs->xs[i]?=some x,fun i H=> ∃xs,dZ K H a xs/\xs.length<=i⟩
noncomputable def vB (lo:Int) (n:Nat):It:=⟨fun i _=>i<n,fun i H x H'=>H'=H/\x = .int (lo+i),fun i _=>n<=i⟩
def rf {P:Program} {w:World} {K:W.Frag} {tg:Expr} (a it:Addr):Turn P w K tg (DD K a) [it] it (fun i h=>h.IsListIter it a i) where
 mem:=by simp
 obj:=fun i h st b hb=>by
  have e:b=it:=by simpa using hb
  subst e;obtain ⟨o,e,c,d⟩:=st;exact ⟨o,e,fun v z=>by rw [d] at z;cases z⟩
 keep:=fun i h h' st k=>st.at fun o e=>k it (by simp) o e
 item:=by
  intro X hP hw hK hc i pins s σ H E I hf st hg;subst hP hw hK;obtain ⟨xs,x,hq,hx⟩:=hg;obtain ⟨its,rv,p,hz⟩:=I.list hq;obtain ⟨u,hu,ru⟩:=rv.get hx;obtain ⟨f0,f1,f2,f3,f4,f5⟩:=hf it (by simp);refine wpAny_pyNext_list_item st p.isList (x:=u) (by simpa using hu) fun h' st' sb=>?_;have I1:Inv X pins σ H {s with heap:=h'}:=I.turned (t':=s.toks) (fun b o hb e=>(sb.2 b hb).trans e) f0 f1 f3 f4 f5;obtain ⟨o,e,c,d⟩:=id st';exact ⟨u,rfl,qP (s:={s with heap:=h'}) e c d (by decide) ⟨x,H,I1,ru,⟨rfl,fun ys hy=>by rw [I.oY hy hq];exact hx⟩,st',fun b hb=>(hf b hb).1⟩⟩
 done:=by
  intro X hP hw hK hc i pins s σ H E I hf st hg;subst hP hw hK;obtain ⟨xs,hq,hx⟩:=hg;obtain ⟨its,rv,p,hz⟩:=I.list hq;obtain ⟨f0,f1,f2,f3,f4,f5⟩:=hf it (by simp);have hl:=rv.length;exact wpAny_pyNext_list_end (I.ok.hd hc) st p.isList (by simp;lia) fun h' eb=>⟨rfl,I.turned (t':=s.toks) (fun b o hb e=>eb b o hb e) f0 f1 f3 f4 f5⟩
 self:=fun _ _ _ _ _ st h=>wpAny_pyIter_listiter st h
def pJ {P:Program} {w:World} {K:W.Frag} {tg:Expr} (a it:Addr):Turn P w K tg (FZ K a) [it] it (fun i h=>h.IsTupleIter it a i) where
 mem:=by simp
 obj:=fun i h st b hb=>by
  have e:b=it:=by simpa using hb
  subst e;obtain ⟨o,e,c,d⟩:=st;exact ⟨o,e,fun v z=>by rw [d] at z;cases z⟩
 keep:=fun i h h' st k=>st.at fun o e=>k it (by simp) o e
 item:=by
  intro X hP hw hK hc i pins s σ H E I hf st hg;subst hP hw hK;obtain ⟨xs,x,hq,hx⟩:=hg;obtain ⟨its,rv,p,hz⟩:=I.tuple hq;obtain ⟨u,hu,ru⟩:=rv.get hx;obtain ⟨f0,f1,f2,f3,f4,f5⟩:=hf it (by simp);refine wpAny_pyNext_tuple_item st (show s.heap.IsTuple a its.toArray from p) (x:=u) (by simpa using hu) fun h' st' sb=>?_;have I1:Inv X pins σ H {s with heap:=h'}:=I.turned (t':=s.toks) (fun b o hb e=>(sb.2 b hb).trans e) f0 f1 f3 f4 f5;obtain ⟨o,e,c,d⟩:=id st';exact ⟨u,rfl,qP (s:={s with heap:=h'}) e c d (by decide) ⟨x,H,I1,ru,⟨rfl,fun ys hy=>by rw [I.nk hy hq];exact hx⟩,st',fun b hb=>(hf b hb).1⟩⟩
 done:=by
  intro X hP hw hK hc i pins s σ H E I hf st hg;subst hP hw hK;obtain ⟨xs,hq,hx⟩:=hg;obtain ⟨its,rv,p,hz⟩:=I.tuple hq;obtain ⟨f0,f1,f2,f3,f4,f5⟩:=hf it (by simp);have hl:=rv.length;exact wpAny_pyNext_tuple_end (I.ok.hd hc) st (show s.heap.IsTuple a its.toArray from p) (by simp;lia) fun h' eb=>⟨rfl,I.turned (t':=s.toks) (fun b o hb e=>eb b o hb e) f0 f1 f3 f4 f5⟩
 self:=fun _ _ _ _ _ st h=>wpAny_pyIter_tupleiter st h
def pK {P:Program} {w:World} {K:W.Frag} {tg:Expr} (it:Addr) (lo:Int) (n:Nat):Turn P w K tg (vB lo n) [it] it (fun i h=>IsRangeIter h it (lo+(i:Nat)*1) ((n:Int) - (i:Nat)) 1) where
 mem:=by simp
 obj:=fun i h st b hb=>by
  have e:b=it:=by simpa using hb
  subst e;exact ⟨_,st,fun v z=>by
   have z':Data.fields _=Data.cell v:=z;cases z'⟩
 keep:=fun i h h' st k=>k it (by simp) _ st
 item:=by
  intro X hP hw hK hc i pins s σ H E I hf st hg;subst hP hw hK;obtain ⟨f0,f1,f2,f3,f4,f5⟩:=hf it (by simp);have W:=Walks.range (prog:=X.prog) (w:=X.w) (I.ok.hd hc) it lo 1 n;refine W.item i s _ _ hg st fun v h' tk hv st' kk=>?_;obtain ⟨t,rfl⟩:=hv;have I1:Inv X pins σ H {s with heap:=h',toks:=tk}:=I.turned (fun b o hb e=>kk b o (by simpa using hb) e) f0 f1 f3 f4 f5;refine ⟨_,rfl,qP (s:={s with heap:=h',toks:=tk}) (n:="range_iterator") st' rfl rfl (by decide) ⟨.int (lo+i),H,I1,⟨t,?_⟩,⟨rfl,rfl⟩,st',fun b hb=>(hf b hb).1⟩⟩;rw [Int.mul_one]
 done:=by
  intro X hP hw hK hc i pins s σ H E I hf st hg;subst hP hw hK;obtain ⟨f0,f1,f2,f3,f4,f5⟩:=hf it (by simp);exact wpAny_pyNext_range_end (I.ok.hd hc) st (by have:n<=i:=hg;lia) fun h' eb=>⟨rfl,I.turned (t':=s.toks) (fun b o hb e=>eb b o hb e) f0 f1 f3 f4 f5⟩
 self:=fun _ _ _ _ _ st h=>wpAny_pyIter_rangeiter st h
section
variable {X:Cx} {tg:Expr}
def oR {pins:List (Addr×Obj)} {σ:St} {H:Hp} {s:Shared} {R:It->Hp->Prop} {E:Value->Shared->Prop} {lo hi:Int} {t u v:Tok} {tk:Nat} (I:Inv X pins σ H s) (h1 : -(2 ^ 62)<=lo) (h2:lo<2 ^ 62) (h3 : -(2 ^ 62)<=hi) (h4:hi<2 ^ 62)
  (q:R (vB lo (hi - lo).toNat) H):wpAny (model X.prog X.w) X.A (pyIter (.ref s.heap.objs.size)) (FX X pins σ tg R) E {s with heap:=s.heap.push {cls:= .type "range",data:= .fields #[.int lo t,.int hi u,.int 1 v]},toks:=tk}:=by
 refine wpAny_pyIter_range (IsRange.new ..) (small_one h1 h2 h3 h4) ?_;have I1:Inv X pins σ H {s with heap:=s.heap.push {cls:= .type "range",data:= .fields #[.int lo t,.int hi u,.int 1 v]},toks:=tk}:=I.kept fun b o e=>Heap.get?_push_of_some _ e;refine ⟨(s.heap.push {cls:= .type "range",data:= .fields #[.int lo t,.int hi u,.int 1 v]}).objs.size,[(s.heap.push {cls:= .type "range",data:= .fields #[.int lo t,.int hi u,.int 1 v]}).objs.size],_,_,H,rfl,
  I1.kept (t':=tk) fun b o e=>Heap.get?_push_of_some _ e,pK _ lo (hi - lo).toNat,?_,fun b hb=>?_,q⟩
 ·
  have e1:lo+((0:Nat):Int)*1=lo:=by simp
  have e2:(((hi - lo).toNat:Nat):Int) - ((0:Nat):Int)=Builtin.Range.rangeSize lo hi 1:=by rw [rangeSize_one];split<;>lia
  show IsRangeIter _ _ (lo+((0:Nat):Int)*1) ((((hi - lo).toNat:Nat):Int) - ((0:Nat):Int)) 1;rw [e1,e2];exact Heap.get?_push_size _ rfl
 ·
  have e:b=(s.heap.push {cls:= .type "range",data:= .fields #[.int lo t,.int hi u,.int 1 v]}).objs.size:=by simpa using hb
  subst e;exact I1.sG (Nat.le_refl _) (I1.hok.fresh (Nat.le_refl _))
def sZ (wi:TI) (g:TG) (tb:TS):TS:=fun D σ H=>wi σ H fun J H1=> ∃W:Nat->Nat->St->Hp->Prop,(∃m,W 0 m σ H1)/\∀i m σ H,W i m σ H->
 (J.stop i H/\D.nx σ H)\/(J.go i H/\∃N:St->Hp->Prop,(∀σ' H',N σ' H'->∃m',m'<m/\W (i+1) m' σ' H')/\∀x H',J.yld i H x H'->g x σ H' fun σ2 H2=>tb {D with nx:=N,ct:=N,bk:=D.nx} σ2 H2)
noncomputable def lW (fp:List Addr) (h:Heap):List (Addr×Obj):=fp.filterMap fun b=>(h.get? b).map fun o=>(b,o)
def gq {fp:List Addr} {h:Heap} {b:Addr} {o:Obj} (hb:b∈fp) (e:h.get? b=some o):(b,o)∈lW fp h:=List.mem_filterMap.mpr ⟨b,hb,by rw [e];rfl⟩
def sd {fp:List Addr} {h:Heap} {p:Addr×Obj} (hp:p∈lW fp h):p.1∈fp/\h.get? p.1=some p.2:=by
 obtain ⟨b,hb,e⟩:=List.mem_filterMap.mp hp;cases q:h.get? b with
 |none=>rw [q] at e;cases e
 |some o=>
  rw [q] at e;have e':(b,o)=p:=Option.some.inj e;subst e';exact ⟨hb,q⟩
def Inv.pinned {pins:List (Addr×Obj)} {σ:St} {H:Hp} {s:Shared} {fp:List Addr} (I:Inv X pins σ H s) (hf: ∀b∈fp,mM X pins H b) (ho: ∀b∈fp,∃o,s.heap.get? b=some o/\∀v,o.data≠ .cell v):Inv X (pins++lW fp s.heap) σ H s:=
 I.lF fun p hp=>(List.mem_append.mp hp).elim (fun z=>I.pin p (List.mem_append_right _ z)) fun z=>by
  obtain ⟨hb,e⟩:=sd z;obtain ⟨f0,f1,f2,_⟩:=hf p.1 hb;obtain ⟨o,e',d⟩:=ho p.1 hb;rw [e] at e';cases e';exact ⟨e,f0,f1,f2,d⟩
def Inv.unpinned {pins pl:List (Addr×Obj)} {σ:St} {H:Hp} {s:Shared} (I:Inv X (pins++pl) σ H s):Inv X pins σ H s:=I.lF fun p hp=>I.pin p (List.mem_append_right _ (List.mem_append_left _ hp))
def gZ {iter:Expr} {body:List Stmt} {wi:TI} {g:TG} {tb:TS} {pos:Pos} (hp:PassesOwn (model X.prog X.w) X.A X.env X.xe) (hc:X.calm=true) (hi:PI X tg iter wi) (hg:PG X tg g) (hb:pF X body tb)
  (hs: ∀x,foldedSetIterable iter X.env x=pure x:=by intro _;rfl):PS X (.For tg iter body [] pos) (sZ wi g tb):=by
 intro pins s σ H D I h;refine wpAny_For (thn (hi pins s σ H _ I h) fun v s1 h1=>thn h1 fun itv s2 h2=>?_) hs;obtain ⟨it,fp,tn,J,H2,e,I2,T,st2,f2,W,⟨m0,w0⟩,turn⟩:=h2;subst e

 have stat: ∀{H':Hp},(∀b∈fp,H' b=none)->∀b∈fp,mM X pins H' b:=fun hn b hb=>⟨hn b hb,(f2 b hb).2⟩;refine codeAny_forLoop_any (fun n s'=> ∃i σ' H',Inv X pins σ' H' s'/\tn i s'.heap/\(∀b∈fp,H' b=none)/\W i n σ' H') ?_ m0 ⟨0,σ,H2,I2,st2,fun b hb=>(f2 b hb).1,w0⟩;rintro n s3 ⟨i,σ3,H3,I3,st3,fr3,w3⟩;rcases turn i n σ3 H3 w3 with ⟨stop,qn⟩|⟨go,N,hN,step⟩
 ·
  refine wpAny_passesOwn hp (thn (T.done X rfl rfl rfl hc i pins s3 σ3 H3 X.xe I3 (stat fr3) st3 stop) fun r s4 ⟨hr,I4⟩=>?_);subst hr;exact wpAny_execs_nil ⟨σ3,H3,I4,qn⟩
 ·
  refine wpAny_passesOwn hp (thn (T.item X rfl rfl rfl hc i pins s3 σ3 H3 X.xe I3 (stat fr3) st3 go) fun r s4 ⟨u,hr,h4⟩=>?_);subst hr;refine wpAny_passesOwn hp (thn h4 fun _ s5 ⟨x,H5,I5,r5,y5,st5,fr5⟩=>?_);have I5':=I5.pinned (stat fr5) (T.obj _ _ st5);refine wpAny_passesOwn hp (thn (hg _ s5 σ3 H5 x u _ I5' r5 (step x H5 y5)) fun _ s6 ⟨σ6,H6,I6,q6⟩=>?_);refine wpAny_passesOwn hp (thn (hb _ s6 σ6 H6 _ I6 q6) fun f s7 q7=>?_);have again: ∀{σ7:St} {H7:Hp},Inv X (pins++lW fp s5.heap) σ7 H7 s7->N σ7 H7->∃m,m<n/\∃i σ' H',Inv X pins σ' H' s7/\tn i s7.heap/\(∀b∈fp,H' b=none)/\W i m σ' H':=fun {σ7 H7} I7 n7=>by
   obtain ⟨m',hm,w7⟩:=hN σ7 H7 n7;refine ⟨m',hm,i+1,σ7,H7,I7.unpinned,T.keep _ _ _ st5 fun b hb o e=>(I7.pin (b,o) (List.mem_append_right _ (List.mem_append_right _ (gq hb e)))).1,fun b hb=>?_,w7⟩;obtain ⟨o,e,d⟩:=T.obj _ _ st5 b hb;exact (I7.pin (b,o) (List.mem_append_right _ (List.mem_append_right _ (gq hb e)))).2.1
  cases f with
  |next=>obtain ⟨σ7,H7,I7,n7⟩:=q7;exact again I7 n7
  |cont=>obtain ⟨σ7,H7,I7,n7⟩:=q7;exact again I7 n7
  |brk=>obtain ⟨σ7,H7,I7,q7⟩:=q7;exact ⟨σ7,H7,I7.unpinned,q7⟩
  |ret v=>obtain ⟨x7,σ7,H7,I7,r7,q7⟩:=q7;exact ⟨x7,σ7,H7,I7.unpinned,r7,q7⟩
end
def vc {K:W.Frag} {a:Addr} {xs:List V} {g:TG} {tb:TS} {D:Ends} {σ:St} {H:Hp} (Pv:Nat->St->Hp->Prop) (h0:Pv 0 σ H) (hl: ∀i σ H,i<=xs.length->Pv i σ H->cD K H a xs)
  (hs: ∀i x σ H,xs[i]?=some x->Pv i σ H->g x σ H fun σ2 H2=>tb {D with nx:=Pv (i+1),ct:=Pv (i+1),bk:=D.nx} σ2 H2) (hd: ∀σ H,Pv xs.length σ H->D.nx σ H):
  ∃W:Nat->Nat->St->Hp->Prop,(∃m,W 0 m σ H)/\∀i m σ H,W i m σ H->
   ((DD K a).stop i H/\D.nx σ H)\/((DD K a).go i H/\∃N:St->Hp->Prop,(∀σ' H',N σ' H'->∃m',m'<m/\W (i+1) m' σ' H')/\∀x H',(DD K a).yld i H x H'->g x σ H' fun σ2 H2=>tb {D with nx:=N,ct:=N,bk:=D.nx} σ2 H2):=by
 refine ⟨fun i m σ H=>m=xs.length - i/\i<=xs.length/\Pv i σ H,⟨xs.length,by simp,Nat.zero_le _,h0⟩,?_⟩;rintro i m σ H ⟨rfl,hi,p⟩;have q:=hl i σ H hi p;by_cases hlt:i<xs.length
 ·
  refine .inr ⟨⟨xs,xs[i],q,by simp [hlt]⟩,Pv (i+1),fun σ' H' p'=>⟨xs.length - (i+1),by lia,rfl,hlt,p'⟩,fun x H' y=>?_⟩;obtain ⟨e,y⟩:=y;subst e;exact hs i x σ _ (y xs q) p
 ·
  have e:i=xs.length:=by lia
  subst e;exact .inl ⟨⟨xs,q,Nat.le_refl _⟩,hd σ H p⟩
def sH {lo:Int} {n:Nat} {g:TG} {tb:TS} {D:Ends} {σ:St} {H:Hp} (Pv:Nat->St->Hp->Prop) (h0:Pv 0 σ H)
  (hs: ∀i σ H,i<n->Pv i σ H->g (.int (lo+i)) σ H fun σ2 H2=>tb {D with nx:=Pv (i+1),ct:=Pv (i+1),bk:=D.nx} σ2 H2) (hd: ∀σ H,Pv n σ H->D.nx σ H):
  ∃W:Nat->Nat->St->Hp->Prop,(∃m,W 0 m σ H)/\∀i m σ H,W i m σ H->
   ((vB lo n).stop i H/\D.nx σ H)\/((vB lo n).go i H/\∃N:St->Hp->Prop,(∀σ' H',N σ' H'->∃m',m'<m/\W (i+1) m' σ' H')/\∀x H',(vB lo n).yld i H x H'->g x σ H' fun σ2 H2=>tb {D with nx:=N,ct:=N,bk:=D.nx} σ2 H2):=by
 refine ⟨fun i m σ H=>m=n - i/\i<=n/\Pv i σ H,⟨n,by simp,Nat.zero_le _,h0⟩,?_⟩;rintro i m σ H ⟨rfl,hi,p⟩;by_cases hlt:i<n
 ·
  refine .inr ⟨hlt,Pv (i+1),fun σ' H' p'=>⟨n - (i+1),by lia,rfl,hlt,p'⟩,fun x H' y=>?_⟩;obtain ⟨e,y⟩:=y;subst e y;exact hs i σ _ hlt p
 ·
  have e:i=n:=by lia
  subst e;exact .inl ⟨Nat.le_refl _,hd σ H p⟩
noncomputable abbrev R2:=V->V->Hp->VK->Prop
def d2 (X:Cx) (f:Value->Value->Sem Value) (r:R2):Prop:=
 ∀(pins:List (Addr×Obj)) (s:Shared) (σ:St) (H:Hp) (x y:V) (v u:Value) (Q:VK),Inv X pins σ H s->RelV x v->RelV y u->r x y H Q->
  wpAny (model X.prog X.w) X.A (f v u) (EP X pins σ Q) X.xe s
def Fd (X:Cx) (f:Value->Sem Value) (r:V->Hp->VK->Prop):Prop:=
 ∀(pins:List (Addr×Obj)) (s:Shared) (σ:St) (H:Hp) (x:V) (v:Value) (Q:VK),Inv X pins σ H s->RelV x v->r x H Q->
  wpAny (model X.prog X.w) X.A (f v) (EP X pins σ Q) X.xe s
def bc (X:Cx) (f:Value) (r:List V->Hp->VK->Prop):Prop:=
 ∀(pins:List (Addr×Obj)) (s:Shared) (σ:St) (H:Hp) (xs:List V) (us:List Value) (Q:VK),Inv X pins σ H s->Vals xs us->r xs H Q->
  wpAny (model X.prog X.w) X.A (call f us) (EP X pins σ Q) X.xe s
def xx (r:R2) (ta tb:TE):TE:=fun σ H Q=>ta σ H fun x H1=>tb σ H1 fun y H2=>r x y H2 Q
def Ff (r:V->Hp->VK->Prop) (ta:TE):TE:=fun σ H Q=>ta σ H fun x H1=>r x H1 Q
def rI (C:Int->Int->Prop) (g:Int->Int->V):R2:=fun x y H Q=> ∃i j,x = .int i/\y = .int j/\C i j/\Q (g i j) H
def sR (g:Int->Int->V):R2:=fun x y H Q=> ∃i j,x = .int i/\y = .int j/\Q (g i j) H
def rU (g:Int->V):V->Hp->VK->Prop:=fun x H Q=> ∃i,x = .int i/\Q (g i) H
section
variable {X:Cx} {a b c:Expr} {ta tb tc:TE} {pos:Pos}
def Al (ha:PE X a ta) (hb:PE X b tb) {pins:List (Addr×Obj)} {s:Shared} {σ:St} {H:Hp} {R:V->V->Hp->Prop} (I:Inv X pins σ H s)
  (h:ta σ H fun x H1=>tb σ H1 fun y H2=>R x y H2) {Q:Value->Shared->Prop} {f:Value->Value->Sem Value}
  (hf: ∀v u s2 x y H2,Inv X pins σ H2 s2->RelV x v->RelV y u->R x y H2->wpAny (model X.prog X.w) X.A (f v u) Q X.xe s2):
  wpAny (model X.prog X.w) X.A (eval a X.env) (fun v s₁=>wpAny (model X.prog X.w) X.A (eval b X.env) (fun u s₂=>wpAny (model X.prog X.w) X.A (f v u) Q X.xe s₂) X.xe s₁) X.xe s:=by
 refine thn (ha pins s σ H _ I h) fun v s1 ⟨x,H1,I1,r1,q1⟩=>?_;refine thn (hb pins s1 σ H1 _ I1 q1) fun u s2 ⟨y,H2,I2,r2,q2⟩=>?_;exact hf v u s2 x y H2 I2 r1 r2 q2
def ar {op:Operator} {r:R2} (ho:d2 X (binaryOp op) r) (ha:PE X a ta) (hb:PE X b tb):PE X (.BinOp a op b pos) (xx r ta tb):=by
 intro pins s σ H Q I h;exact wpAny_BinOp (Al ha hb I h fun v u s2 x y H2 I2 rx ry q=>ho pins s2 σ H2 x y v u Q I2 rx ry q)
def uc {op:UnaryOp} {r:V->Hp->VK->Prop} (ho:Fd X (unaryOp op) r) (ha:PE X a ta):PE X (.UnaryOp op a pos) (Ff r ta):=by
 intro pins s σ H Q I h;exact UnaryOp_ (thn (ha pins s σ H _ I h) fun v s1 ⟨x,H1,I1,r1,q1⟩=>ho pins s1 σ H1 x v Q I1 r1 q1)
def xM {f:Value->Value->Sem Value} {C:Int->Int->Prop} {g:Int->Int->Int}
  (rule: ∀(i j:Int) (t u:Tok) (s:Shared) (Q:Value->Shared->Prop) (E:Value->Shared->Prop),C i j->Q (.int (g i j) s.toks) {s with toks:=s.toks+1}->wpAny (model X.prog X.w) X.A (f (.int i t) (.int j u)) Q E s):
  d2 X f (rI C fun i j=> .int (g i j)):=by
 intro pins s σ H x y v u Q I rx ry h;obtain ⟨i,j,rfl,rfl,hc,q⟩:=h;obtain ⟨t,rfl⟩:=rx;obtain ⟨t',rfl⟩:=ry;exact rule i j t t' s _ _ hc ⟨.int (g i j),H,I.tok _,⟨_,rfl⟩,q⟩
def uw {f:Value->Value->Sem Value} {g:Int->Int->Int}
  (rule: ∀(i j:Int) (t u:Tok) (s:Shared) (Q:Value->Shared->Prop) (E:Value->Shared->Prop),Q (.int (g i j) s.toks) {s with toks:=s.toks+1}->wpAny (model X.prog X.w) X.A (f (.int i t) (.int j u)) Q E s):
  d2 X f (sR fun i j=> .int (g i j)):=by
 intro pins s σ H x y v u Q I rx ry h;obtain ⟨i,j,rfl,rfl,q⟩:=h;obtain ⟨t,rfl⟩:=rx;obtain ⟨t',rfl⟩:=ry;exact rule i j t t' s _ _ ⟨.int (g i j),H,I.tok _,⟨_,rfl⟩,q⟩
def wG {f:Value->Value->Sem Value} {g:Int->Int->Bool}
  (rule: ∀(i j:Int) (t u:Tok) (s:Shared) (Q:Value->Shared->Prop) (E:Value->Shared->Prop),Q (.bool (g i j)) s->wpAny (model X.prog X.w) X.A (f (.int i t) (.int j u)) Q E s):
  d2 X f (sR fun i j=> .bl (g i j)):=by
 intro pins s σ H x y v u Q I rx ry h;obtain ⟨i,j,rfl,rfl,q⟩:=h;obtain ⟨t,rfl⟩:=rx;obtain ⟨t',rfl⟩:=ry;exact rule i j t t' s _ _ ⟨.bl (g i j),H,I,rfl,q⟩
def xq (i j:Int):Prop:=0<j/\j<1073741824
def vE (i j:Int):Prop:=(-(2 ^ 64)<i/\i<2 ^ 64)\/(-(2 ^ 64)<j/\j<2 ^ 64)
def vE.ok {i j:Int} (h:vE i j):IntMulOk i j:=by
 rcases h with ⟨h1,h2⟩|⟨h1,h2⟩
 ·exact .of_left (intBits_le_64 h1 h2)
 ·exact .of_right (intBits_le_64 h1 h2)
def pI (k:Nat):(0:Int)<=2 ^ k:=by
 rw [two_pow_cast];exact Int.natCast_nonneg _
def yC:d2 X (binaryOp .Add) (sR fun i j=> .int (i+j)):=uw fun _ _ _ _ _ _ _ q=>add_int q
def dH:d2 X (binaryOp .Sub) (sR fun i j=> .int (i - j)):=uw fun _ _ _ _ _ _ _ q=>sub_int q
def fI:d2 X (binaryOp .Mult) (rI vE fun i j=> .int (i*j)):=xM fun _ _ _ _ _ _ _ hc q=>mul_int q hc.ok
def bo:d2 X (binaryOp .FloorDiv) (rI xq fun i j=> .int (i / j)):=xM fun i j _ _ _ _ _ hc q=>by
 have h1:(0:Int)<j:=hc.1;have h2:j<1073741824:=hc.2;exact floordiv_int (by lia) (by rw [Int.fdiv_eq_ediv_of_nonneg i (by lia)];exact q) (.inl (PyProof.noPylong_small (by lia)))
def aX:d2 X (binaryOp .Mod) (rI (fun _ j=>0<j) fun i j=> .int (i % j)):=xM fun i j _ _ _ _ _ hc q=>by
 have h1:(0:Int)<j:=hc;exact mod_int' (by lia) (by rw [Int.fmod_eq_emod_of_nonneg i (by lia)];exact q)
def uq:d2 X (binaryOp .RShift) (rI (fun _ j=>0<=j) fun i j=> .int (i / 2 ^ j.toNat)):=xM fun i j _ _ _ _ _ hc q=>
 rshift_int hc (by rw [Int.fdiv_eq_ediv_of_nonneg i (pI _)];exact q)
def yB:d2 X (binaryOp .BitAnd) (sR fun i j=> .int (Builtin.bitAnd i j)):=uw fun _ _ _ _ _ _ _ q=>and_int q
def xK:d2 X (binaryOp .BitOr) (sR fun i j=> .int (Builtin.bitOr i j)):=uw fun _ _ _ _ _ _ _ q=>or_int q
def jI:d2 X (inplaceOp .Add) (sR fun i j=> .int (i+j)):=uw fun _ _ _ _ _ _ _ q=>iadd_int q
def F3 {f:Value->Sem Value} {g:Int->Int}
  (rule: ∀(i:Int) (t:Tok) (s:Shared) (Q:Value->Shared->Prop) (E:Value->Shared->Prop),Q (.int (g i) s.toks) {s with toks:=s.toks+1}->wpAny (model X.prog X.w) X.A (f (.int i t)) Q E s):
  Fd X f (rU fun i=> .int (g i)):=by
 intro pins s σ H x v Q I rx h;obtain ⟨i,rfl,q⟩:=h;obtain ⟨t,rfl⟩:=rx;exact rule i t s _ _ ⟨.int (g i),H,I.tok _,⟨_,rfl⟩,q⟩
def pH:Fd X (unaryOp .USub) (rU fun i=> .int (-i)):=F3 fun _ _ _ _ _ q=>neg_int q
end
noncomputable def scal:V->V->Bool
 | .non,.non=>true | .non,.int _=>true | .int _,.non=>true | .non,.bl _=>true | .bl _,.non=>true | .non,.str _=>true | .str _,.non=>true
 | .int _,.int _=>true | .bl _,.bl _=>true | .str _,.str _=>true | .byt _,.byt _=>true
 | .int _,.str _=>true | .str _,.int _=>true | .bl _,.str _=>true | .str _,.bl _=>true
 |_,_=>false
def yj:R2:=fun x y H Q=>scal x y=true/\Q (.bl (decide (x=y))) H
def ye:R2:=fun x y H Q=>scal x y=true/\Q (.bl (!decide (x=y))) H
def qT {i j:Int}:decide (V.int i=V.int j)=(i == j):=by
 rw [Bool.eq_iff_iff];simp
def vk {i j:Bool}:decide (V.bl i=V.bl j)=(i == j):=by
 rw [Bool.eq_iff_iff];simp
def qS {i j:Str}:decide (V.str i=V.str j)=(i == j):=by
 rw [Bool.eq_iff_iff];simp
def qU {i j:Array UInt8}:decide (V.byt i=V.byt j)=(i.toList == j.toList):=by
 rw [Bool.eq_iff_iff];cases i;cases j;simp
section
variable {X:Cx} {a b c:Expr} {ta tb tc:TE} {pos:Pos}
def aZ {pins:List (Addr×Obj)} {σ:St} {H:Hp} {s:Shared} {Q:VK} {k k':Bool} (I:Inv X pins σ H s) (q:Q (.bl k) H) (e:k=k'):EP X pins σ Q (.bool k') s:=by
 subst e;exact ⟨.bl k,H,I,rfl,q⟩
def A3:d2 X (compareOp .Eq) yj:=by
 intro pins s σ H x y v u Q I rx ry h;obtain ⟨hs,q⟩:=h;cases x with
 |non=>
  cases rx;cases y with
  |non=>cases ry;exact PySem.EqNone.eq_none_none (aZ I q (by simp))
  |bl j=>cases ry;exact PySem.EqNone.eq_none_bool (aZ I q (by simp))
  |int j=>obtain ⟨t',rfl⟩:=ry;exact PySem.EqNone.eq_none_int (aZ I q (by simp))
  |str j=>obtain ⟨t',rfl⟩:=ry;exact PySem.EqNone.eq_none_str (aZ I q (by simp))
  |_=>exact absurd (show false=true from hs) Bool.false_ne_true
 |bl i=>
  cases rx;cases y with
  |non=>cases ry;exact PySem.EqNone.eq_bool_none (aZ I q (by simp))
  |bl j=>cases ry;exact eq_bool (aZ I q vk)
  |str j=>obtain ⟨t',rfl⟩:=ry;exact PySem.EqMixed.eq_bool_str (aZ I q (by simp))
  |_=>exact absurd (show false=true from hs) Bool.false_ne_true
 |int i=>
  obtain ⟨t,rfl⟩:=rx;cases y with
  |non=>cases ry;exact PySem.EqNone.eq_int_none (aZ I q (by simp))
  |int j=>obtain ⟨t',rfl⟩:=ry;exact eq_int (aZ I q qT)
  |str j=>obtain ⟨t',rfl⟩:=ry;exact PySem.EqMixed.eq_int_str (aZ I q (by simp))
  |_=>exact absurd (show false=true from hs) Bool.false_ne_true
 |str i=>
  obtain ⟨t,rfl⟩:=rx;cases y with
  |non=>cases ry;exact PySem.EqNone.eq_str_none (aZ I q (by simp))
  |bl j=>cases ry;exact PySem.EqMixed.eq_str_bool (aZ I q (by simp))
  |int j=>obtain ⟨t',rfl⟩:=ry;exact PySem.EqMixed.eq_str_int (aZ I q (by simp))
  |str j=>obtain ⟨t',rfl⟩:=ry;exact eq_str (aZ I q qS)
  |_=>exact absurd (show false=true from hs) Bool.false_ne_true
 |byt i=>
  obtain ⟨t,rfl⟩:=rx;cases y with
  |byt j=>obtain ⟨t',rfl⟩:=ry;exact W.eq_bytes (aZ I q qU)
  |_=>exact absurd (show false=true from hs) Bool.false_ne_true
 |_=>cases y<;>exact absurd (show false=true from hs) Bool.false_ne_true
def A2:d2 X (compareOp .NotEq) ye:=by
 intro pins s σ H x y v u Q I rx ry h;obtain ⟨hs,q⟩:=h;cases x with
 |non=>
  cases rx;cases y with
  |non=>cases ry;exact PySem.EqNone.ne_none_none (aZ I q (by simp))
  |bl j=>cases ry;exact PySem.EqNone.ne_none_bool (aZ I q (by simp))
  |int j=>obtain ⟨t',rfl⟩:=ry;exact PySem.EqNone.ne_none_int (aZ I q (by simp))
  |str j=>obtain ⟨t',rfl⟩:=ry;exact PySem.EqNone.ne_none_str (aZ I q (by simp))
  |_=>exact absurd (show false=true from hs) Bool.false_ne_true
 |bl i=>
  cases rx;cases y with
  |non=>cases ry;exact PySem.EqNone.ne_bool_none (aZ I q (by simp))
  |bl j=>cases ry;exact ne_bool (aZ I q (congrArg not vk))
  |str j=>obtain ⟨t',rfl⟩:=ry;exact PySem.EqMixed.ne_bool_str (aZ I q (by simp))
  |_=>exact absurd (show false=true from hs) Bool.false_ne_true
 |int i=>
  obtain ⟨t,rfl⟩:=rx;cases y with
  |non=>cases ry;exact PySem.EqNone.ne_int_none (aZ I q (by simp))
  |int j=>obtain ⟨t',rfl⟩:=ry;exact ne_int (aZ I q (congrArg not qT))
  |str j=>obtain ⟨t',rfl⟩:=ry;exact PySem.EqMixed.ne_int_str (aZ I q (by simp))
  |_=>exact absurd (show false=true from hs) Bool.false_ne_true
 |str i=>
  obtain ⟨t,rfl⟩:=rx;cases y with
  |non=>cases ry;exact PySem.EqNone.ne_str_none (aZ I q (by simp))
  |bl j=>cases ry;exact PySem.EqMixed.ne_str_bool (aZ I q (by simp))
  |int j=>obtain ⟨t',rfl⟩:=ry;exact PySem.EqMixed.ne_str_int (aZ I q (by simp))
  |str j=>obtain ⟨t',rfl⟩:=ry;exact ne_str (aZ I q (congrArg not qS))
  |_=>exact absurd (show false=true from hs) Bool.false_ne_true
 |byt i=>
  obtain ⟨t,rfl⟩:=rx;cases y with
  |byt j=>obtain ⟨t',rfl⟩:=ry;exact W.ne_bytes (aZ I q (congrArg not qU))
  |_=>exact absurd (show false=true from hs) Bool.false_ne_true
 |_=>cases y<;>exact absurd (show false=true from hs) Bool.false_ne_true
def fo:d2 X (compareOp .Lt) (sR fun i j=> .bl (decide (i<j))):=wG fun _ _ _ _ _ _ _ q=>lt_int q
def qJ:d2 X (compareOp .LtE) (sR fun i j=> .bl (decide (i<=j))):=wG fun _ _ _ _ _ _ _ q=>le_int q
def nH:d2 X (compareOp .Gt) (sR fun i j=> .bl (decide (j<i))):=wG fun _ _ _ _ _ _ _ q=>gt_int q
def uv:d2 X (compareOp .GtE) (sR fun i j=> .bl (decide (j<=i))):=wG fun _ _ _ _ _ _ _ q=>ge_int q
def yy:d2 X (compareOp .Is) (fun x y H Q=>y = .non/\Q (.bl (decide (x = .non))) H):=by
 intro pins s σ H x y v u Q I rx ry h;obtain ⟨rfl,q⟩:=h;cases ry;refine is_none_gen (aZ I q ?_);cases x<;>first
  |(cases rx;rfl)
  |(obtain ⟨t,rfl⟩:=rx;rfl)
def wC:d2 X (compareOp .IsNot) (fun x y H Q=>y = .non/\Q (.bl (!decide (x = .non))) H):=by
 intro pins s σ H x y v u Q I rx ry h;obtain ⟨rfl,q⟩:=h;cases ry;refine isnot_none_gen (aZ I q ?_);cases x<;>first
  |(cases rx;rfl)
  |(obtain ⟨t,rfl⟩:=rx;rfl)
def d2.or {f:Value->Value->Sem Value} {r r':R2} (h:d2 X f r) (h':d2 X f r'):d2 X f (fun x y H Q=>r x y H Q\/r' x y H Q):=by
 intro pins s σ H x y v u Q I rx ry q;rcases q with q|q
 ·exact h pins s σ H x y v u Q I rx ry q
 ·exact h' pins s σ H x y v u Q I rx ry q
def nomark (b:Expr) {op:CmpOp} (h:op≠ .In:=by decide) (h2:op≠ .NotIn:=by decide):behindInMarks op b=false:=by
 have e1:(op == CmpOp.In)=false:=by cases op<;>first|rfl|exact absurd rfl h
 have e2:(op == CmpOp.NotIn)=false:=by cases op<;>first|rfl|exact absurd rfl h2
 cases b<;>simp [behindInMarks,e1,e2]
def fj {op:CmpOp} {r:R2} (ho:d2 X (compareOp op) r) (ha:PE X a ta) (hb:PE X b tb) (hm:behindInMarks op b=false):PE X (.Compare a [op] [b] pos) (xx r ta tb):=by
 intro pins s σ H Q I h;exact wpAny_Compare1 (Al ha hb I h fun v u s2 x y H2 I2 rx ry q=>ho pins s2 σ H2 x y v u Q I2 rx ry q) hm
def sV (t:TE):TT:=fun σ H Q=>t σ H fun x H'=> ∃k,x = .bl k/\Q k H'
def aF {op:CmpOp} {r:R2} (ho:d2 X (compareOp op) r) (ha:PE X a ta) (hb:PE X b tb) (hm:behindInMarks op b=false):PT X (.Compare a [op] [b] pos) (sV (xx r ta tb)):=by
 intro pins s σ H Q I h;refine wpAny_isTrue_Compare1 (thn (ha pins s σ H _ I h) fun v s1 ⟨x,H1,I1,r1,q1⟩=>thn (hb pins s1 σ H1 _ I1 q1) fun u s2 ⟨y,H2,I2,r2,q2⟩=>
  thn (ho pins s2 σ H2 x y v u _ I2 r1 r2 q2) fun c s3 ⟨z,H3,I3,r3,k,e,q3⟩=>?_) hm
 subst e;cases r3;exact wpAny_truthy_bool ⟨H3,I3,q3⟩
def pP (r r':R2) (ta tb tc:TE):TE:=fun σ H Q=>ta σ H fun x H1=>tb σ H1 fun y H2=>r x y H2 fun z H3=> ∃k,z = .bl k/\
 (if k=true then tc σ H3 fun w' H4=>r' y w' H4 Q else Q (.bl false) H3)
def uj {op op':CmpOp} {r r':R2} (ho:d2 X (compareOp op) r) (ho':d2 X (compareOp op') r') (ha:PE X a ta) (hb:PE X b tb) (hc:PE X c tc)
  (hm:lastMarks [op,op'] [b,c]=false:=by with_unfolding_all rfl):PE X (.Compare a [op,op'] [b,c] pos) (pP r r' ta tb tc):=by
 intro pins s σ H Q I h;refine Compare_chain (thn (ha pins s σ H _ I h) fun v s1 ⟨x,H1,I1,r1,q1⟩=>chain_link (thn (hb pins s1 σ H1 _ I1 q1) fun u s2 ⟨y,H2,I2,r2,q2⟩=>
  thn (ho pins s2 σ H2 x y v u _ I2 r1 r2 q2) fun d s3 ⟨z,H3,I3,r3,k,e,q3⟩=>?_)) hm
 subst e;cases r3;refine wpAny_truthy_bool ?_;cases k with
 |false=>exact ite_ff ⟨.bl false,H3,I3,rfl,q3⟩
 |true=>exact ite_tt (chain_last (thn (hc pins s3 σ H3 _ I3 q3) fun w' s4 ⟨z',H4,I4,r4,q4⟩=>ho' pins s4 σ H4 y z' u w' Q I4 r2 r4 q4))
def t8 {op op':CmpOp} {r r':R2} (ho:d2 X (compareOp op) r) (ho':d2 X (compareOp op') r') (ha:PE X a ta) (hb:PE X b tb) (hc:PE X c tc)
  (hm:lastMarks [op,op'] [b,c]=false:=by with_unfolding_all rfl):PT X (.Compare a [op,op'] [b,c] pos) (sV (pP r r' ta tb tc)):=by
 intro pins s σ H Q I h;refine isTrue_chain (thn (ha pins s σ H _ I h) fun v s1 ⟨x,H1,I1,r1,q1⟩=>test_link (thn (hb pins s1 σ H1 _ I1 q1) fun u s2 ⟨y,H2,I2,r2,q2⟩=>
  thn (ho pins s2 σ H2 x y v u _ I2 r1 r2 q2) fun d s3 ⟨z,H3,I3,r3,k,e,q3⟩=>?_)) hm
 subst e;cases r3;refine wpAny_truthy_bool ?_;cases k with
 |false=>
  obtain ⟨k',e',q'⟩:=q3;cases e';exact ite_ff ⟨H3,I3,q'⟩
 |true=>
  refine ite_tt (test_last (thn (hc pins s3 σ H3 _ I3 q3) fun w' s4 ⟨z',H4,I4,r4,q4⟩=>thn (ho' pins s4 σ H4 y z' u w' _ I4 r2 r4 q4) fun d' s5 ⟨z2,H5,I5,r5,k2,e2,q5⟩=>?_));subst e2;cases r5;exact wpAny_truthy_bool ⟨H5,I5,q5⟩
def ma:(sizeLine:Nat)<2 ^ 63:=by rw [sizeLine_eq];decide
def p4:d2 X (binaryOp .Add) (fun x y H Q=> ∃i j,x = .str i/\y = .str j/\i.length+j.length<=sizeLine/\Q (.str (i++j)) H):=by
 intro pins s σ H x y v u Q I rx ry h;obtain ⟨i,j,rfl,rfl,hz,q⟩:=h;obtain ⟨t,rfl⟩:=rx;obtain ⟨t',rfl⟩:=ry;exact add_str (fun t' tk=>⟨.str (i++j),H,I.tok _,⟨_,rfl⟩,q⟩) hz
def vals1 {x:V} {us:List Value} (r:Vals [x] us): ∃u,us= [u]/\RelV x u:=by
 cases r with
 |cons r1 r2=>cases r2;exact ⟨_,rfl,r1⟩
def vals2 {x y:V} {us:List Value} (r:Vals [x,y] us): ∃u w',us= [u,w']/\RelV x u/\RelV y w':=by
 cases r with
 |cons r1 r2=>
  cases r2 with
  |cons r3 r4=>cases r4;exact ⟨_,_,rfl,r1,r3⟩
def vt:bc X (.builtin "abs") (fun xs H Q=> ∃i,xs= [.int i]/\Q (.int (if i<0 then -i else i)) H):=by
 intro pins s σ H xs us Q I r h;obtain ⟨i,rfl,q⟩:=h;obtain ⟨u,rfl,t,rfl⟩:=vals1 r;exact call_abs_int fun u tk=>⟨.int (if i<0 then -i else i),H,I.tok _,⟨_,rfl⟩,q⟩
def sM (hc:X.calm=true):bc X (.builtin "max") (fun xs H Q=> ∃i j,xs= [.int i,.int j]/\Q (.int (if j > i then j else i)) H):=by
 intro pins s σ H xs us Q I r h;obtain ⟨i,j,rfl,q⟩:=h;obtain ⟨u,w',rfl,⟨t,rfl⟩,⟨t',rfl⟩⟩:=vals2 r;refine max_two_ints (I.ok.hd hc) fun h' tk k=>⟨_,H,I.kept k,?_,q⟩;by_cases hj:j > i
 ·rw [if_pos hj,if_pos hj];exact ⟨_,rfl⟩
 ·rw [if_neg hj,if_neg hj];exact ⟨_,rfl⟩
def sL (hc:X.calm=true):bc X (.builtin "min") (fun xs H Q=> ∃i j,xs= [.int i,.int j]/\Q (.int (if j<i then j else i)) H):=by
 intro pins s σ H xs us Q I r h;obtain ⟨i,j,rfl,q⟩:=h;obtain ⟨u,w',rfl,⟨t,rfl⟩,⟨t',rfl⟩⟩:=vals2 r;refine min_two_ints (I.ok.hd hc) fun h' tk k=>⟨_,H,I.kept k,?_,q⟩;by_cases hj:j<i
 ·rw [if_pos hj,if_pos hj];exact ⟨_,rfl⟩
 ·rw [if_neg hj,if_neg hj];exact ⟨_,rfl⟩
end
structure qm (h:Heap) (x dx C:Addr) (mA:Str->Option Value):Prop where
 obj:h.get? x=some (W.instObj C dx)
 ns:h.Ns1 dx mA
 ne:dx≠x
def sq {h:Heap} {dx:Addr} {mA:Str->Option Value} (n:h.Ns1 dx mA): ∃od,h.get? dx=some od/\∀name,W.lookIn name od=some (mA name):=by
 obtain ⟨o,es,ep,ho,hd,hk,_,hm⟩:=n;refine ⟨o,ho,fun name=>?_⟩;have e:=hm name;unfold nsFind findBy at e;rw [<-Array.find?_toList] at e;unfold W.lookIn;rw [hd];dsimp only;split
 ·
  rename_i y q;rw [q] at e;exact congrArg some e
 ·
  rename_i q;rw [q] at e;have a:es.toList.any (·.refKey)=false:=by
   rw [List.any_eq_false];intro y hy;obtain ⟨z,t,hkey⟩:=hk y (Array.mem_toList_iff.mp hy);simp [DictEntry.refKey,hkey]
  have a': ¬es.toList.any (·.refKey)=true:=by rw [a];exact Bool.false_ne_true
  rw [if_neg a'];exact congrArg some e
def qm.look {h:Heap} {x dx C:Addr} {mA:Str->Option Value} (I:qm h x dx C mA): ∃od,W.InstAt h x (W.instObj C dx) C (some od)/\∀name,W.lookIn name od=some (mA name):=
 let ⟨od,ho,hl⟩:=sq I.ns
 ⟨od,⟨I.obj,rfl,rfl,ho⟩,hl⟩
section
variable {prog:Program} {w:World} {A:Around} {E:Value->Shared->Prop} {s:Shared} {K:W.Frag} {x dx C f:Addr} {mA:Str->Option Value} {name:Str} {v:Value}
def get_map {expr:Bool} {Q:Value->Shared->Prop} (X:K.In s.heap) (I:qm s.heap x dx C mA) (hg:W.plainGet K C name=true) (hh:W.hasDictIn K C=true)
  (ha:W.findIn K (.ref C) name=some none) (hv:mA name=some v) (hv':W.handedIn v=true) (h:Q v {s with toks:=s.toks+1}):
  wpAny (model prog w) A (getAttr (.ref x) name expr) Q E s:=by
 obtain ⟨od,J,hl⟩:=I.look;exact W.get_value X J (W.plainGet_of hg).1 (W.findObj_own hh ha rfl (by rw [hl,hv])) hv' h
def uX {pl:Sem Bool} {Q:Value×List Value->Shared->Prop} (X:K.In s.heap) (I:qm s.heap x dx C mA) (hg:W.plainGet K C name=true)
  (hf:W.findIn K (.ref C) name=some (some (.ref f))) (ht:W.isFn K (.ref f)=true) (hv:mA name=none) (h:Q (.ref f,[.ref x]) s):
  wpAny (model prog w) A (getMethod (.ref x) name pl) Q E s:=by
 obtain ⟨od,J,hl⟩:=I.look;exact W.method_fn X J (W.plainGet_of hg).1 (W.plainGet_of hg).2 hf (beq_iff_eq.mp ht) (by show (W.lookIn name od).map (·.isSome)=some false;rw [hl,hv];rfl) h
def vP {ns:List Str} {Q:Unit->Shared->Prop} (X:K.In s.heap) (I:qm s.heap x dx C mA)
  (hs:W.findIn K (.ref C) "__setattr__" = some (some (.builtin "object.__setattr__"))) (hp:W.plainOver K C=true) (ht:W.takerIn K C name=some none) (hh:W.hasDictIn K C=true)
  (hw:PySem.Within mA ns) (hsz:ns.length<=sizeLine)
  (h: ∀h',qm h' x dx C (fun y=>if y=name then some v else mA y)->Heap.SameBut dx s.heap h'->Q () {s with heap:=h',toks:=s.toks+2}):
  wpAny (model prog w) A (setAttr (.ref x) name v) Q E s:=by
 obtain ⟨od,J,hl⟩:=I.look;refine W.set_plain X J hs (W.osa_open (s:={s with toks:=s.toks+1}) (r:=none) X J hp ht fun b=>?_);obtain ⟨cd,hc,hd'⟩:=W.any_some hh;have hx:s.heap.get? x=some ⟨.ref C,some dx,.plain,#[]⟩:=I.obj;refine wpAny_bind (wpAny_pure (wpAny_bind (wpAny_bind (wpAny_loadPart hx (wpAny_bind (W.Looks.here (s:={s with toks:=s.toks+1}) (W.looks_clsIn X hc) ?_))))));rw [hd'];refine wpAny_pure (a:=some dx) (wpAny_bind (wpAny_pure (wpAny_bind ?_)));refine wpAny_nsSet1 (s:={s with toks:=s.toks+1}) I.ns fun h' hn2 hs2=>?_;obtain ⟨oD,esD,epD,hoD,hdD,hcD⟩:=hn2.count (PySem.Within.cons name v hw);refine wpAny_bind (wpAny_lookBehind hoD (by rw [hdD];exact pastItsLine_dict (Nat.le_trans hcD (by rw [List.length_cons];lia))) ?_);exact wpAny_pure (h _ ⟨(hs2.2 _ (Ne.symm I.ne)).trans I.obj,hn2,I.ne⟩ hs2)
def uz {R:Result->Shared->Prop} {vs:List Value} {kw:List (Str×Value)} (X:K.In s.heap) (hm:W.makesIn K C=true)
  (hi:W.findIn K (.ref C) "__init__" = some (some (.ref f))) (hf:W.typeIn K (.ref f)=some (.type "function"))
  (
   h:codeAny (model prog w) (A.under (.builtin "type.__call__" ⟨.ref C::vs,kw⟩)) (.call (.ref f) ⟨.ref (s.heap.objs.size+1)::vs,kw⟩) (W.InitBack (s.heap.objs.size+1) R)
   {s with heap:=(s.heap.push W.emptyDict).push (W.instObj C s.heap.objs.size)}):
  codeAny (model prog w) A (.call (.ref C) ⟨vs,kw⟩) R s:=by
 obtain ⟨hh,g,d,t,os⟩:=s;exact W.make_core (W.makes_of X hm) (W.looks_findIn X hi) (fun self=>W.bind_fn X self hf) (.inl rfl) h
end
noncomputable def bp (f:Str) (v:V):List (Str×V)->List (Str×V)
 | []=>[(f,v)]
 |(g,x)::r=>if g=f then (g,v)::r else (g,x)::bp f v r
def kN (f g:Str) (v:V): ∀fs:List (Str×V),(bp f v fs).lookup g=if g=f then some v else fs.lookup g
 | []=>by
  show List.lookup g [(f,v)]=_;by_cases h:g=f
  ·
   have hb:(g == f)=true:=beq_iff_eq.mpr h;simp only [List.lookup,hb,if_pos h]
  ·
   have hb:(g == f)=false:=beq_eq_false_iff_ne.mpr h;simp only [List.lookup,hb,if_neg h]
 |(k,x)::r=>by
  have ih:=kN f g v r;rw [show bp f v ((k,x)::r)=(if k=f then (k,v)::r else (k,x)::bp f v r) from rfl];by_cases hk:k=f
  ·
   rw [if_pos hk];by_cases h:g=k
   ·
    have hb:(g == k)=true:=beq_iff_eq.mpr h;simp only [List.lookup,hb,if_pos (h.trans hk)]
   ·
    have hb:(g == k)=false:=beq_eq_false_iff_ne.mpr h;simp only [List.lookup,hb,if_neg (fun e:g=f=>h (e.trans hk.symm))]
  ·
   rw [if_neg hk];by_cases h:g=k
   ·
    have hb:(g == k)=true:=beq_iff_eq.mpr h;simp only [List.lookup,hb,if_neg (fun e:g=f=>hk (h.symm.trans e))]
   ·
    have hb:(g == k)=false:=beq_eq_false_iff_ne.mpr h;simp only [List.lookup,hb];exact ih
def kh (f:Str) (v:V): ∀fs:List (Str×V),f∈(bp f v fs).map (·.1)/\∀g,g∈fs.map (·.1)->g∈(bp f v fs).map (·.1)
 | []=>⟨by simp [bp],fun g h=>by simp at h⟩
 |(k,x)::r=>by
  obtain ⟨i1,i2⟩:=kh f v r;rw [show bp f v ((k,x)::r)=(if k=f then (k,v)::r else (k,x)::bp f v r) from rfl];by_cases hk:k=f
  ·
   rw [if_pos hk];subst hk;exact ⟨by simp,fun g h=>by simpa using h⟩
  ·
   rw [if_neg hk];refine ⟨?_,fun g h=>?_⟩
   ·
    rw [List.map_cons];exact List.mem_cons_of_mem _ i1
   ·
    rw [List.map_cons] at h⊢;rcases List.mem_cons.mp h with e|e
    ·exact List.mem_cons.mpr (.inl e)
    ·exact List.mem_cons_of_mem _ (i2 g e)
def kO (f:Str) (v:V): ∀fs:List (Str×V),(bp f v fs).length<=fs.length+1
 | []=>by simp [bp]
 |(k,x)::r=>by
  have ih:=kO f v r;rw [show bp f v ((k,x)::r)=(if k=f then (k,v)::r else (k,x)::bp f v r) from rfl];by_cases hk:k=f
  ·rw [if_pos hk,List.length_cons,List.length_cons];lia
  ·rw [if_neg hk,List.length_cons,List.length_cons];lia
def iU.some_of {v:V} {o:Option Value} (r:iU (some v) o): ∃u,o=some u/\RelV v u:=by
 cases o with
 |none=>exact (show False from r).elim
 |some u=>exact ⟨u,rfl,r⟩
def iU.none_of {o:Option Value} (r:iU none o):o=none:=by
 cases o with
 |none=>rfl
 |some u=>exact (show False from r).elim
def sE {v:V} {u:Value} (r:RelV v u):W.handedIn u=true:=by
 cases v with
 |non=>cases (show u=Value.none from r);rfl
 |bl b=>cases (show u=Value.bool b from r);rfl
 |int i=>obtain ⟨t,e⟩:=(show∃t,u=Value.int i t from r);cases e;rfl
 |str x=>obtain ⟨t,e⟩:=(show∃t,u=Value.str x t from r);cases e;rfl
 |byt b=>obtain ⟨t,e⟩:=(show∃t,u=Value.bytes b t from r);cases e;rfl
 |flt b=>obtain ⟨t,e⟩:=(show∃t,u=Value.float b t from r);cases e;rfl
 |ref a=>cases (show u=Value.ref a from r);rfl
 |ty n=>cases (show u=Value.type n from r);rfl
section
variable {P:Program} {w:World} {H H':Hp} {h h':Heap} {a C dx:Addr} {fs fs':List (Str×V)}
def lI (hok:jy P w H h) (e:H a=some (.ins C dx fs)): ∃mA,qm h a dx C mA/\(∀f,iU (fs.lookup f) (mA f))/\PySem.Within mA (fs.map (·.1))/\fs.length<=1000/\H dx=some (.own a):=by
 obtain ⟨d,z,ne,ob,mA,n,r,q⟩:=(show bB P w H h a (.ins C dx fs) from hok a _ e);exact ⟨mA,⟨ob,n,ne⟩,r,q,z,d⟩
end
structure Ao (K:W.Frag) (C:Addr):Prop where
 pg:W.plainGet K C Str.empty=true
 hd:W.hasDictIn K C=true
 po:W.plainOver K C=true
 sa:W.findIn K (.ref C) "__setattr__" = some (some (.builtin "object.__setattr__"))
def Ao.get {K:W.Frag} {C:Addr} (c:Ao K C) (f:Str):W.plainGet K C f=true:=c.pg
def bf (K:W.Frag) (C:Addr) (f:Str):Prop:=W.findIn K (.ref C) f=some none
def bf.taker {K:W.Frag} {C:Addr} {f:Str} (n:bf K C f):W.takerIn K C f=some none:=by
 unfold W.takerIn;rw [show W.findIn K (.ref C) f=some none from n];rfl
structure Meth (K:W.Frag) (C:Addr) (m:Str) (f:Addr):Prop where
 at_:W.findIn K (.ref C) m=some (some (.ref f))
 fn:W.isFn K (.ref f)=true
 kp:W.keepIn K (.ref f)=true
section
variable {X:Cx} {pins:List (Addr×Obj)} {σ:St} {H:Hp} {s:Shared} {a C dx:Addr} {fs:List (Str×V)} {f:Str} {v:V} {A:Around} {E:Value->Shared->Prop}
def mj {b:Bool} {Q:Value->Shared->Prop} (I:Inv X pins σ H s) (e:H a=some (.ins C dx fs)) (c:Ao X.K C) (n:bf X.K C f) (l:fs.lookup f=some v)
  (h: ∀u s',Inv X pins σ H s'->RelV v u->Q u s'):wpAny (model X.prog X.w) A (getAttr (.ref a) f b) Q E s:=by
 obtain ⟨mA,O,r,_,_,_⟩:=lI I.hok e;obtain ⟨u,hu,ru⟩:=iU.some_of (v:=v) (o:=mA f) (by rw [<-l];exact r f);exact get_map I.kU O (c.get f) c.hd n hu (sE ru) (h u _ (I.tok _) ru)
def mi {m:Str} {g:Addr} {pl:Sem Bool} {Q:Value×List Value->Shared->Prop} (I:Inv X pins σ H s) (e:H a=some (.ins C dx fs)) (c:Ao X.K C) (k:Meth X.K C m g) (l:fs.lookup m=none)
  (h:Q (.ref g,[.ref a]) s):wpAny (model X.prog X.w) A (getMethod (.ref a) m pl) Q E s:=by
 obtain ⟨mA,O,r,_,_,_⟩:=lI I.hok e;have hn:mA m=none:=iU.none_of (by rw [<-l];exact r m);exact uX I.kU O (c.get m) k.at_ k.fn hn h
def lR {y:V} {u:Value} {Q:Unit->Shared->Prop} (I:Inv X pins σ H s) (e:H a=some (.ins C dx fs)) (c:Ao X.K C) (n:bf X.K C f) (hl:fs.length<1000) (ry:RelV y u)
  (h: ∀s',Inv X pins σ (upd H a (.ins C dx (bp f y fs))) s'->Q () s'):wpAny (model X.prog X.w) A (setAttr (.ref a) f u) Q E s:=by
 obtain ⟨mA,O,r,wi,_,ho⟩:=lI I.hok e;have hz:(fs.map (·.1)).length<=sizeLine:=by rw [List.length_map,sizeLine_eq];lia
 refine vP I.kU O c.sa c.po n.taker c.hd wi hz fun h' O' sb=>h _ ?_;have hd: ∃o,h'.get? dx=some o:=let ⟨o,_,_,e',_⟩:=O'.ns;⟨o,e'⟩;refine I.write (x:=a) (e:=dx) (by rw [e];exact True.intro) (.inr ho) (fun b q hb z=>(sb.2 b hb).trans z) hd ?_;refine ⟨by rw [aj O.ne];exact ho,?_,O.ne,O'.obj,_,O'.ns,fun g=>?_,fun g hg=>?_⟩
 ·have:=kO f y fs;lia
 ·
  show iU ((bp f y fs).lookup g) (if g=f then some u else mA g);rw [kN];by_cases q:g=f
  ·rw [if_pos q,if_pos q];exact ry
  ·rw [if_neg q,if_neg q];exact r g
 ·
  by_cases q:g=f
  ·rw [q];exact (kh f y fs).1
  ·
   refine (kh f y fs).2 g (wi g fun z=>hg ?_);show (if g=f then some u else mA g)=none;rw [if_neg q];exact z
def Inv.made (I:Inv X pins σ H s):Inv X pins σ (upd (upd H s.heap.objs.size (.own (s.heap.objs.size+1))) (s.heap.objs.size+1) (.ins C s.heap.objs.size []))
  {s with heap:=(s.heap.push W.emptyDict).push (W.instObj C s.heap.objs.size)}:=by
 have e1:(s.heap.push W.emptyDict).get? s.heap.objs.size=some W.emptyDict:=Heap.get?_push_size s.heap rfl;have e2:((s.heap.push W.emptyDict).push (W.instObj C s.heap.objs.size)).get? (s.heap.objs.size+1)=some (W.instObj C s.heap.objs.size):=by
  have:=Heap.get?_push_size (s.heap.push W.emptyDict) (o:=W.instObj C s.heap.objs.size) rfl;rwa [Heap.size_push] at this
 have e3:(s.heap.push W.emptyDict).Ns s.heap.objs.size (fun _=>none):=⟨W.emptyDict,#[],_,e1,rfl,(fun e he=>absurd he (by simp)),fun _=>rfl⟩;have I1:=I.laid (a:=s.heap.objs.size) (o:= .own (s.heap.objs.size+1)) (h':=s.heap.push W.emptyDict) (t':=s.toks) (fun b u q=>Heap.get?_push_of_some _ q) (Nat.le_refl _) ⟨_,e1⟩;refine I1.laid (a:=s.heap.objs.size+1) (o:= .ins C s.heap.objs.size []) (t':=s.toks) (fun b u q=>Heap.get?_push_of_some _ q) (Nat.le_of_eq (Heap.size_push _ _)) ?_;have ne:s.heap.objs.size≠s.heap.objs.size+1:=Nat.ne_of_lt (Nat.lt_succ_self _);refine ⟨by rw [aj ne,au],Nat.zero_le _,ne,e2,fun _=>none,(Heap.Ns1.of_empty e3).at fun o q=>Heap.get?_push_of_some _ q,fun _=>True.intro,fun y hy=>absurd rfl hy⟩
def xi {prog:Program} {w:World} {env:Env} {e:Expr} {f:Str} {pos:Pos} {s:Shared} {Q:Value->Shared->Prop} (hb:attributeBase e f env (eval e env)=eval e env)
  (h:wpAny (model prog w) A (eval e env) (fun o s₁=>wpAny (model prog w) A (getAttr o f true) Q E s₁) E s):wpAny (model prog w) A (eval (.Attribute e f pos) env) Q E s:=
 Attribute_any_ h (by rw [arm_eval_Attribute,hb])
end
section
variable {X:Cx} {o e value:Expr} {f:Str} {pos pos' tpos:Pos} {ta tv:TE}
end
section
variable {X:Cx} {pins:List (Addr×Obj)} {σ:St} {H:Hp} {s:Shared} {A:Around} {E:Value->Shared->Prop} {Q:Value->Shared->Prop} {c:Value} {b:Bool}
inductive jX (K:W.Frag) (H:Hp):V->Value->Prop where
 |non:jX K H .non (.type "NoneType")
 |bl (x:Bool):jX K H (.bl x) (.type "bool")
 |int (i:Int):jX K H (.int i) (.type "int")
 |str (x:Str):jX K H (.str x) (.type "str")
 |flt (x:UInt64):jX K H (.flt x) (.type "float")
 |lst {a:Addr} {xs:List V} (e:H a=some (.lst xs)):jX K H (.ref a) (.type "list")
 |frz {a:Addr} {o:Obj} {xs:List V} (e:H a=some (.frz o (.lst xs))):jX K H (.ref a) (.type "list")
 |tup {a:Addr} {xs:List V} (e:H a=some (.tup xs)):jX K H (.ref a) (.type "tuple")
 |dK {a:Addr} {kvs:List (Key×V)} (e:H a=some (.dK kvs)):jX K H (.ref a) (.type "dict")
 |dT {a:Addr} {kvs:List (List Key×V)} (e:H a=some (.dT kvs)):jX K H (.ref a) (.type "dict")
 |
   ins {a C dx:Addr} {fs:List (Str×V)} (e:H a=some (.ins C dx fs)) (cl:Ao K C) (ha:W.findIn K (.ref C) "__class__" = some (some (.builtin "object.__class__")))
   (hn:W.specialIn K (.builtin "object.__class__") "__get__" = some (some (.builtin "getset_descriptor.__get__"))) (htk:W.takesIn K (.builtin "object.__class__")=some true)
   (hm:W.mroIn K C (.type "object")=some true):jX K H (.ref a) (.ref C)
def sy {x:V} {u t:Value} (I:Inv X pins σ H s) (rx:RelV x u) (ty:jX X.K H x t) (e:W.kitOne X.K t c=some b) (h: ∀tk,Q (.bool b) {s with toks:=tk}):
  wpAny (model X.prog X.w) A (call (.builtin "isinstance") [u,c]) Q E s:=by
 cases ty with
 |non=>cases (show u=Value.none from rx);exact W.kia_one W.kitx_none I.kU True.intro e (fun z=>nomatch z) h
 |bl y=>cases (show u=Value.bool y from rx);exact W.kia_one W.kitx_bool I.kU True.intro e (fun z=>nomatch z) h
 |int i=>obtain ⟨t,q⟩:=(show∃t,u=Value.int i t from rx);cases q;exact W.kia_one W.kitx_int I.kU True.intro e (fun z=>nomatch z) h
 |str y=>obtain ⟨t,q⟩:=(show∃t,u=Value.str y t from rx);cases q;exact W.kia_one W.kitx_str I.kU True.intro e (fun z=>nomatch z) h
 |flt y=>obtain ⟨t,q⟩:=(show∃t,u=Value.float y t from rx);cases q;exact W.kia_one W.kitx_float I.kU True.intro e (fun z=>nomatch z) h
 | @lst a xs ea=>
  cases (show u=Value.ref a from rx);obtain ⟨_,_,n,_,h1⟩:=(show bB X.prog X.w H s.heap a (.lst xs) from I.hok a _ ea);exact W.kia_one W.kitx_list I.kU ⟨_,h1,rfl⟩ e (fun z=>nomatch z) h
 | @frz a ob xs ea=>
  cases (show u=Value.ref a from rx);obtain ⟨_,_,_,n,_,h1⟩:=(show bB X.prog X.w H s.heap a (.frz ob (.lst xs)) from I.hok a _ ea);exact W.kia_one W.kitx_list I.kU ⟨_,h1,rfl⟩ e (fun z=>nomatch z) h
 | @tup a xs ea=>
  cases (show u=Value.ref a from rx);obtain ⟨_,_,_,p⟩:=(show bB X.prog X.w H s.heap a (.tup xs) from I.hok a _ ea);obtain ⟨o,h1,h2,_⟩:=p;exact W.kia_one W.kitx_tuple I.kU ⟨o,h1,h2⟩ e (fun z=>nomatch z) h
 | @dK a kvs ea=>
  cases (show u=Value.ref a from rx);obtain ⟨_,_,vs,_,p⟩:=(show bB X.prog X.w H s.heap a (.dK kvs) from I.hok a _ ea);obtain ⟨o,es,ep,h1,h2,_⟩:=p;exact W.kia_one W.kitx_dict I.kU ⟨o,h1,h2.1⟩ e (fun z=>nomatch z) h
 | @dT a kvs ea=>
  cases (show u=Value.ref a from rx);obtain ⟨_,_,xs,_,o,es,ep,h1,h2,_⟩:=(show bB X.prog X.w H s.heap a (.dT kvs) from I.hok a _ ea);exact W.kia_one W.kitx_dict I.kU ⟨o,h1,h2.1⟩ e (fun z=>nomatch z) h
 | @ins a C dx fs ea cl ha hn htk hm=>
  cases (show u=Value.ref a from rx);obtain ⟨mA,O,_⟩:=lI I.hok ea;obtain ⟨od,J,_⟩:=O.look;exact W.kia_one (W.kitx_own (cl.get _) cl.hd ha hn htk hm) I.kU J e (fun z=>nomatch z) h
end
structure c_ (k:Nat) (A:Around):Prop where
 hd:A.handled=none
 dp:A.depth+3*k+5<recursionLimit
 un:A.units+16*k+200<cLine
def c_.mono {j k:Nat} {A:Around} (r:c_ k A) (h:j<=k):c_ j A:=⟨r.hd,by have:=r.dp;lia,by have:=r.un;lia⟩
def c_.deeper {k:Nat} {A:Around} (r:c_ (k+1) A) (env:Env):c_ k (A.deeper env):=
 ⟨r.hd,by have:=r.dp;show A.depth+1+3*k+5<_;lia,by have:=r.un;show A.units+3+16*k+200<_;lia⟩
def p7 {A:Around} {C:Addr} {us:List Value} {kw:List (Str×Value)}:(A.under (.builtin "type.__call__" ⟨.ref C::us,kw⟩)).depth=A.depth+1:=by
 first|rfl|simp [Around.under,Code.weight,Code.isCreation,Code.isGuard,Code.isCaller,Code.frames,Code.isFrame,guardIds]
def p6 {A:Around} {C:Addr} {us:List Value} {kw:List (Str×Value)}:(A.under (.builtin "type.__call__" ⟨.ref C::us,kw⟩)).units=A.units+1:=by
 first|rfl|simp [Around.under,Code.cUnits,Code.frames,Code.isFrame]
def c_.make {k:Nat} {A:Around} (r:c_ (k+1) A) (C:Addr) (us:List Value) (kw:List (Str×Value)):c_ k (A.under (.builtin "type.__call__" ⟨.ref C::us,kw⟩)):=
 ⟨r.hd,by have:=r.dp;rw [p7];lia,by have:=r.un;rw [p6];lia⟩
def c_.depth {k:Nat} {A:Around} (r:c_ k A):A.depth<recursionLimit:=by have:=r.dp;lia
def c_.units {k:Nat} {A:Around} (r:c_ k A):A.units+64<cLine:=by have:=r.un;lia
def sW:TA:=fun _ H Q=>Q [] H
def oO (ta:TE) (tr:TA):TA:=fun σ H Q=>ta σ H fun x H1=>tr σ H1 fun xs H2=>Q (x::xs) H2
section
variable {X:Cx} {e:Expr} {es:List Expr} {te:TE} {t:TA} {pos:Pos}
def av:PA X [] sW:=fun _ _ _ _ H Q I h=>Calls.spliced_nil ⟨[],H,I,.nil,h⟩
def qG (ha:PE X e te) (hr:PA X es t) (hs:starEach (e::es) X.env=(false,eval e X.env)::starEach es X.env:=by rfl):PA X (e::es) (oO te t):=by
 intro pos pins s σ H Q I h;rw [hs];show wpAny _ _ (spliced ((false,eval e X.env)::backTo pos (starEach es X.env))) _ _ s;refine Calls.spliced_cons (thn (ha pins s σ H _ I h) fun u s1 ⟨x,H1,I1,r1,q1⟩=>?_);exact thn (hr pos pins s1 σ H1 _ I1 q1) fun us s2 ⟨xs,H2,I2,r2,q2⟩=>⟨x::xs,H2,I2,.cons r1 r2,q2⟩
def Ar (t:TA):TE:=fun σ H Q=>t σ H fun xs H1=>xs.length<=sizeLine/\∀p,H1 p=none->Q (.ref p) (upd H1 p (.tup xs))
def Aw (t:TA):TE:=fun σ H Q=>t σ H fun xs H1=>xs.length<=sizeLine/\∀p,H1 p=none->Q (.ref p) (upd H1 p (.lst xs))
def cY {x1} (h:PA X es t):PE X (.Tuple es x1 pos) (Ar t):=by
 intro pins s σ H Q I hq;refine wpAny_Tuple_spliced (thn (h pos pins s σ H _ I hq) fun us s1 ⟨xs,H1,I1,r,z,q⟩=>⟨by rw [<-r.length];exact z,?_⟩);have hf:H1 s1.heap.objs.size=none:=I1.hok.fresh (Nat.le_refl _);refine ⟨.ref s1.heap.objs.size,upd H1 s1.heap.objs.size (.tup xs),I1.laid (t':=s1.toks) (fun b u e=>Heap.get?_push_of_some _ e) (Nat.le_refl _) ?_,rfl,q _ hf⟩;exact ⟨z,us,r,⟨_,Heap.get?_push_size _ rfl,rfl,_,rfl⟩⟩
def j6 (h:PA X es t):PE X (.List es pos) (Aw t):=by
 intro pins s σ H Q I hq;refine wpAny_List_spliced (thn (h pos pins s σ H _ I hq) fun us s1 ⟨xs,H1,I1,r,z,q⟩=>⟨by rw [<-r.length];exact z,?_⟩);have hf:H1 s1.heap.objs.size=none:=I1.hok.fresh (Nat.le_refl _);refine ⟨.ref s1.heap.objs.size,upd H1 s1.heap.objs.size (.lst xs),I1.laid (t':=s1.toks) (fun b u e=>Heap.get?_push_of_some _ e) (Nat.le_refl _) ?_,rfl,q _ hf⟩;exact ⟨z,us,0,r,Heap.get?_push_size _ rfl⟩
end
noncomputable abbrev Sp:=List V->Hp->VK->XK->Prop
noncomputable abbrev lN:=List Env->Hp->Shared->XK->Value->Shared->Prop
structure qo (P:Program) (w:World) (K:W.Frag) (mg:Str->Option Value) (base:Heap) (A:Around) (outer:List Env) (s:Shared) (H:Hp):Prop where
 frames:A.frames=some outer
 mod:Mod K mg base
 bs: ∀b o,base.get? b=some o->s.heap.get? b=some o/\H b=none
 bsz:base.objs.size<=s.heap.objs.size
 funs:s.heap.FunFrames base outer
 frf: ∀b∈frs outer,H b=none
 hok:jy P w H s.heap
 bare:AllBare s.gens
def CE (outer:List Env) (P:Program) (w:World) (H:Hp) (s:Shared) (Q:VK) (u:Value) (s':Shared):Prop:=
 ∃v H',s'.os=s.os/\AllBare s'.gens/\Un (frs outer) [] H H' s.heap s'.heap/\jy P w H' s'.heap/\RelV v u/\Q v H'
def CR (CX:lN) (outer:List Env) (P:Program) (w:World) (H:Hp) (s:Shared) (Q:VK) (E:XK) (r:Result) (s':Shared):Prop:=
 match r with
 | .ok (.ret u)=>CE outer P w H s Q u s'
 | .ok _=>False
 | .error e=>CX outer H s E e s'
structure kL (P:Program) (w:World) (K:W.Frag) (mg:Str->Option Value) (base:Heap) (CX:lN) (k:Nat) (f:Addr) (fd:FuncData) (ps:List Str) (sp:Sp):Prop where
 len: ∀vs H Q E,sp vs H Q E->vs.length=ps.length
 run: ∀(A:Around) (outer:List Env) (s:Shared) (H:Hp) (args:Args) (us:List Value) (vs:List V) (Q:VK) (E:XK),c_ k A->qo P w K mg base A outer s H->BindsTo s fd args (ps.zip us)->Vals vs us->sp vs H Q E->
  codeAny (model P w) A (.call (.ref f) args) (CR CX outer P w H s Q E) s
def qo.make {P:Program} {w:World} {K:W.Frag} {mg:Str->Option Value} {base:Heap} {A:Around} {outer:List Env} {s:Shared} {H:Hp} (e:qo P w K mg base A outer s H) (C:Addr) (us:List Value) (kw:List (Str×Value)):
  qo P w K mg base (A.under (.builtin "type.__call__" ⟨.ref C::us,kw⟩)) outer s H:=⟨by first|exact e.frames|(simpa [Around.under,Code.envs,Code.isFrame,pushEnvs] using e.frames),e.mod,e.bs,e.bsz,e.funs,e.frf,e.hok,e.bare⟩
section
variable {X:Cx} {pins:List (Addr×Obj)} {σ:St} {H:Hp} {s s':Shared}
def Inv.Dr (I:Inv X pins σ H s):qo X.prog X.w X.K X.mg X.base X.A X.stack s H:=
 ⟨I.ok.frames,I.ok.mod,I.bs,Nat.le_trans I.ok.bsz I.sz,I.stack,I.qt,I.hok,I.bare⟩
def Inv.after {Q:VK} {u:Value} (I:Inv X pins σ H s) (h:CE X.stack X.prog X.w H s Q u s'):EP X pins σ Q u s':=by
 obtain ⟨v,H',os,bare,un,hok,r,q⟩:=h;obtain ⟨hh,g,d,t,os'⟩:=s';obtain rfl:os'=s.os:=os;exact ⟨v,H',I.call (h':=hh) (g':=g) (d':=d) (t':=t) (ch:=[]) un hok bare (fun b z=>absurd z (by simp)),r,q⟩
end
def qr (sp:Sp) (dvs:List V) (E:XK) (t:TA):TE:=fun σ H Q=>t σ H fun vs H1=>sp (vs++dvs) H1 Q E
def sX (C:Addr) (sp:Sp) (dvs:List V) (E:XK) (t:TA):TE:=fun σ H Q=>t σ H fun vs H1=> ∀x dx,H1 x=none->H1 dx=none->dx≠x->
 sp (.ref x::(vs++dvs)) (upd (upd H1 dx (.own x)) x (.ins C dx [])) (fun v H2=>v = .non/\Q (.ref x) H2) E
def Binds (K:W.Frag) (fd:FuncData) (ps:List Str) (ds:List Value):Prop:=
 ∀(s:Shared) (us:List Value),K.In s.heap->(us++ds).length=ps.length->BindsTo s fd ⟨us,[]⟩ (ps.zip (us++ds))
def Binds.all {K:W.Frag} {fd:FuncData} {ps:List Str} (h: ∀us:List Value,us.length=ps.length->bindArgs fd ⟨us,[]⟩=pure (ps.zip us)):Binds K fd ps []:=fun s us _ hl=>by
 rw [List.append_nil] at hl⊢;exact .of_eq (h us hl)
def Passes (CX:lN) (X:Cx) (E:XK):Prop:= ∀(pins:List (Addr×Obj)) (σ:St) (H:Hp) (s:Shared) (e:Value) (s':Shared),Inv X pins σ H s->CX X.stack H s E e s'->X.xe e s'
section
variable {X:Cx} {CX:lN} {k:Nat} {f C:Addr} {fd:FuncData} {ps:List Str} {sp:Sp} {dvs:List V} {ds:List Value} {E:XK} {x m:Str} {p pos apos:Pos} {e o:Expr} {es:List Expr} {ta:TE} {t:TA}
def pR {pins:List (Addr×Obj)} {σ:St} {H:Hp} {s:Shared} {Q:VK} {us:List Value} {vs:List V} (F:kL X.prog X.w X.K X.mg X.base CX k f fd ps sp) (hr:c_ k X.A) (hb:Binds X.K fd ps ds) (hd:Vals dvs ds) (hx:Passes CX X E)
  (I:Inv X pins σ H s) (r:Vals vs us) (h:sp (vs++dvs) H Q E):wpAny (model X.prog X.w) X.A (call (.ref f) us) (EP X pins σ Q) X.xe s:=by
 have r2:Vals (vs++dvs) (us++ds):=r.append hd;have hl:(us++ds).length=ps.length:=by rw [<-r2.length];exact F.len _ _ _ _ h
 refine wpAny_call (codeAny_mono (F.run X.A X.stack s H ⟨us,[]⟩ (us++ds) (vs++dvs) Q E hr I.Dr (hb s us I.kU hl) r2 h) fun r s' hq=>?_);cases r with
 |error e=>exact hx pins σ H s e s' I hq
 |ok fl=>
  cases fl with
  |ret u=>exact I.after hq
  |next=>exact False.elim hq
  |brk=>exact False.elim hq
  |cont=>exact False.elim hq
def wA (F:kL X.prog X.w X.K X.mg X.base CX k f fd ps sp) (hr:c_ k X.A) (hg:Gl X x) (hm:X.mg x=some (.ref f)) (hk:W.keepIn X.K (.ref f)=true) (hb:Binds X.K fd ps ds) (hd:Vals dvs ds) (hx:Passes CX X E)
  (ha:PA X (e::es) t) (hdb:(x == ("__debug__" : Str))=false:=by decide) (he:starEach (e::es) X.env=(false,eval e X.env)::starEach es X.env:=by rfl) (hpl:(backTo pos (starEach es X.env)).any (·.1)=false:=by rfl):
  PE X (.Call (.Name x p) (e::es) [] pos) (qr sp dvs E t):=by
 intro pins s σ H Q I h;refine wpAny_Call_Name_kw (oj I hg hm ?_ hdb);refine W.callWith_K (h₀:=X.base) I.ok.mod.kin hk (thn (ha pos pins s σ H _ I h) fun us s1 ⟨vs,H1,I1,r,q⟩=>⟨I1.kU,?_⟩) he hpl;exact pR F hr hb hd hx I1 r q
structure Mk (K:W.Frag) (C f:Addr):Prop where
 makes:W.makesIn K C=true
 init:W.findIn K (.ref C) "__init__" = some (some (.ref f))
 fn:W.isFn K (.ref f)=true
 kp:W.keepIn K (.ref C)=true
def tE {pins:List (Addr×Obj)} {σ:St} {H:Hp} {s:Shared} {Q:VK} {us:List Value} {vs:List V} (M:Mk X.K C f) (F:kL X.prog X.w X.K X.mg X.base CX k f fd ps sp) (hr:c_ (k+1) X.A) (hb:Binds X.K fd ps ds) (hd:Vals dvs ds)
  (hx:Passes CX X E) (I:Inv X pins σ H s) (r:Vals vs us)
  (h: ∀x dx,H x=none->H dx=none->dx≠x->sp (.ref x::(vs++dvs)) (upd (upd H dx (.own x)) x (.ins C dx [])) (fun v H2=>v = .non/\Q (.ref x) H2) E):
  wpAny (model X.prog X.w) X.A (call (.ref C) us) (EP X pins σ Q) X.xe s:=by
 have hq:=h (s.heap.objs.size+1) s.heap.objs.size (I.hok.fresh (Nat.le_succ _)) (I.hok.fresh (Nat.le_refl _)) (Nat.ne_of_lt (Nat.lt_succ_self _));have I2:=Inv.made (C:=C) I;have r2:Vals (V.ref (s.heap.objs.size+1)::(vs++dvs)) (Value.ref (s.heap.objs.size+1)::(us++ds)):= .cons rfl (r.append hd);have hl:(Value.ref (s.heap.objs.size+1)::us++ds).length=ps.length:=by
  have e:=r2.length;rw [F.len _ _ _ _ hq] at e;exact e.symm
 refine wpAny_call (uz (f:=f) I.kU M.makes M.init (beq_iff_eq.mp M.fn) (codeAny_mono (F.run _ X.stack _ _ ⟨Value.ref (s.heap.objs.size+1)::us,[]⟩ (Value.ref (s.heap.objs.size+1)::(us++ds)) _ _ E (hr.make C us [])
  (I2.Dr.make C us []) (hb _ (Value.ref (s.heap.objs.size+1)::us) I2.kU hl) r2 hq) fun r s' hq'=>?_))
 cases r with
 |error e=>exact hx pins σ _ _ e s' I2 hq'
 |ok fl=>
  cases fl with
  |ret u=>
   obtain ⟨v,H',I3,rv,ev,q3⟩:=I2.after hq';subst ev;exact ⟨rv,⟨V.ref (s.heap.objs.size+1),H',I3,rfl,q3⟩⟩
  |next=>exact False.elim hq'
  |brk=>exact False.elim hq'
  |cont=>exact False.elim hq'
def wy (M:Mk X.K C f) (F:kL X.prog X.w X.K X.mg X.base CX k f fd ps sp) (hr:c_ (k+1) X.A) (hg:Gl X x) (hm:X.mg x=some (.ref C)) (hb:Binds X.K fd ps ds) (hd:Vals dvs ds) (hx:Passes CX X E)
  (ha:PA X (e::es) t) (hdb:(x == ("__debug__" : Str))=false:=by decide) (he:starEach (e::es) X.env=(false,eval e X.env)::starEach es X.env:=by rfl) (hpl:(backTo pos (starEach es X.env)).any (·.1)=false:=by rfl):
  PE X (.Call (.Name x p) (e::es) [] pos) (sX C sp dvs E t):=by
 intro pins s σ H Q I h;refine wpAny_Call_Name_kw (oj I hg hm ?_ hdb);refine W.callWith_K (h₀:=X.base) I.ok.mod.kin M.kp (thn (ha pos pins s σ H _ I h) fun us s1 ⟨vs,H1,I1,r,q⟩=>⟨I1.kU,?_⟩) he hpl;exact tE M F hr hb hd hx I1 r q
end
section
variable {X:Cx} {CX:lN} {k:Nat} {f C:Addr} {fd:FuncData} {ps ks:List Str} {sp:Sp} {E:XK} {x m:Str} {p pos apos kpos:Pos} {e o:Expr} {es:List Expr} {kws:List Keyword} {te ta:TE} {t tk:TA} {nm:Option Str}
variable {g:List Value->List Value->List Value} {gV:List V->List V->List V}
end
structure aD (N P:List Str) (sc:Scope):Prop where
 kind:sc.kind = .function
 co:sc.isCoroutine=false
 gen:sc.isGenerator=false
 nd:N.Nodup
 pre:N.take P.length=P
 par: ∀x∈P,sc.names.lookup x=some .local\/sc.names.lookup x=some .cell
 nofree: ∀y∈sc.names,y.2≠ .free
def nO {kindOf:Str->Option NameKind} {x:Str}: ∀{binds:List (Str×Value)} {m:Str->Option Value},(∀v,(x,v) ∉ binds)->bindL kindOf binds m x=m x
 | [],_,_=>rfl
 |(n,v)::r,m,h=>by
  unfold bindL;rw [nO fun w hw=>h w (List.mem_cons_of_mem _ hw)];split
  ·
   have:x≠n:=by rintro rfl;exact h v List.mem_cons_self
   simp [this]
  ·rfl
def nQ {kindOf:Str->Option NameKind} {x:Str}: ∀{binds:List (Str×Value)} {m:Str->Option Value},(∀v,(x,v) ∉ binds)->bindC kindOf binds m x=m x
 | [],_,_=>rfl
 |(n,v)::r,m,h=>by
  unfold bindC;rw [nQ fun w hw=>h w (List.mem_cons_of_mem _ hw)];split
  ·rfl
  ·
   have:x≠n:=by rintro rfl;exact h v List.mem_cons_self
   simp [this]
def nP {kindOf:Str->Option NameKind} {x:Str} {v:Value}: ∀{P:List Str} {vs:List Value} {i:Nat} {m:Str->Option Value},P.Nodup->P[i]?=some x->vs[i]?=some v->kindOf x=some .local->
  bindL kindOf (P.zip vs) m x=some v
 | [],_,_,_,_,h,_,_=>by simp at h
 |_::_,[],_,_,_,_,h,_=>by simp at h
 |p::P,w::vs,0,m,nd,h1,h2,hk=>by
  simp at h1 h2;subst h1;subst h2;show bindL kindOf ((p,w)::P.zip vs) m p=_;unfold bindL;rw [nO fun v hv=>(List.nodup_cons.mp nd).1 (List.of_mem_zip hv).1,if_pos hk];simp
 |p::P,w::vs,i+1,m,nd,h1,h2,hk=>by
  show bindL kindOf ((p,w)::P.zip vs) m x=_;unfold bindL;exact nP (i:=i) (List.nodup_cons.mp nd).2 (by simpa using h1) (by simpa using h2) hk
def nR {kindOf:Str->Option NameKind} {x:Str} {v:Value}: ∀{P:List Str} {vs:List Value} {i:Nat} {m:Str->Option Value},P.Nodup->P[i]?=some x->vs[i]?=some v->kindOf x≠some .local->
  bindC kindOf (P.zip vs) m x=some v
 | [],_,_,_,_,h,_,_=>by simp at h
 |_::_,[],_,_,_,_,h,_=>by simp at h
 |p::P,w::vs,0,m,nd,h1,h2,hk=>by
  simp at h1 h2;subst h1;subst h2;show bindC kindOf ((p,w)::P.zip vs) m p=_;unfold bindC;rw [nQ fun v hv=>(List.nodup_cons.mp nd).1 (List.of_mem_zip hv).1,if_neg hk];simp
 |p::P,w::vs,i+1,m,nd,h1,h2,hk=>by
  show bindC kindOf ((p,w)::P.zip vs) m x=_;unfold bindC;exact nR (i:=i) (List.nodup_cons.mp nd).2 (by simpa using h1) (by simpa using h2) hk
noncomputable def start (N:List Str) (vs:List V):St:=vs.map some++List.replicate (N.length - vs.length) none
noncomputable def ph (CX:lN) (P:Program) (w:World) (K:W.Frag) (mg:Str->Option Value) (base:Heap) (N:List Str) (qual:Str) (scope:Scope) (f:Addr) (cd:Value) (A:Around) (outer:List Env) (s:Shared) (H:Hp) (E:XK):Cx where
 prog:=P
 w:=w
 K:=K
 mg:=mg
 base:=base
 A:=A.deeper (envOfC qual scope s.heap.objs.size f cd)
 N:=N
 s₀:=s
 H₀:=H
 env:=envOfC qual scope s.heap.objs.size f cd
 outer:=outer
 stack:=envOfC qual scope s.heap.objs.size f cd::outer
 ex:=[]
 calm:=true
 fn:=fun _=>true
 pn:=[]
 xe:=fun e s'=>wpAny (model P w) (A.deeper (envOfC qual scope s.heap.objs.size f cd)) (leaving (envOfC qual scope s.heap.objs.size f cd) e) (fun _ s''=>CX outer H s E e s'') (fun e' s''=>CX outer H s E e' s'') s'
def pj {sc:Scope} {n:Nat} {x:Str} (h:sc.names.lookup x=some .cell): ∃c,(cellsFrom n sc.names []).lookup x=some c:=by
 have q:=W.cellsFrom_some sc.names n [] (.inl h);exact Option.isSome_iff_exists.mp q
def sC {CX:lN} {P:Program} {w:World} {K:W.Frag} {mg:Str->Option Value} {base:Heap} {N ps:List Str} {qual:Str} {scope:Scope} {f:Addr} {cd:Value} {A:Around} {outer:List Env} {s s1:Shared} {H:Hp} {E:XK} {us:List Value} {vs:List V}
  (S:aD N ps scope) (hd:A.handled=none) (e0:qo P w K mg base A outer s H) (hl:vs.length=ps.length) (r:Vals vs us)
  (x:InCallC s s.heap.objs.size (bindL (envOfC qual scope s.heap.objs.size f cd).kindOf (ps.zip us) fun _=>none) (cellsFrom (s.heap.objs.size+1) scope.names []) (bindC (envOfC qual scope s.heap.objs.size f cd).kindOf (ps.zip us) fun _=>none) s1):
  Inv (ph CX P w K mg base N qual scope f cd A outer s H E) [] (start N vs) H s1:=by
 have hpl:ps.length<=N.length:=by have:=congrArg List.length S.pre;rw [List.length_take] at this;lia
 obtain ⟨h1,tk,rfl,hk⟩:=x.done;have noA: ∀b:Addr,b ∉ (ph CX P w K mg base N qual scope f cd A outer s H E).ex:=fun b z=>absurd (show b∈([]:List Addr) from z) (by simp);refine ⟨⟨e0.mod,S.kind,rfl,rfl,Nat.le_refl _,fun y z c h1 h2=>?_,fun y hy=>?_,fun y c _ h=>?_,fun _=>hd,Around.frames_deeper e0.frames,.inr ⟨rfl,rfl⟩,fun b z=>absurd z (noA b),e0.bs,e0.bsz,fun b _ _=>noA b,fun b z=>absurd z (noA b),e0.funs,e0.frf⟩,
  rfl,e0.bare,Un.kept hk,⟨_,x.toInCall.ns,fun i y v h1 h2 h3=>?_⟩,fun y c h=>⟨_,x.cell y c h⟩,e0.hok.fresh (Nat.le_refl _),fun y c h=>?_,fun p hp=>absurd (show p∈([]:List (Addr×Obj)) from hp) (by simp),e0.hok.kept hk,?_⟩
 ·exact name_of_addr x.apart (PySem.mem_of_lookup h1) (PySem.mem_of_lookup h2)
 ·
  have hy:scope.names.lookup y=some .cell\/scope.names.lookup y=some .free:=hy;rcases hy with hy|hy
  ·exact pj hy
  ·exact absurd rfl (S.nofree _ (PySem.mem_of_lookup hy))
 ·exact Nat.le_of_lt (x.above y c (PySem.mem_of_lookup h))
 ·have hi:i<vs.length:=by
   unfold start at h2;by_cases hi:i<vs.length
   ·exact hi
   ·
    rw [List.getElem?_append_right (by simpa using hi)] at h2;rw [List.getElem?_replicate] at h2;split at h2<;>cases h2
  have ha:vs[i]?=some v:=by
   unfold start at h2;rw [List.getElem?_append_left (by simpa using hi),List.getElem?_map] at h2;cases e:vs[i]? with
   |none=>rw [e] at h2;cases h2
   |some a=>rw [e] at h2;cases h2;rfl
  obtain ⟨u,hu,rv⟩:=r.get ha;have hp:ps[i]?=some y:=by
   rw [<-S.pre,List.getElem?_take_of_lt (by lia)];exact h1
  have ndP:ps.Nodup:=by rw [<-S.pre];exact S.nd.sublist (List.take_sublist _ _)
  refine ⟨u,rv,?_⟩;rcases S.par y (List.mem_of_getElem? hp) with k|k
  ·exact .inl ⟨k,nP ndP hp hu k⟩
  ·
   obtain ⟨c,e⟩:=pj (n:=s.heap.objs.size+1) k;refine .inr ⟨.inl k,c,e,?_⟩;have q:=x.cell y c e;rw [nR ndP hp hu (by show scope.names.lookup y≠_;rw [k];decide)] at q;exact q
 ·exact e0.hok.fresh (Nat.le_of_lt (x.above y c (PySem.mem_of_lookup h)))
 ·
  unfold start;show _=N.length;rw [List.length_append,List.length_map,List.length_replicate];lia
def xV {CX:lN} {P:Program} {w:World} {K:W.Frag} {mg:Str->Option Value} {base:Heap} {k:Nat} {f:Addr} {name qual:Str} {params:Arguments} {body:List Stmt} {scope:Scope} {dV kV doc pm cdv ct oc:Value} {an od:Option Addr}
  {osl:Array (Option Value)} {N ps:List Str} {sp:Sp} (lk:K.lookup f=some ⟨oc,od,.func (W.fnOf name qual params body scope dV kV doc pm an cdv ct),osl⟩) (hcd:W.codeIn K cdv qual=true) (S:aD N ps scope)
  (len: ∀vs H Q E,sp vs H Q E->vs.length=ps.length)
  (
   hbody: ∀(A:Around) (outer:List Env) (s:Shared) (H:Hp) (vs:List V) (Q:VK) (E:XK),c_ k (A.deeper (envOfC qual scope s.heap.objs.size f cdv))->sp vs H Q E->
   ∃t,pF (ph CX P w K mg base N qual scope f cdv A outer s H E) body t/\t {nx:=fun _ H'=>Q .non H',rt:=Q} (start N vs) H):
  kL P w K mg base CX (k+1) f (W.fnOf name qual params body scope dV kV doc pm an cdv ct) ps sp:=by
 refine ⟨len,fun A outer s H args us vs Q E hr e0 hb r hsp=>?_⟩;have hl:=len _ _ _ _ hsp;have KX:K.In s.heap:=e0.mod.kin.keeps fun b o e=>(e0.bs b o e).1;have lim:s.heap.NoLimit:=e0.mod.nolimit.keeps fun b o e=>(e0.bs b o e).1;have hkind: ∀y∈ps.zip us,scope.names.lookup y.1=some .local\/(scope.names.lookup y.1=some .cell/\((cellsFrom (s.heap.objs.size+1) scope.names []).lookup y.1).isSome=true):=fun ⟨n,v⟩ hy=>by
  rcases S.par n (List.of_mem_zip hy).1 with q|q
  ·exact .inl q
  ·exact .inr ⟨q,W.cellsFrom_some _ _ _ (.inl q)⟩
 refine codeAny_call_function hr.depth (KX _ _ lk) rfl S.co S.gen rfl (W.codeRec_of KX hcd) (hb _ _ _ _ ?_);refine wpAny_newFunctionEnv_cells S.kind hkind fun env he s1 x=>?_;subst he;refine ⟨lim.keeps x.toInCall.keep,codeAny_func ?_⟩;obtain ⟨t,ht,hq⟩:=hbody A outer s H vs Q E (hr.deeper _) hsp;have I:Inv (ph CX P w K mg base N qual scope f cdv A outer s H E) [] (start N vs) H s1:=sC S hr.hd e0 hl r x;refine wpAny_mono (ht [] s1 (start N vs) H _ I hq) (fun fl s' hs=>?_) fun e s' hs=>hs;have fin: ∀{σ':St} {H':Hp} {v:V} {u:Value},Inv (ph CX P w K mg base N qual scope f cdv A outer s H E) [] σ' H' s'->RelV v u->Q v H'->CE outer P w H s Q u s':=
  fun {σ' H' v u} J rv q=>⟨v,H',J.os,J.bare,J.base,J.hok,rv,q⟩
 cases fl with
 |ret u=>
  obtain ⟨v,σ',H',J,rv,q⟩:=hs;exact fin J rv q
 |next=>
  obtain ⟨σ',H',J,q⟩:=hs;exact fin (v:=V.non) (u:=Value.none) J rfl q
 |brk=>
  obtain ⟨_,_,_,q⟩:=hs;exact False.elim q
 |cont=>
  obtain ⟨_,_,_,q⟩:=hs;exact False.elim q
section
variable {X:Cx} {x:Str} {p pos:Pos} {e:Expr} {es:List Expr} {t:TA} {id T:String} {r:List V->Hp->VK->Prop}
def AA (r:List V->Hp->VK->Prop) (t:TA):TE:=fun σ H Q=>t σ H fun vs H1=>r vs H1 Q
def uk (hc:bc X (.builtin id) r) (hg:Gl X x) (hm:X.mg x=none) (hv:bootBuiltins x=some (.builtin id)) (ha:PA X (e::es) t) (hn:x≠ "__name__" :=by decide) (hdb:(x == ("__debug__" : Str))=false:=by decide)
  (he:starEach (e::es) X.env=(false,eval e X.env)::starEach es X.env:=by rfl) (hpl:(backTo pos (starEach es X.env)).any (·.1)=false:=by rfl):PE X (.Call (.Name x p) (e::es) [] pos) (AA r t):=by
 intro pins s σ H Q I h;refine wpAny_Call_Name_kw (kg I hg hm hv ?_ hn hdb);exact PyProof.Rows.callWith_builtin1 (thn (ha pos pins s σ H _ I h) fun us s1 ⟨vs,H1,I1,r1,q1⟩=>hc pins s1 σ H1 vs us Q I1 r1 q1) he hpl
def r9 (hc:bc X (.type T) r) (hg:Gl X x) (hm:X.mg x=none) (hv:bootBuiltins x=some (.type T)) (ha:PA X (e::es) t) (hn:x≠ "__name__" :=by decide) (hdb:(x == ("__debug__" : Str))=false:=by decide)
  (he:starEach (e::es) X.env=(false,eval e X.env)::starEach es X.env:=by rfl) (hpl:(backTo pos (starEach es X.env)).any (·.1)=false:=by rfl):PE X (.Call (.Name x p) (e::es) [] pos) (AA r t):=by
 intro pins s σ H Q I h;refine wpAny_Call_Name_kw (kg I hg hm hv ?_ hn hdb);exact PyProof.Rows.callWith_type1 (thn (ha pos pins s σ H _ I h) fun us s1 ⟨vs,H1,I1,r1,q1⟩=>hc pins s1 σ H1 vs us Q I1 r1 q1) he hpl
end
end L2
namespace HT
open PySem PyProof.Rows
section
open PySem.SeqAt
open PySem.AutoSeq1 (wpAny_loadPart')
open PySem.MeetsSeq PySem.MeetsSeq2 PySem.MeetsSeq3
end
section
variable {prog:Program} {w:World} {A:Around} {E:Value->Shared->Prop} {s:Shared}
def xf {t b:Addr} {vs ws:List Value} {Q:Value->Shared->Prop} (ht:IsTup s.heap t vs.toArray) (hb:IsTup s.heap b ws.toArray) (hv:vs≠[])
  (h1:ws= []->Q (.ref t) s) (h2:ws≠[]->Q (.ref s.heap.objs.size) {s with heap:=s.heap.push {cls:= .type "tuple",data:= .seq (vs++ws).toArray}})
  (hsz:vs.length+ws.length<=sizeLine):wpAny (model prog w) A (binaryOp .Add (.ref t) (.ref b)) Q E s:=by
 obtain ⟨⟨cls,dd,data,sl⟩,ho,hc,n,hd⟩:=id ht;obtain ⟨⟨cls2,dd2,data2,sl2⟩,ho2,hc2,n2,hd2⟩:=id hb;simp only at hc hd hc2 hd2;subst hc hd hc2 hd2;have e:vs.toArray++ws.toArray=(vs++ws).toArray:=by simp
 by_cases hw:ws= []
 ·exact concat_meets ⟨_,ho,rfl⟩ ⟨_,ho2,rfl⟩ noFill_tuple_add seq_tuple_add PySem.F.slot_tuple_add PySem.F.entry_tuple_add (PySem.F.args_tuple_add_2 _ _)
   (tuple_addW1 t b vs.toArray ws.toArray n n2 dd dd2 sl sl2 (by simpa using hv) (by simp [hw])) ⟨ho,ho2,h1 hw⟩
 ·refine concat_meets ⟨_,ho,rfl⟩ ⟨_,ho2,rfl⟩ noFill_tuple_add seq_tuple_add PySem.F.slot_tuple_add PySem.F.entry_tuple_add (PySem.F.args_tuple_add_2 _ _)
   (tuple_addW2 t b vs.toArray ws.toArray n n2 dd dd2 sl sl2 (by simpa using hv) (by simpa using hw) (by rw [List.size_toArray,List.size_toArray];exact hsz)) ⟨ho,ho2,?_⟩
  rw [e];exact h2 hw
noncomputable def dP (n d:Nat):Option Int->Nat
 |none=>d
 |some v=>if v<0 then (v+(n:Int)).toNat else min v.toNat n
def yb (n d:Nat) (hd:d<=n) (o:Option Int):dP n d o<=n:=by
 cases o with
 |none=>exact hd
 |some v=>
  show (if v<0 then (v+(n:Int)).toNat else min v.toNat n)<=n;by_cases hv:v<0
  ·rw [if_pos hv];lia
  ·rw [if_neg hv];exact Nat.min_le_right _ _
def qZ (v:Int) (n d:Nat):(if v<0 then max (v+(n:Int)) 0 else min v (n:Int))=((dP n d (some v):Nat):Int):=by
 show (if v<0 then max (v+(n:Int)) 0 else min v (n:Int))=(((if v<0 then (v+(n:Int)).toNat else min v.toNat n):Nat):Int);by_cases hv:v<0
 ·simp only [if_pos hv];lia
 ·simp only [if_neg hv];lia
def qk (lo hi:Option Int) (n:Nat):Builtin.Slice.sliceAdjust lo hi 1 (n:Int)=(((dP n 0 lo:Nat):Int),((dP n n hi:Nat):Int)):=by
 have h1: ¬((1:Int)<0):=by lia
 unfold Builtin.Slice.sliceAdjust;simp only [h1,if_false];refine Prod.ext ?_ ?_
 ·
  cases lo with
  |none=>rfl
  |some v=>exact qZ v n 0
 ·
  cases hi with
  |none=>rfl
  |some v=>exact qZ v n n
def pY (i j:Nat):Builtin.Slice.slicePlaces (i:Int) (j:Int) 1=j - i:=by
 unfold Builtin.Slice.slicePlaces;have h1:(1:Int) > 0:=by lia
 simp only [h1,if_true,Int.ediv_one];split<;>lia
def lQ {v:Value} {o:Option Int} {Q:Option Int->Shared->Prop} (p:IsPart v o) (h:Q o s):wpAny (model prog w) A (Builtin.Slice.slicePartIndex v) Q E s:=by
 cases p with
 |none=>exact slicePart_none h
 |int i t=>exact slicePart_int h
def j0 {sl:Addr} {vl vu:Value} {lo hi:Option Int} {n:Nat} {Q:Int×Int×Nat->Shared->Prop} (hs:s.heap.IsSliceOf sl vl vu .none) (pl:IsPart vl lo) (pu:IsPart vu hi)
  (h:Q (((dP n 0 lo:Nat):Int),1,dP n n hi - dP n 0 lo) s):wpAny (model prog w) A (Builtin.Slice.sliceApplied (.ref sl) (pure (n:Int))) Q E s:=by
 obtain ⟨os,hos,hcs,hds⟩:=id hs;unfold Builtin.Slice.sliceApplied Builtin.Slice.sliceFields;refine wpAny_bind (wpAny_bind (wpAny_field hos hds (x:=vl) rfl (wpAny_bind (wpAny_field hos hds (x:=vu) rfl (wpAny_bind (wpAny_field hos hds (x:= .none) rfl (wpAny_pure ?_)))))));refine wpAny_bind (slicePart_none ?_);show wpAny _ _ (if ((1:Int) == 0)=true then _ else _) _ _ s;rw [if_neg (by decide)];refine wpAny_bind (lQ pl (wpAny_bind (lQ pu (wpAny_bind (wpAny_pure ?_)))));show wpAny _ _ (match Builtin.Slice.sliceAdjust lo hi 1 (n:Int) with|(lo,hi)=>pure (lo,(1:Int),Builtin.Slice.slicePlaces lo hi 1)) _ _ s
 rw [qk lo hi n];show wpAny _ _ (pure (((dP n 0 lo:Nat):Int),(1:Int),Builtin.Slice.slicePlaces ((dP n 0 lo:Nat):Int) ((dP n n hi:Nat):Int) 1)) _ _ s;rw [pY];exact wpAny_pure h
def t9 (xs:Array Value) (i k:Nat):((List.range k).filterMap fun (m:Nat)=>xs[((i:Int)+(m:Int)*1).toNat]?).toArray=((xs.toList.drop i).take k).toArray:=by
 have e:(fun (m:Nat)=>xs[((i:Int)+(m:Int)*1).toNat]?)=fun m=>xs[i+m]?:=by
  funext m;have:((i:Int)+(m:Int)*1).toNat=i+m:=by lia
  rw [this]
 rw [e];have:=pick_run xs i k;rw [List.filterMap_map] at this;have e2:((fun x=>xs[x]?)∘fun x=>i+x)=fun m=>xs[i+m]?:=rfl;rw [e2] at this;rw [this]
def jK {t sl:Addr} {items:Array Value} {vl vu:Value} {lo hi:Option Int} {Q:Value->Shared->Prop} (ht:IsTup s.heap t items) (hs:s.heap.IsSliceOf sl vl vu .none) (pl:IsPart vl lo) (pu:IsPart vu hi)
  (hw: ¬(dP items.size 0 lo=0/\dP items.size items.size hi=items.size))
  (h:Q (.ref s.heap.objs.size) {s with heap:=s.heap.push {cls:= .type "tuple",data:= .seq ((items.toList.drop (dP items.size 0 lo)).take (dP items.size items.size hi - dP items.size 0 lo)).toArray}})
  (hsz:items.size<=sizeLine):wpAny (model prog w) A (getItem (.ref t) (.ref sl)) Q E s:=by
 have htake:sizeOk (.seq ((items.toList.drop (dP items.size 0 lo)).take (dP items.size items.size hi - dP items.size 0 lo)).toArray):=by
  show ((items.toList.drop (dP items.size 0 lo)).take (dP items.size items.size hi - dP items.size 0 lo)).toArray.size<=sizeLine;rw [List.size_toArray,List.length_take,List.length_drop,Array.length_toList];lia
 have hj:dP items.size items.size hi<=items.size:=yb _ _ (Nat.le_refl _) hi;obtain ⟨os,hos,hcs,hds⟩:=id hs;have hTs:s.TypeIs (.ref sl) "slice" :=⟨os,hos,hcs⟩;unfold getItem
 try with_reducible refine wpAny_holding ?_
 first|refine wpAny_bind (wpAny_pure ?_)|skip
 refine wpAny_bind (wpAny_sequenceKey ht.typeIs (by decide) ?_);refine wpAny_bind (wpAny_callSpecial?_slot (name:=Str.ofString "__getitem__") ht.typeIs PyProof.Rows.slot_tuple_getitem
  (wpAny_call_entry PyProof.Rows.slot_tuple_getitem ht.typeIs entry_tuple_getitem ?_ (args_tuple_getitem _ _)))
 show wpAny _ _ (Builtin.Tuple.tupleItemsOf (.ref t) >>= _) _ _ s;refine wpAny_bind (tupleItemsOf_ ht ?_);refine wpAny_bind (wpAny_typeOf hTs ?_);rw [if_pos (by decide)];refine wpAny_bind (j0 hs pl pu ?_);have hno: ¬((((dP items.size 0 lo:Nat):Int) == 0&&(1:Int) == 1&&(dP items.size items.size hi - dP items.size 0 lo) == items.size)=true):=by
  intro q;rw [Bool.and_eq_true,Bool.and_eq_true] at q;have q1:((dP items.size 0 lo:Nat):Int)=0:=eq_of_beq q.1.1;have q2:dP items.size items.size hi - dP items.size 0 lo=items.size:=eq_of_beq q.2;exact hw ⟨by lia,by lia⟩
 show wpAny _ _ (if (((dP items.size 0 lo:Nat):Int) == 0&&(1:Int) == 1&&(dP items.size items.size hi - dP items.size 0 lo) == items.size)=true then _ else _) _ _ s;rw [if_neg hno,t9]
 first
  |exact wpAny_bind (m:=Builtin.Tuple.tupleExact _) (wpAny_newObj_type (wpAny_pure ⟨_,rfl,wpAny_pure h⟩) htake)
  |exact wpAny_bind (m:=Builtin.Tuple.tupleExact _) (wpAny_newObj_type (wpAny_bind (wpAny_pure (wpAny_pure ⟨_,rfl,wpAny_pure h⟩))) htake)
  |exact wpAny_bind (wpAny_bind (m:=Builtin.Tuple.tupleExact _) (wpAny_newObj_type (wpAny_pure (wpAny_pure ⟨_,rfl,wpAny_pure h⟩)) htake))
  |exact wpAny_bind (wpAny_bind (m:=Builtin.Tuple.tupleExact _) (wpAny_newObj_type (wpAny_pure ⟨_,rfl,wpAny_pure h⟩) htake))
end
end HT
namespace L2
open PySem PySem.Spec PyProof.Rows
noncomputable abbrev TO:=St->Hp->(Option Int->Hp->Prop)->Prop
def PO (X:Cx) (e:Option Expr) (t:TO):Prop:=
 ∀(pins:List (Addr×Obj)) (s:Shared) (σ:St) (H:Hp) (Q:Option Int->Hp->Prop),Inv X pins σ H s->t σ H Q->
  wpAny (model X.prog X.w) X.A (evalPart e X.env) (fun u s'=> ∃o H',Inv X pins σ H' s'/\IsPart u o/\Q o H') X.xe s
def vK:TO:=fun _ H Q=>Q none H
def xv (t:TE):TO:=fun σ H Q=>t σ H fun x H1=> ∃i,x = .int i/\Q (some i) H1
section
variable {X:Cx} {e:Expr} {te:TE} {lo hi:Option Expr} {tl th:TO} {pos p2:Pos}
def qF (h:PE X e te):PO X (some e) (xv te):=by
 intro pins s σ H Q I hw;rw [evalPart_some];refine thn (h pins s σ H _ I hw) fun u s1 ⟨x,H1,I1,r1,q1⟩=>?_;obtain ⟨i,rfl,q⟩:=q1;obtain ⟨t,rfl⟩:=r1;exact ⟨some i,H1,I1,.int i t,q⟩
def ra (X:Cx) (r:V->Option Int->Option Int->Hp->VK->Prop):Prop:=
 ∀(pins:List (Addr×Obj)) (s:Shared) (σ:St) (H:Hp) (x:V) (v vl vu:Value) (lo hi:Option Int) (sl:Addr) (Q:VK),Inv X pins σ H s->RelV x v->s.heap.IsSliceOf sl vl vu .none->IsPart vl lo->IsPart vu hi->r x lo hi H Q->
  ∃T id,typeLookup (.type T) "__getitem__" = pure (some (.builtin id))/\s.TypeIs v T/\wpAny (model X.prog X.w) X.A (getItem v (.ref sl)) (EP X pins σ Q) X.xe s
def ra.or {r r':V->Option Int->Option Int->Hp->VK->Prop} (h:ra X r) (h':ra X r'):ra X (fun x lo hi H Q=>r x lo hi H Q\/r' x lo hi H Q):=by
 intro pins s σ H x v vl vu lo hi sl Q I rx hs pl pu q;rcases q with q|q
 ·exact h pins s σ H x v vl vu lo hi sl Q I rx hs pl pu q
 ·exact h' pins s σ H x v vl vu lo hi sl Q I rx hs pl pu q
def Fg (r:V->Option Int->Option Int->Hp->VK->Prop) (te:TE) (tl th:TO):TE:=fun σ H Q=>te σ H fun x H1=>tl σ H1 fun l H2=>th σ H2 fun u H3=>r x l u H3 Q
def uf {r:V->Option Int->Option Int->Hp->VK->Prop} (hr:ra X r) (he:PE X e te) (hl:PO X lo tl) (hu:PO X hi th):PE X (.Subscript e (.Slice lo hi none p2) pos) (Fg r te tl th):=by
 intro pins s σ H Q I h;refine Subscript_ (thn (he pins s σ H _ I h) fun v s1 ⟨x,H1,I1,r1,q1⟩=>?_);refine wpAny_Slice (thn (hl pins s1 σ H1 _ I1 q1) fun vl s2 ⟨l,H2,I2,pl,q2⟩=>thn (hu pins s2 σ H2 _ I2 q2) fun vu s3 ⟨u,H3,I3,pu,q3⟩=>?_);rw [evalPart_none];refine wpAny_pure ?_;have I4:Inv X pins σ H3 {s3 with heap:=s3.heap.push {cls:= .type "slice",data:= .fields #[vl,vu,.none]}}:=I3.kept (t':=s3.toks) fun b ob q=>Heap.get?_push_of_some _ q;obtain ⟨T,id,hT,ht,hg⟩:=hr pins {s3 with heap:=s3.heap.push {cls:= .type "slice",data:= .fields #[vl,vu,.none]}} σ H3 x v vl vu l u s3.heap.objs.size Q I4 r1 (Heap.IsSliceOf.new ..) pl pu q3;show wpAny (model X.prog X.w) X.A (subscriptTail e (.Slice lo hi none p2) v (.ref s3.heap.objs.size)) (EP X pins σ Q) X.xe {s3 with heap:=s3.heap.push {cls:= .type "slice",data:= .fields #[vl,vu,.none]}};exact tail_any (ops:=[.ref s3.heap.objs.size,v]) ht hT hg (by with_unfolding_all rfl)
noncomputable def mz (xs:List V) (lo hi:Option Int):List V:=(xs.drop (HT.dP xs.length 0 lo)).take (HT.dP xs.length xs.length hi - HT.dP xs.length 0 lo)
def kP (xs:List V) (lo hi:Option Int):(mz xs lo hi).length<=xs.length:=by
 unfold mz;rw [List.length_take,List.length_drop];lia
def AG (K:W.Frag):V->Option Int->Option Int->Hp->VK->Prop:=fun x lo hi H Q=> ∃a xs,x = .ref a/\dZ K H a xs/\
 ¬(HT.dP xs.length 0 lo=0/\HT.dP xs.length xs.length hi=xs.length)/\∀p,H p=none->Q (.ref p) (upd H p (.tup (mz xs lo hi)))
def x_:ra X (AG X.K):=by
 intro pins s σ H x v vl vu lo hi sl Q I rx hs pl pu h;obtain ⟨a,xs,rfl,hx,hw,q⟩:=h;cases rx;obtain ⟨its,r,ht,hz⟩:=I.tuple hx;have hlen:its.toArray.size=xs.length:=by rw [List.size_toArray];exact r.length.symm
 refine ⟨"tuple",_,PyProof.Rows.slot_tuple_getitem.lookup,ht.typeIs,?_⟩;refine HT.jK ht hs pl pu (by rw [hlen];exact hw) ?_ (by rw [hlen];exact hz);rw [hlen];refine ⟨.ref s.heap.objs.size,_,I.laid (t':=s.toks) (o:= .tup (mz xs lo hi)) (fun b ob q=>Heap.get?_push_of_some _ q) (Nat.le_refl _) ?_,rfl,q _ (I.hok.fresh (Nat.le_refl _))⟩;exact ⟨Nat.le_trans (kP xs lo hi) hz,_,(r.drop (HT.dP xs.length 0 lo)).take (HT.dP xs.length xs.length hi - HT.dP xs.length 0 lo),IsTup.new _ _⟩
def xJ (K:W.Frag):R2:=fun x y H Q=> ∃a b xs ys,x = .ref a/\y = .ref b/\dZ K H a xs/\dZ K H b ys/\xs≠[]/\xs.length+ys.length<=sizeLine/\
 (ys= []->Q (.ref a) H)/\(ys≠[]->∀p,H p=none->Q (.ref p) (upd H p (.tup (xs++ys))))
def Vals.oi {xs:List V} {us:List Value} (r:Vals xs us):us= []↔xs= []:=by
 cases r with
 |nil=>simp
 |cons _ _=>simp
def wD:d2 X (binaryOp .Add) (xJ X.K):=by
 intro pins s σ H x y v u Q I rx ry h;obtain ⟨a,b,xs,ys,rfl,rfl,ha,hb,hx,hz,q1,q2⟩:=h;cases rx;cases ry;obtain ⟨its,r1,p1,_⟩:=I.tuple ha;obtain ⟨its2,r2,p2,_⟩:=I.tuple hb;refine HT.xf p1 p2 (fun z=>hx (r1.oi.mp z)) (fun z=>⟨.ref a,H,I,rfl,q1 (r2.oi.mp z)⟩) (fun z=>?_) (by rw [<-r1.length,<-r2.length];exact hz);refine ⟨.ref s.heap.objs.size,_,I.laid (t':=s.toks) (o:= .tup (xs++ys)) (fun b ob q=>Heap.get?_push_of_some _ q) (Nat.le_refl _) ?_,rfl,q2 (fun w=>z (r2.oi.mpr w)) _ (I.hok.fresh (Nat.le_refl _))⟩;exact ⟨by rw [List.length_append];exact hz,_,r1.append r2,IsTup.new _ _⟩
end
noncomputable def sx (n:Nat) (i:Int):Option Nat:=if 0<=i then (if i<n then some i.toNat else none) else if -(n:Int)<=i then some (i+n).toNat else none
noncomputable def i4 {α:Type} (xs:List α) (i:Int):Option α:=(sx xs.length i).bind fun j=>xs[j]?
def wO {n:Nat} {i:Int} {j:Nat} (h:sx n i=some j):seqIndex? i n=some j/\j<n/\-(n:Int)<=i/\i<n:=by
 unfold sx at h;by_cases h0:0<=i
 ·
  rw [if_pos h0] at h;by_cases h1:i<n
  ·
   rw [if_pos h1] at h;have e:i.toNat=j:=Option.some.inj h;exact ⟨by rw [seqIndex_of h0 h1,e],by lia,by lia,h1⟩
  ·rw [if_neg h1] at h;cases h
 ·
  rw [if_neg h0] at h;by_cases h1 : -(n:Int)<=i
  ·
   rw [if_pos h1] at h;have e:(i+n).toNat=j:=Option.some.inj h;exact ⟨by rw [seqIndex_neg (by lia) h1,e],by lia,h1,by lia⟩
  ·rw [if_neg h1] at h;cases h
def oI {α:Type} {xs:List α} {i:Int} {v:α} (h:i4 xs i=some v): ∃j,seqIndex? i xs.length=some j/\xs[j]?=some v/\j<xs.length/\-(xs.length:Int)<=i/\i<xs.length:=by
 unfold i4 at h;cases e:sx xs.length i with
 |none=>rw [e] at h;cases h
 |some j=>
  rw [e] at h;obtain ⟨h1,h2,h3,h4⟩:=wO e;exact ⟨j,h1,h,h2,h3,h4⟩
def xj {α:Type} {xs:List α} {j:Nat} {v:α} (h:xs[j]?=some v):i4 xs (j:Int)=some v:=by
 have hj:j<xs.length:=(List.getElem?_eq_some_iff.mp h).1;have e:sx xs.length (j:Int)=some j:=by
  unfold sx;rw [if_pos (by lia),if_pos (by lia)];simp
 unfold i4;rw [e];exact h
def vz {α:Type} (xs:List α) (v:α):i4 (xs++ [v]) (-1)=some v:=by
 have hl:(xs++ [v]).length=xs.length+1:=by simp
 have e:sx (xs++ [v]).length (-1)=some xs.length:=by
  unfold sx;rw [hl,if_neg (by decide),if_pos (by lia)];congr 1;lia
 unfold i4;rw [e];show (xs++ [v])[xs.length]?=some v;simp
def xl (b:Expr):Prop:= ∀o i,subscripted b false o i=operate [o,i] (getItem o i)
def pG (X:Cx) (r:R2):Prop:=
 ∀(value slice:Expr) (pins:List (Addr×Obj)) (s:Shared) (σ:St) (H:Hp) (x y:V) (v u:Value) (Q:VK),Inv X pins σ H s->RelV x v->RelV y u->r x y H Q->
  subscripted slice false v u=operate [v,u] (getItem v u)->wpAny (model X.prog X.w) X.A (subscriptTail value slice v u) (EP X pins σ Q) X.xe s
def FY (X:Cx) (id:String) (r:V->List V->Hp->VK->Prop):Prop:=
 ∀(pins:List (Addr×Obj)) (s:Shared) (σ:St) (H:Hp) (x:V) (xs:List V) (v:Value) (us:List Value) (Q:VK),Inv X pins σ H s->RelV x v->Vals xs us->r x xs H Q->
  wpAny (model X.prog X.w) X.A (call (.builtin id) (v::us)) (EP X pins σ Q) X.xe s
section
variable {X:Cx} {a b:Expr} {ta tb:TE} {pos:Pos}
def pG.or {r r':R2} (h:pG X r) (h':pG X r'):pG X (fun x y H Q=>r x y H Q\/r' x y H Q):=by
 intro value slice pins s σ H x y v u Q I rx ry q hs;rcases q with q|q
 ·exact h value slice pins s σ H x y v u Q I rx ry q hs
 ·exact h' value slice pins s σ H x y v u Q I rx ry q hs
def bJ {r:R2} (hr:pG X r) (ha:PE X a ta) (hb:PE X b tb) (hs:xl b):PE X (.Subscript a b pos) (xx r ta tb):=by
 intro pins s σ H Q I h;exact Subscript_ (Al ha hb I h fun v u s2 x y H2 I2 rx ry q=>hr a b pins s2 σ H2 x y v u Q I2 rx ry q (hs _ _))
def AO (K:W.Frag):R2:=fun x y H Q=> ∃p xs i v,x = .ref p/\y = .int i/\cD K H p xs/\i4 xs i=some v/\Q v H
def AM (K:W.Frag):R2:=fun x y H Q=> ∃p xs i v,x = .ref p/\y = .int i/\dZ K H p xs/\i4 xs i=some v/\Q v H
def AN:R2:=fun x y H Q=> ∃z i c,x = .str z/\y = .int i/\z.length<=sizeLine/\i4 z.cps.toList i=some c/\Q (.str ⟨#[c]⟩) H
def wK:pG X (AO X.K):=by
 intro value slice pins s σ H x y v u Q I rx ry h hs;obtain ⟨p,xs,i,z,rfl,rfl,hq,he,q⟩:=h;cases rx;obtain ⟨t,rfl⟩:=ry;obtain ⟨its,r,pl,hz⟩:=I.list hq;obtain ⟨j,h1,h2,h3,h4,h5⟩:=oI he;obtain ⟨w,ew,rw'⟩:=r.get h2;have hl:=r.length;have hn:=ma;have fin:EP X pins σ Q w s:=⟨z,H,I,rw',q⟩;by_cases h0:0<=i
 ·have hj:i.toNat=j:=by
   rw [seqIndex_of h0 h5] at h1;exact Option.some.inj h1
  exact item_listR pl.isList h0 (by lia) (by rw [hj];simpa using ew) fin hs
 ·have hj:(i+(its.toArray.size:Int)).toNat=j:=by
   rw [seqIndex_neg (by lia) h4] at h1;rw [List.size_toArray,<-hl];exact Option.some.inj h1
  exact subscriptTail_builtinR (x:=w) pl.isList.typeIs slot_list_getitem.lookup
   (wpAny_getItem_list_neg (Q:=fun r s'=>r=w/\EP X pins σ Q r s') pl.isList (by lia) (by rw [List.size_toArray]<;>lia) (by lia) (by rw [hj];simpa using ew) ⟨rfl,fin⟩) hs
def zD:pG X (AM X.K):=by
 intro value slice pins s σ H x y v u Q I rx ry h hs;obtain ⟨p,xs,i,z,rfl,rfl,hq,he,q⟩:=h;cases rx;obtain ⟨t,rfl⟩:=ry;obtain ⟨its,r,pl,hz⟩:=I.tuple hq;obtain ⟨j,h1,h2,h3,h4,h5⟩:=oI he;obtain ⟨w,ew,rw'⟩:=r.get h2;have hl:=r.length;have hn:=ma;have fin:EP X pins σ Q w s:=⟨z,H,I,rw',q⟩;exact subscriptTail_builtinR (x:=w) pl.typeIs slot_tuple_getitem.lookup
  (getItem_tuple (j:=j) (Q:=fun r s'=>r=w/\EP X pins σ Q r s') pl (by lia) (by lia) (by rw [List.size_toArray,<-hl];exact h1) (by simpa using ew) ⟨rfl,fin⟩) hs
def zE:pG X AN:=by
 intro value slice pins s σ H x y v u Q I rx ry h hs;obtain ⟨z,i,c,rfl,rfl,hz,he,q⟩:=h;obtain ⟨t,rfl⟩:=rx;obtain ⟨t',rfl⟩:=ry;obtain ⟨j,h1,h2,h3,h4,h5⟩:=oI he;have hl:z.cps.toList.length=z.length:=by simp [Str.length]
 rw [hl] at h1 h4 h5;have hn:=ma;exact tail_any (typeIs_str s z t) slot_str_getitem.lookup (getItem_str (c:=c) (by
  have e1:decide (i < -(2 ^ 63:Int))=false:=decide_eq_false (by lia);have e2:decide (i≥2 ^ 63)=false:=decide_eq_false (by lia);rw [e1,e2,Bool.or_false]) (by rw [h1];simpa using h2) ⟨.str ⟨#[c]⟩,H,I.tok _,⟨_,rfl⟩,q⟩) hs
def F7 (K:W.Frag):R2:=fun x y H Q=>AO K x y H Q\/AM K x y H Q\/AN x y H Q
def zF:pG X (F7 X.K):=wK.or (zD.or zE)
def nU (lo hi:Option Int) (n:Nat):(sliceBounds lo hi none n).1=((HT.dP n 0 lo:Nat):Int)/\(sliceBounds lo hi none n).2.1=((HT.dP n n hi:Nat):Int)/\(sliceBounds lo hi none n).2.2=1:=by
 refine ⟨?_,?_,rfl⟩
 ·
  cases lo with
  |none=>simp [sliceBounds,HT.dP]
  |some i=>
   simp only [sliceBounds,HT.dP,Option.getD_none,show (1:Int) > 0 by decide,if_true];by_cases h:i<0
   ·simp only [h,if_true]<;>lia
   ·simp only [h,if_false]<;>lia
 ·
  cases hi with
  |none=>simp [sliceBounds,HT.dP]
  |some i=>
   simp only [sliceBounds,HT.dP,Option.getD_none,show (1:Int) > 0 by decide,if_true];by_cases h:i<0
   ·simp only [h,if_true]<;>lia
   ·simp only [h,if_false]<;>lia
def mO (its:List Value) (lo hi:Option Int):slicePick its.toArray lo hi none=((its.drop (HT.dP its.length 0 lo)).take (HT.dP its.length its.length hi - HT.dP its.length 0 lo)).toArray:=by
 obtain ⟨h1,h2,h3⟩:=nU lo hi its.toArray.size;unfold slicePick;rw [h1,h2,h3];simp only [sliceRange_one,pick_run,List.size_toArray]<;>rfl
def D2 (K:W.Frag):V->Option Int->Option Int->Hp->VK->Prop:=fun x lo hi H Q=> ∃a xs,x = .ref a/\cD K H a xs/\∀p,H p=none->Q (.ref p) (upd H p (.lst (mz xs lo hi)))
def vO:ra X (D2 X.K):=by
 intro pins s σ H x v vl vu lo hi sl Q I rx hs pl pu h;obtain ⟨a,xs,rfl,hx,q⟩:=h;cases rx;obtain ⟨its,r,ht,hz⟩:=I.list hx;have hlen:=r.length;refine ⟨"list",_,slot_list_getitem.lookup,ht.isList.typeIs,?_⟩;refine wpAny_getItem_list_slice ht.isList hs pl pu .none (by simp) ?_ (by rw [List.size_toArray]<;>lia)
 rw [mO,<-hlen];refine ⟨.ref s.heap.objs.size,_,I.laid (t':=s.toks) (o:= .lst (mz xs lo hi)) (fun b ob q=>Heap.get?_push_of_some _ q) (Nat.le_refl _) ?_,rfl,q _ (I.hok.fresh (Nat.le_refl _))⟩;exact ⟨Nat.le_trans (kP xs lo hi) hz,_,0,(r.drop (HT.dP xs.length 0 lo)).take (HT.dP xs.length xs.length hi - HT.dP xs.length 0 lo),Heap.get?_push_size _ rfl⟩
noncomputable def qQ:V->Bool
 | .non=>true
 | .bl _=>true
 | .int _=>true
 | .str _=>true
 |_=>false
noncomputable def Gz:V->V->Bool
 | .non,.non=>true
 | .bl a,.bl b=>a == b
 | .bl a,.int b=>(if a then 1 else 0) == b
 | .int a,.bl b=>a == (if b then 1 else 0)
 | .int a,.int b=>a == b
 | .str a,.str b=>a == b
 |_,_=>false
noncomputable def DJ (x:V) (xs:List V):Bool:=xs.any fun y=>Gz y x
def oE:bc X (.builtin "len") (fun xs H Q=> ∃p ys,xs= [.ref p]/\(cD X.K H p ys\/dZ X.K H p ys)/\Q (.int ys.length) H):=by
 intro pins s σ H xs us Q I r h;obtain ⟨p,ys,rfl,hq,q⟩:=h;obtain ⟨u,rfl,rx⟩:=vals1 r;cases rx;have hn:=ma;rcases hq with hq|hq
 ·
  obtain ⟨its,r',pl,hz⟩:=I.list hq;have hlen:=r'.length;exact Calls.call_len_list pl.isList (by simp only [List.size_toArray]<;>lia) ⟨.int ys.length,H,I.tok _,⟨s.toks+1,by rw [List.size_toArray,hlen]⟩,q⟩
 ·
  obtain ⟨its,r',pl,hz⟩:=I.tuple hq;have hlen:=r'.length;exact len_tuple pl (by simp only [List.size_toArray]<;>lia) ⟨.int ys.length,H,I.tok _,⟨s.toks+1,by rw [List.size_toArray,hlen]⟩,q⟩
def oC:bc X (.builtin "len") (fun xs H Q=> ∃z,xs= [.str z]/\z.length<=sizeLine/\Q (.int z.length) H):=by
 intro pins s σ H xs us Q I r h;obtain ⟨z,rfl,hz,q⟩:=h;obtain ⟨u,rfl,t,rfl⟩:=vals1 r;have hn:=ma;exact len_str (by lia) ⟨.int z.length,H,I.tok _,⟨_,rfl⟩,q⟩
def bc.or {f:Value} {r r':List V->Hp->VK->Prop} (h:bc X f r) (h':bc X f r'):bc X f (fun xs H Q=>r xs H Q\/r' xs H Q):=by
 intro pins s σ H xs us Q I rs q;rcases q with q|q
 ·exact h pins s σ H xs us Q I rs q
 ·exact h' pins s σ H xs us Q I rs q
def oB:bc X (.type "list") (fun xs H Q=> ∃p ys,xs= [.ref p]/\(cD X.K H p ys\/dZ X.K H p ys)/\∀l,H l=none->Q (.ref l) (upd H l (.lst ys))):=by
 intro pins s σ H xs us Q I r h;obtain ⟨p,ys,rfl,hq,q⟩:=h;obtain ⟨u,rfl,rx⟩:=vals1 r;cases rx;have fin: ∀(its:List Value),Vals ys its->ys.length<=sizeLine->∀(h':Heap) (c':Nat),(∀b o',s.heap.get? b=some o'->h'.get? b=some o')->
   h'.get? s.heap.objs.size=some {cls:= .type "list",dict:=none,data:= .seq its.toArray c',slots:=#[]}->EP X pins σ Q (.ref s.heap.objs.size) {s with heap:=h'}:=fun its r' hz h' c' kp e=>
  ⟨.ref s.heap.objs.size,_,I.laid (t':=s.toks) kp (Nat.le_refl _) (show bB X.prog X.w _ h' _ (.lst ys) from ⟨hz,its,c',r',e⟩),rfl,q _ (I.hok.fresh (Nat.le_refl _))⟩
 rcases hq with hq|hq
 ·
  obtain ⟨its,r',pl,hz⟩:=I.list hq;have hlen:=r'.length;obtain ⟨o,ho,hc,n,hd⟩:=pl.isList;exact call_list_seq p (.inl rfl) ho hc hd (fun h' c' kp e=>fin its r' hz h' c' kp e) (by simp only [List.size_toArray]<;>lia)
 ·
  obtain ⟨its,r',pl,hz⟩:=I.tuple hq;have hlen:=r'.length;obtain ⟨o,ho,hc,n,hd⟩:=pl;exact call_list_seq p (.inr rfl) ho hc hd (fun h' c' kp e=>fin its r' hz h' c' kp e) (by simp only [List.size_toArray]<;>lia)
def m6:bc X (.type "tuple") (fun xs H Q=> ∃p ys,xs= [.ref p]/\((cD X.K H p ys/\∀l,H l=none->Q (.ref l) (upd H l (.tup ys)))\/(dZ X.K H p ys/\Q (.ref p) H))):=by
 intro pins s σ H xs us Q I r h;obtain ⟨p,ys,rfl,h⟩:=h;obtain ⟨u,rfl,rx⟩:=vals1 r;cases rx;rcases h with ⟨hq,q⟩|⟨hq,q⟩
 ·
  obtain ⟨its,r',pl,hz⟩:=I.list hq;have hlen:=r'.length;refine call_tuple_list pl.isList (fun h' kp=>?_) (by simp only [List.size_toArray]<;>lia)
  have I1:Inv X pins σ H {s with heap:=h'}:=I.kept (t':=s.toks) kp;have I2:Inv X pins σ (upd H h'.objs.size (.tup ys)) {s with heap:=h'.push {cls:= .type "tuple",data:= .seq its.toArray}}:=
   I1.laid (t':=s.toks) (fun b o e=>Heap.get?_push_of_some _ e) (Nat.le_refl _) (show bB X.prog X.w _ _ _ (.tup ys) from ⟨hz,its,r',IsTup.new _ _⟩)
  exact ⟨.ref h'.objs.size,_,I2,rfl,q _ (I1.hok.fresh (Nat.le_refl _))⟩
 ·
  obtain ⟨its,r',pl,hz⟩:=I.tuple hq;exact call_tuple_same pl ⟨.ref p,H,I,rfl,q⟩
def x3 (K:W.Frag) (T:String) (x:V) (H:Hp):Prop:=match x with
 | .str _=>T = "str"
 | .int _=>T = "int"
 |
   .ref p=>(T = "list" /\∃xs,cD K H p xs)\/(T = "tuple" /\∃o,K.lookup p=some o/\o.cls = .type "tuple" /\o.dict=none)\/
   (T = "dict" /\((∃kvs,H p=some (.dK kvs))\/∃kvs,H p=some (.dT kvs)))\/(T = "set" /\∃S n,H p=some (.set S n))
 |_=>False
def x2 {pins:List (Addr×Obj)} {σ:St} {H:Hp} {s:Shared} {T:String} {x:V} {v:Value} (I:Inv X pins σ H s) (r:RelV x v) (ty:x3 X.K T x H):
  s.TypeIs v T/\∀a,v = .ref a->∃ob,s.heap.get? a=some ob/\ob.dict=none:=by
 cases x with
 |str z=>
  obtain ⟨t,rfl⟩:=r;cases (show T = "str" from ty);exact ⟨typeIs_str s z t,fun _ e=>nomatch e⟩
 |int i=>
  obtain ⟨t,rfl⟩:=r;cases (show T = "int" from ty);exact ⟨typeIs_int s i t,fun _ e=>nomatch e⟩
 |ref p=>
  cases r;rcases ty with ⟨rfl,xs,hq⟩|⟨rfl,o,hk,hc,hd⟩|⟨rfl,hk⟩|⟨rfl,S,n,hk⟩
  ·
   obtain ⟨its,_,pl,_⟩:=I.list hq;refine ⟨pl.isList.typeIs,fun a e=>?_⟩;cases e;obtain ⟨o,n,e,c,hd,_⟩:=pl;exact ⟨o,e,hd⟩
  ·
   refine ⟨⟨o,I.kU p o hk,hc⟩,fun a e=>?_⟩;cases e;exact ⟨o,I.kU _ o hk,hd⟩
  ·have z: ∃o,s.heap.get? p=some o/\o.ExactDict:=by
    rcases hk with ⟨kvs,hk⟩|⟨kvs,hk⟩
    ·
     obtain ⟨_,_,_,_,o,_,_,e,ex,_⟩:=I.hok p _ hk;exact ⟨o,e,ex⟩
    ·
     obtain ⟨_,_,_,_,o,_,_,e,ex,_⟩:=I.hok p _ hk;exact ⟨o,e,ex⟩
   obtain ⟨o,e,ex⟩:=z;refine ⟨⟨o,e,ex.1⟩,fun a e2=>?_⟩;cases e2;exact ⟨o,e,ex.2.1⟩
  ·
   obtain ⟨o,_,_,_,e,ex,_⟩:=I.hok p _ hk;refine ⟨⟨o,e,ex.1⟩,fun a e2=>?_⟩;cases e2;exact ⟨o,e,ex.2.1⟩
 |_=>exact False.elim ty
def DR (K:W.Frag) (T:String) (r:V->List V->Hp->VK->Prop) (to:TE):TE:=fun σ H Q=>to σ H fun x H1=>x3 K T x H1/\r x [] H1 Q
def DI (K:W.Frag) (T:String) (r:V->List V->Hp->VK->Prop) (to:TE) (t:TA):TE:=fun σ H Q=>to σ H fun x H1=>x3 K T x H1/\t σ H1 fun xs H2=>r x xs H2 Q
variable {o e:Expr} {es:List Expr} {to:TE} {t:TA} {name:Str} {apos cpos:Pos} {T id:String} {r:V->List V->Hp->VK->Prop}
def AX (pa:PlainAttrs T) (slot:Slot T name id) (hty:typeOf (.builtin id)=pure (.type "method_descriptor")) (hm:FY X id r) (ho:PE X o to) (ha:PA X (e::es) t)
  (hbase:attributeBase o name X.env (eval o X.env)=eval o X.env:=by rfl)
  (
   hfew:((backTo cpos (starEach (e::es) X.env)).all (fun x=>!x.1)&&(backToKw cpos (keywordEach [] X.env)).all (fun x=>x.1.isSome)
   &&decide ((e::es).length+([]:List Keyword).length+(if ([]:List Keyword).isEmpty then 0 else 1)<30))=true:=by rfl)
  (hline:(apos.endLine == cpos.line)=true:=by rfl) (hs:starEach (e::es) X.env=(false,eval e X.env)::starEach es X.env:=by rfl) (hplain:(backTo cpos (starEach es X.env)).any (·.1)=false:=by rfl):
  PE X (.Call (.Attribute o name apos) (e::es) [] cpos) (DI X.K T r to t):=by
 intro pins s σ H Q I h;refine wpAny_Call_method_late hbase hfew hline rfl (thn (ho pins s σ H _ I h) fun v s1 ⟨x,H1,I1,r1,ty,q1⟩=>?_);obtain ⟨h1,h2⟩:=x2 I1 r1 ty;refine ⟨T,id,pa,slot,hty,h1,h2,?_⟩;have hA:=ha cpos pins s1 σ H1 _ I1 q1;rw [hs] at hA⊢;refine Calls.callWith_builtin (by show (false||(backTo cpos (starEach es X.env)).any (·.1))=false;rw [hplain]<;>rfl) (Calls.evalArgs_plain ?_)
 exact thn hA fun us s2 ⟨vs,H2,I2,r2,q2⟩=>hm pins s2 σ H2 x vs v us Q I2 r1 r2 q2
end
def GB (X:Cx) (id:String) (r:V->List V->Hp->VK->Prop):Prop:=
 ∀(pins:List (Addr×Obj)) (s:Shared) (σ:St) (H:Hp) (x:V) (xs:List V) (v:Value) (us:List Value) (Q:VK),Inv X pins σ H s->RelV x v->Vals xs us->r x xs H Q->
  wpAny (model X.prog X.w) X.A (call (.builtin id) (v::us)) (EP X pins σ Q) X.xe s
def Vals.one: ∀{x:V} {us:List Value},Vals [x] us->∃u,us= [u]/\RelV x u
 |_,_,.cons r .nil=>⟨_,rfl,r⟩
section
variable {X:Cx} {pins:List (Addr×Obj)} {σ:St} {H:Hp} {s:Shared} {l b:Addr} {xs ys zs:List V}
def Inv.lset {its its':List Value} {n:Nat} {f:Array Value->Array Value} {t':Nat} (I:Inv X pins σ H s) (hH:H l=some (.lst xs))
  (e:s.heap.get? l=some {cls:= .type "list",data:= .seq its.toArray n}) (hf:f its.toArray=its'.toArray) (hv:Vals ys its') (hz:ys.length<=sizeLine):
  Inv X pins σ (upd H l (.lst ys)) {s with heap:=s.heap.update l (Obj.mapSeq f),toks:=t'}:=by
 have q:=PySem.IsL.update e f;rw [hf] at q;refine I.write (x:=l) (e:=l) (by rw [hH];exact trivial) (.inl rfl) (fun b' u hb hu=>(Heap.get?_update_other s.heap (Obj.mapSeq f) (Ne.symm hb)).trans hu) ⟨_,q⟩ ?_;exact ⟨hz,its',_,hv,q⟩
def Inv.lnew {its:List Value} {t':Nat} (I:Inv X pins σ H s) (hv:Vals ys its) (hz:ys.length<=sizeLine):
  Inv X pins σ (upd H s.heap.objs.size (.lst ys)) {s with heap:=s.heap.push {cls:= .type "list",data:= .seq its.toArray},toks:=t'}:=
 I.laid (fun _ _ q=>Heap.get?_push_of_some _ q) (Nat.le_refl _) ⟨hz,its,0,hv,Heap.get?_push_size _ rfl⟩
def Inv.fresh (I:Inv X pins σ H s):H s.heap.objs.size=none:=I.hok.fresh (Nat.le_refl _)
def Inv.yH (I:Inv X pins σ H s) (hH:H l=some (.lst xs)):xs.length<=sizeLine/\∃(its:List Value) (n:Nat),Vals xs its/\xs.length=its.length/\s.heap.get? l=some {cls:= .type "list",data:= .seq its.toArray n}:=by
 obtain ⟨z,its,n,r,e⟩:=I.hok l _ hH;exact ⟨z,its,n,r,r.length,e⟩
end
section
variable {X:Cx}
def wj:V->List V->Hp->VK->Prop:=fun x vs H Q=> ∃l xs y,x = .ref l/\vs= [y]/\H l=some (.lst xs)/\xs.length<sizeLine/\Q .non (upd H l (.lst (xs++ [y])))
def sg:GB X "list.append" wj:=by
 intro pins s σ H x vs v us Q I rx rv h;obtain ⟨l,xs,y,rfl,rfl,hH,hz,q⟩:=h;cases rx;obtain ⟨u,rfl,ru⟩:=rv.one;obtain ⟨z,its,n,r,hl,e⟩:=I.yH hH;refine call_meets F.slot_list_append ⟨_,e,rfl⟩ F.entry_list_append (F.args_list_append_2 _ _) (PySem.list_append l its.toArray n u (by rw [List.size_toArray];lia)) ⟨e,?_⟩;refine ⟨.non,_,I.lset (its':=its++ [u]) hH e (by simp) (r.append (.cons ru .nil)) ?_,rfl,q⟩;rw [List.length_append,List.length_singleton];lia
def AU:R2:=fun x y H Q=> ∃l b xs zs,x = .ref l/\y = .ref b/\H l=some (.lst xs)/\H b=some (.lst zs)/\xs.length+zs.length<=sizeLine/\∀p,H p=none->Q (.ref p) (upd H p (.lst (xs++zs)))
def yA:d2 X (binaryOp .Add) AU:=by
 intro pins s σ H x y v u Q I rx ry h;obtain ⟨l,b,xs,zs,rfl,rfl,hH,hB,hz,q⟩:=h;cases rx;cases ry;obtain ⟨z,its,n,r,hl,e⟩:=I.yH hH;obtain ⟨z2,its2,n2,r2,hl2,e2⟩:=I.yH hB;refine PySem.P.add_list e e2 ?_ (by rw [List.size_toArray,List.size_toArray];lia);have ea:its.toArray++its2.toArray=(its++its2).toArray:=by simp
 rw [ea];exact ⟨.ref _,_,I.lnew (t':=s.toks) (r.append r2) (by rw [List.length_append];lia),rfl,q _ I.fresh⟩
end
section
variable {prog:Program} {w:World} {A:Around} {E:Value->Shared->Prop} {s:Shared}
end
section
variable {X:Cx}
end
end L2
namespace Att
open PySem PySem.W PySem.Calls PyProof.Rows
def kW {P:Params} {h:Heap}: ∀(ns:List Int) (vs:List Value),WellAll P h vs (ns.map WData.int)->IntsAre vs ns:=by
 intro ns
 induction ns with
 |nil=>
  intro vs w;rw [List.map_nil] at w;cases w;exact .nil
 |cons n ns ih=>
  intro vs w;rw [List.map_cons] at w;cases w with
  |cons a b=>
   cases a;exact .cons _ _ (ih _ b)
def ro {l:OpenLaw} {n:Nat} (hn:l.most=some n) {P:Params} {h:Heap} {args:List WData} {vals:List Value}
  (hpre:l.row.toRowW.claim.pre args=true) (hwl:WellAll P h vals args):
  ∃a vs ns,vals= [Value.ref a]/\args= [WData.list (ns.map WData.int)]/\h.get? a=some {cls:= .type "list",data:= .seq vs.toArray}/\IntsAre vs ns/\ns.length<=n:=by
 have hsh:WShape.hasAll [] args [.list .int]=true:=(pre_splitW hpre).1;have hc:l.pre.holds [] {args:=args}=true:=(pre_splitW hpre).2;obtain ⟨d,r,rfl,h1,h2⟩:=hasAllW_cons hsh;obtain rfl:=hasAllW_nil h2;obtain ⟨xs,rfl,h3⟩:=hasW_list h1;obtain ⟨ns,rfl⟩:=items_int h3;have hlen:ns.length<=n:=by
  unfold OpenLaw.pre at hc;have h4:(WTm.not (.lt (.lit (.int (n:Int))) (.len (.arg 0)))).holds [] {args:=[.list (ns.map .int)]}=true:=by
   have h4:=(holds_andW hc).1;rw [hn] at h4;exact h4
  have h5:=condW_of h4 (w_not (w_lt w_lit (w_len_list (w_arg rfl))));rw [List.length_map] at h5;refine Nat.le_of_not_lt fun q=>?_;have q':(n:Int)<((ns.length:Nat):Int):=by lia
  first
   |(rw [decide_eq_true q'] at h5;exact absurd h5 (by decide))
   |(simp at h5;lia)
 cases hwl with
 |cons w1 w2=>
  cases w2;cases w1 with
  |list ho hall=>exact ⟨_,_,ns,rfl,rfl,ho,kW ns _ hall,hlen⟩
def r6 (l:OpenLaw) (args:List WData):l.row.toRowW.claim.post args (.bool true) args=true:=
 postW_of (r:=l.row.toRowW) (X:=(true == true))
  (show WShape.has [] (.bool true) .bool=true by first|rfl|decide|simp [WShape.has,WShape.arms,WShape.armsAll])
  (show (WTm.eq .res (.lit (.bool true))).value [] {args:=args,res:=some (.bool true),after:=args}=some (.bool (true == true)) from w_eq_bool (w_res rfl) w_lit) rfl
def pD {l:OpenLaw} {n:Nat} {q:Program} {loose:List Str} {XP:(Str->Option Value)->Heap->Prop} {YP:World->Heap->Prop} {d:DefRec}
  (hn:l.most=some n) (hdf:d.params.defaults= [])
  (
   call: ∀(w:World) (s₀ s₁:Shared) (mg mb:Str->Option Value) (fa:Addr) (o:Obj) (pm cd doc:Value) (a:Addr) (vs:List Value) (ns:List Int),
   Ground q loose [] XP w s₀ mg mb s₁.heap->YP w s₁.heap->
   s₁.heap.get? fa=some o->o.data = .func (docDef d.name d.params d.body d.scope pm cd doc)->s₁.heap.CodeRec cd d.name->mg d.name=some (.ref fa)->
   s₁.heap.get? a=some {cls:= .type "list",data:= .seq vs.toArray}->IntsAre vs ns->ns.length<=n->s₁.gens = #[]->
   codeAny (model l.prog w) callerA (.call (.ref fa) ⟨[.ref a],[]⟩) (fun r s'=>r = .ok (.ret (.bool true))/\OldK s₁.heap s'.heap/\s'.os=s₁.os/\AllBare s'.gens) s₁):
  WalkO q loose XP YP l.row.toRowW d [] (fun f vs=>PySem.call f vs):=by
 intro w s₀ s₁ mg mb G Y fa o pm cd doc dV kV ho hd hcd hD hmg hg args vals as hpre hlay hrd hwl hlo;obtain rfl:dV = .none:=Dflts.none hD hdf;obtain rfl:kV = .none:=Dflts.noKw hD;obtain ⟨a,vs,ns,rfl,rfl,hobj,hints,hlen⟩:=ro hn hpre hwl;refine enter_call (codeAny_mono (call w s₀ s₁ mg mb fa o pm cd doc a vs ns G Y ho (fd_plain hd) hcd hmg hobj hints hlen hg) fun r s' hq=>?_);obtain ⟨rfl,h2,h3,h4⟩:=hq;exact ⟨.inl ⟨.bool true,.bool true,[],rfl,fun _=>rfl,.bool true,r6 l _,fun _=>⟨List.Pairwise.nil,fun _ hm=>(nomatch hm)⟩⟩,h2,h3,h4⟩
section
variable {prog:Program} {w:World} {A:Around} {E:Value->Shared->Prop} {s:Shared} {K:Frag}
end
end Att
namespace L2
open PySem PySem.Spec PyProof.Rows
def nh: ∀{vs:List Value} {ns:List Int},IntsAre vs ns->Vals (ns.map V.int) vs
 |_,_,.nil=> .nil
 |_,_,.cons n t h=> .cons ⟨t,rfl⟩ (nh h)
def vA (H:Hp):Prop:= ∀b,H b=none\/∃o xs,H b=some (.frz o (.lst xs))
def uF {P:Program} {w:World} {K:W.Frag} {mg mb:Str->Option Value} {CX:lN} {k:Nat} {fa a:Addr} {fd:FuncData} {x:Str} {sp:Sp} {s₁:Shared} {vs:List Value} {ns:List Int}
  (KX:K.In s₁.heap) (hns:s₁.heap.Ns mainGlobals mg) (hb:s₁.heap.Ns builtinsNs mb) (hbb: ∀x:Str,x≠ "__name__" ->mb x=bootBuiltins x) (hlim:s₁.heap.NoLimit) (hg:s₁.gens = #[])
  (ha:s₁.heap.get? a=some {cls:= .type "list",data:= .seq vs.toArray}) (hi:IntsAre vs ns) (hl:ns.length<=sizeLine) (hr:c_ k callerA)
  (F: ∀base:Heap,K.In base->base.Ns mainGlobals mg->kL P w K mg base CX k fa fd [x] sp) (hbind: ∀(s:Shared) (u:Value),BindsTo s fd ⟨[u],[]⟩ [(x,u)])
  (hsp: ∀H:Hp,vA H->cD K H a (ns.map V.int)->sp [.ref a] H (fun v _=>v = .bl true) fun _ _ _=>False)
  (hCX: ∀H e s',CX [] H s₁ (fun _ _ _=>False) e s'->False):
  codeAny (model P w) callerA (.call (.ref fa) ⟨[.ref a],[]⟩) (fun r s'=>r = .ok (.ret (.bool true))/\OldK s₁.heap s'.heap/\s'.os=s₁.os/\AllBare s'.gens) s₁:=by
 have rv:=nh hi;have lenV:=hi.length

 have core: ∀H:Hp,vA H->cD K H a (ns.map V.int)->jy P w H s₁.heap->(∀b,H b≠none->b=a)->(H a≠none->K.lookup a=none)->
   codeAny (model P w) callerA (.call (.ref fa) ⟨[.ref a],[]⟩) (fun r s'=>r = .ok (.ret (.bool true))/\OldK s₁.heap s'.heap/\s'.os=s₁.os/\AllBare s'.gens) s₁:=by
  intro H hO hS hok hA hK;have base_of: ∀{b:Addr} {o:Obj},s₁.heap.get? b=some o->H b=none->(ou s₁.heap H).get? b=some o:=fun e n=>uW e n;have noA: ∀{b:Addr} {o:Obj} {es:Array DictEntry} {ep:Nat},s₁.heap.get? b=some o->o.data = .dict es ep->H b=none:=fun {b o es ep} e d=>by
   cases q:H b with
   |none=>rfl
   |some u=>
    have e':b=a:=hA b (by rw [q];simp);subst e';rw [ha] at e;cases e;have d':Data.seq vs.toArray _=Data.dict es ep:=d;cases d'
  have nsK: ∀{b:Addr} {m:Str->Option Value},s₁.heap.Ns b m->(ou s₁.heap H).Ns b m:=fun {b m} ⟨o,es,ep,e,d,r⟩=>⟨o,es,ep,base_of e (noA e d),d,r⟩;have hKb:K.In (ou s₁.heap H):=fun b o e=>base_of (KX b o e) (by
   cases q:H b with
   |none=>rfl
   |some u=>
    have e':b=a:=hA b (by rw [q];simp);subst e';rw [hK (by rw [q];simp)] at e;cases e)
  have hM:Mod K mg (ou s₁.heap H):=⟨hKb,nsK hns,⟨mb,nsK hb,hbb⟩,let ⟨mc,h1,h2⟩:=hlim;⟨mc,nsK h1,h2⟩⟩;have e0:qo P w K mg (ou s₁.heap H) callerA [] s₁ H:=⟨rfl,hM,fun b o e=>wH e,Nat.le_of_eq (sD _ _),trivial,fun b hb=>absurd (show b∈([]:List Addr) from hb) (by simp),hok,.of_eq hg⟩;refine codeAny_mono ((F _ hKb (nsK hns)).run callerA [] s₁ H ⟨[.ref a],[]⟩ [.ref a] [.ref a] _ _ hr e0 (hbind s₁ (.ref a)) (.cons rfl .nil) (hsp H hO hS)) fun r s' h=>?_;cases r with
  |error e=>exact (hCX H e s' h).elim
  |ok fl=>
   cases fl with
   |next=>exact False.elim h
   |brk=>exact False.elim h
   |cont=>exact False.elim h
   |ret u=>
    obtain ⟨v,H',os,bare,un,hok',r',q⟩:=h;have q':v = .bl true:=q;subst q';obtain rfl:u=Value.bool true:=r';refine ⟨rfl,OldK.of_keep fun b o e=>?_,os,bare⟩;cases q:H b with
    |none=>exact un.keep b o e q (by intro z;exact absurd (show b∈([]:List Addr) from z) (by simp)) (by simp)
    |some u=>
     rcases hO b with z|⟨ob,xs,z⟩
     ·rw [q] at z;cases z
     ·
      have z2:=un.frzs b ob _ z;obtain ⟨e1,_⟩:=hok b _ z;obtain ⟨e2,_⟩:=hok' b _ z2;rw [e] at e1;cases e1;exact e2
 cases hk:K.lookup a with
 |some o=>

  have e:=KX a o hk;rw [ha] at e;cases e;refine core (fun _=>none) (fun _=> .inl rfl) (.inr ⟨_,vs.toArray,_,hk,rfl,rfl,rfl,by rw [List.size_toArray,lenV];exact hl,by simpa using rv⟩) (fun b u z=>by have z':(none:Option HO)=some u:=z;cases z') (fun b z=>absurd rfl z) fun z=>absurd rfl z
 |none=>
  refine core (fun b=>if b=a then some (.frz {cls:= .type "list",data:= .seq vs.toArray} (.lst (ns.map V.int))) else none) (fun b=>?_) (.inl (.inr ⟨{cls:= .type "list",data:= .seq vs.toArray},if_pos rfl⟩)) (fun b u z=>?_) (fun b z=>?_) fun _=>hk
  ·
   by_cases hb:b=a
   ·exact .inr ⟨_,_,if_pos hb⟩
   ·exact .inl (if_neg hb)
  ·
   by_cases hb:b=a
   ·
    have z':=(if_pos hb).symm.trans z;cases z';subst hb;exact ⟨ha,by rw [List.length_map];exact hl,vs,_,rv,ha⟩
   ·
    have z':=(if_neg hb).symm.trans z;cases z'
  ·
   by_cases hb:b=a
   ·exact hb
   ·exact absurd (if_neg hb) z
def vG {l:W.OpenLaw} {n k:Nat} {q:Program} {loose:List Str} {XP:(Str->Option Value)->Heap->Prop} {YP:World->Heap->Prop} {d:DefRec} {K:Params->W.Frag} {CX:World->lN} {sp:World->Sp} {x:Str}
  (hn:l.most=some n) (hn2:n<=sizeLine) (hdf:d.params.defaults= []) (hr:c_ k callerA)
  (hY: ∀(w:World) (h:Heap),YP w h->(K w.params).In h)
  (
   F: ∀(w:World) (mg:Str->Option Value) (fa:Addr) (h:Heap),(K w.params).In h->h.Ns mainGlobals mg->mg d.name=some (.ref fa)->
   ∃fd:FuncData,(∀(s:Shared) (u:Value),BindsTo s fd ⟨[u],[]⟩ [(x,u)])/\
    ∀base:Heap,(K w.params).In base->base.Ns mainGlobals mg->kL l.prog w (K w.params) mg base (CX w) k fa fd [x] (sp w))
  (hsp: ∀(w:World) (H:Hp) (a:Addr) (ns:List Int),ns.length<=n->vA H->cD (K w.params) H a (ns.map V.int)->sp w [.ref a] H (fun v _=>v = .bl true) fun _ _ _=>False)
  (hCX: ∀(w:World) (H:Hp) (s:Shared) (e:Value) (s':Shared),CX w [] H s (fun _ _ _=>False) e s'->False):
  W.WalkO q loose XP YP l.row.toRowW d [] (fun f vs=>PySem.call f vs):=by
 refine Att.pD hn hdf fun w s₀ s₁ mg mb fa o pm cd doc a vs ns G Y ho hd hcd hmg hobj hints hlen hg=>?_;have KX:=hY w _ Y;obtain ⟨fd,hb,hF⟩:=F w mg fa _ KX G.T.g hmg;exact uF KX G.T.g G.T.b G.T.builtins G.T.nolimit hg hobj hints (Nat.le_trans hlen hn2) hr hF hb (fun H hO hS=>hsp w H a ns hlen hO hS) fun H e s'=>hCX w H s₁ e s'
def sS {l:W.OpenLaw} {n k:Nat} {q:Program} {loose:List Str} {XP:(Str->Option Value)->Heap->Prop} {YP:World->Heap->Prop} {d:DefRec} {K:Params->W.Frag} {CX:lN} {sp:W.Frag->Sp} {x:Str}
  (hn:l.most=some n) (hn2:n<=sizeLine) (hdf:d.params.defaults= []) (hr:c_ k callerA)
  (hY: ∀(w:World) (h:Heap),YP w h->(K w.params).In h)
  (
   F: ∀(w:World) (mg:Str->Option Value) (fa:Addr) (h:Heap),(K w.params).In h->h.Ns mainGlobals mg->mg d.name=some (.ref fa)->
   ∃fd:FuncData,(∀(s:Shared) (u:Value),BindsTo s fd ⟨[u],[]⟩ [(x,u)])/\
    ∀base:Heap,(K w.params).In base->base.Ns mainGlobals mg->kL l.prog w (K w.params) mg base CX k fa fd [x] (sp (K w.params)))
  (hsp: ∀(K:W.Frag) (H:Hp) (a:Addr) (ns:List Int),ns.length<=n->vA H->cD K H a (ns.map V.int)->sp K [.ref a] H (fun v _=>v = .bl true) fun _ _ _=>False)
  (hCX: ∀(H:Hp) (s:Shared) (e:Value) (s':Shared),CX [] H s (fun _ _ _=>False) e s'->False):
  W.WalkO q loose XP YP l.row.toRowW d [] (fun f vs=>PySem.call f vs):=
 vG (K:=K) (CX:=fun _=>CX) (sp:=fun w=>sp (K w.params)) hn hn2 hdf hr hY F (fun w H a ns h1 h2 h3=>hsp (K w.params) H a ns h1 h2 h3) fun _ H s e s'=>hCX H s e s'
end L2
namespace L2
open PySem PySem.Spec PyProof.Rows
noncomputable def inClass (s:Stmt) (j:Nat):Stmt:=match s with
 | .ClassDef _ _ _ body _ _ _ _ _ _ _=>body.getD j (.Pass ⟨0,0,0,0⟩)
 |_=> .Pass ⟨0,0,0,0⟩
noncomputable def dq (s:Stmt):Arguments:=match s with
 | .FunctionDef _ a _ _ _ _ _ _ _ _=>a
 |_=>{posonlyargs:=[],args:=[],vararg:=none,kwonlyargs:=[],kw_defaults:=[],kwarg:=none,defaults:=[]}
noncomputable def cC (s:Stmt):List Stmt:=match s with
 | .FunctionDef _ _ b _ _ _ _ _ _ _=>b
 |_=>[]
noncomputable def ay (s:Stmt):Scope:=match s with
 | .FunctionDef _ _ _ _ _ _ sc _ _ _=>sc
 |_=>{kind:= .function,names:=[],isGenerator:=false,isCoroutine:=false}
abbrev fb:lN:=fun _ _ _ _ _ _=>False
abbrev E0:XK:=fun _ _ _=>False
def AZ {X:Cx}:Passes fb X E0:=fun _ _ _ _ _ _ _ h=>h.elim
structure DG (K:W.Frag) (x qual:Str) (st:Stmt) (f:Addr) (fd:FuncData):Prop where
 ex: ∃(oc:Value) (od:Option Addr) (kV doc pm:Value) (an:Option Addr) (cdv ct:Value) (osl:Array (Option Value)),
  fd=W.fnOf x qual (dq st) (cC st) (ay st) .none kV doc pm an cdv ct/\K.lookup f=some ⟨oc,od,.func fd,osl⟩/\W.codeIn K cdv qual=true
 kp:W.keepIn K (.ref f)=true
section
variable {P:Program} {w:World} {K:W.Frag} {mg:Str->Option Value} {base:Heap}
def DG.binds {x qual:Str} {st:Stmt} {f:Addr} {fd:FuncData} {ps:List Str} (F:DG K x qual st f fd)
  (h: ∀(kV doc pm:Value) (an:Option Addr) (cdv ct:Value) (us:List Value),us.length=ps.length->bindArgs (W.fnOf x qual (dq st) (cC st) (ay st) .none kV doc pm an cdv ct) ⟨us,[]⟩=pure (ps.zip us)):Binds K fd ps []:=by
 obtain ⟨oc,od,kV,doc,pm,an,cdv,ct,osl,rfl,lk,hcd⟩:=F.ex;exact .all (h kV doc pm an cdv ct)
def va {x qual:Str} {st:Stmt} {f:Addr} {oc:Value} {od an:Option Addr} {osl:Array (Option Value)} {kV doc pm cdv ct:Value} (l:K.lookup f=some ⟨oc,od,.func (W.fnOf x qual (dq st) (cC st) (ay st) .none kV doc pm an cdv ct),osl⟩)
  (c:W.codeIn K cdv qual=true) (k:W.keepIn K (.ref f)=true):DG K x qual st f (W.fnOf x qual (dq st) (cC st) (ay st) .none kV doc pm an cdv ct):=⟨⟨oc,od,kV,doc,pm,an,cdv,ct,osl,rfl,l,c⟩,k⟩
end
section
variable {X:Cx}
def pv (i:Nat) {x:Str} {pos:Pos} (hN:X.N[i]?=some x:=by rfl) (hv:DM X.env.scope x:=by first|exact Or.inl rfl|exact Or.inr (Or.inl rfl)|exact Or.inr (Or.inr rfl)) (hd:(x == ("__debug__" : Str))=false:=by decide)
  (hcd:(x == ("__classdict__" : Str))=false:=by decide):PE X (.Name x pos) (x5 i):=yq hN hv hd hcd
end
def eo (H H':Hp):Prop:= ∀b o,H b=some o->H' b=some o
def eo.refl (H:Hp):eo H H:=fun _ _ h=>h
def eo.seq {K:W.Frag} {H H':Hp} {a:Addr} {xs:List V} (e:eo H H') (h:cD K H a xs):cD K H' a xs:=by
 rcases h with (h|⟨o,h⟩)|h
 ·exact .inl (.inl (e _ _ h))
 ·exact .inl (.inr ⟨o,e _ _ h⟩)
 ·exact .inr h
section
variable {κ:Type} [DecidableEq κ]
noncomputable def bT (kvs:List (κ×V)) (k:κ):Option V:=(kvs.find? fun kv=>decide (kv.1=k)).map (·.2)
noncomputable def putK (kvs:List (κ×V)) (k:κ) (v:V):List (κ×V):=
 if (kvs.any fun kv=>decide (kv.1=k))=true then kvs.map (fun kv=>if kv.1=k then (kv.1,v) else kv) else kvs++ [(k,v)]
noncomputable def xW (kvs:List (κ×V)) (k:κ):List (κ×V):=kvs.filter fun kv=>decide (kv.1≠k)
def cg {p:κ×V} {r:List (κ×V)} {k:κ} (e:p.1=k):bT (p::r) k=some p.2:=by simp [bT,List.find?_cons,e]
def cj {p:κ×V} {r:List (κ×V)} {k:κ} (e: ¬p.1=k):bT (p::r) k=bT r k:=by simp [bT,List.find?_cons,e]
def jz (k:κ): ∀kvs:List (κ×V),(kvs.any fun kv=>decide (kv.1=k))=(bT kvs k).isSome
 | []=>rfl
 |p::r=>by
  rw [List.any_cons];by_cases e:p.1=k
  ·simp only [cg e,decide_eq_true e,Bool.true_or,Option.isSome_some]
  ·rw [cj e,decide_eq_false e,Bool.false_or];exact jz k r
def oM (k j:κ) (y:V): ∀kvs:List (κ×V),bT (kvs.map fun kv=>if kv.1=k then (kv.1,y) else kv) j=(bT kvs j).map fun x=>if j=k then y else x
 | []=>rfl
 |p::r=>by
  have ih:=oM k j y r;rw [List.map_cons];by_cases h:p.1=k
  ·
   rw [if_pos h];by_cases e:p.1=j
   ·rw [cg (p:=(p.1,y)) e,cg e,Option.map_some,if_pos (e.symm.trans h)]
   ·rw [cj (p:=(p.1,y)) e,cj e,ih]
  ·
   rw [if_neg h];by_cases e:p.1=j
   ·rw [cg (p:=p) e,cg e,Option.map_some,if_neg (fun z=>h (e.trans z))]
   ·rw [cj (p:=p) e,cj e,ih]
def nj (k j:κ) (y:V): ∀kvs:List (κ×V),bT kvs k=none->bT (kvs++ [(k,y)]) j=if j=k then some y else bT kvs j
 | [],_=>by
  by_cases e:k=j
  ·rw [if_pos e.symm];exact cg (p:=(k,y)) e
  ·rw [if_neg (fun z=>e z.symm)];exact cj (p:=(k,y)) e
 |p::r,hn=>by
  rw [List.cons_append];have hk: ¬p.1=k:=fun z=>by rw [cg z] at hn;cases hn
  rw [cj hk] at hn;have ih:=nj k j y r hn;by_cases e:p.1=j
  ·rw [cg e,cg e,if_neg (fun z=>hk (e.trans z))]
  ·rw [cj e,cj e,ih]
def oK (kvs:List (κ×V)) (k j:κ) (y:V):bT (putK kvs k y) j=if j=k then some y else bT kvs j:=by
 unfold putK;by_cases a:(kvs.any fun kv=>decide (kv.1=k))=true
 ·
  rw [if_pos a,oM];rw [jz] at a;by_cases e:j=k
  ·
   obtain ⟨x,hx⟩:=Option.isSome_iff_exists.mp a;rw [if_pos e,e,hx,Option.map_some,if_pos rfl]
  ·
   rw [if_neg e];cases bT kvs j with
   |none=>rfl
   |some x=>rw [Option.map_some,if_neg e]
 ·
  rw [if_neg a];refine nj k j y kvs ?_;rw [jz] at a;cases q:bT kvs k with
  |none=>rfl
  |some x=>rw [q] at a;exact (a rfl).elim
def dS (kvs:List (κ×V)) (k:κ) (v:V):(putK kvs k v).length<=kvs.length+1:=by
 unfold putK;split
 ·rw [List.length_map];lia
 ·rw [List.length_append,List.length_cons,List.length_nil];lia
def iU.fV {o:Option V} {u:Option Value} (r:iU o u):o.isSome=u.isSome:=by
 cases o with
 |none=>cases u with
  |none=>rfl
  |some _=>exact (show False from r).elim
 |some _=>cases u with
  |none=>exact (show False from r).elim
  |some _=>rfl
def KV.val {kvs:List (κ×V)} {vs:List (κ×Value)} (r:KV kvs vs) (k:κ):iU (bT kvs k) (valueAt vs k):=by
 unfold KV at r
 induction r with
 |nil=>exact True.intro
 | @cons p q ps qs h t ih=>
  obtain ⟨h1,h2⟩:=h;by_cases e:p.1=k
  ·
   have e':q.1=k:=h1.symm.trans e;have b:valueAt (q::qs) k=some q.2:=by simp [valueAt,List.find?_cons,e']
   rw [cg e,b];exact h2
  ·
   have e': ¬q.1=k:=fun z=>e (h1.trans z);have b:valueAt (q::qs) k=valueAt qs k:=by simp [valueAt,List.find?_cons,e']
   rw [cj e,b];exact ih
def KV.any {kvs:List (κ×V)} {vs:List (κ×Value)} (r:KV kvs vs) (k:κ):(kvs.any fun kv=>decide (kv.1=k))=vs.any fun kv=>decide (kv.1=k):=by
 unfold KV at r
 induction r with
 |nil=>rfl
 |cons h t ih=>rw [List.any_cons,List.any_cons,ih,h.1]
def KV.repl {kvs:List (κ×V)} {vs:List (κ×Value)} (r:KV kvs vs) (k:κ) {y:V} {u:Value} (ry:RelV y u):
  KV (kvs.map fun kv=>if kv.1=k then (kv.1,y) else kv) (vs.map fun kv=>if kv.1=k then (kv.1,u) else kv):=by
 unfold KV at r⊢
 induction r with
 |nil=>exact .nil
 | @cons p q ps qs h t ih=>
  rw [List.map_cons,List.map_cons];refine .cons ?_ ih;obtain ⟨h1,h2⟩:=h;by_cases e:p.1=k
  ·rw [if_pos e,if_pos (h1.symm.trans e)];exact ⟨h1,ry⟩
  ·rw [if_neg e,if_neg (fun z=>e (h1.trans z))];exact ⟨h1,h2⟩
def KV.put {kvs:List (κ×V)} {vs:List (κ×Value)} (r:KV kvs vs) (k:κ) {y:V} {u:Value} (ry:RelV y u):KV (putK kvs k y) (stored vs k u):=by
 unfold putK stored;rw [r.any k];by_cases e:(vs.any fun kv=>decide (kv.1=k))=true
 ·rw [if_pos e,if_pos e];exact r.repl k ry
 ·rw [if_neg e,if_neg e];exact Paired.snoc r ⟨rfl,ry⟩
def KV.length {kvs:List (κ×V)} {vs:List (κ×Value)} (r:KV kvs vs):kvs.length=vs.length:=Paired.length r
end
def oZ {P:Program} {w:World} {k:Key} {u:Value} (r:RelV (kV k) u):(cB P w).is k u=true:=by
 cases k with
 |inl i=>obtain ⟨t,e⟩:=(show∃t,u=Value.int i t from r);subst e;exact oX P w i t
 |inr x=>obtain ⟨t,e⟩:=(show∃t,u=Value.str x t from r);subst e;exact oW P w x t
def nJ {P:Program} {w:World}: ∀{ks:List Key} {us:List Value},Vals (ks.map kV) us->ItemsAre (cB P w) ks us
 | [],_,r=>by rw [List.map_nil] at r;cases r;exact .nil
 |k::ks,_,r=>by
  rw [List.map_cons] at r;cases r with
  |cons h t=>exact .cons (oZ h) (nJ t)
abbrev KT (H:Hp):List (List Key×V)->List (List Key×Addr×Value)->Prop:=Paired fun p q=>p.1=q.1/\H q.2.1=some (.tup (p.1.map kV))/\RelV p.2 q.2.2
def KT.val {H:Hp} {kvs:List (List Key×V)} {xs:List (List Key×Addr×Value)} (r:KT H kvs xs) (k:List Key):iU (bT kvs k) ((atKey xs k).map (·.2)):=by
 induction r with
 |nil=>exact True.intro
 | @cons p q ps qs h t ih=>
  obtain ⟨h1,_,h2⟩:=h;by_cases e:p.1=k
  ·
   have e':q.1=k:=h1.symm.trans e;have b:atKey (q::qs) k=some q.2:=by simp [atKey,List.find?_cons,e']
   rw [cg e,b];exact h2
  ·
   have e': ¬q.1=k:=fun z=>e (h1.trans z);have b:atKey (q::qs) k=atKey qs k:=by simp [atKey,List.find?_cons,e']
   rw [cj e,b];exact ih
def KT.repl {H:Hp} {kvs:List (List Key×V)} {xs:List (List Key×Addr×Value)} (r:KT H kvs xs) (k:List Key) {y:V} {u:Value} (ry:RelV y u):
  KT H (kvs.map fun kv=>if kv.1=k then (kv.1,y) else kv) (xs.map (putAt k u)):=by
 induction r with
 |nil=>exact .nil
 | @cons p q ps qs h t ih=>
  rw [List.map_cons,List.map_cons];refine .cons ?_ ih;obtain ⟨h1,h2,h3⟩:=h;unfold putAt;by_cases e:p.1=k
  ·rw [if_pos e,if_pos (h1.symm.trans e)];exact ⟨h1,h2,ry⟩
  ·rw [if_neg e,if_neg (fun z=>e (h1.trans z))];exact ⟨h1,h2,h3⟩
def KT.put {H:Hp} {kvs:List (List Key×V)} {xs:List (List Key×Addr×Value)} (r:KT H kvs xs) (k:List Key) {b:Addr} {y:V} {u:Value} (hb:H b=some (.tup (k.map kV))) (ry:RelV y u):
  KT H (putK kvs k y) (storedH xs k b u):=by
 have e:(kvs.any fun kv=>decide (kv.1=k))=(atKey xs k).isSome:=by
  rw [jz,(r.val k).fV,Option.isSome_map]
 unfold putK storedH;rw [e];by_cases q:(atKey xs k).isSome=true
 ·rw [if_pos q,if_pos q];exact r.repl k ry
 ·rw [if_neg q,if_neg q];exact Paired.snoc r ⟨rfl,hb,ry⟩
def KT.keeps {H H':Hp} {kvs:List (List Key×V)} {xs:List (List Key×Addr×Value)} (r:KT H kvs xs) (ht: ∀b ys,H b=some (.tup ys)->H' b=some (.tup ys)):KT H' kvs xs:=
 Paired.yG r fun _ _ z=>⟨z.1,ht _ _ z.2.1,z.2.2⟩
section
variable {P:Program} {w:World} {H:Hp} {h:Heap} {a:Addr}
def xG {u:HO} (ok:jy P w H h) (e:Rd H a u):bB P w H h a u:=e.ok ok
def o7 {kvs:List (Key×V)} (ok:jy P w H h) (e:Rd H a (.dK kvs)):kvs.length<=sizeLine/\(a == sysModules)=false/\∃vs,KV kvs vs/\h.DictOf (cB P w) a vs:=
 show bB P w H h a (.dK kvs) from xG ok e
def Dv {kvs:List (Key×V)} (ok:jy P w H h) (e:H a=some (.dK kvs)):kvs.length<=sizeLine/\(a == sysModules)=false/\∃vs,KV kvs vs/\h.DictOf (cB P w) a vs:=o7 ok (.inl e)
def me {ks:List Key} (ok:jy P w H h) (e:H a=some (.tup (ks.map kV))):(tupleKind (cB P w)).is h ks a:=by
 obtain ⟨_,its,r,o,h1,h2,n,h3⟩:=(show bB P w H h a (.tup (ks.map kV)) from ok a _ e);exact ⟨o,its.toArray,n,h1,h2,h3,by simpa using nJ r⟩
def o6 {kvs:List (List Key×V)} (ok:jy P w H h) (e:Rd H a (.dT kvs)):kvs.length<=sizeLine/\(a == sysModules)=false/\
  ∃xs,KT H kvs xs/\h.DictOfH (tupleKind (cB P w)) a xs:=by
 obtain ⟨z,y,xs,r,o,es,ep,h1,h2,h3,h4,h5⟩:=(show bB P w H h a (.dT kvs) from xG ok e);refine ⟨z,y,xs,r,o,es,ep,h1,h2,h3,h4,fun x hx=>?_,h5⟩;have all: ∀{l:List (List Key×V)} {m:List (List Key×Addr×Value)},KT H l m->∀x∈m,(tupleKind (cB P w)).is h x.1 x.2.1:=by
  intro l m q
  induction q with
  |nil=>intro x hx;exact nomatch hx
  | @cons p q ps qs hq t ih=>
   intro x hx;rcases List.mem_cons.mp hx with e|hx
   ·
    subst e;exact me ok (by rw [<-hq.1];exact hq.2.1)
   ·exact ih x hx
 exact all r x hx
def Ds {kvs:List (List Key×V)} (ok:jy P w H h) (e:H a=some (.dT kvs)):kvs.length<=sizeLine/\(a == sysModules)=false/\
  ∃xs,KT H kvs xs/\h.DictOfH (tupleKind (cB P w)) a xs:=o6 ok (.inl e)
end
def ng (H:Hp) (a:Addr) (y:V) (r:Option V):Prop:=
 (∃kvs k,Rd H a (.dK kvs)/\y=kV k/\r=bT kvs k)\/∃kvs k b,Rd H a (.dT kvs)/\y = .ref b/\H b=some (.tup (k.map kV))/\r=bT kvs k
def xo (H:Hp) (a:Addr) (y v:V) (H':Hp):Prop:=
 (∃kvs k,H a=some (.dK kvs)/\y=kV k/\kvs.length<sizeLine/\H'=upd H a (.dK (putK kvs k v)))\/
 ∃kvs k b,H a=some (.dT kvs)/\y = .ref b/\H b=some (.tup (k.map kV))/\kvs.length<sizeLine/\H'=upd H a (.dT (putK kvs k v))
def ng.k {H:Hp} {a:Addr} {kvs:List (Key×V)} {k:Key} (e:H a=some (.dK kvs)):ng H a (kV k) (bT kvs k):= .inl ⟨kvs,k,.inl e,rfl,rfl⟩
def xo.k {H:Hp} {a:Addr} {kvs:List (Key×V)} {k:Key} {v:V} (e:H a=some (.dK kvs)) (hl:kvs.length<sizeLine):xo H a (kV k) v (upd H a (.dK (putK kvs k v))):= .inl ⟨kvs,k,e,rfl,hl,rfl⟩
section
variable {X:Cx} {pins:List (Addr×Obj)} {σ:St} {H:Hp} {s:Shared} {a:Addr} {y v:V} {u r:Value} {o:Option V} {A:Around} {E:Value->Shared->Prop}
def Inv.big (I:Inv X pins σ H s):sysModules<s.heap.objs.size:=by
 have h:mainGlobals<s.heap.objs.size:=(I.mod.glob.keeps I.bk).lt;exact Nat.lt_trans (by decide) h
def sJ {Q:Value->Shared->Prop} (hu:A.units+1<cLine) (I:Inv X pins σ H s) (g:ng H a y (some v)) (ry:RelV y u) (h: ∀w' s',Inv X pins σ H s'->RelV v w'->Q w' s'):
  wpAny (model X.prog X.w) A (getItem (.ref a) u) Q E s:=by
 rcases g with ⟨kvs,k,e,ey,l⟩|⟨kvs,k,b,e,ey,eb,l⟩
 ·
  subst ey;obtain ⟨z,hd,vs,rel,dd⟩:=o7 I.hok e;obtain ⟨w',hw,rw'⟩:=iU.some_of (v:=v) (o:=valueAt vs k) (by rw [l];exact rel.val k);exact wpAny_getItem_of (oZ ry) dd.mapOf hw (h w' _ (I.tok _) rw')
 ·
  subst ey;cases (show u=Value.ref b from ry);obtain ⟨z,hd,xs,rel,dd⟩:=o6 I.hok e;obtain ⟨w',hw,rw'⟩:=iU.some_of (v:=v) (o:=(atKey xs k).map (·.2)) (by rw [l];exact rel.val k);obtain ⟨p,hp,hp2⟩:=Option.map_eq_some_iff.mp hw;refine wpAny_getItem_heap (tupleKind_room_in1 hu) (me I.hok eb) dd hp ?_;rw [hp2];exact h w' _ (I.tok _) rw'
def E9 {Q:Value->Shared->Prop} (hu:A.units+1<cLine) (I:Inv X pins σ H s) (g:ng H a y o) (ry:RelV y u) (h: ∀s',Inv X pins σ H s'->Q (.bool o.isSome) s'):
  wpAny (model X.prog X.w) A (compareOp .In u (.ref a)) Q E s:=by
 rcases g with ⟨kvs,k,e,ey,l⟩|⟨kvs,k,b,e,ey,eb,l⟩
 ·
  subst ey;obtain ⟨z,hd,vs,rel,dd⟩:=o7 I.hok e;refine wpAny_in_of (oZ ry) hd dd.mapOf ?_;rw [<-(rel.val k).fV,<-l];exact h _ (I.tok _)
 ·
  subst ey;cases (show u=Value.ref b from ry);obtain ⟨z,hd,xs,rel,dd⟩:=o6 I.hok e;refine wpAny_in_heap (tupleKind_room_in1 hu) (me I.hok eb) hd dd ?_;have q:=(rel.val k).fV;rw [Option.isSome_map] at q;rw [<-q,<-l];exact h _ (I.tok _)
def xb {Q:Value->Shared->Prop} (hu:A.units+1<cLine) (I:Inv X pins σ H s) (g:ng H a y o) (ry:RelV y u) (h: ∀s',Inv X pins σ H s'->Q (.bool (!o.isSome)) s'):
  wpAny (model X.prog X.w) A (compareOp .NotIn u (.ref a)) Q E s:=by
 rcases g with ⟨kvs,k,e,ey,l⟩|⟨kvs,k,b,e,ey,eb,l⟩
 ·
  subst ey;obtain ⟨z,hd,vs,rel,dd⟩:=o7 I.hok e;refine wpAny_notIn_of (oZ ry) hd dd.mapOf ?_;rw [<-(rel.val k).fV,<-l];exact h _ (I.tok _)
 ·
  subst ey;cases (show u=Value.ref b from ry);obtain ⟨z,hd,xs,rel,dd⟩:=o6 I.hok e;refine wpAny_notIn_heap (tupleKind_room_in1 hu) (me I.hok eb) hd dd ?_;have q:=(rel.val k).fV;rw [Option.isSome_map] at q;rw [<-q,<-l];exact h _ (I.tok _)
def qV {h':Heap} {t':Nat} {ob:HO} (I:Inv X pins σ H s) (mu:DB (H a)) (hs:Heap.SameBut a s.heap h') (he: ∃q,h'.get? a=some q) (new:bB X.prog X.w (upd H a ob) h' a ob):
  Inv X pins σ (upd H a ob) {s with heap:=h',toks:=t'}:=
 I.write (x:=a) (e:=a) mu (.inl rfl) (fun b q hb z=>(hs.2 b hb).trans z) he new
def z8 {P:Program} {w:World} {H':Hp} {h':Heap} {kvs:List (Key×V)} {vs:List (Key×Value)} (z:kvs.length<=sizeLine) (hd:(a == sysModules)=false) (rel:KV kvs vs) (dd:h'.DictOf (cB P w) a vs):
  bB P w H' h' a (.dK kvs):=⟨z,hd,vs,rel,dd⟩
def sI {H':Hp} {Q:Unit->Shared->Prop} (hu:A.units+1<cLine) (I:Inv X pins σ H s) (g:xo H a y v H') (ry:RelV y u) (rv:RelV v r) (h: ∀s',Inv X pins σ H' s'->Q () s'):
  wpAny (model X.prog X.w) A (setItem (.ref a) u r) Q E s:=by
 rcases g with ⟨kvs,k,e,ey,l,eH⟩|⟨kvs,k,b,e,ey,eb,l,eH⟩
 ·
  subst ey eH;obtain ⟨z,hd,vs,rel,dd⟩:=Dv I.hok e;have hz:vs.length<=sizeLine:=by rw [<-rel.length];exact z
  have hl:(putK kvs k v).length<=sizeLine:=by have:=dS kvs k v;lia
  refine wpAny_setItem_pairs (hsz:=hz) (oZ ry) dd fun h' dd' hs=>h _ ?_;have he: ∃q,h'.get? a=some q:=let ⟨q,_,_,hq,_⟩:=dd';⟨q,hq⟩;exact qV I (by rw [e];exact True.intro) hs he (z8 hl hd (rel.put k rv) dd')
 ·
  subst ey eH;cases (show u=Value.ref b from ry);obtain ⟨z,hd,xs,rel,dd⟩:=Ds I.hok e;have hz:xs.length<=sizeLine:=by rw [<-Paired.length rel];exact z
  have hl:(putK kvs k v).length<=sizeLine:=by have:=dS kvs k v;lia
  refine wpAny_setItem_heap (hsz:=hz) (tupleKind_room_in1 hu) (me I.hok eb) dd fun h' dd' hs=>h _ ?_;obtain ⟨q,es,ep,hq,h2,h3,h4,_,h5⟩:=dd';refine qV I (by rw [e];exact True.intro) hs ⟨q,hq⟩ ⟨hl,hd,_,(rel.put k eb rv).keeps fun c ys ec=>?_,q,es,ep,hq,h2,h3,h4,h5⟩;rw [aj (a_ ec e (fun z=>nomatch z))];exact ec
end
section
variable {X:Cx} {pins:List (Addr×Obj)} {σ:St} {H:Hp} {s:Shared} {a:Addr} {kvs:List (Key×V)} {k:Key} {u:Value} {A:Around} {E:Value->Shared->Prop}
end
def DA (i:Expr):Prop:= ∀ov iv,subscripted i false ov iv=operate [ov,iv] (getItem ov iv)
def vN {prog:Program} {w:World} {A:Around} {E:Value->Shared->Prop} {s:Shared} {env:Env} {value slice:Expr} {pos:Pos} {T id:String} {Q:Value->Shared->Prop}
  (hl:typeLookup (.type T) "__getitem__" = pure (some (.builtin id))) (hs:DA slice)
  (h:wpAny (model prog w) A (eval value env) (fun o s₁=>wpAny (model prog w) A (eval slice env) (fun i s₂=>s₂.TypeIs o T/\wpAny (model prog w) A (getItem o i) Q E s₂) E s₁) E s):
  wpAny (model prog w) A (eval (.Subscript value slice pos) env) Q E s:=by
 refine Subscript_ (wpAny_mono h (fun o s₁ h₁=>wpAny_mono h₁ (fun i s₂ h₂=>?_) fun _ _ x=>x) fun _ _ x=>x);obtain ⟨hT,h₂⟩:=h₂;unfold subscriptTail;refine wpAny_bind ?_;rw [getitemInPython_of_ne hT.not_modules];refine wpAny_bind (wpAny_specialOf hT hl ?_);have fin:wpAny (model prog w) A (subscripted slice false o i) (fun r s₃=>wpAny (model prog w) A (letTemporaryGo value o r >>= fun _=>pure r) Q E s₃) E s₂:=by
  rw [hs o i];exact wpAny_operating (wpAny_mono h₂ (fun r s₃ h₃=>wpAny_bind (wpAny_letTemporaryGo (wpAny_pure h₃))) fun _ _ x=>x)
 first
  |exact wpAny_pure (wpAny_bind fin)
  |exact wpAny_bind (wpAny_pure (wpAny_bind fin))
  |exact wpAny_bind fin
def o8 {X:Cx} {pins:List (Addr×Obj)} {σ:St} {H:Hp} {s:Shared} {a:Addr} {y:V} {o:Option V} (I:Inv X pins σ H s) (g:ng H a y o):s.TypeIs (.ref a) "dict" :=by
 rcases g with ⟨kvs,k,e,_,_⟩|⟨kvs,k,b,e,_,_,_⟩
 ·
  obtain ⟨_,_,vs,_,dd⟩:=o7 I.hok e;exact dd.typeIs
 ·
  obtain ⟨_,_,xs,_,dd⟩:=o6 I.hok e;exact dd.typeIs
section
variable {X:Cx} {o i e value:Expr} {pos pos' tpos:Pos} {td ty tv:TE}
end
def vf {P:Program} {w:World} {H:Hp} (h:Heap) (hb:sysModules<h.objs.size):bB P w H (h.push {cls:= .type "dict",data:= .dict #[]}) h.objs.size (.dK []):=
 ⟨Nat.zero_le _,beq_eq_false_iff_ne.mpr (Ne.symm (Nat.ne_of_lt hb)),[],.nil,Heap.DictOf.new h⟩
def s9:TE:=fun _ H Q=> ∀p,H p=none->Q (.ref p) (upd H p (.dK []))
section
variable {X:Cx} {pos:Pos}
def lX:PE X (.Dict [] [] pos) s9:=fun pins s σ H Q I h=>
 wpAny_Dict_empty ⟨.ref s.heap.objs.size,_,I.laid (a:=s.heap.objs.size) (o:= .dK []) (t':=s.toks) (fun _ _ q=>Heap.get?_push_of_some _ q) (Nat.le_refl _) (vf s.heap I.big),rfl,h _ (I.hok.fresh (Nat.le_refl _))⟩
end
def pL:List (TE×TE)->St->Hp->(List (V×V)->Hp->Prop)->Prop
 | [],_,H,Q=>Q [] H
 |(tk,tv)::r,σ,H,Q=>tk σ H fun x H1=>tv σ H1 fun y H2=>pL r σ H2 fun ps H3=>Q ((x,y)::ps) H3
noncomputable def yF (kvs more:List (Key×V)):List (Key×V):=more.foldl (fun acc kv=>putK acc kv.1 kv.2) kvs
def Ay (trs:List (TE×TE)):TE:=fun σ H Q=> ∀p,H p=none->pL trs σ (upd H p (.dK [])) fun ps H2=>H2 p=some (.dK [])/\∃kvs:List (Key×V),ps=kvs.map (fun kv=>(kV kv.1,kv.2))/\kvs.length<=15/\Q (.ref p) (upd H2 p (.dK (yF [] kvs)))
section
variable {X:Cx} {pins:List (Addr×Obj)} {σ:St} {H:Hp} {s:Shared} {a:Addr} {y d:V} {u r:Value} {o:Option V} {A:Around} {E:Value->Shared->Prop}
end
section
variable {X:Cx} {o e f:Expr} {apos cpos:Pos} {td ty tx:TE}
end
section
variable {X:Cx} {pins:List (Addr×Obj)} {σ:St} {H:Hp} {s:Shared} {a:Addr} {kvs:List (Key×V)} {A:Around} {E:Value->Shared->Prop}
end
section
variable {X:Cx} {pins:List (Addr×Obj)} {σ:St} {H:Hp} {s:Shared} {a:Addr} {y:V} {u:Value} {A:Around} {E:Value->Shared->Prop}
end
section
variable {X:Cx}
end
section
variable {κ:Type} [DecidableEq κ]
end
def FnAt (P:Program) (w:World) (K:W.Frag) (mg:Str->Option Value) (base:Heap) (CX:lN) (x:Str) (k:Nat) (ps:List Str) (sp:Sp):Prop:=
 ∃f fd,kL P w K mg base CX k f fd ps sp/\mg x=some (.ref f)/\W.keepIn K (.ref f)=true/\Binds K fd ps []/\∃oc od osl,K.lookup f=some ⟨oc,od,.func fd,osl⟩
def e_ (K:W.Frag) (mg:Str->Option Value) (x:Str) (st:Stmt):Prop:= ∃f fd,DG K x x st f fd/\mg x=some (.ref f)
class Quiet (CX:lN):Prop where
 pass: ∀(X:Cx),Passes CX X E0
noncomputable instance:Quiet fb:=⟨fun _=>AZ⟩
def vj {K:W.Frag} {h:Heap} {mg:Str->Option Value} {x:Str} {st:Stmt} {f:Addr} {oc:Value} {od an:Option Addr} {osl:Array (Option Value)} {kV doc pm cdv ct:Value} (X:K.In h) (G:h.Ns mainGlobals mg)
  (a:W.nsIn K mainGlobals x=some (some (.ref f)))
  (l:K.lookup f=some ⟨oc,od,.func (W.fnOf x x (dq st) (cC st) (ay st) .none kV doc pm an cdv ct),osl⟩) (c:W.codeIn K cdv x=true) (k:W.keepIn K (.ref f)=true):e_ K mg x st:=
 ⟨f,_,va l c k,W.mg_of X G a⟩
section
variable {P:Program} {w:World} {K:W.Frag} {mg:Str->Option Value} {base:Heap} {CX:lN}
def e_.fn {x:Str} {st:Stmt} {N ps:List Str} {k:Nat} {sp:Sp} (F:e_ K mg x st) (S:aD N ps (ay st))
  (hb: ∀(kV doc pm:Value) (an:Option Addr) (cdv ct:Value) (us:List Value),us.length=ps.length->bindArgs (W.fnOf x x (dq st) (cC st) (ay st) .none kV doc pm an cdv ct) ⟨us,[]⟩=pure (ps.zip us))
  (len: ∀vs H Q E,sp vs H Q E->vs.length=ps.length)
  (
   hbody: ∀(f:Addr) (cdv:Value) (A:Around) (outer:List Env) (s:Shared) (H:Hp) (vs:List V) (Q:VK) (E:XK),c_ k (A.deeper (envOfC x (ay st) s.heap.objs.size f cdv))->sp vs H Q E->
   ∃t,pF (ph CX P w K mg base N x (ay st) f cdv A outer s H E).nox (cC st) t/\t {nx:=fun _ H'=>Q .non H',rt:=Q} (start N vs) H):FnAt P w K mg base CX x (k+1) ps sp:=by
 obtain ⟨f,fd,F,hm⟩:=F;have bd:=F.binds hb;have kp:=F.kp;obtain ⟨oc,od,kV,doc,pm,an,cdv,ct,osl,rfl,lk,hcd⟩:=F.ex;refine ⟨f,_,xV lk hcd S len fun A outer s H vs Q E hr hsp=>?_,hm,kp,bd,oc,od,osl,lk⟩;obtain ⟨t,h,q⟩:=hbody f cdv A outer s H vs Q E hr hsp;exact ⟨t,h.nox,q⟩
end
section
variable {X:Cx} {CX:lN} {k n:Nat} {ps:List Str} {sp:Sp} {x:Str} {p pos:Pos} {e:Expr} {es:List Expr} {t:TA}
def AW [Quiet CX] (G:FnAt X.prog X.w X.K X.mg X.base CX x k ps sp) (hr:c_ n X.A) (hk:k<=n) (hg:Gl X x) (ha:PA X (e::es) t)
  (hdb:(x == ("__debug__" : Str))=false:=by decide) (he:starEach (e::es) X.env=(false,eval e X.env)::starEach es X.env:=by rfl) (hpl:(backTo pos (starEach es X.env)).any (·.1)=false:=by rfl):
  PE X (.Call (.Name x p) (e::es) [] pos) (qr sp [] E0 t):=by
 obtain ⟨f,fd,F,hm,kp,b,_⟩:=G;exact wA F (hr.mono hk) hg hm kp b .nil (Quiet.pass X) ha hdb he hpl
def vC (mg:Str->Option Value) (x:Str) (v:V):Prop:= ∃u,mg x=some u/\RelV v u
def ui {v:V} (hg:Gl X x) (h:vC X.mg x v) (hd:(x == ("__debug__" : Str))=false:=by decide):PE X (.Name x pos) (tC v):=by
 obtain ⟨u,hm,r⟩:=h;exact wz hg hm r hd
end
noncomputable def DC (lo c:Int) (n:Nat):It:=⟨fun i _=>i<n,fun i H x H'=>H'=H/\x = .int (lo+i*c),fun i _=>n<=i⟩
noncomputable def rcount (lo hi c:Int):Nat:=(Builtin.Range.rangeSize lo hi c).toNat
section
variable {X:Cx} {tg:Expr}
end
section
variable {g:Int->Int->V} {C:Int->Int->Prop} {i j:Int} {H:Hp} {Q:VK}
def wd:sR g (.int i) (.int j) H Q=Q (g i j) H:=by
 apply propext;constructor
 ·
  rintro ⟨a,b,e1,e2,q⟩;cases e1;cases e2;exact q
 ·intro q;exact ⟨i,j,rfl,rfl,q⟩
def yh:rI C g (.int i) (.int j) H Q=(C i j/\Q (g i j) H):=by
 apply propext;constructor
 ·
  rintro ⟨a,b,e1,e2,q⟩;cases e1;cases e2;exact q
 ·intro q;exact ⟨i,j,rfl,rfl,q⟩
def yd {f:Int->V}:rU f (.int i) H Q=Q (f i) H:=by
 apply propext;constructor
 ·
  rintro ⟨a,e1,q⟩;cases e1;exact q
 ·intro q;exact ⟨i,rfl,q⟩
def Dq {b:Bool} {P:Bool->Prop}:(∃k,V.bl b = .bl k/\P k)=P b:=by
 apply propext;constructor
 ·
  rintro ⟨k,e,q⟩;cases e;exact q
 ·intro q;exact ⟨b,rfl,q⟩
def Dp {v:V} {P:V->Prop}:(∃u,some (some v)=some (some u)/\P u)=P v:=by
 apply propext;constructor
 ·
  rintro ⟨k,e,q⟩;cases e;exact q
 ·intro q;exact ⟨v,rfl,q⟩
def qA:yj (.int i) (.int j) H Q=Q (.bl (decide (i=j))) H:=by
 have e:decide (V.int i=V.int j)=decide (i=j):=by
  by_cases h:i=j
  ·subst h;simp
  ·rw [decide_eq_false h,decide_eq_false (fun q=>h (V.int.inj q))]
 unfold yj;rw [e];apply propext;exact ⟨fun h=>h.2,fun h=>⟨rfl,h⟩⟩
def qy:ye (.int i) (.int j) H Q=Q (.bl (!decide (i=j))) H:=by
 have e:decide (V.int i=V.int j)=decide (i=j):=by
  by_cases h:i=j
  ·subst h;simp
  ·rw [decide_eq_false h,decide_eq_false (fun q=>h (V.int.inj q))]
 unfold ye;rw [e];apply propext;exact ⟨fun h=>h.2,fun h=>⟨rfl,h⟩⟩
def qz {a b:Str}:yj (.str a) (.str b) H Q=Q (.bl (decide (a=b))) H:=by
 have e:decide (V.str a=V.str b)=decide (a=b):=by
  by_cases h:a=b
  ·subst h;simp
  ·rw [decide_eq_false h,decide_eq_false (fun q=>h (V.str.inj q))]
 unfold yj;rw [e];apply propext;exact ⟨fun h=>h.2,fun h=>⟨rfl,h⟩⟩
def qx {a b:Str}:ye (.str a) (.str b) H Q=Q (.bl (!decide (a=b))) H:=by
 have e:decide (V.str a=V.str b)=decide (a=b):=by
  by_cases h:a=b
  ·subst h;simp
  ·rw [decide_eq_false h,decide_eq_false (fun q=>h (V.str.inj q))]
 unfold ye;rw [e];apply propext;exact ⟨fun h=>h.2,fun h=>⟨rfl,h⟩⟩
def tW {a b:Bool}:yj (.bl a) (.bl b) H Q=Q (.bl (decide (a=b))) H:=by
 have e:decide (V.bl a=V.bl b)=decide (a=b):=by
  by_cases h:a=b
  ·subst h;simp
  ·rw [decide_eq_false h,decide_eq_false (fun q=>h (V.bl.inj q))]
 unfold yj;rw [e];apply propext;exact ⟨fun h=>h.2,fun h=>⟨rfl,h⟩⟩
def tJ {a b:Bool}:ye (.bl a) (.bl b) H Q=Q (.bl (!decide (a=b))) H:=by
 have e:decide (V.bl a=V.bl b)=decide (a=b):=by
  by_cases h:a=b
  ·subst h;simp
  ·rw [decide_eq_false h,decide_eq_false (fun q=>h (V.bl.inj q))]
 unfold ye;rw [e];apply propext;exact ⟨fun h=>h.2,fun h=>⟨rfl,h⟩⟩
end
def d2.imp {X:Cx} {f:Value->Value->Sem Value} {r r':R2} (h:d2 X f r) (i: ∀x y H Q,r' x y H Q->r x y H Q):d2 X f r':=
 fun pins s σ H x y v u Q I rx ry q=>h pins s σ H x y v u Q I rx ry (i _ _ _ _ q)
def bc.imp {X:Cx} {f:Value} {r r':List V->Hp->VK->Prop} (h:bc X f r) (i: ∀xs H Q,r' xs H Q->r xs H Q):bc X f r':=
 fun pins s σ H xs us Q I rs q=>h pins s σ H xs us Q I rs (i _ _ _ q)
def nF (K:W.Frag):R2:=fun x y H Q=>match x,y with
 | .int i,.int j=>Q (.int (i+j)) H
 | .str a,.str b=>a.length+b.length<=sizeLine/\Q (.str (a++b)) H
 | .ref l,.ref b=>AU (.ref l) (.ref b) H Q\/xJ K (.ref l) (.ref b) H Q
 |_,_=>False
section
variable {X:Cx}
def wF:d2 X (binaryOp .Add) (nF X.K):=by
 refine d2.imp (yC.or (p4.or (yA.or wD))) fun x y H Q h=>?_;unfold nF at h;split at h
 ·exact .inl ⟨_,_,rfl,rfl,h⟩
 ·exact .inr (.inl ⟨_,_,rfl,rfl,h⟩)
 ·exact .inr (.inr h)
 ·exact h.elim
def xp (i j:Int):Prop:=(0<=j/\j<=1000000)/\-(2 ^ 512)<i/\i<2 ^ 512
def xp.bits {i j:Int} (h:xp i j):(Builtin.Int.intBits i:Int)+j<=2 ^ 27:=by
 have hb:Builtin.Int.intBits i<=512:=by
  unfold Builtin.Int.intBits;split
  ·lia
  ·
   rename_i hz;have hz':i≠0:=fun q=>hz (by rw [q];rfl);have:i.natAbs.log2<512:=(Nat.log2_lt (by lia)).mpr (by have:=h.2;lia);lia
 have:=h.1.2;lia
def qH:d2 X (binaryOp .LShift) (rI xp fun i j=> .int (i*2 ^ j.toNat)):=xM fun _ _ _ _ _ _ _ hc q=>lshift_int hc.1.1 hc.bits q
end
def xZ (i j:Int):Prop:=(0<=j/\j<=1000000)/\-(2 ^ 64)<i/\i<2 ^ 64
def qI {X:Cx}:d2 X (binaryOp .Pow) (rI xZ fun i j=> .int (i ^ j.toNat)):=xM fun _ _ _ _ _ _ _ hc q=>pow_int_small hc.1.1 hc.1.2 (by have:=hc.2;lia) q
def kM (K:W.Frag):List V->Hp->VK->Prop:=fun xs H Q=>match xs with
 | [.str z]=>z.length<=sizeLine/\Q (.int z.length) H
 | [.ref p]=> ∃ys,(cD K H p ys\/dZ K H p ys)/\Q (.int ys.length) H
 |_=>False
section
variable {X:Cx}
def sN:bc X (.builtin "len") (kM X.K):=by
 refine bc.imp (oE.or oC) fun xs H Q h=>?_;unfold kM at h;split at h
 ·exact .inr ⟨_,rfl,h.1,h.2⟩
 ·
  obtain ⟨ys,h1,h2⟩:=h;exact .inl ⟨_,ys,rfl,h1,h2⟩
 ·exact h.elim
def tM:List V->Hp->VK->Prop:=fun xs H Q=>match xs with
 | [.int i,.int j]=>Q (.int (if j<i then j else i)) H
 |_=>False
def tO:List V->Hp->VK->Prop:=fun xs H Q=>match xs with
 | [.int i,.int j]=>Q (.int (if i<j then j else i)) H
 |_=>False
def kD (hc:X.calm=true):bc X (.builtin "min") tM:=by
 refine bc.imp (sL hc) fun xs H Q h=>?_;unfold tM at h;split at h
 ·exact ⟨_,_,rfl,h⟩
 ·exact h.elim
def ip (hc:X.calm=true):bc X (.builtin "max") tO:=by
 refine bc.imp (sM hc) fun xs H Q h=>?_;unfold tO at h;split at h
 ·exact ⟨_,_,rfl,h⟩
 ·exact h.elim
noncomputable def C_:V->String->Option Bool
 | .int _,"int" =>some true
 | .int _,"bool" =>some false
 | .int _,"str" =>some false
 | .bl _,"int" =>some true
 | .bl _,"bool" =>some true
 | .str _,"str" =>some true
 | .str _,"int" =>some false
 |_,_=>none
def gj (K:W.Frag):List V->Hp->VK->Prop:=fun xs H Q=>match xs with
 | [x,.ty T]=>(match C_ x T with
  |some b=>Q (.bl b) H
  |none=> ∃t b,jX K H x t/\W.kitOne K t (.type T)=some b/\Q (.bl b) H)
 |_=>False
def yP (K:W.Frag):W.kitOne K (.type "int") (.type "int")=some true:=by first|rfl|kernel_rfl
def yQ (K:W.Frag):W.kitOne K (.type "int") (.type "bool")=some false:=by first|rfl|kernel_rfl
def kit_is (K:W.Frag):W.kitOne K (.type "int") (.type "str")=some false:=by first|rfl|kernel_rfl
def yR (K:W.Frag):W.kitOne K (.type "bool") (.type "int")=some true:=by first|rfl|kernel_rfl
def yS (K:W.Frag):W.kitOne K (.type "bool") (.type "bool")=some true:=by first|rfl|kernel_rfl
def yM (K:W.Frag):W.kitOne K (.type "str") (.type "str")=some true:=by first|rfl|kernel_rfl
def yN (K:W.Frag):W.kitOne K (.type "str") (.type "int")=some false:=by first|rfl|kernel_rfl
def yO (K:W.Frag):W.kitOne K (.type "list") (.type "list")=some true:=by first|rfl|kernel_rfl
def yL (K:W.Frag):W.kitOne K (.type "tuple") (.type "tuple")=some true:=by first|rfl|kernel_rfl
def vq:bc X (.builtin "isinstance") (gj X.K):=by
 intro pins s σ H xs us Q I rs q;unfold gj at q;split at q
 ·
  rename_i x T;obtain ⟨u,c,rfl,ru,rc⟩:=vals2 rs;obtain rfl:c=Value.type T:=rc;have key: ∀{t b},jX X.K H x t->W.kitOne X.K t (.type T)=some b->Q (.bl b) H->wpAny (model X.prog X.w) X.A (call (.builtin "isinstance") [u,.type T]) (EP X pins σ Q) X.xe s:=fun {t b} ty e h=>
   sy I ru ty e fun tk=>⟨.bl b,H,I.tok tk,rfl,h⟩
  split at q
  ·
   rename_i b e;have h:=q;unfold C_ at e;split at e<;>cases e
   ·exact key (.int _) (yP _) h
   ·exact key (.int _) (yQ _) h
   ·exact key (.int _) (kit_is _) h
   ·exact key (.bl _) (yR _) h
   ·exact key (.bl _) (yS _) h
   ·exact key (.str _) (yM _) h
   ·exact key (.str _) (yN _) h
  ·
   obtain ⟨t,b,ty,e,h⟩:=q;exact key ty e h
 ·exact q.elim
def ue {x:Str} {T:String} {pos:Pos} (hg:Gl X x) (hm:X.mg x=none) (hv:bootBuiltins x=some (.type T)) (hn:x≠ "__name__" :=by decide) (hd:(x == ("__debug__" : Str))=false:=by decide):PE X (.Name x pos) (tC (.ty T)):=
 wB hg hm hv rfl hn hd
end
def mE:bootBuiltins "len" = some (.builtin "len"):=by decide+kernel
def qh:bootBuiltins "min" = some (.builtin "min"):=by decide+kernel
def oF:bootBuiltins "max" = some (.builtin "max"):=by decide+kernel
def Ak:bootBuiltins "abs" = some (.builtin "abs"):=by decide+kernel
def fR:bootBuiltins "isinstance" = some (.builtin "isinstance"):=by decide+kernel
def Aj:bootBuiltins "int" = some (.type "int"):=by decide+kernel
def xh:bootBuiltins "bool" = some (.type "bool"):=by decide+kernel
def xg:bootBuiltins "list" = some (.type "list"):=by decide+kernel
def pB:bootBuiltins "tuple" = some (.type "tuple"):=by decide+kernel
section
variable {K:W.Frag} {H:Hp} {Q:VK}
def rZ {i j:Int}:nF K (.int i) (.int j) H Q=Q (.int (i+j)) H:=rfl
def rY {i j:Str}:nF K (.str i) (.str j) H Q=(i.length+j.length<=sizeLine/\Q (.str (i++j)) H):=rfl
def rP {z:Str}:kM K [.str z] H Q=(z.length<=sizeLine/\Q (.int z.length) H):=rfl
def rQ {p:Addr}:kM K [.ref p] H Q=(∃ys,(cD K H p ys\/dZ K H p ys)/\Q (.int ys.length) H):=rfl
def vW {i:Int}:gj K [.int i,.ty "int"] H Q=Q (.bl true) H:=rfl
def vX {i:Int}:gj K [.int i,.ty "bool"] H Q=Q (.bl false) H:=rfl
def vV {i:Int}:gj K [.int i,.ty "str"] H Q=Q (.bl false) H:=rfl
def vY {i:Bool}:gj K [.bl i,.ty "int"] H Q=Q (.bl true) H:=rfl
def vZ {i:Bool}:gj K [.bl i,.ty "bool"] H Q=Q (.bl true) H:=rfl
def vT {i:Str}:gj K [.str i,.ty "str"] H Q=Q (.bl true) H:=rfl
def vU {i:Str}:gj K [.str i,.ty "int"] H Q=Q (.bl false) H:=rfl
def rJ {i j:Int}:tM [.int i,.int j] H Q=Q (.int (if j<i then j else i)) H:=rfl
def rL {i j:Int}:tO [.int i,.int j] H Q=Q (.int (if i<j then j else i)) H:=rfl
end
def Ae {CX:lN} {P:Program} {w:World} {K:W.Frag} {mg:Str->Option Value} {base:Heap} {N:List Str} {qual:Str} {scope:Scope} {f:Addr} {cd:Value} {A:Around} {outer:List Env} {s:Shared} {H:Hp} {E:XK}:
  (ph CX P w K mg base N qual scope f cd A outer s H E).K=K:=rfl
section
variable {ta:TA} {tl:TE} {K:W.Frag} {g:TG} {tb:TS} {D:Ends} {σ:St} {H:Hp}
end
def law_fin {P:Program} {w:World} {K:W.Frag} {mg:Str->Option Value} {CX:lN} {k:Nat} {fa:Addr} {x nm:Str} {st:Stmt} {sp:Sp} (hmg:mg nm=some (.ref fa)) (D:e_ K mg nm st)
  (hb: ∀(kV doc pm:Value) (an:Option Addr) (cdv ct:Value) (us:List Value),us.length=([x]:List Str).length->bindArgs (W.fnOf nm nm (dq st) (cC st) (ay st) .none kV doc pm an cdv ct) ⟨us,[]⟩=pure (([x]:List Str).zip us))
  (ok: ∀base:Heap,FnAt P w K mg base CX nm k [x] sp):
  ∃fd:FuncData,(∀(s:Shared) (u:Value),BindsTo s fd ⟨[u],[]⟩ [(x,u)])/\∀base:Heap,K.In base->base.Ns mainGlobals mg->kL P w K mg base CX k fa fd [x] sp:=by
 obtain ⟨f,fd,F,hm⟩:=D;rw [hmg] at hm;cases hm;obtain ⟨oc,od,kV,doc,pm,an,cdv,ct,osl,e,lk,hcd⟩:=F.ex;refine ⟨fd,fun s u=>?_,fun base _ _=>?_⟩
 ·
  rw [e];exact .of_eq (hb kV doc pm an cdv ct [u] rfl)
 ·
  obtain ⟨f',fd',h,hm',_,_,oc',od',osl',lk'⟩:=ok base;rw [hmg] at hm';cases hm';rw [lk] at lk';cases lk';exact h
def ny (K:W.Frag):Sp:=fun vs H Q _=>match vs with
 | [.ref a]=> ∃ns:List Int,cD K H a (ns.map V.int)/\ns.length<=63/\vA H/\∀H',Q (.bl true) H'
 |_=>False
def uE {l:W.OpenLaw} {k:Nat} {q:Program} {loose:List Str} {XP:(Str->Option Value)->Heap->Prop} {YP:World->Heap->Prop} {d:DefRec} {K:Params->W.Frag} {x:Str} (hn:l.most=some 63) (hdf:d.params.defaults= [])
  (hr:c_ k callerA) (hY: ∀(w:World) (h:Heap),YP w h->(K w.params).In h)
  (
   F: ∀(w:World) (mg:Str->Option Value) (fa:Addr) (h:Heap),(K w.params).In h->h.Ns mainGlobals mg->mg d.name=some (.ref fa)->
   ∃fd:FuncData,(∀(s:Shared) (u:Value),BindsTo s fd ⟨[u],[]⟩ [(x,u)])/\∀base:Heap,(K w.params).In base->base.Ns mainGlobals mg->kL l.prog w (K w.params) mg base fb k fa fd [x] (ny (K w.params))):
  W.WalkO q loose XP YP l.row.toRowW d [] (fun f vs=>PySem.call f vs):=
 L2.sS (n:=63) (CX:=fb) (sp:=ny) hn (by decide) hdf hr hY F (fun K H a ns hl hO hS=>⟨ns,hS,hl,hO,fun _=>rfl⟩) fun _ _ _ _ z=>z
noncomputable def Cx.comp (X:Cx) (scope:Scope) (cl:List (Str×Addr)) (C:Addr) (N:List Str) (s:Shared) (H:Hp) (ex:List Addr):Cx:=
 {prog:=X.prog,w:=X.w,K:=X.K,mg:=X.mg,base:=X.base,A:=X.A,N:=N,s₀:=s,H₀:=H,env:=compEnvC scope cl C X.env,outer:=X.stack,stack:=X.stack,ex:=ex,fn:=fun _=>false,calm:=X.calm,pn:=[],xe:=fun _ _=>False}
def qe {env:Env} {scope:Scope} (h: ∀y∈scope.names,y.2 = .free->∃c,env.cells.lookup y.1=some c):
  ∃cl,closureFor scope env=pure cl/\(∀y c,cl.lookup y=some c->env.cells.lookup y=some c)/\∀y∈scope.names,y.2 = .free->∃c,cl.lookup y.1=some c:=by
 have key: ∀(l:List (Str×NameKind)) (acc:List (Str×Addr)),(∀y∈l,y.2 = .free->∃c,env.cells.lookup y.1=some c)->(∀y c,acc.lookup y=some c->env.cells.lookup y=some c)->
   ∃cl,(forIn l acc fun (x:Str×NameKind) (cs:List (Str×Addr))=>if (x.2 == NameKind.free)=true then do let a<-cellOf env x.1;pure (ForInStep.yield ((x.1,a)::cs)) else pure (ForInStep.yield cs))=(pure cl:Sem (List (Str×Addr)))/\
    (∀y c,cl.lookup y=some c->env.cells.lookup y=some c)/\(∀y c,acc.lookup y=some c->∃c,cl.lookup y=some c)/\∀y∈l,y.2 = .free->∃c,cl.lookup y.1=some c:=by
  intro l
  induction l with
  |nil=>intro acc _ ha;exact ⟨acc,rfl,ha,fun y c e=>⟨c,e⟩,fun y hy=>nomatch hy⟩
  |cons x r ih=>
   intro acc hl ha;obtain ⟨n,k⟩:=x;by_cases hk:k = .free
   ·
    subst hk;obtain ⟨c,hc⟩:=hl (n,.free) List.mem_cons_self rfl;have ha': ∀y d,((n,c)::acc).lookup y=some d->env.cells.lookup y=some d:=fun y d e=>by
     simp only [List.lookup_cons] at e;cases q:y == n with
     |true=>rw [q] at e;cases e;rw [beq_iff_eq.mp q];exact hc
     |false=>rw [q] at e;exact ha y d e
    obtain ⟨cl,e,h1,h2,h3⟩:=ih ((n,c)::acc) (fun y hy=>hl y (List.mem_cons_of_mem _ hy)) ha';have top: ∃d,cl.lookup n=some d:=h2 n c (by simp [List.lookup_cons]);refine ⟨cl,?_,h1,fun y d q=>?_,fun y hy hf=>?_⟩
    ·
     rw [List.forIn_cons];have ec:cellOf env n=pure c:=by unfold cellOf;rw [hc]
     show ((if (NameKind.free == NameKind.free)=true then (do let a<-cellOf env n;pure (ForInStep.yield ((n,a)::acc))) else _) >>= _)=_;rw [if_pos (by decide),ec];exact e
    ·
     cases z:y == n with
     |true=>rw [beq_iff_eq.mp z];exact top
     |false=>exact h2 y d (by simp only [List.lookup_cons,z];exact q)
    ·
     rcases List.mem_cons.mp hy with rfl|hy
     ·exact top
     ·exact h3 y hy hf
   ·
    have hb:(k == NameKind.free)=false:=by simpa using hk
    obtain ⟨cl,e,h1,h2,h3⟩:=ih acc (fun y hy=>hl y (List.mem_cons_of_mem _ hy)) ha;refine ⟨cl,?_,h1,h2,fun y hy hf=>?_⟩
    ·
     rw [List.forIn_cons];show ((if (k == NameKind.free)=true then _ else pure (ForInStep.yield acc)) >>= _)=_;rw [hb,if_neg Bool.false_ne_true];exact e
    ·
     rcases List.mem_cons.mp hy with rfl|hy
     ·exact absurd hf hk
     ·exact h3 y hy hf
 obtain ⟨cl,e,h1,_,h3⟩:=key scope.names [] h (fun y c q=>by simp at q);refine ⟨cl,?_,h1,h3⟩;unfold closureFor;exact (bind_congr (fun _=>rfl)).trans (by rw [e];rfl)
def gi {scope:Scope} {env:Env} {x:Str} {k:NameKind} (h:(relabel scope env).names.lookup x=some k):scope.names.lookup x=some k\/(scope.names.lookup x=some .free/\k = .cell):=by
 unfold relabel at h;have key: ∀l:List (Str×NameKind),(l.map fun (n,k)=>if (k == NameKind.free&&env.scope.kind == .function&&env.kindOf n == some .cell) then (n,NameKind.cell) else (n,k)).lookup x=some k->l.lookup x=some k\/(l.lookup x=some .free/\k = .cell):=by
  intro l
  induction l with
  |nil=>intro h;simp at h
  |cons y r ih=>
   obtain ⟨n,j⟩:=y;intro h;rw [List.map_cons] at h;simp only [List.lookup_cons];cases q:x == n with
   |true=>
    by_cases hc:(j == NameKind.free&&env.scope.kind == .function&&env.kindOf n == some .cell)=true
    ·
     simp only [hc,if_true,List.lookup_cons,q] at h;cases h;have:j = .free:=by
      simp only [Bool.and_eq_true,beq_iff_eq] at hc;exact hc.1.1
     subst this;exact .inr ⟨rfl,rfl⟩
    ·
     have hc':(j == NameKind.free&&env.scope.kind == .function&&env.kindOf n == some .cell)=false:=by simpa using hc
     simp only [hc',Bool.false_eq_true,if_false,List.lookup_cons,q] at h;exact .inl h
   |false=>
    by_cases hc:(j == NameKind.free&&env.scope.kind == .function&&env.kindOf n == some .cell)=true
    ·
     simp only [hc,if_true,List.lookup_cons,q] at h;exact ih h
    ·
     have hc':(j == NameKind.free&&env.scope.kind == .function&&env.kindOf n == some .cell)=false:=by simpa using hc
     simp only [hc',Bool.false_eq_true,if_false,List.lookup_cons,q] at h;exact ih h
 exact key _ h
def uA {h:Heap} {b n:Addr} {o:Obj} (e:h.get? b=some o) (hn:h.objs.size<=n):b≠n:=Nat.ne_of_lt (Nat.lt_of_lt_of_le (Heap.lt_size e) hn)
structure mN (X:Cx) (scope:Scope) (N:List Str) (nv:Nat) (ix:List Nat):Prop where
 kind:scope.kind = .function
 nocell: ∀y∈scope.names,y.2≠ .cell
 names: ∀y∈scope.names,y.2 = .local->scope.names.lookup y.1=some .local
 fre: ∀y∈scope.names,y.2 = .free->X.env.kindOf y.1=some .cell\/X.env.kindOf y.1=some .free
 len:N.length=nv+ix.length
 at_: ∀j y,N[nv+j]?=some y->∃i,ix[j]?=some i/\X.N[i]?=some y/\(X.env.kindOf y=some .cell\/X.env.kindOf y=some .free)/\scope.names.lookup y=some .free
noncomputable def c9 (nv:Nat) (ix:List Nat) (σ:St):St:=List.replicate nv none++ix.map fun i=>(σ[i]?).join
section
variable {X:Cx} {pins:List (Addr×Obj)} {σ:St} {H:Hp} {s:Shared} {scope:Scope} {N:List Str} {nv:Nat} {ix:List Nat}
def qc {h1:Heap} {tk:Nat} {cl:List (Str×Addr)} {fp:List Addr} {C D:Addr} {oD:Obj} (S:mN X scope N nv ix) (I:Inv X pins σ H s) (hcl: ∀y c,cl.lookup y=some c->X.env.cells.lookup y=some c)
  (hcl2: ∀y∈scope.names,y.2 = .free->∃c,cl.lookup y.1=some c) (hfp: ∀b∈fp,mM X pins H b) (hob: ∀b∈fp,b<s.heap.objs.size)
  (hC:s.heap.objs.size<=C) (hD:s.heap.objs.size<=D) (hDC:D≠C) (old: ∀b o,s.heap.get? b=some o->h1.get? b=some o) {m:Str->Option Value} (hm:h1.Ns C m) (hoD:h1.get? D=some oD) (hdat: ∀v,oD.data≠ .cell v):
  Inv (X.comp scope cl C N s H fp) [(D,oD)] (c9 nv ix σ) H {s with heap:=h1,toks:=tk}:=by
 refine ⟨⟨I.ok.mod,S.kind,I.ok.glob,I.ok.blt,hC,fun x y c e1 e2=>I.ok.inj x y c (hcl x c e1) (hcl y c e2),fun x hx=>?_,fun _ _ z=>absurd z Bool.false_ne_true,I.ok.hd,I.ok.frames,.inl rfl,fun b hb=>⟨fun z=>?_,fun x c e=>(hfp b hb).2.2.2.2.1 x c (hcl x c e)⟩,I.bs,
  Nat.le_trans I.ok.bsz I.sz,fun b o e hb=>?_,fun b hb z=>?_,I.stack,I.qt⟩,rfl,I.bare,Un.kept old,⟨m,hm,fun i x v e1 e2 e3=>?_⟩,fun x c e=>?_,I.hok.fresh hC,fun x c e=>I.i0 x c (hcl x c e),fun p hp=>?_,I.hok.kept old,?_⟩
 ·
  have hx':(relabel scope X.env).names.lookup x=some .cell\/(relabel scope X.env).names.lookup x=some .free:=hx;have fr:scope.names.lookup x=some .free:=by
   rcases hx' with z|z
   ·
    rcases gi z with q|q
    ·exact absurd rfl (S.nocell _ (PySem.mem_of_lookup q))
    ·exact q.1
   ·
    rcases gi z with q|q
    ·exact q
    ·cases q.2
  exact hcl2 (x,.free) (PySem.mem_of_lookup fr) rfl
 ·exact Nat.ne_of_lt (Nat.lt_of_lt_of_le (hob b hb) hC) z
 ·
  rcases (hfp b hb).2.2.2.1 with z|z
  ·exact I.ok.noex b o e z
  ·exact uA e (Nat.le_trans I.ok.bsz z) rfl
 ·
  rcases List.mem_cons.mp (I.lO b z) with q|q
  ·exact (hfp b hb).2.1 q
  ·exact (hfp b hb).2.2.1 q
 ·
  have e1':N[i]?=some x:=e1;by_cases hi:i<nv
  ·
   have e2':(c9 nv ix σ)[i]?=some (some v):=e2;unfold c9 at e2';rw [List.getElem?_append_left (by simpa using hi),List.getElem?_replicate,if_pos hi] at e2';cases e2'
  ·
   obtain ⟨j,rfl⟩: ∃j,i=nv+j:=⟨i - nv,by lia⟩;obtain ⟨k,hk,hN,hkd,hsc⟩:=S.at_ j x e1';have e2':(c9 nv ix σ)[nv+j]?=some (some v):=e2;unfold c9 at e2';rw [List.getElem?_append_right (by simp),List.length_replicate,Nat.add_sub_cancel_left,List.getElem?_map,hk] at e2';have e4:σ[k]?=some (some v):=by
    have e5:(σ[k]?).join=some v:=by simpa using e2'
    cases q:σ[k]? with
    |none=>rw [q] at e5;cases e5
    |some z=>rw [q] at e5;have:z=some v:=e5;rw [this]
   obtain ⟨m0,_,hl⟩:=I.loc;have vis:DM X.env.scope x:=by
    rcases hkd with z|z
    ·exact .inr (.inl z)
    ·exact .inr (.inr z)
   obtain ⟨u,r,l⟩:=hl k x v hN e4 vis;refine ⟨u,r,?_⟩;rcases l with ⟨z,_⟩|⟨_,c,hc,hcell⟩
   ·rcases hkd with q|q<;>rw [q] at z<;>cases z
   ·
    obtain ⟨c',hc'⟩:=hcl2 (x,.free) (PySem.mem_of_lookup hsc) rfl;have:=hcl x c' hc';rw [hc] at this;cases this;refine .inr ⟨?_,c,hc',hcell.keeps old⟩;rcases e3 with z|z|z
    ·
     rcases gi z with q|q
     ·rw [hsc] at q;cases q
     ·cases q.2
    ·exact .inl z
    ·exact .inr z
 ·
  obtain ⟨v,q⟩:=I.cell x c (hcl x c e);exact ⟨v,q.keeps old⟩
 ·
  have hp':p∈[(D,oD)]:=hp;have e:p=(D,oD):=by simpa using hp'
  subst e;refine ⟨hoD,I.hok.fresh hD,hDC,fun z=>?_,hdat⟩;rcases List.mem_cons.mp (I.lO D z) with q|q
  ·exact Nat.ne_of_gt (Nat.lt_of_lt_of_le I.lt hD) q
  ·exact I.nofs hD q
 ·
  show (c9 nv ix σ).length=N.length;unfold c9;rw [List.length_append,List.length_replicate,List.length_map,S.len]
def vn {cl:List (Str×Addr)} {fp:List Addr} {C D:Addr} {its:List Value} {ys:List V} {n:Nat} {σ':St} {H':Hp} {s':Shared} (I:Inv X pins σ H s) (hfp: ∀b∈fp,mM X pins H b) (hD:s.heap.objs.size<=D)
  (J:Inv (X.comp scope cl C N s H fp) [(D,{cls:= .type "list",data:= .seq its.toArray n})] σ' H' s') (r:Vals ys its) (hl:ys.length<=sizeLine):Inv X pins σ (upd H' D (.lst ys)) s':=by
 obtain ⟨eD,fD,_⟩:=J.pin (D,{cls:= .type "list",data:= .seq its.toArray n}) (by simp [Cx.comp]);have U:Un (frs X.stack) fp H H' s.heap s'.heap:=J.base;have neD: ∀b o,s.heap.get? b=some o->b≠D:=fun b o e=>uA e hD;refine I.call' (ch:=fp) J.os ⟨U.keep,U.slot,fun b o e n hx=>?_,U.there,fun b xs e=>?_,fun b o xs e=>?_,fun b ps e=>?_⟩ (fun b u e=>?_) J.bare fun b hb=>(hfp b hb).2.2.2 |> fun z=>⟨z.1,(hfp b hb).2.1,z.2.1,z.2.2⟩
 ·rw [aj (neD b o e)];exact U.free b o e n hx
 ·
  have q:=U.tups b xs e;rw [aj (aA q fD)];exact q
 ·
  have q:=U.frzs b o xs e;rw [aj (aA q fD)];exact q
 ·
  obtain ⟨more,q⟩:=U.tbls b ps e;exact ⟨more,by rw [aj (aA q fD)];exact q⟩
 ·
  by_cases hb:b=D
  ·
   subst hb;rw [au] at e;cases e;exact ⟨hl,its,n,r,eD⟩
  ·
   rw [aj hb] at e;exact (J.hok b u e).stay (fun c v _ q=>q) (fun c q=>by rw [aj (aA q fD)];exact q) fun c xs q=>by rw [aj (aA q fD)];exact q
end
section
variable {prog:Program} {w:World} {A:Around} {E:Value->Shared->Prop} {R:Result->Shared->Prop} {s:Shared}
def oA {elt target iter:Expr} {ifs:List Expr} {scope:Scope} {pos:Pos} {it acc:Value} {env:Env} (I:Nat->Shared->Prop)
  (
   turn: ∀n s,I n s->wpAny (model prog w) A (pyNext it) (fun r s₁=>match r with
   |none=>R (.ok .next) s₁
   |
     some v=>wpAny (model prog w) A (letOwnedTupleGo target it v) (fun _ s₀=>wpAny (model prog w) A (assign target env v) (fun _ s₂=>
     wpAny (model prog w) A (forIn ifs true fun c r=>if r=true then do let ok<-isTrue c env (eval c env);pure (ForInStep.yield ok) else pure (ForInStep.yield r)) (fun ok s₃=>
      if ok=true then wpAny (model prog w) A (eval elt env) (fun x s₄=>
       wpAny (model prog w) A (call (.builtin "list.append") [acc,x]) (fun _ s₅=> ∃m,m<n/\I m s₅) (fun _ _=>False) s₄) (fun _ _=>False) s₃
      else∃m,m<n/\I m s₃) (fun _ _=>False) s₂) (fun _ _=>False) s₀) (fun _ _=>False) s₁) (fun _ _=>False) s)
  (n:Nat) (h:I n s):
  codeAny (model prog w) A (.compLoop (.ListComp elt [⟨target,iter,ifs,0⟩] scope pos) 0 it acc env) R s:=by
 refine codeAny_loop rfl I (fun n s hI=>?_) n h;show wpAny _ A ((compTurn (.ListComp elt [⟨target,iter,ifs,0⟩] scope pos) 0 it acc env).onRaise (fun x=>do noteFrame x env;theTreesLotGoes x)) _ _ s;refine wpAny_noted ?_;rw [compTurn_list];refine wpAny_bind (wpAny_standAt (wpAny_bind (wpAny_mono (turn n s hI) (fun r s₁ h₁=>?_) fun _ _ h'=>h'.elim)));cases r with
 |none=>exact wpAny_pure h₁
 |some v=>
  refine wpAny_bind (wpAny_mono h₁ (fun _ s₀ h₀=>?_) fun _ _ h'=>h'.elim);refine wpAny_bind (wpAny_mono h₀ (fun _ s₂ h₂=>wpAny_bind (wpAny_mono h₂ (fun ok s₃ h₃=>?_) fun _ _ h'=>h'.elim)) fun _ _ h'=>h'.elim);cases ok with
  |false=>exact wpAny_pure ⟨rfl,h₃⟩
  |true=>
   exact wpAny_bind (wpAny_bind (wpAny_mono h₃ (fun x s₄ h₄=>wpAny_bind (wpAny_mono h₄ (fun _ s₅ h₅=>wpAny_pure (wpAny_pure ⟨rfl,h₅⟩)) fun _ _ h'=>h'.elim)) fun _ _ h'=>h'.elim))
end
def DO:TT:=fun _ H Q=>Q true H
def i3 (J:It) (g:TG) (tt:TT) (te:TE) (σ₀:St) (H1:Hp) (Q:List V->Hp->Prop):Prop:=
 ∃W:Nat->Nat->List V->St->Hp->Prop,(∃m,W 0 m [] σ₀ H1)/\∀i m ys σ' H',W i m ys σ' H'->
  (
   J.stop i H'/\Q ys H')\/(J.go i H'/\ys.length<sizeLine/\∃N:List V->St->Hp->Prop,(∀ys' σ'' H'',N ys' σ'' H''->∃m',m'<m/\W (i+1) m' ys' σ'' H'')/\
   ∀x H'',J.yld i H' x H''->g x σ' H'' fun σ2 H2=>tt σ2 H2 fun b H3=>if b=true then te σ2 H3 fun y H4=>N (ys++ [y]) σ2 H4 else N ys σ2 H3)
def nq (nv:Nat) (ix:List Nat) (wi:TI) (g:TG) (tt:TT) (te:TE):TE:=fun σ H Q=>wi σ H fun J H1=>i3 J g tt te (c9 nv ix σ) H1 fun ys H'=>ys.length<=sizeLine/\∀D,H' D=none->Q (.ref D) (upd H' D (.lst ys))
section
variable {X:Cx} {tg elt iter:Expr} {ifs:List Expr} {scope:Scope} {N:List Str} {nv:Nat} {ix:List Nat} {pos spos:Pos} {wi:TI} {g:TG} {tt:TT} {te:TE}
def DN (X:Cx) (ifs:List Expr) (tt:TT):Prop:=
 ∀(pins:List (Addr×Obj)) (s:Shared) (σ:St) (H:Hp) (Q:Bool->Hp->Prop),Inv X pins σ H s->tt σ H Q->
  wpAny (model X.prog X.w) X.A (forIn ifs true fun c r=>if r=true then do let ok<-isTrue c X.env (eval c X.env);pure (ForInStep.yield ok) else pure (ForInStep.yield r)) (TP X pins σ Q) X.xe s
def lD {c:Expr} (h:PT X c tt):DN X [c] tt:=fun pins s σ H Q I hw=>wpAny_tests_one (h pins s σ H Q I hw)
def nM {use:Option (Value->Sem Unit)} {Qv:Value->Shared->Prop} {pins:List (Addr×Obj)} {s:Shared} {σ:St} {H:Hp} {Q:List V->Hp->Prop} (hc:X.calm=true) (S:mN X scope N nv ix) (hi:PI X tg iter wi)
  (hg: ∀cl C s H ex,PG (X.comp scope cl C N s H ex) tg g) (ht: ∀cl C s H ex,DN (X.comp scope cl C N s H ex) ifs tt) (he: ∀cl C s H ex,PE (X.comp scope cl C N s H ex) elt te) (I:Inv X pins σ H s)
  (h:wi σ H fun J H1=>i3 J g tt te (c9 nv ix σ) H1 fun ys H'=>ys.length<=sizeLine/\Q ys H')
  (fin: ∀ys D C H' s' (s2:Shared) (σ2:St),Q ys H'->H' D=none->D≠C->Inv X pins σ (upd H' D (.lst ys)) s'->(∃m,s'.heap.Ns C m)->(∀H'',H'' C=none->mM X pins H'' C)->H' C=none->compPost (model X.prog X.w) X.A X.xe use Qv (.ref D) C (.ok .next) s')
  (hs: ∀x,foldedSetIterable iter X.env x=pure x):
  wpAny (model X.prog X.w) X.A (comprehension (.ListComp elt [⟨tg,iter,ifs,0⟩] scope pos) scope X.env (firstIterPos [⟨tg,iter,ifs,0⟩] pos) (newList []) false (eval iter X.env) use) Qv X.xe s:=by
 obtain ⟨cl,hclos,hcl,hcl2⟩:=qe (env:=X.env) (scope:=scope) fun y hy hf=>I.ok.has y.1 (S.fre y hy hf);refine wpAny_comprehension_free (use:=use) rfl hs hclos S.kind S.names (thn (hi pins s σ H _ I h) fun v s1 h1=>thn h1 fun itv s2 h2=>?_);obtain ⟨it,fp,tn,J,H2,e,I2,T,st2,f2,W,⟨m0,w0⟩,turn⟩:=h2;subst e;refine wpAny_newObj_type (wpAny_newFunctionEnv S.nocell (by intro y hy;simp at hy) (fun h₁ hns₁ hsb₁=>?_) S.kind);dsimp only at hns₁ hsb₁⊢;generalize hH2:s2.heap.push {cls:= .type "list",dict:=none,data:= .seq ([]:List Value).toArray}=G2 at hns₁ hsb₁⊢;have hC:G2.objs.size=s2.heap.objs.size+1:=by rw [<-hH2,Heap.size_push]
 have hDC:s2.heap.objs.size≠G2.objs.size:=by rw [hC];exact Nat.ne_of_lt (Nat.lt_succ_self _)
 have old: ∀b o,s2.heap.get? b=some o->h₁.get? b=some o:=fun b o e=>hsb₁.extBut b o (uA e (by rw [hC];exact Nat.le_succ _)) (Heap.get?_push_of_some _ (hH2▸Heap.get?_push_of_some _ e));have hacc:h₁.get? s2.heap.objs.size=some {cls:= .type "list",data:= .seq ([]:List Value).toArray 0}:=hsb₁.extBut _ _ hDC (Heap.get?_push_of_some _ (hH2▸Heap.get?_push_size _ rfl));have hob: ∀b∈fp,b<s2.heap.objs.size:=fun b hb=>by
  obtain ⟨o,e,_⟩:=T.obj _ _ st2 b hb;exact Heap.lt_size e
 have hCle:s2.heap.objs.size<=G2.objs.size:=by rw [hC];exact Nat.le_succ _
 have I4: ∀tk,Inv (X.comp scope cl G2.objs.size N s2 H2 fp) [(s2.heap.objs.size,{cls:= .type "list",data:= .seq ([]:List Value).toArray 0})] (c9 nv ix σ) H2 {s2 with heap:=h₁,toks:=tk}:=fun tk=>
  qc S I2 hcl hcl2 f2 hob hCle (Nat.le_refl _) hDC old hns₁ hacc (fun v z=>by cases z)
 have hst₁:tn 0 h₁:=T.keep _ _ _ st2 fun b _ o e=>old b o e;have stat: ∀{H':Hp} {pns:List (Addr×Obj)},(∀p∈pns,p.1=s2.heap.objs.size)->(∀b∈fp,H' b=none)->∀b∈fp,mM (X.comp scope cl G2.objs.size N s2 H2 fp) pns H' b:=fun {H' pns} hp hn b hb=>by
  obtain ⟨f0,f1,f3,f4,f5,f6⟩:=f2 b hb;have hlt:=hob b hb;refine ⟨hn b hb,fun z=>?_,fun z=>?_,.inl hb,fun x c e=>f5 x c (hcl x c e),fun p hp' z=>?_⟩
  ·exact Nat.ne_of_lt (Nat.lt_of_lt_of_le hlt hCle) z
  ·
   rcases List.mem_cons.mp (I2.lO b z) with q|q
   ·exact f1 q
   ·exact f3 q
  ·
   have hp'':p∈pns:=by simpa [Cx.comp] using hp'
   exact Nat.ne_of_gt (by rw [hp p hp''];exact hlt) z
 have loop: ∀s₃:Shared,s₃={s2 with heap:=h₁,toks:=s2.toks+([]:List (Str×Value)).length}->
   codeAny (model X.prog X.w) X.A (.compLoop (.ListComp elt [⟨tg,iter,ifs,0⟩] scope pos) 0 (.ref it) (.ref s2.heap.objs.size) (compEnvC scope cl G2.objs.size X.env))
    (compPost (model X.prog X.w) X.A X.xe use Qv (.ref s2.heap.objs.size) G2.objs.size) s₃:=by
  rintro s₃ rfl;refine oA (fun n s'=> ∃i ys its σ' H',Inv (X.comp scope cl G2.objs.size N s2 H2 fp) [(s2.heap.objs.size,{cls:= .type "list",data:= .seq its.toArray its.length})] σ' H' s'/\tn i s'.heap/\(∀b∈fp,H' b=none)/\Vals ys its/\W i n ys σ' H') ?_ m0
   ⟨0,[],[],_,H2,I4 _,hst₁,fun b hb=>(f2 b hb).1,.nil,w0⟩
  rintro n s' ⟨i,ys,its,σ',H',I',st',fr',rv,w'⟩;have pin1: ∀{o:Obj},∀p∈[(s2.heap.objs.size,o)],p.1=s2.heap.objs.size:=fun {o} p hp=>by
   exact congrArg Prod.fst (List.mem_singleton.mp hp)
  rcases turn i n ys σ' H' w' with ⟨stop,hl,qn⟩|⟨go,hlen,Nx,hN,step⟩
  ·
   refine thn (T.done (X.comp scope cl G2.objs.size N s2 H2 fp) rfl rfl rfl hc i _ s' σ' H' (fun _ _=>False) I' (stat pin1 fr') st' stop) fun r s4 ⟨hr,I5⟩=>?_;subst hr;obtain ⟨m5,hm5,_⟩:=I5.loc;have fD:=(I5.pin (s2.heap.objs.size,{cls:= .type "list",data:= .seq its.toArray its.length}) (List.mem_append_right _ (by simp))).2.1;exact fin ys _ _ H' s4 s2 σ' qn fD hDC (vn I2 f2 (Nat.le_refl _) I5 rv hl) ⟨m5,hm5⟩ (fun H'' hn=>I2.sG hCle hn) I5.free
  ·
   refine thn (T.item (X.comp scope cl G2.objs.size N s2 H2 fp) rfl rfl rfl hc i _ s' σ' H' (fun _ _=>False) I' (stat pin1 fr') st' go) fun r s4 ⟨u,hr,h4⟩=>?_;subst hr;refine thn h4 fun _ s5 ⟨x,H5,I5,r5,y5,st5,fr5⟩=>?_;have I5':=I5.pinned (stat pin1 fr5) (T.obj _ _ st5);refine thn (hg _ _ _ _ _ _ s5 σ' H5 x u _ I5' r5 (step x H5 y5)) fun _ s6 ⟨σ6,H6,I6,q6⟩=>?_;refine thn (ht _ _ _ _ _ _ s6 σ6 H6 _ I6 q6) fun b s7 ⟨H7,I7,q7⟩=>?_;have back: ∀{σ8:St} {H8:Hp} {s8:Shared},Inv (X.comp scope cl G2.objs.size N s2 H2 fp) ([(s2.heap.objs.size,{cls:= .type "list",data:= .seq its.toArray its.length})]++lW fp s5.heap) σ8 H8 s8->tn (i+1) s8.heap/\∀b∈fp,H8 b=none:=fun {σ8 H8 s8} J=>
    ⟨
     T.keep _ _ _ st5 fun b hb o e=>(J.pin (b,o) (List.mem_append_right _ (List.mem_append_right _ (gq hb e)))).1,fun b hb=>by
     obtain ⟨o,e,d⟩:=T.obj _ _ st5 b hb;exact (J.pin (b,o) (List.mem_append_right _ (List.mem_append_right _ (gq hb e)))).2.1⟩
   cases b with
   |false=>
    rw [if_neg Bool.false_ne_true] at q7;obtain ⟨m',hm,w7⟩:=hN _ _ _ q7;exact ⟨m',hm,i+1,ys,its,σ6,H7,I7.unpinned,(back I7).1,(back I7).2,rv,w7⟩
   |true=>
    rw [if_pos rfl] at q7;refine thn (he _ _ _ _ _ _ s7 σ6 H7 _ I7 q7) fun y s8 ⟨yv,H8,I8,r8,q8⟩=>?_;obtain ⟨eD,fD,nD,nfD,dD⟩:=I8.pin (s2.heap.objs.size,{cls:= .type "list",data:= .seq its.toArray its.length}) (List.mem_append_right _ (by simp));refine append_at (hsz:=by rw [List.size_toArray,<-rv.length];exact Nat.le_of_lt hlen) eD fun h₅ hs₅ hD₅=>?_;obtain ⟨m',hm,w8⟩:=hN _ _ _ q8;have fpD:s2.heap.objs.size ∉ fp:=fun z=>Nat.lt_irrefl _ (hob _ z);have I9:Inv (X.comp scope cl G2.objs.size N s2 H2 fp) [] σ6 H8 s8:=I8.lF fun p hp=>absurd hp (by simp);have fk:=I2.sG (H':=H8) (Nat.le_refl _) fD;have I10:Inv (X.comp scope cl G2.objs.size N s2 H2 fp) [] σ6 H8 {s8 with heap:=h₅,toks:=s8.toks}:=
     I9.turned (it:=s2.heap.objs.size) (fun b o hb e=>hs₅.extBut b o hb e) fD nD (.inr (Nat.le_refl _)) (fun x c e=>fk.2.2.2.2.1 x c (hcl x c e)) (fun p hp=>absurd hp (by simp [Cx.comp]))
    refine ⟨m',hm,i+1,ys++ [yv],its++ [y],σ6,H8,I10.lF fun p hp=>?_,?_,(back I8).2,rv.append (.cons r8 .nil),w8⟩
    ·
     have e:p=(s2.heap.objs.size,{cls:= .type "list",data:= .seq (its++ [y]).toArray (its++ [y]).length}):=by simpa using hp
     subst e;refine ⟨?_,fD,nD,nfD,fun v z=>by cases z⟩;show h₅.get? s2.heap.objs.size=_;rw [hD₅,List.push_toArray,List.length_append,List.length_singleton]
    ·exact T.keep _ _ _ (back I8).1 fun b hb o e=>hs₅.extBut b o (fun z=>fpD (by have z':b=s2.heap.objs.size:=z;rw [<-z'];exact hb)) e
 exact codeAny_compStart_list (loop _ rfl) (T.self _ 0 _ _ _ hst₁ (loop _ rfl))
def n_ (hc:X.calm=true) (S:mN X scope N nv ix) (hi:PI X tg iter wi)
  (hg: ∀cl C s H ex,PG (X.comp scope cl C N s H ex) tg g) (ht: ∀cl C s H ex,DN (X.comp scope cl C N s H ex) ifs tt) (he: ∀cl C s H ex,PE (X.comp scope cl C N s H ex) elt te)
  (hs: ∀x,foldedSetIterable iter X.env x=pure x:=by intro _;rfl):PE X (.ListComp elt [⟨tg,iter,ifs,0⟩] scope pos) (nq nv ix wi g tt te):=by
 intro pins s σ H Q I h;rw [eval_ListComp];refine nM (Q:=fun ys H'=> ∀D,H' D=none->Q (.ref D) (upd H' D (.lst ys))) (use:=none) hc S hi hg ht he I ?_ (fun ys D C H' s' s2 σ2 q fD hDC J hm fk fC=>?_) hs
 ·exact h
 ·
  obtain ⟨m,hm⟩:=hm;refine ⟨m,hm,fun h' sb=>⟨.ref D,_,?_,rfl,q D fD⟩⟩;have fC':upd H' D (.lst ys) C=none:=by rw [aj (Ne.symm hDC)];exact fC
  obtain ⟨f0,f1,f2,f3,f4,f5⟩:=fk _ fC';exact J.turned (t':=s'.toks) (it:=C) (fun b o hb e=>sb.extBut b o hb e) f0 f1 f3 f4 f5
def wk {i:Nat} {x:Str} {px:Pos} (hc:X.calm=true) (hN:X.N.Nodup) (hi':X.N[i]?=some x) (hx:X.env.scope.names.lookup x=some .local) (S:mN X scope N nv ix) (hi:PI X tg iter wi)
  (hg: ∀cl C s H ex,PG (X.comp scope cl C N s H ex) tg g) (ht: ∀cl C s H ex,DN (X.comp scope cl C N s H ex) ifs tt) (he: ∀cl C s H ex,PE (X.comp scope cl C N s H ex) elt te)
  (hsw:swapsWith (.ListComp elt [⟨tg,iter,ifs,0⟩] scope pos) (some (.Name x px)) spos.line X.env=pure true:=by rfl)
  (hs: ∀x,foldedSetIterable iter X.env x=pure x:=by intro _;rfl):PS X (.Assign [.Name x px] (.ListComp elt [⟨tg,iter,ifs,0⟩] scope pos) spos) (rk (nq nv ix wi g tt te) (jL i)):=by
 intro pins s σ H D I h;rw [exec_Assign_Name_used _ _ _ _ hsw];refine wpAny_bind (wpAny_standAt (wpAny_bind ?_));show wpAny _ _ (do let _<-comprehension (.ListComp elt [⟨tg,iter,ifs,0⟩] scope pos) scope X.env (firstIterPos [⟨tg,iter,ifs,0⟩] pos) (newList []) false (eval iter X.env) (some (assign (.Name x px) X.env))) _ _ s;refine wpAny_bind (thn (nM (Q:=fun ys H'=> ∀l,H' l=none->D.nx (σ.set i (some (.ref l))) (upd H' l (.lst ys))) (use:=some (assign (.Name x px) X.env)) (Qv:=fun _ s'=>SP X pins D .next s') hc S hi hg ht he I h (fun ys l C H' s' s2 σ2 q fD hDC J hm fk fC=>?_) hs)
  fun _ s' hq=>wpAny_pure (wpAny_pure hq))
 obtain ⟨m,hm⟩:=hm;have fC':upd H' l (.lst ys) C=none:=by rw [aj (Ne.symm hDC)];exact fC
 obtain ⟨f0,f1,f2,f3,f4,f5⟩:=fk _ fC';show wpAny _ _ (assign (.Name x px) X.env (.ref l)) _ _ s';refine wpAny_assign_Name (nr J hN hi' (.inl hx) (v:= .ref l) (u:= .ref l) rfl (fun s'' J' ⟨a,sb,ha⟩=>?_) (.inr hx));have hCa:C≠a:=by
  rcases ha with z|z
  ·rw [z];exact f1
  ·exact Ne.symm (f4 x a z)
 refine ⟨m,hm.sameBut sb hCa,fun h' sb'=>⟨_,_,?_,q l fD⟩⟩;exact J'.turned (t':=s''.toks) (it:=C) (fun b o hb e=>sb'.extBut b o hb e) f0 f1 f3 f4 f5
end
noncomputable def F0 (x:Str):It:=⟨fun i _=>i<x.cps.size,fun i H v H'=>H'=H/\∃c,x.cps[i]?=some c/\v = .str ⟨#[c]⟩,fun i _=>x.cps.size<=i⟩
def oN {P:Program} {w:World} {K:W.Frag} {tg:Expr} (it:Addr) (x:Str) (t:Tok) (T:String) (hT:T = "str_ascii_iterator" \/T = "str_iterator"):Turn P w K tg (F0 x) [it] it (fun i h=>h.IsStrIter it T x t i) where
 mem:=by simp
 obj:=fun i h st b hb=>by
  have e:b=it:=by simpa using hb
  subst e;obtain ⟨o,e,c,d⟩:=st;exact ⟨o,e,fun v z=>by rw [d] at z;cases z⟩
 keep:=fun i h h' st k=>by
  obtain ⟨o,e,r⟩:=st;exact ⟨o,k it (by simp) o e,r⟩
 item:=by
  intro X hP hw hK hc i pins s σ H E I hf st hg;subst hP hw hK;obtain ⟨f0,f1,f2,f3,f4,f5⟩:=hf it (by simp);have hg':i<x.cps.size:=hg;have W:Walks X.prog X.w X.A it [it] [it] x.cps.size (SignAt x) (fun i h=>h.IsStrIter it T x t i):=by
   rcases hT with rfl|rfl
   ·exact Walks.strAscii (I.ok.hd hc) it x t
   ·exact Walks.strWide (I.ok.hd hc) it x t
  refine W.item i s _ _ hg' st fun v h' tk hv st' kk=>?_;obtain ⟨c,u,hcx,rfl⟩:=hv;have I1:Inv X pins σ H {s with heap:=h',toks:=tk}:=I.turned (fun b o hb e=>kk b o (by simpa using hb) e) f0 f1 f3 f4 f5;obtain ⟨o,e,c',d⟩:=id st';refine ⟨_,rfl,qP (s:={s with heap:=h',toks:=tk}) e c' d (by rcases hT with rfl|rfl<;>decide) ⟨.str ⟨#[c]⟩,H,I1,⟨u,rfl⟩,⟨rfl,c,hcx,rfl⟩,st',fun b hb=>(hf b hb).1⟩⟩
 done:=by
  intro X hP hw hK hc i pins s σ H E I hf st hg;subst hP hw hK;obtain ⟨f0,f1,f2,f3,f4,f5⟩:=hf it (by simp);have hg':x.cps.size<=i:=hg;have he:x.cps[i]?=none:=by simp [hg']
  rcases hT with rfl|rfl
  ·exact wpAny_pyNext_ascii_end (I.ok.hd hc) st he fun h' eb=>⟨rfl,I.turned (t':=s.toks) (fun b o hb e=>eb b o hb e) f0 f1 f3 f4 f5⟩
  ·exact wpAny_pyNext_wide_end (I.ok.hd hc) st he fun h' eb=>⟨rfl,I.turned (t':=s.toks) (fun b o hb e=>eb b o hb e) f0 f1 f3 f4 f5⟩
 self:=fun _ _ _ _ _ st h=>by
  rcases hT with rfl|rfl
  ·exact wpAny_pyIter_striter_ascii st h
  ·exact wpAny_pyIter_striter_wide st h
def rn (K:W.Frag) (x:V) (H1:Hp) (R:It->Hp->Prop):Prop:=match x with
 | .ref a=>(∃xs,cD K H1 a xs/\R (DD K a) H1)\/(∃xs,dZ K H1 a xs/\R (FZ K a) H1)
 | .str z=>R (F0 z) H1
 |_=>False
def wU (K:W.Frag) (tl:TE):TI:=fun σ H R=>tl σ H fun x H1=>rn K x H1 R
def yo {X:Cx} {tg l:Expr} {tl:TE} (hl:PE X l tl):PI X tg l (wU X.K tl):=by
 intro pins s σ H R I h;refine thn (hl pins s σ H _ I h) fun v s1 ⟨x,H1,I1,r1,q1⟩=>?_;cases x with
 |ref a=>
  cases r1;rcases q1 with ⟨xs,hq,q⟩|⟨xs,hq,q⟩
  ·
   obtain ⟨its,rv,p,hz⟩:=I1.list hq;refine wpAny_pyIter_list p.isList ?_;refine ⟨s1.heap.objs.size,[s1.heap.objs.size],_,_,H1,rfl,I1.kept (t':=s1.toks) fun b o e=>Heap.get?_push_of_some _ e,rf a _,⟨_,Heap.get?_push_size _ rfl,rfl,rfl⟩,fun b hb=>?_,q⟩;have e:b=s1.heap.objs.size:=by simpa using hb
   subst e;exact I1.sG (Nat.le_refl _) (I1.hok.fresh (Nat.le_refl _))
  ·
   obtain ⟨its,rv,p,hz⟩:=I1.tuple hq;refine wpAny_pyIter_tuple (show s1.heap.IsTuple a its.toArray from p) ?_;refine ⟨s1.heap.objs.size,[s1.heap.objs.size],_,_,H1,rfl,I1.kept (t':=s1.toks) fun b o e=>Heap.get?_push_of_some _ e,pJ a _,⟨_,Heap.get?_push_size _ rfl,rfl,rfl⟩,fun b hb=>?_,q⟩;have e:b=s1.heap.objs.size:=by simpa using hb
   subst e;exact I1.sG (Nat.le_refl _) (I1.hok.fresh (Nat.le_refl _))
 |str z=>
  obtain ⟨t,rfl⟩:=r1;have fp: ∀b∈[s1.heap.objs.size],mM X pins H1 b:=fun b hb=>by
   have e:b=s1.heap.objs.size:=by simpa using hb
   subst e;exact I1.sG (Nat.le_refl _) (I1.hok.fresh (Nat.le_refl _))
  cases ha:z.cps.all (· < 128)
  ·exact wpAny_pyIter_wide ha ⟨s1.heap.objs.size,[s1.heap.objs.size],_,_,H1,rfl,I1.kept (t':=s1.toks) fun b o e=>Heap.get?_push_of_some _ e,oN _ z t _ (.inr rfl),⟨_,Heap.get?_push_size _ rfl,rfl,rfl⟩,fp,q1⟩
  ·exact wpAny_pyIter_ascii ha ⟨s1.heap.objs.size,[s1.heap.objs.size],_,_,H1,rfl,I1.kept (t':=s1.toks) fun b o e=>Heap.get?_push_of_some _ e,oN _ z t _ (.inl rfl),⟨_,Heap.get?_push_size _ rfl,rfl,rfl⟩,fp,q1⟩
 |_=>exact q1.elim
def forR (J:It) (g:TG) (tb:TS) (D:Ends) (σ:St) (H:Hp):Prop:= ∃W:Nat->Nat->St->Hp->Prop,(∃m,W 0 m σ H)/\∀i m σ H,W i m σ H->
 (J.stop i H/\D.nx σ H)\/(J.go i H/\∃N:St->Hp->Prop,(∀σ' H',N σ' H'->∃m',m'<m/\W (i+1) m' σ' H')/\∀x H',J.yld i H x H'->g x σ H' fun σ2 H2=>tb {D with nx:=N,ct:=N,bk:=D.nx} σ2 H2)
section
variable {K:W.Frag} {tl:TE} {g:TG} {tb:TS} {D:Ends} {σ:St} {H:Hp} {tt:TT} {te:TE} {nv:Nat} {ix:List Nat} {Q:VK} {ta:TA}
def sY:sZ (wU K tl) g tb D σ H=tl σ H fun x H1=>rn K x H1 fun J H2=>forR J g tb D σ H2:=rfl
def rj:nq nv ix (wU K tl) g tt te σ H Q=tl σ H fun x H1=>rn K x H1 fun J H2=>i3 J g tt te (c9 nv ix σ) H2 fun ys H'=>ys.length<=sizeLine/\∀l,H' l=none->Q (.ref l) (upd H' l (.lst ys)):=rfl
def nB (vs:List V) (H1:Hp) (R:It->Hp->Prop):Prop:=match vs with
 | [.int j]=>(-(2 ^ 62)<=j/\j<2 ^ 62)/\R (vB 0 j.toNat) H1
 |_=>False
def nA (vs:List V) (H1:Hp) (R:It->Hp->Prop):Prop:=match vs with
 | [.int i,.int j]=>(-(2 ^ 62)<=i/\i<2 ^ 62/\-(2 ^ 62)<=j/\j<2 ^ 62)/\R (vB i (j - i).toNat) H1
 |_=>False
def uI (ta:TA):TI:=fun σ H R=>ta σ H fun vs H1=>nB vs H1 R
def uH (ta:TA):TI:=fun σ H R=>ta σ H fun vs H1=>nA vs H1 R
def qv (vs:List V) (H1:Hp) (R:It->Hp->Prop):Prop:=match vs with
 | [.int i,.int j,.int c]=>(-(2 ^ 61)<=i/\i<2 ^ 61/\-(2 ^ 61)<=j/\j<2 ^ 61/\0<c/\c<1000000)/\R (DC i c (rcount i j c)) H1
 |_=>False
def xR (ta:TA):TI:=fun σ H R=>ta σ H fun vs H1=>qv vs H1 R
def ri:sZ (uI ta) g tb D σ H=ta σ H fun vs H1=>nB vs H1 fun J H2=>forR J g tb D σ H2:=rfl
def rh:sZ (uH ta) g tb D σ H=ta σ H fun vs H1=>nA vs H1 fun J H2=>forR J g tb D σ H2:=rfl
def rg:sZ (xR ta) g tb D σ H=ta σ H fun vs H1=>qv vs H1 fun J H2=>forR J g tb D σ H2:=rfl
def pO:nq nv ix (uI ta) g tt te σ H Q=ta σ H fun vs H1=>nB vs H1 fun J H2=>i3 J g tt te (c9 nv ix σ) H2 fun ys H'=>ys.length<=sizeLine/\∀l,H' l=none->Q (.ref l) (upd H' l (.lst ys)):=rfl
def pN:nq nv ix (uH ta) g tt te σ H Q=ta σ H fun vs H1=>nA vs H1 fun J H2=>i3 J g tt te (c9 nv ix σ) H2 fun ys H'=>ys.length<=sizeLine/\∀l,H' l=none->Q (.ref l) (upd H' l (.lst ys)):=rfl
def pM:nq nv ix (xR ta) g tt te σ H Q=ta σ H fun vs H1=>qv vs H1 fun J H2=>i3 J g tt te (c9 nv ix σ) H2 fun ys H'=>ys.length<=sizeLine/\∀l,H' l=none->Q (.ref l) (upd H' l (.lst ys)):=rfl
def rA {j:Int} {R:It->Hp->Prop}:nB [.int j] H R=((-(2 ^ 62)<=j/\j<2 ^ 62)/\R (vB 0 j.toNat) H):=rfl
def rq {i j:Int} {R:It->Hp->Prop}:nA [.int i,.int j] H R=((-(2 ^ 62)<=i/\i<2 ^ 62/\-(2 ^ 62)<=j/\j<2 ^ 62)/\R (vB i (j - i).toNat) H):=rfl
def rp {i j c:Int} {R:It->Hp->Prop}:qv [.int i,.int j,.int c] H R=((-(2 ^ 61)<=i/\i<2 ^ 61/\-(2 ^ 61)<=j/\j<2 ^ 61/\0<c/\c<1000000)/\R (DC i c (rcount i j c)) H):=rfl
end
section
variable {X:Cx} {tg:Expr}
def ic {a:Expr} {ta:TA} {p pos:Pos} (hg:Gl X "range") (hm:X.mg "range" = none) (ha:PA X [a] ta) (hs:starEach [a] X.env= [(false,eval a X.env)]:=by rfl):PI X tg (.Call (.Name "range" p) [a] [] pos) (uI ta):=by
 intro pins s σ H R I h;refine Call_ (kg I hg hm boot_range (PyProof.Rows.callWith_type1 (thn (ha pos pins s σ H _ I h) fun us s1 ⟨vs,H1,I1,r1,q1⟩=>?_) hs rfl));replace q1:nB vs H1 R:=q1;unfold nB at q1;split at q1
 ·
  obtain ⟨⟨q1,q2⟩,q⟩:=q1;cases r1 with
  |cons r rr=>
   cases rr;obtain ⟨t,rfl⟩:=r;exact call_range_1 (oR I1 (by lia) (by lia) q1 q2 (by simpa using q))
 ·exact q1.elim
def nG {a b:Expr} {ta:TA} {p pos:Pos} (hg:Gl X "range") (hm:X.mg "range" = none) (ha:PA X [a,b] ta) (hs:starEach [a,b] X.env= [(false,eval a X.env),(false,eval b X.env)]:=by rfl) (hs2:starEach [b] X.env= [(false,eval b X.env)]:=by rfl):
  PI X tg (.Call (.Name "range" p) [a,b] [] pos) (uH ta):=by
 intro pins s σ H R I h;refine Call_ (kg I hg hm boot_range (PyProof.Rows.callWith_type1 (thn (ha pos pins s σ H _ I h) fun us s1 ⟨vs,H1,I1,r1,q1⟩=>?_) (by rw [hs,hs2]) (by rw [hs2];rfl)));replace q1:nA vs H1 R:=q1;unfold nA at q1;split at q1
 ·
  obtain ⟨⟨q1,q2,q3,q4⟩,q⟩:=q1;cases r1 with
  |cons r rr=>
   cases rr with
   |cons r' rr=>
    cases rr;obtain ⟨t,rfl⟩:=r;obtain ⟨t',rfl⟩:=r';exact call_range_2 (oR I1 q1 q2 q3 q4 q)
 ·exact q1.elim
end
section
variable {K:W.Frag} {g:TG} {tb:TS} {D:Ends} {σ:St} {H:Hp}
def lK {a:Addr} {xs:List V} (hS:cD K H a xs) (Pv:Nat->St->Hp->Prop) (h0:Pv 0 σ H) (hl: ∀i σ H,i<=xs.length->Pv i σ H->cD K H a xs)
  (hs: ∀i x σ H,xs[i]?=some x->Pv i σ H->g x σ H fun σ2 H2=>tb {D with nx:=Pv (i+1),ct:=Pv (i+1),bk:=D.nx} σ2 H2) (hd: ∀σ H,Pv xs.length σ H->D.nx σ H):
  rn K (.ref a) H fun J H2=>forR J g tb D σ H2:= .inl ⟨xs,hS,vc Pv h0 hl hs hd⟩
def ow {lo:Int} {n:Nat} (Pv:Nat->St->Hp->Prop) (h0:Pv 0 σ H)
  (hs: ∀(i:Nat) σ H,i<n->Pv i σ H->g (.int (lo+i)) σ H fun σ2 H2=>tb {D with nx:=Pv (i+1),ct:=Pv (i+1),bk:=D.nx} σ2 H2) (hd: ∀σ H,Pv n σ H->D.nx σ H):
  forR (vB lo n) g tb D σ H:=sH Pv h0 hs hd
end
section
variable {K:W.Frag} {tt:TT} {te:TE} {H:Hp} {tail:St} {Q:List V->Hp->Prop} {p:V->Bool} {f:V->V}
def kC {J:It} {n:Nat} {xs:List V} (hn:xs.length=n) (hz:n<=sizeLine) (go: ∀i,i<n->J.go i H) (stop:J.stop n H) (yl: ∀i x H',i<n->J.yld i H x H'->H'=H/\xs[i]?=some x)
  (ht: ∀x∈xs,∀Q:Bool->Hp->Prop,Q (p x) H->tt (some x::tail) H Q) (he: ∀x∈xs,p x=true->∀Q:VK,Q (f x) H->te (some x::tail) H Q) (q:Q ((xs.filter p).map f) H):
  i3 J (jL 0) tt te (none::tail) H Q:=by
 refine ⟨fun i m ys σ' H'=>i<=n/\m=n - i/\ys=((xs.take i).filter p).map f/\(∃v,σ'=v::tail)/\H'=H,⟨n,Nat.zero_le _,rfl,by simp,⟨_,rfl⟩,rfl⟩,?_⟩;rintro i m ys σ' H' ⟨hi,rfl,rfl,⟨v,rfl⟩,rfl⟩;by_cases e:i=n
 ·
  subst e;refine .inl ⟨stop,?_⟩;rw [List.take_of_length_le (by lia)];exact q
 ·
  have hlt:i<n:=by lia
  refine .inr ⟨go i hlt,?_,fun ys' σ'' H''=>ys'=((xs.take (i+1)).filter p).map f/\(∃v,σ''=v::tail)/\H''=H',fun ys' σ'' H'' ⟨a,b,c⟩=>⟨n - (i+1),by lia,by lia,rfl,a,b,c⟩,fun x H'' y=>?_⟩
  ·have h1:(((xs.take i).filter p).map f).length<=i:=by
    rw [List.length_map];exact Nat.le_trans (List.length_filter_le _ _) (by rw [List.length_take];lia)
   lia
  ·
   obtain ⟨rfl,hx⟩:=yl i x H'' hlt y;have hm:x∈xs:=List.mem_of_getElem? hx;have tk:xs.take (i+1)=xs.take i++ [x]:=by
    rw [List.take_succ,hx];rfl
   show tt _ _ _;refine ht x hm _ ?_;cases hp:p x with
   |true=>
    rw [if_pos rfl];refine he x hm hp _ ⟨?_,⟨_,rfl⟩,rfl⟩;rw [tk,List.filter_append,List.map_append];simp [hp]
   |false=>
    rw [if_neg Bool.false_ne_true];refine ⟨?_,⟨_,rfl⟩,rfl⟩;rw [tk,List.filter_append,List.map_append];simp [hp]
def xc {a:Addr} {xs:List V} (hS:cD K H a xs) (hz:xs.length<=sizeLine) (ht: ∀x∈xs,∀Q:Bool->Hp->Prop,Q (p x) H->tt (some x::tail) H Q) (he: ∀x∈xs,p x=true->∀Q:VK,Q (f x) H->te (some x::tail) H Q) (q:Q ((xs.filter p).map f) H):
  rn K (.ref a) H fun J H2=>i3 J (jL 0) tt te (none::tail) H2 Q:=
 .inl ⟨xs,hS,kC (n:=xs.length) rfl hz (fun i hi=>⟨xs,xs[i],hS,by simp [hi]⟩) ⟨xs,hS,Nat.le_refl _⟩ (fun i x H' hi y=>⟨y.1,y.2 xs hS⟩) ht he q⟩
def Ah {a:Addr} {xs:List V} (hS:dZ K H a xs) (hz:xs.length<=sizeLine) (ht: ∀x∈xs,∀Q:Bool->Hp->Prop,Q (p x) H->tt (some x::tail) H Q) (he: ∀x∈xs,p x=true->∀Q:VK,Q (f x) H->te (some x::tail) H Q) (q:Q ((xs.filter p).map f) H):
  rn K (.ref a) H fun J H2=>i3 J (jL 0) tt te (none::tail) H2 Q:=
 .inr ⟨xs,hS,kC (n:=xs.length) rfl hz (fun i hi=>⟨xs,xs[i],hS,by simp [hi]⟩) ⟨xs,hS,Nat.le_refl _⟩ (fun i x H' hi y=>⟨y.1,y.2 xs hS⟩) ht he q⟩
noncomputable def fT (lo:Int) (n:Nat):List V:=(List.range n).map fun i:Nat=> .int (lo+(i:Int))
def vo {lo:Int} {n:Nat} (hz:n<=sizeLine) (ht: ∀i:Nat,i<n->∀Q:Bool->Hp->Prop,Q (p (.int (lo+i))) H->tt (some (.int (lo+i))::tail) H Q) (he: ∀i:Nat,i<n->p (.int (lo+i))=true->∀Q:VK,Q (f (.int (lo+i))) H->te (some (.int (lo+i))::tail) H Q)
  (q:Q (((fT lo n).filter p).map f) H):i3 (vB lo n) (jL 0) tt te (none::tail) H Q:=by
 refine kC (n:=n) (xs:=fT lo n) (by simp [fT]) hz (fun i hi=>hi) (Nat.le_refl _) (fun i x H' hi y=>?_) (fun x hx=>?_) (fun x hx=>?_) q
 ·
  obtain ⟨e,rfl⟩:=y;refine ⟨e,?_⟩;unfold fT;rw [List.getElem?_map,List.getElem?_range hi];rfl
 ·
  obtain ⟨i,hi,rfl⟩:=List.mem_map.mp hx;exact ht i (List.mem_range.mp hi)
 ·
  obtain ⟨i,hi,rfl⟩:=List.mem_map.mp hx;exact he i (List.mem_range.mp hi)
def qd {ix:List Nat} {σ:St}:c9 1 ix σ=none::ix.map fun i=>(σ[i]?).join:=rfl
end
section
variable {X:Cx}
def AR (neg:Bool):R2:=fun x y H Q=>match y with
 | .bl b=>Q (.bl (if neg then !decide (x = .bl b) else decide (x = .bl b))) H
 |_=>False
def o_ {a b:Bool}:decide (V.bl a=V.bl b)=decide (a=b):=by
 cases a<;>cases b<;>decide
def wc {a b:Bool} {H:Hp} {Q:VK}:AR false (.bl a) (.bl b) H Q=Q (.bl (decide (a=b))) H:=by
 show Q (.bl (if false=true then _ else decide (V.bl a=V.bl b))) H=_;rw [if_neg Bool.false_ne_true,o_]
def pV {a b:Bool} {H:Hp} {Q:VK}:AR true (.bl a) (.bl b) H Q=Q (.bl (!decide (a=b))) H:=by
 show Q (.bl (if true=true then !decide (V.bl a=V.bl b) else _)) H=_;rw [if_pos rfl,o_]
def rS (neg:Bool):R2:=fun x y H Q=>match y with
 | .non=>Q (.bl (if neg then !decide (x = .non) else decide (x = .non))) H
 |_=>False
def jE:d2 X (compareOp .Is) (rS false):=d2.imp yy fun x y H Q h=>by
 unfold rS at h;split at h
 ·exact ⟨rfl,h⟩
 ·exact h.elim
def ur:d2 X (compareOp .IsNot) (rS true):=d2.imp wC fun x y H Q h=>by
 unfold rS at h;split at h
 ·exact ⟨rfl,h⟩
 ·exact h.elim
def yg {x:V} {H:Hp} {Q:VK}:rS false x .non H Q=Q (.bl (decide (x = .non))) H:=rfl
def yf {x:V} {H:Hp} {Q:VK}:rS true x .non H Q=Q (.bl (!decide (x = .non))) H:=rfl
def wg:V->List V->Hp->VK->Prop:=fun x vs H Q=>match x,vs with
 | .int i,[]=>Q (.int ((Builtin.Int.intBits i:Nat):Int)) H
 |_,_=>False
def vJ {K:W.Frag} {i:Int} {H:Hp}:x3 K "int" (.int i) H=True:=by
 show ("int" = "int")=True;simp
def vI {K:W.Frag} {z:Str} {H:Hp}:x3 K "str" (.str z) H=True:=by
 show ("str" = "str")=True;simp
def oT {i:Int} {H:Hp} {Q:VK}:wg (.int i) [] H Q=Q (.int ((Builtin.Int.intBits i:Nat):Int)) H:=rfl
def D1:V->Option Int->Option Int->Hp->VK->Prop:=fun x lo hi H Q=> ∃z,x = .str z/\z.length<=sizeLine/\Q (.str (Txt.slice z lo hi)) H
def oU {v:Value} {o:Option Int} (h:IsPart v o): ∃l:Option (Int×Tok),v=partValue l/\l.map (·.1)=o:=by
 cases h with
 |none=>exact ⟨none,rfl,rfl⟩
 |int i t=>exact ⟨some (i,t),rfl,rfl⟩
def ya:ra X D1:=by
 intro pins s σ H x v vl vu lo hi sl Q I rx hs pl pu h;obtain ⟨z,rfl,hz,q⟩:=h;obtain ⟨t,rfl⟩:=rx;obtain ⟨l,rfl,el⟩:=oU pl;obtain ⟨u,rfl,eu⟩:=oU pu;refine ⟨"str",_,F.slot_str_getitem.lookup,typeIs_str _ _ _,wpAny_getItem_str_slice (l:=l) (u:=u) (st:=none) hs rfl ?_⟩;unfold sliceMade;have e:slicePicked z l u none=Builtin.Str.strSliceIndices lo hi 1 z.length:=by
  unfold slicePicked;rw [el,eu];rfl
 rw [e];have hq:Txt.slice z lo hi=if ((1:Int) == 1&&(Builtin.Str.strSliceIndices lo hi 1 z.length).length == z.length)=true then z else ⟨((Builtin.Str.strSliceIndices lo hi 1 z.length).filterMap (z.cps[·]?)).toArray⟩:=rfl;have hle:=Txt.slice_le z lo hi;rw [hq] at q hle;show (if ((1:Int) == 1&&(Builtin.Str.strSliceIndices lo hi 1 z.length).length == z.length)=true then Made.val (.str z t) else _).post _ s;by_cases c:((1:Int) == 1&&(Builtin.Str.strSliceIndices lo hi 1 z.length).length == z.length)=true
 ·
  rw [if_pos c] at q⊢;exact ⟨.str z,H,I,⟨t,rfl⟩,q⟩
 ·
  rw [if_neg c] at q hle⊢;exact ⟨Nat.le_trans hle hz,.str _,H,I.tok _,⟨_,rfl⟩,q⟩
def tH (K:W.Frag):V->Option Int->Option Int->Hp->VK->Prop:=fun x lo hi H Q=>match x with
 | .ref a=>(∃xs,cD K H a xs/\∀p,H p=none->Q (.ref p) (upd H p (.lst (mz xs lo hi))))\/AG K (.ref a) lo hi H Q
 | .str z=>z.length<=sizeLine/\Q (.str (Txt.slice z lo hi)) H
 |_=>False
def ra.imp {r r':V->Option Int->Option Int->Hp->VK->Prop} (h:ra X r) (i: ∀x lo hi H Q,r' x lo hi H Q->r x lo hi H Q):ra X r':=
 fun pins s σ H x v vl vu lo hi sl Q I rx hs pl pu q=>h pins s σ H x v vl vu lo hi sl Q I rx hs pl pu (i _ _ _ _ _ q)
def DW:ra X (tH X.K):=by
 refine ra.imp (vO.or (x_.or ya)) fun x lo hi H Q h=>?_;unfold tH at h;split at h
 ·
  rcases h with ⟨xs,h1,h2⟩|h
  ·exact .inl ⟨_,xs,rfl,h1,h2⟩
  ·exact .inr (.inl h)
 ·exact .inr (.inr ⟨_,rfl,h.1,h.2⟩)
 ·exact h.elim
def tG {K:W.Frag} {z:Str} {lo hi:Option Int} {H:Hp} {Q:VK}:tH K (.str z) lo hi H Q=(z.length<=sizeLine/\Q (.str (Txt.slice z lo hi)) H):=rfl
def rB {K:W.Frag} {a:Addr} {xs:List V} {lo hi:Option Int} {H:Hp} {Q:VK} (hS:cD K H a xs) (h: ∀p,H p=none->Q (.ref p) (upd H p (.lst (mz xs lo hi)))):tH K (.ref a) lo hi H Q:= .inl ⟨xs,hS,h⟩
def AS (K:W.Frag) (neg:Bool):R2:=fun x y H Q=>match y with
 | .ref p=> ∃xs,(cD K H p xs\/dZ K H p xs)/\qQ x=true/\xs.all qQ=true/\Q (.bl (if neg then !DJ x xs else DJ x xs)) H
 | .str j=>(match x with
  | .str i=>Q (.bl (if neg then !(!(Builtin.Str.occurrences j i 0 j.length 1).isEmpty) else !(Builtin.Str.occurrences j i 0 j.length 1).isEmpty)) H
  |_=>False)
 |_=>False
def tU {K:W.Frag} {neg:Bool} {x:V} {p:Addr} {H:Hp} {Q:VK}:AS K neg x (.ref p) H Q=(∃xs,(cD K H p xs\/dZ K H p xs)/\qQ x=true/\xs.all qQ=true/\Q (.bl (if neg then !DJ x xs else DJ x xs)) H):=rfl
def tT {K:W.Frag} {neg:Bool} {i j:Str} {H:Hp} {Q:VK}:AS K neg (.str i) (.str j) H Q=Q (.bl (if neg then !(!(Builtin.Str.occurrences j i 0 j.length 1).isEmpty) else !(Builtin.Str.occurrences j i 0 j.length 1).isEmpty)) H:=rfl
end
inductive Dt where
 |non|int (i:Int)|str (z:Str)|l (ds:List Dt)|t (ds:List Dt)
def Den (K:W.Frag) (H:Hp):Nat->V->Dt->Prop
 |0,x,d=>(x = .non/\d = .non)\/(∃i,x = .int i/\d = .int i)\/(∃z,x = .str z/\d = .str z)
 |n+1,x,d=>Den K H n x d\/(∃a xs ds,x = .ref a/\d = .l ds/\cD K H a xs/\Paired (Den K H n) xs ds)\/(∃a xs ds,x = .ref a/\d = .t ds/\dZ K H a xs/\Paired (Den K H n) xs ds)
def Paired.get {α β:Type} {F:α->β->Prop}: ∀{xs:List α} {ys:List β} {i:Nat} {x:α},Paired F xs ys->xs[i]?=some x->∃y,ys[i]?=some y/\F x y
 |_,_,_,_,.nil,e=>by simp at e
 |_,_,0,_,.cons r _,e=>by simp at e;subst e;exact ⟨_,rfl,r⟩
 |_,_,i+1,x,.cons _ t,e=>by
  obtain ⟨u,h1,h2⟩:=Paired.get (i:=i) (x:=x) t (by simpa using e);exact ⟨u,by simpa using h1,h2⟩
open Classical in
def oJ {α:Type} {xs ys:List α} {e:Nat->Bool} (hl:xs.length=ys.length) (h: ∀j a b,xs[j]?=some a->ys[j]?=some b->e j=decide (a=b)):(List.range xs.length).all e=decide (xs=ys):=by
 rw [Bool.eq_iff_iff,List.all_eq_true,decide_eq_true_eq];constructor
 ·
  intro q;refine List.ext_getElem hl fun j h1 h2=>?_;have:=q j (List.mem_range.mpr h1);rw [h j xs[j] ys[j] (by simp [h1]) (by simp [h2]),decide_eq_true_eq] at this;exact this
 ·
  rintro rfl j hj;have hj':=List.mem_range.mp hj;rw [h j xs[j] xs[j] (by simp [hj']) (by simp [hj']),decide_eq_true_eq]
section
variable {X:Cx} {pins:List (Addr×Obj)} {σ:St} {H:Hp} {s:Shared}
open Classical in
def vi {A:Around} {x y:V} {u v:Value} {d e:Dt} (rx:RelV x u) (ry:RelV y v) (hx:Den X.K H 0 x d) (hy:Den X.K H 0 y e):SeqAt.EqAt A s u v (decide (d=e)):=by
 rcases hx with ⟨rfl,rfl⟩|⟨i,rfl,rfl⟩|⟨i,rfl,rfl⟩<;>rcases hy with ⟨rfl,rfl⟩|⟨j,rfl,rfl⟩|⟨j,rfl,rfl⟩
 ·cases rx;cases ry;rw [decide_eq_true rfl];exact SeqAt.EqAt.same _
 ·cases rx;obtain ⟨t,rfl⟩:=ry;rw [decide_eq_false (fun z=>nomatch z)];exact SeqAt.EqAt.none_int _ _
 ·cases rx;obtain ⟨t,rfl⟩:=ry;rw [decide_eq_false (fun z=>nomatch z)];exact SeqAt.EqAt.none_str _ _
 ·obtain ⟨t,rfl⟩:=rx;cases ry;rw [decide_eq_false (fun z=>nomatch z)];exact SeqAt.EqAt.int_none _ _
 ·
  obtain ⟨t,rfl⟩:=rx;obtain ⟨t',rfl⟩:=ry;have e:decide (Dt.int i=Dt.int j)=(i == j):=by
   rw [Bool.eq_iff_iff,decide_eq_true_eq,beq_iff_eq];exact ⟨fun q=>Dt.int.inj q,fun q=>by rw [q]⟩
  rw [e];exact SeqAt.EqAt.int_int _ _ _ _
 ·obtain ⟨t,rfl⟩:=rx;obtain ⟨t',rfl⟩:=ry;rw [decide_eq_false (fun z=>nomatch z)];exact SeqAt.EqAt.int_str _ _ _ _
 ·obtain ⟨t,rfl⟩:=rx;cases ry;rw [decide_eq_false (fun z=>nomatch z)];exact SeqAt.EqAt.str_none _ _
 ·obtain ⟨t,rfl⟩:=rx;obtain ⟨t',rfl⟩:=ry;rw [decide_eq_false (fun z=>nomatch z)];exact SeqAt.EqAt.str_int _ _ _ _
 ·
  obtain ⟨t,rfl⟩:=rx;obtain ⟨t',rfl⟩:=ry;have e:decide (Dt.str i=Dt.str j)=(i == j):=by
   rw [Bool.eq_iff_iff,decide_eq_true_eq,beq_iff_eq];exact ⟨fun q=>Dt.str.inj q,fun q=>by rw [q]⟩
  rw [e];exact SeqAt.EqAt.str_str _ _ _ _
def Den.cases {K:W.Frag} {H:Hp}: ∀{n:Nat} {x:V} {d:Dt},Den K H n x d->Den K H 0 x d\/(∃m,m<n/\∃a xs ds,x = .ref a/\d = .l ds/\cD K H a xs/\Paired (Den K H m) xs ds)\/(∃m,m<n/\∃a xs ds,x = .ref a/\d = .t ds/\dZ K H a xs/\Paired (Den K H m) xs ds)
 |0,_,_,h=> .inl h
 |n+1,_,_,h=>by
  rcases h with h|h|h
  ·
   rcases Den.cases h with q|⟨m,hm,q⟩|⟨m,hm,q⟩
   ·exact .inl q
   ·exact .inr (.inl ⟨m,by lia,q⟩)
   ·exact .inr (.inr ⟨m,by lia,q⟩)
  ·exact .inr (.inl ⟨n,by lia,h⟩)
  ·exact .inr (.inr ⟨n,by lia,h⟩)
def Den.up {K:W.Frag} {H:Hp} {n m:Nat} {x:V} {d:Dt} (h:Den K H n x d) (hm:n<=m):Den K H m x d:=by
  induction m with
  |zero=>
            have:n=0:=by lia
            subst this;exact h
  |
    succ m ih=>
    by_cases e:n=m+1
    · subst e;exact h
    · exact .inl (ih (by lia))
def i_ {F G:V->Dt->Prop}: ∀{xs:List V} {ds es:List Dt},Paired F xs ds->Paired G xs es->(∀x d e,F x d->G x e->d=e)->ds=es
 |_,_,_,.nil,.nil,_=>rfl
 |_,_,_,.cons r t,.cons r' t',f=>by rw [f _ _ _ r r',i_ t t' f]
def g9 {a:Addr} {xs ys:List V} (I:Inv X pins σ H s) (h:cD X.K H a xs) (h':dZ X.K H a ys):False:=by
 obtain ⟨its,_,p,_⟩:=I.list h;obtain ⟨its',_,p',_⟩:=I.tuple h';obtain ⟨o,n,e,c,_⟩:=p;obtain ⟨o',e',c',_⟩:=p';rw [e] at e';cases e';rw [c] at c';injection c' with z;exact absurd z (by decide)
def xa (n:Nat): ∀{m:Nat} {x:V} {d e:Dt},Inv X pins σ H s->Den X.K H n x d->Den X.K H m x e->d=e:=by
 induction n using Nat.strongRecOn with
 |_ n ih=>
 intro m x d e I hx hy;rcases hx.cases with hx|⟨m1,hm,a,xs,ds,rfl,rfl,ha,pa⟩|⟨m1,hm,a,xs,ds,rfl,rfl,ha,pa⟩
 ·
  rcases hy.cases with hy|⟨k,hk,b,ys,es,rfl,rfl,hb,pb⟩|⟨k,hk,b,ys,es,rfl,rfl,hb,pb⟩
  ·rcases hx with ⟨rfl,rfl⟩|⟨i,rfl,rfl⟩|⟨i,rfl,rfl⟩<;>rcases hy with ⟨z,rfl⟩|⟨j,z,rfl⟩|⟨j,z,rfl⟩<;>first|rfl|(cases z;rfl)|cases z
  ·rcases hx with ⟨z,_⟩|⟨i,z,_⟩|⟨i,z,_⟩<;>cases z
  ·rcases hx with ⟨z,_⟩|⟨i,z,_⟩|⟨i,z,_⟩<;>cases z
 ·
  rcases hy.cases with hy|⟨k,hk,b,ys,es,e1,rfl,hb,pb⟩|⟨k,hk,b,ys,es,e1,rfl,hb,pb⟩
  ·rcases hy with ⟨z,_⟩|⟨i,z,_⟩|⟨i,z,_⟩<;>cases z
  ·
   cases e1;have:=I.oY ha hb;subst this;rw [i_ pa pb fun x d e h1 h2=>ih m1 hm I h1 h2]
  ·
   cases e1;exact (g9 I ha hb).elim
 ·
  rcases hy.cases with hy|⟨k,hk,b,ys,es,e1,rfl,hb,pb⟩|⟨k,hk,b,ys,es,e1,rfl,hb,pb⟩
  ·rcases hy with ⟨z,_⟩|⟨i,z,_⟩|⟨i,z,_⟩<;>cases z
  ·
   cases e1;exact (g9 I hb ha).elim
  ·
   cases e1;have:=I.nk ha hb;subst this;rw [i_ pa pb fun x d e h1 h2=>ih m1 hm I h1 h2]
def qu {its its2:List Value} (h: ¬its.length=its2.length):(its.toArray.size != its2.toArray.size)=true:=by
 rw [List.size_toArray,List.size_toArray,bne_iff_ne];exact h
open Classical in
def ij {n:Nat} {A:Around} {xs ys:List V} {its its2:List Value} {ds es:List Dt} {m k:Nat} (r1:Vals xs its) (r2:Vals ys its2) (pa:Paired (Den X.K H m) xs ds) (pb:Paired (Den X.K H k) ys es)
  (ih: ∀x y u v d e,RelV x u->RelV y v->Den X.K H m x d->Den X.K H k y e->SeqAt.EqAt A s u v (decide (d=e))):
  ∀j (h1:j<its.toArray.size) (h2:j<its2.toArray.size),SeqAt.EqAt A s its.toArray[j] its2.toArray[j] (decide (ds[j]?=es[j]?)):=by
 intro j h1 h2;have h1':j<its.length:=by simpa using h1
 have h2':j<its2.length:=by simpa using h2
 have l1:=r1.length;have l2:=r2.length;have x1:xs[j]?=some xs[j]:=by simp
 have y1:ys[j]?=some ys[j]:=by simp
 obtain ⟨d',hd',pd⟩:=Paired.get pa x1;obtain ⟨e',he',pe⟩:=Paired.get pb y1;obtain ⟨u',hu1,ru⟩:=r1.get x1;obtain ⟨v',hv1,rv⟩:=r2.get y1;have e1:its.toArray[j]=u':=by
  have:its[j]?=some its[j]:=by simp
  rw [hu1] at this;simpa using (Option.some.inj this).symm
 have e2:its2.toArray[j]=v':=by
  have:its2[j]?=some its2[j]:=by simp
  rw [hv1] at this;simpa using (Option.some.inj this).symm
 have e3:decide (ds[j]?=es[j]?)=decide (d'=e'):=by
  rw [hd',he',Bool.eq_iff_iff,decide_eq_true_eq,decide_eq_true_eq];exact ⟨fun q=>Option.some.inj q,fun q=>by rw [q]⟩
 rw [e1,e2,e3];exact ih _ _ _ _ _ _ ru rv pd pe
open Classical in
def ir {ds es:List Dt} {n:Nat} (hn:n=ds.length) (hl:ds.length=es.length):(List.range n).all (fun j=>decide (ds[j]?=es[j]?))=decide (ds=es):=by
 subst hn;exact oJ hl fun j a b ha hb=>by
  rw [ha,hb,Bool.eq_iff_iff,decide_eq_true_eq,decide_eq_true_eq];exact ⟨fun q=>Option.some.inj q,fun q=>by rw [q]⟩
open Classical in
def qb (n:Nat): ∀{A:Around} {x y:V} {u v:Value} {d e:Dt},Inv X pins σ H s->A.units+n<cLine->RelV x u->RelV y v->Den X.K H n x d->Den X.K H n y e->SeqAt.EqAt A s u v (decide (d=e))/\∀a b,x = .ref a->y = .ref b->SeqAt.RcAt A s (.ref a) (.ref b) (decide (d=e)):=by
 induction n using Nat.strongRecOn with
 |_ n ih=>
 intro A x y u v d e I hu rx ry hx hy;have lift: ∀{a b:Addr},x = .ref a->y = .ref b->SeqAt.RcAt A s (.ref a) (.ref b) (decide (d=e))->SeqAt.EqAt A s (.ref a) (.ref b) (decide (d=e)):=fun {a b} ea eb q=>by
  by_cases hab:a=b
  ·
   subst hab;subst ea;subst eb;rw [decide_eq_true (xa n I hx hy)];exact SeqAt.EqAt.same _
  ·exact SeqAt.EqAt.of_refs hab q
 have hu':A.units<cLine:=by lia
 rcases hx.cases with hx'|⟨m,hm,a,xs,ds,rfl,rfl,ha,pa⟩|⟨m,hm,a,xs,ds,rfl,rfl,ha,pa⟩
 ·
  rcases hy.cases with hy'|⟨k,hk,b,ys,es,rfl,rfl,hb,pb⟩|⟨k,hk,b,ys,es,rfl,rfl,hb,pb⟩
  ·
   refine ⟨vi rx ry hx' hy',fun a b e1 e2=>?_⟩;subst e1;rcases hx' with ⟨z,_⟩|⟨i,z,_⟩|⟨i,z,_⟩<;>cases z
  ·
   cases ry;obtain ⟨its,_,p,_⟩:=I.list hb;rcases hx' with ⟨rfl,rfl⟩|⟨i,rfl,rfl⟩|⟨i,rfl,rfl⟩
   ·cases rx;rw [decide_eq_false (fun z=>nomatch z)];exact ⟨SeqAt.EqAt.none_list p.isList hu',fun a b z=>nomatch z⟩
   ·obtain ⟨t,rfl⟩:=rx;rw [decide_eq_false (fun z=>nomatch z)];exact ⟨SeqAt.EqAt.int_list _ _ p.isList hu',fun a b z=>nomatch z⟩
   ·obtain ⟨t,rfl⟩:=rx;rw [decide_eq_false (fun z=>nomatch z)];exact ⟨SeqAt.EqAt.str_list _ _ p.isList hu',fun a b z=>nomatch z⟩
  ·
   cases ry;obtain ⟨its,_,p,_⟩:=I.tuple hb;rcases hx' with ⟨rfl,rfl⟩|⟨i,rfl,rfl⟩|⟨i,rfl,rfl⟩
   ·cases rx;rw [decide_eq_false (fun z=>nomatch z)];exact ⟨SeqAt.EqAt.none_tuple p hu',fun a b z=>nomatch z⟩
   ·obtain ⟨t,rfl⟩:=rx;rw [decide_eq_false (fun z=>nomatch z)];exact ⟨SeqAt.EqAt.int_tuple _ _ p hu',fun a b z=>nomatch z⟩
   ·obtain ⟨t,rfl⟩:=rx;rw [decide_eq_false (fun z=>nomatch z)];exact ⟨SeqAt.EqAt.str_tuple _ _ p hu',fun a b z=>nomatch z⟩
 ·
  cases rx;obtain ⟨its,r1,p,hz⟩:=I.list ha;rcases hy.cases with hy'|⟨k,hk,b,ys,es,rfl,rfl,hb,pb⟩|⟨k,hk,b,ys,es,rfl,rfl,hb,pb⟩
  ·
   rcases hy' with ⟨rfl,rfl⟩|⟨i,rfl,rfl⟩|⟨i,rfl,rfl⟩
   ·cases ry;rw [decide_eq_false (fun z=>nomatch z)];exact ⟨SeqAt.EqAt.list_none p.isList hu',fun a b _ z=>nomatch z⟩
   ·obtain ⟨t,rfl⟩:=ry;rw [decide_eq_false (fun z=>nomatch z)];exact ⟨SeqAt.EqAt.list_int _ _ p.isList hu',fun a b _ z=>nomatch z⟩
   ·obtain ⟨t,rfl⟩:=ry;rw [decide_eq_false (fun z=>nomatch z)];exact ⟨SeqAt.EqAt.list_str _ _ p.isList hu',fun a b _ z=>nomatch z⟩
  ·
   cases ry;obtain ⟨its2,r2,p2,hz2⟩:=I.list hb;have l1:=r1.length;have l2:=r2.length;have l3:=Paired.length pa;have l4:=Paired.length pb;have eqd:decide (Dt.l ds=Dt.l es)=decide (ds=es):=by
    rw [Bool.eq_iff_iff,decide_eq_true_eq,decide_eq_true_eq];exact ⟨fun q=>Dt.l.inj q,fun q=>by rw [q]⟩
   have rc:SeqAt.RcAt A s (.ref a) (.ref b) (decide (Dt.l ds=Dt.l es)):=by
    rw [eqd];by_cases hl:its.length=its2.length
    ·have key:=SeqAt.RcAt.lists (e:=fun j=>decide (ds[j]?=es[j]?)) p.isList p2.isList (by simpa using hl) hu' (ij (n:=n) r1 r2 pa pb fun x y u v d e rx ry h1 h2=>
      (ih (max m k) (by lia) (A:=A.in1) I (by show A.units+1+max m k<cLine;lia) rx ry (h1.up (Nat.le_max_left _ _)) (h2.up (Nat.le_max_right _ _))).1)
     rw [ir (by rw [List.size_toArray];lia) (by lia)] at key;exact key
    ·
     have hne:ds≠es:=fun q=>hl (by rw [q] at l3;lia);rw [decide_eq_false hne];exact SeqAt.RcAt.lists_lengths p.isList p2.isList (qu hl) hu'
   exact ⟨lift rfl rfl rc,fun a' b' e1 e2=>by cases e1;cases e2;exact rc⟩
  ·
   cases ry;obtain ⟨its2,r2,p2,_⟩:=I.tuple hb;rw [decide_eq_false (fun z=>nomatch z)];exact ⟨SeqAt.EqAt.list_tuple p.isList p2 hu',fun a' b' e1 e2=>by cases e1;cases e2;exact SeqAt.RcAt.list_tuple p.isList p2 hu'⟩
 ·
  cases rx;obtain ⟨its,r1,p,hz⟩:=I.tuple ha;rcases hy.cases with hy'|⟨k,hk,b,ys,es,rfl,rfl,hb,pb⟩|⟨k,hk,b,ys,es,rfl,rfl,hb,pb⟩
  ·
   rcases hy' with ⟨rfl,rfl⟩|⟨i,rfl,rfl⟩|⟨i,rfl,rfl⟩
   ·cases ry;rw [decide_eq_false (fun z=>nomatch z)];exact ⟨SeqAt.EqAt.tuple_none p hu',fun a b _ z=>nomatch z⟩
   ·obtain ⟨t,rfl⟩:=ry;rw [decide_eq_false (fun z=>nomatch z)];exact ⟨SeqAt.EqAt.tuple_int _ _ p hu',fun a b _ z=>nomatch z⟩
   ·obtain ⟨t,rfl⟩:=ry;rw [decide_eq_false (fun z=>nomatch z)];exact ⟨SeqAt.EqAt.tuple_str _ _ p hu',fun a b _ z=>nomatch z⟩
  ·
   cases ry;obtain ⟨its2,r2,p2,_⟩:=I.list hb;rw [decide_eq_false (fun z=>nomatch z)];exact ⟨SeqAt.EqAt.tuple_list p p2.isList hu',fun a' b' e1 e2=>by cases e1;cases e2;exact SeqAt.RcAt.tuple_list p p2.isList hu'⟩
  ·
   cases ry;obtain ⟨its2,r2,p2,hz2⟩:=I.tuple hb;have l1:=r1.length;have l2:=r2.length;have l3:=Paired.length pa;have l4:=Paired.length pb;have eqd:decide (Dt.t ds=Dt.t es)=decide (ds=es):=by
    rw [Bool.eq_iff_iff,decide_eq_true_eq,decide_eq_true_eq];exact ⟨fun q=>Dt.t.inj q,fun q=>by rw [q]⟩
   have rc:SeqAt.RcAt A s (.ref a) (.ref b) (decide (Dt.t ds=Dt.t es)):=by
    rw [eqd];have key:=SeqAt.RcAt.tuples (e:=fun j=>decide (ds[j]?=es[j]?)) p p2 hu' (ij (n:=n) r1 r2 pa pb fun x y u v d e rx ry h1 h2=>
      (ih (max m k) (by lia) (A:=A.in1) I (by show A.units+1+max m k<cLine;lia) rx ry (h1.up (Nat.le_max_left _ _)) (h2.up (Nat.le_max_right _ _))).1)
    by_cases hl:its.length=its2.length
    ·
     rw [show min its.toArray.size its2.toArray.size=ds.length by rw [List.size_toArray,List.size_toArray];lia,ir rfl (by lia),show (its.toArray.size == its2.toArray.size)=true by rw [List.size_toArray,List.size_toArray,beq_iff_eq];exact hl,Bool.and_true] at key;exact key
    ·
     have hne:ds≠es:=fun q=>hl (by rw [q] at l3;lia);rw [decide_eq_false hne];rw [show (its.toArray.size == its2.toArray.size)=false by rw [List.size_toArray,List.size_toArray,beq_eq_false_iff_ne];exact hl,Bool.and_false] at key;exact key
   exact ⟨lift rfl rfl rc,fun a' b' e1 e2=>by cases e1;cases e2;exact rc⟩
end
def i9 (K:W.Frag) (neg:Bool):R2:=fun x y H Q=>match x,y with
 | .ref a,.ref b=> ∃n d e,n<=60/\Den K H n (.ref a) d/\Den K H n (.ref b) e/\((d=e/\Q (.bl (!neg)) H)\/(d≠e/\Q (.bl neg) H))
 |x,y=>scal x y=true/\Q (.bl (if neg then !decide (x=y) else decide (x=y))) H
section
variable {X:Cx}
open Classical in
def yz (hu:X.A.units+64<cLine):d2 X (compareOp .Eq) (i9 X.K false):=by
 intro pins s σ H x y v u Q I rx ry h;unfold i9 at h;split at h
 ·
  obtain ⟨n,d,e,hn,hd,he,q⟩:=h;obtain ⟨_,rc⟩:=qb n (A:=X.A) I (by lia) rx ry hd he;cases rx;cases ry;have:=rc _ _ rfl rfl;refine (this X.prog X.w _ _ ?_:wpAny (model X.prog X.w) X.A (richCompare .Eq _ _) (EP X pins σ Q) X.xe s);rcases q with ⟨c,q⟩|⟨c,q⟩
  ·rw [decide_eq_true c];exact ⟨.bl true,H,I,rfl,q⟩
  ·rw [decide_eq_false c];exact ⟨.bl false,H,I,rfl,q⟩
 ·exact A3 pins s σ H _ _ v u Q I rx ry ⟨h.1,by simpa using h.2⟩
open Classical in
def yx (hu:X.A.units+64<cLine):d2 X (compareOp .NotEq) (i9 X.K true):=by
 intro pins s σ H x y v u Q I rx ry h;unfold i9 at h;split at h
 ·
  rename_i a b;obtain ⟨n,d,e,hn,hd,he,q⟩:=h;cases rx;cases ry;have hu':X.A.units<cLine:=by lia
  have fin:SeqAt.RcNeAt X.A s (.ref a) (.ref b) (!decide (d=e))->wpAny (model X.prog X.w) X.A (compareOp .NotEq (.ref a) (.ref b)) (EP X pins σ Q) X.xe s:=fun rc=>by
   refine (rc X.prog X.w _ _ ?_:wpAny (model X.prog X.w) X.A (richCompare .NotEq _ _) (EP X pins σ Q) X.xe s);rcases q with ⟨c,q⟩|⟨c,q⟩
   ·rw [decide_eq_true c];exact ⟨.bl false,H,I,rfl,q⟩
   ·rw [decide_eq_false c];exact ⟨.bl true,H,I,rfl,q⟩
  apply fin;clear fin q;rcases hd.cases with hx'|⟨m,hm,a',xs,ds,e1,rfl,ha,pa⟩|⟨m,hm,a',xs,ds,e1,rfl,ha,pa⟩
  ·rcases hx' with ⟨z,_⟩|⟨i,z,_⟩|⟨i,z,_⟩<;>cases z
  ·
   cases e1;obtain ⟨its,r1,p,hz⟩:=I.list ha;rcases he.cases with hy'|⟨k,hk,b',ys,es,e2,rfl,hb,pb⟩|⟨k,hk,b',ys,es,e2,rfl,hb,pb⟩
   ·rcases hy' with ⟨z,_⟩|⟨i,z,_⟩|⟨i,z,_⟩<;>cases z
   ·
    cases e2;obtain ⟨its2,r2,p2,hz2⟩:=I.list hb;have l1:=r1.length;have l2:=r2.length;have l3:=Paired.length pa;have l4:=Paired.length pb;have eqd:decide (Dt.l ds=Dt.l es)=decide (ds=es):=by
     rw [Bool.eq_iff_iff,decide_eq_true_eq,decide_eq_true_eq];exact ⟨fun q=>Dt.l.inj q,fun q=>by rw [q]⟩
    rw [eqd];by_cases hl:its.length=its2.length
    ·have key:=SeqAt.RcNeAt.lists (e:=fun j=>decide (ds[j]?=es[j]?)) p.isList p2.isList (by simpa using hl) hu' (ij (n:=n) r1 r2 pa pb fun x y u v d e rx ry h1 h2=>
      (qb (max m k) (A:=X.A.in1) I (by show X.A.units+1+max m k<cLine;lia) rx ry (h1.up (Nat.le_max_left _ _)) (h2.up (Nat.le_max_right _ _))).1)
     rw [ir (by rw [List.size_toArray];lia) (by lia)] at key;exact key
    ·
     have hne:ds≠es:=fun q=>hl (by rw [q] at l3;lia);rw [decide_eq_false hne];exact SeqAt.RcNeAt.lists_lengths p.isList p2.isList (qu hl) hu'
   ·
    cases e2;obtain ⟨its2,r2,p2,_⟩:=I.tuple hb;rw [decide_eq_false (fun z=>nomatch z)];exact SeqAt.RcNeAt.list_tuple p.isList p2 hu'
  ·
   cases e1;obtain ⟨its,r1,p,hz⟩:=I.tuple ha;rcases he.cases with hy'|⟨k,hk,b',ys,es,e2,rfl,hb,pb⟩|⟨k,hk,b',ys,es,e2,rfl,hb,pb⟩
   ·rcases hy' with ⟨z,_⟩|⟨i,z,_⟩|⟨i,z,_⟩<;>cases z
   ·
    cases e2;obtain ⟨its2,r2,p2,_⟩:=I.list hb;rw [decide_eq_false (fun z=>nomatch z)];exact SeqAt.RcNeAt.tuple_list p p2.isList hu'
   ·
    cases e2;obtain ⟨its2,r2,p2,hz2⟩:=I.tuple hb;have l1:=r1.length;have l2:=r2.length;have l3:=Paired.length pa;have l4:=Paired.length pb;have eqd:decide (Dt.t ds=Dt.t es)=decide (ds=es):=by
     rw [Bool.eq_iff_iff,decide_eq_true_eq,decide_eq_true_eq];exact ⟨fun q=>Dt.t.inj q,fun q=>by rw [q]⟩
    rw [eqd];have key:=SeqAt.RcNeAt.tuples (e:=fun j=>decide (ds[j]?=es[j]?)) p p2 hu' (ij (n:=n) r1 r2 pa pb fun x y u v d e rx ry h1 h2=>
      (qb (max m k) (A:=X.A.in1) I (by show X.A.units+1+max m k<cLine;lia) rx ry (h1.up (Nat.le_max_left _ _)) (h2.up (Nat.le_max_right _ _))).1)
    by_cases hl:its.length=its2.length
    ·
     rw [show min its.toArray.size its2.toArray.size=ds.length by rw [List.size_toArray,List.size_toArray];lia,ir rfl (by lia),show (its.toArray.size == its2.toArray.size)=true by rw [List.size_toArray,List.size_toArray,beq_iff_eq];exact hl,Bool.and_true] at key;exact key
    ·
     have hne:ds≠es:=fun q=>hl (by rw [q] at l3;lia);rw [decide_eq_false hne];rw [show (its.toArray.size == its2.toArray.size)=false by rw [List.size_toArray,List.size_toArray,beq_eq_false_iff_ne];exact hl,Bool.and_false] at key;exact key
 ·exact A2 pins s σ H _ _ v u Q I rx ry ⟨h.1,by simpa using h.2⟩
end
section
variable {K:W.Frag} {H:Hp} {Q:VK}
def tY {i j:Int}:i9 K false (.int i) (.int j) H Q=Q (.bl (decide (i=j))) H:=by
 show (scal (.int i) (.int j)=true/\Q (.bl (if false=true then _ else decide (V.int i=V.int j))) H)=_;rw [if_neg Bool.false_ne_true];exact qA
def tL {i j:Int}:i9 K true (.int i) (.int j) H Q=Q (.bl (!decide (i=j))) H:=by
 show (scal (.int i) (.int j)=true/\Q (.bl (if true=true then !decide (V.int i=V.int j) else _)) H)=_;rw [if_pos rfl];exact qy
def tX {i j:Str}:i9 K false (.str i) (.str j) H Q=Q (.bl (decide (i=j))) H:=by
 show (scal (.str i) (.str j)=true/\Q (.bl (if false=true then _ else decide (V.str i=V.str j))) H)=_;rw [if_neg Bool.false_ne_true];exact qz
def tK {i j:Str}:i9 K true (.str i) (.str j) H Q=Q (.bl (!decide (i=j))) H:=by
 show (scal (.str i) (.str j)=true/\Q (.bl (if true=true then !decide (V.str i=V.str j) else _)) H)=_;rw [if_pos rfl];exact qx
def we {i j:Bool}:i9 K false (.bl i) (.bl j) H Q=Q (.bl (decide (i=j))) H:=by
 show (scal (.bl i) (.bl j)=true/\Q (.bl (if false=true then _ else decide (V.bl i=V.bl j))) H)=_;rw [if_neg Bool.false_ne_true];exact tW
def vQ {i j:Bool}:i9 K true (.bl i) (.bl j) H Q=Q (.bl (!decide (i=j))) H:=by
 show (scal (.bl i) (.bl j)=true/\Q (.bl (if true=true then !decide (V.bl i=V.bl j) else _)) H)=_;rw [if_pos rfl];exact tJ
def o9 {n:Nat}: ∀{ns:List Int},Paired (Den K H n) (ns.map V.int) (ns.map Dt.int)
 | []=> .nil
 |i::ns=> .cons (Den.up (n:=0) (.inr (.inl ⟨i,rfl,rfl⟩)) (Nat.zero_le _)) o9
def qR {a:Addr} {ns:List Int} (h:dZ K H a (ns.map V.int)):Den K H 1 (.ref a) (.t (ns.map Dt.int)):= .inr (.inr ⟨a,_,_,rfl,rfl,h,o9⟩)
end
noncomputable def Dx (osc scope:Scope) (ON N:List Str) (nv:Nat) (ix:List Nat):Bool:=
 scope.kind == .function&&scope.names.all (fun y=>y.2 != .cell&&(y.2 != .local||scope.names.lookup y.1 == some .local)&&(y.2 != .free||(osc.names.lookup y.1 == some .cell||osc.names.lookup y.1 == some .free)))&&
  N.length == nv+ix.length&&(List.range ix.length).all fun j=>match N[nv+j]?,ix[j]? with
   |some y,some i=>ON[i]? == some y&&(osc.names.lookup y == some .cell||osc.names.lookup y == some .free)&&scope.names.lookup y == some .free
   |_,_=>false
def qX {X:Cx} {scope:Scope} {N:List Str} {nv:Nat} {ix:List Nat} (h:Dx X.env.scope scope X.N N nv ix=true):mN X scope N nv ix:=by
 unfold Dx at h;simp only [Bool.and_eq_true,beq_iff_eq,List.all_eq_true,List.mem_range,Bool.or_eq_true,bne_iff_ne,ne_eq] at h;obtain ⟨⟨⟨h1,h2⟩,h3⟩,h4⟩:=h;refine ⟨h1,fun y hy=>(h2 y hy).1.1,fun y hy hl=>?_,fun y hy hf=>?_,h3,fun j y e=>?_⟩
 ·
  rcases (h2 y hy).1.2 with z|z
  ·exact absurd hl z
  ·exact z
 ·
  rcases (h2 y hy).2 with z|z
  ·exact absurd hf z
  ·exact z
 ·have hj:j<ix.length:=by
   have:=(List.getElem?_eq_some_iff.mp e).1;lia
  have q:=h4 j hj;rw [e,List.getElem?_eq_getElem hj] at q;simp only [Bool.and_eq_true,beq_iff_eq,Bool.or_eq_true] at q;exact ⟨ix[j],List.getElem?_eq_getElem hj,q.1.1,q.1.2,q.2⟩
def F4 (K:W.Frag) (vs:List V):TE:=fun _ H Q=> ∀a,(∀H,dZ K H a vs)->(∀H,x3 K "tuple" (.ref a) H)->Q (.ref a) H
section
variable {X:Cx}
def AV (K:W.Frag) (any:Bool):List V->Hp->VK->Prop:=fun xs H Q=>match xs with
 | [.ref p]=> ∃bs:List Bool,cD K H p (bs.map V.bl)/\Q (.bl (if any then bs.any id else bs.all id)) H
 |_=>False
def D0 (K:W.Frag):List V->Hp->VK->Prop:=fun xs H Q=>match xs with
 | [.ref p]=> ∃ns:List Int,cD K H p (ns.map V.int)/\Q (.int ns.sum) H
 |_=>False
def t7 {K:W.Frag} {p:Addr} {H:Hp} {Q:VK}:AV K false [.ref p] H Q=(∃bs:List Bool,cD K H p (bs.map V.bl)/\Q (.bl (bs.all id)) H):=rfl
def t6 {K:W.Frag} {p:Addr} {H:Hp} {Q:VK}:AV K true [.ref p] H Q=(∃bs:List Bool,cD K H p (bs.map V.bl)/\Q (.bl (bs.any id)) H):=rfl
def tF {K:W.Frag} {p:Addr} {H:Hp} {Q:VK}:D0 K [.ref p] H Q=(∃ns:List Int,cD K H p (ns.map V.int)/\Q (.int ns.sum) H):=rfl
def j5 (K:W.Frag):List V->Hp->VK->Prop:=fun xs H Q=>match xs with
 | [.ref p]=> ∃ys,(cD K H p ys\/dZ K H p ys)/\∀l,H l=none->Q (.ref l) (upd H l (.lst ys))
 |_=>False
def qg:bc X (.type "list") (j5 X.K):=bc.imp oB fun xs H Q h=>by
 unfold j5 at h;split at h
 ·
  obtain ⟨ys,h1,h2⟩:=h;exact ⟨_,ys,rfl,h1,h2⟩
 ·exact h.elim
def lC (K:W.Frag):List V->Hp->VK->Prop:=fun xs H Q=>match xs with
 | [.ref p]=> ∃ys,(cD K H p ys/\∀l,H l=none->Q (.ref l) (upd H l (.tup ys)))\/(dZ K H p ys/\Q (.ref p) H)
 |_=>False
def pA:bc X (.type "tuple") (lC X.K):=bc.imp m6 fun xs H Q h=>by
 unfold lC at h;split at h
 ·
  obtain ⟨ys,h⟩:=h;exact ⟨_,ys,rfl,h⟩
 ·exact h.elim
def pU {K:W.Frag} {p:Addr} {H:Hp} {Q:VK}:j5 K [.ref p] H Q=(∃ys,(cD K H p ys\/dZ K H p ys)/\∀l,H l=none->Q (.ref l) (upd H l (.lst ys))):=rfl
def oS {K:W.Frag} {p:Addr} {H:Hp} {Q:VK}:lC K [.ref p] H Q=(∃ys,(cD K H p ys/\∀l,H l=none->Q (.ref l) (upd H l (.tup ys)))\/(dZ K H p ys/\Q (.ref p) H)):=rfl
def tZ:List V->Hp->VK->Prop:=fun xs H Q=>match xs with
 | [.int i,.int j]=>xq i j/\∀p,H p=none->Q (.ref p) (upd H p (.tup [.int (i / j),.int (i % j)]))
 |_=>False
def nX {i j:Int} {H:Hp} {Q:VK}:tZ [.int i,.int j] H Q=(xq i j/\∀p,H p=none->Q (.ref p) (upd H p (.tup [.int (i / j),.int (i % j)]))):=rfl
def gX:V->List V->Hp->VK->Prop:=fun x vs H Q=>match x,vs with
 | .ref l,[y]=> ∃xs,H l=some (.lst xs)/\xs.length<sizeLine/\Q .non (upd H l (.lst (xs++ [y])))
 |_,_=>False
def p5:FY X "list.append" gX:=by
 intro pins s σ H x xs v us Q I rx rs q;unfold gX at q;split at q
 ·
  obtain ⟨ys,h1,h2,h3⟩:=q;exact sg pins s σ H _ _ v us Q I rx rs ⟨_,ys,_,rfl,rfl,h1,h2,h3⟩
 ·exact q.elim
def r_ {o e:Expr} {to te:TE} {apos cpos:Pos} (ho:PE X o to) (he:PE X e te) (hbase:attributeBase o "append" X.env (eval o X.env)=eval o X.env:=by rfl)
  (
   hfew:((backTo cpos (starEach [e] X.env)).all (fun x=>!x.1)&&(backToKw cpos (keywordEach [] X.env)).all (fun x=>x.1.isSome)
   &&decide ([e].length+([]:List Keyword).length+(if ([]:List Keyword).isEmpty then 0 else 1)<30))=true:=by rfl)
  (hline:(apos.endLine == cpos.line)=true:=by rfl) (hs:starEach [e] X.env=(false,eval e X.env)::starEach [] X.env:=by rfl) (hplain:(backTo cpos (starEach [] X.env)).any (·.1)=false:=by rfl):
  PE X (.Call (.Attribute o "append" apos) [e] [] cpos) (DI X.K "list" gX to (oO te sW)):=
 AX F.plainAttrs_list F.slot_list_append F.type_list_append p5 ho (qG he av hs) hbase hfew hline hs hplain
def sU {K:W.Frag} {a:Addr} {xs:List V} {H:Hp} (h:cD K H a xs):x3 K "list" (.ref a) H:= .inl ⟨rfl,xs,h⟩
def nY {l:Addr} {y:V} {H:Hp} {Q:VK}:gX (.ref l) [y] H Q=(∃xs,H l=some (.lst xs)/\xs.length<sizeLine/\Q .non (upd H l (.lst (xs++ [y])))):=rfl
def AH:V->V->V->Hp->(Hp->Prop)->Prop:=fun o i v H Q=>match o,i with
 | .ref p,.int k=> ∃xs j,H p=some (.lst xs)/\sx xs.length k=some j/\Q (upd H p (.lst (xs.set j v)))
 |_,_=>False
def rD {p:Addr} {k:Int} {v:V} {H:Hp} {Q:Hp->Prop}:AH (.ref p) (.int k) v H Q=(∃xs j,H p=some (.lst xs)/\sx xs.length k=some j/\Q (upd H p (.lst (xs.set j v)))):=rfl
def lU (K:W.Frag):R2:=fun x y H Q=>match x,y with
 | .ref p,.int i=> ∃xs v,(cD K H p xs\/dZ K H p xs)/\i4 xs i=some v/\Q v H
 | .str z,.int i=> ∃c,z.length<=sizeLine/\i4 z.cps.toList i=some c/\Q (.str ⟨#[c]⟩) H
 |_,_=>False
def pG.imp {r r':R2} (h:pG X r) (i: ∀x y H Q,r' x y H Q->r x y H Q):pG X r':=fun value slice pins s σ H x y v u Q I rx ry q hs=>h value slice pins s σ H x y v u Q I rx ry (i _ _ _ _ q) hs
def E5:pG X (lU X.K):=pG.imp zF fun x y H Q h=>by
 unfold lU at h;split at h
 ·
  obtain ⟨xs,v,h1,h2,h3⟩:=h;rcases h1 with h1|h1
  ·exact .inl ⟨_,xs,_,v,rfl,rfl,h1,h2,h3⟩
  ·exact .inr (.inl ⟨_,xs,_,v,rfl,rfl,h1,h2,h3⟩)
 ·
  obtain ⟨c,h1,h2,h3⟩:=h;exact .inr (.inr ⟨_,_,c,rfl,rfl,h1,h2,h3⟩)
 ·exact h.elim
def tR {K:W.Frag} {z:Str} {i:Int} {H:Hp} {Q:VK}:lU K (.str z) (.int i) H Q=(∃c,z.length<=sizeLine/\i4 z.cps.toList i=some c/\Q (.str ⟨#[c]⟩) H):=rfl
def o1 {K:W.Frag} {p:Addr} {i:Int} {H:Hp} {Q:VK} {xs:List V} {v:V} (h:cD K H p xs) (e:i4 xs i=some v) (q:Q v H):lU K (.ref p) (.int i) H Q:=⟨xs,v,.inl h,e,q⟩
def wQ {K:W.Frag} {p:Addr} {i:Int} {H:Hp} {Q:VK} {xs:List V} {v:V} (h:dZ K H p xs) (e:i4 xs i=some v) (q:Q v H):lU K (.ref p) (.int i) H Q:=⟨xs,v,.inr h,e,q⟩
def uJ {K:W.Frag} {H:Hp} {a:Addr} {ns:List Int} {k:Int} {Q:VK} (hS:cD K H a (ns.map V.int)) (h0:0<=k) (h1:k<(ns.length:Int)) (q:Q (.int (ns.getD k.toNat 0)) H):lU K (.ref a) (.int k) H Q:=by
 refine o1 hS ?_ q;obtain ⟨j,rfl⟩: ∃j:Nat,k=(j:Int):=⟨k.toNat,by lia⟩;refine xj ?_;have hj:j<ns.length:=by lia
 rw [List.getElem?_map,List.getElem?_eq_getElem hj];simp [List.getD,hj]
end
section
variable {K:W.Frag} {H:Hp} {σ:St}
def uY {n:Nat} {t:pE} {a:Addr} {Q:St->Hp->Prop}:wZ K n t (.ref a) σ H Q=(∃xs,dZ K H a xs/\xs.length=n/\t xs σ H Q):=by
 apply propext;constructor
 ·
  rintro ⟨b,xs,e,h⟩;cases e;exact ⟨xs,h⟩
 ·
  rintro ⟨xs,h⟩;exact ⟨a,xs,rfl,h⟩
def qa {t:TG} {u:pE} {v:V} {r:List V} {Q:St->Hp->Prop}:u_ t u (v::r) σ H Q=t v σ H fun σ' H'=>u r σ' H' Q:=by
 apply propext;constructor
 ·
  rintro ⟨v',r',e,h⟩;cases e;exact h
 ·
  intro h;exact ⟨v,r,rfl,h⟩
def u9 {Q:St->Hp->Prop}:Dn [] σ H Q=Q σ H:=by
 apply propext;exact ⟨fun h=>h.2,fun h=>⟨rfl,h⟩⟩
def zW {i:Int} {P:Int->Prop}:(∃k,V.int i = .int k/\P k)=P i:=by
 apply propext;constructor
 ·
  rintro ⟨k,e,q⟩;cases e;exact q
 ·intro q;exact ⟨i,rfl,q⟩
def pQ {n:Nat} (h:n<=1000):(n<=sizeLine)=True:=by
 have:=sizeLine_eq;simp only [eq_iff_iff,iff_true];lia
def s_ {n:Nat} (h:n<=1000):(n<sizeLine)=True:=by
 have:=sizeLine_eq;simp only [eq_iff_iff,iff_true];lia
end
section
variable {X:Cx} (K:W.Frag) (h:X.K=K)
def aP (h:X.K=K):d2 X (binaryOp .Add) (nF K):=h▸wF
def nN (h:X.K=K):bc X (.builtin "len") (kM K):=h▸sN
def sP (h:X.K=K):bc X (.builtin "isinstance") (gj K):=h▸vq
def DV (h:X.K=K):ra X (tH K):=h▸DW
def C9 (h:X.K=K):pG X (lU K):=h▸E5
def ie {tg l:Expr} {tl:TE} (h:X.K=K) (hl:PE X l tl):PI X tg l (wU K tl):=h▸yo hl
def cu (h:X.K=K) (hu:X.A.units+64<cLine):d2 X (compareOp .Eq) (i9 K false):=h▸yz hu
def uu (h:X.K=K) (hu:X.A.units+64<cLine):d2 X (compareOp .NotEq) (i9 K true):=h▸yx hu
def mD (h:X.K=K):bc X (.type "list") (j5 K):=h▸qg
def pz (h:X.K=K):bc X (.type "tuple") (lC K):=h▸pA
def wu {es:List Expr} {k:Nat} {pos:Pos} {t:pE} {n:Nat} (h:X.K=K) (hc:X.calm=true) (hh:xn X es t)
  (hn:(assignEach es X.env).length=n:=by rfl) (hst:(assignEach es X.env).findIdx? (·.1)=none:=by rfl):PG X (.Tuple es k pos) (wZ K n t):=h▸yp hc hh hn hst
def p0 {o e:Expr} {to te:TE} {apos cpos:Pos} (h:X.K=K) (ho:PE X o to) (he:PE X e te) (hbase:attributeBase o "append" X.env (eval o X.env)=eval o X.env:=by rfl)
  (
   hfew:((backTo cpos (starEach [e] X.env)).all (fun x=>!x.1)&&(backToKw cpos (keywordEach [] X.env)).all (fun x=>x.1.isSome)
   &&decide ([e].length+([]:List Keyword).length+(if ([]:List Keyword).isEmpty then 0 else 1)<30))=true:=by rfl)
  (hline:(apos.endLine == cpos.line)=true:=by rfl) (hs:starEach [e] X.env=(false,eval e X.env)::starEach [] X.env:=by rfl) (hplain:(backTo cpos (starEach [] X.env)).any (·.1)=false:=by rfl):
  PE X (.Call (.Attribute o "append" apos) [e] [] cpos) (DI K "list" gX to (oO te sW)):=h▸r_ ho he hbase hfew hline hs hplain
end
def DQ (t u:TS):TS:=fun D σ H=> ∃M:St->Hp->Prop,t {D with nx:=M} σ H/\∀σ' H',M σ' H'->u D σ' H'
def qD {X:Cx} {st:Stmt} {rest:List Stmt} {t u:TS} (h1:PS X st t) (h2:pF X rest u):pF X (st::rest) (DQ t u):=by
 intro pins s σ H D I ⟨M,h,k⟩;refine wpAny_execs_cons (thn (h1 pins s σ H {D with nx:=M} I h) fun f s1 q=>?_);cases f with
 |next=>
  obtain ⟨σ',H',I',q⟩:=q;exact h2 pins s1 σ' H' D I' (k σ' H' q)
 |ret v=>exact q
 |brk=>exact q
 |cont=>exact q
noncomputable def isStar:Expr->Bool
 | .Starred .. =>true
 |_=>false
def cm {e:Expr} {es:List Expr} {env:Env} (h:isStar e=false):starEach (e::es) env=(false,eval e env)::starEach es env:=by
 cases e<;>first|rfl|exact absurd h (by simp [isStar])
def ig {pos:Pos} {env:Env}: ∀{es:List Expr},es.any isStar=false->(backTo pos (starEach es env)).any (·.1)=false
 | [],_=>rfl
 |e::es,h=>by
  rw [List.any_cons,Bool.or_eq_false_iff] at h;rw [cm h.1];show (false||(backTo pos (starEach es env)).any (·.1))=false;rw [ig h.2];rfl
def i5 {e:Expr} {es:List Expr} {env:Env} (h:isStar e=false):(assignEach (e::es) env).map (·.2)=assign e env::(assignEach es env).map (·.2):=by
 cases e<;>first|rfl|exact absurd h (by simp [isStar])
def ib {env:Env}: ∀{es:List Expr},(assignEach es env).length=es.length
 | []=>rfl
 |e::es=>by
  have ih:=@ib env es;cases e<;>(show (assignEach es env).length+1=es.length+1;rw [ih])
def fv {env:Env}: ∀{es:List Expr},es.any isStar=false->(assignEach es env).findIdx? (·.1)=none
 | [],_=>rfl
 |e::es,h=>by
  rw [List.any_cons,Bool.or_eq_false_iff] at h;have ih:=fv (env:=env) h.2;have e1:assignEach (e::es) env=(false,assign e env)::assignEach es env:=by
   have:=h.1;cases e<;>first|rfl|exact absurd this (by simp [isStar])
  rw [e1,List.findIdx?_cons,ih];rfl
noncomputable def eE:Expr->Bool
 | .UnaryOp .Not _ _=>false
 | .BoolOp .. =>false
 | .IfExp .. =>false
 | .Compare .. =>false
 |_=>true
def sA {e:Expr} {env:Env} (h:eE e=true) (whole:Sem Value):isTrue e env whole=(do let v<-whole;standAt e.pos;holding [v] (truthy v)):=by
 cases e with
 |UnaryOp op a p=>cases op<;>first|rfl|exact absurd h (by simp [eE])
 |BoolOp=>exact absurd h (by simp [eE])
 |IfExp=>exact absurd h (by simp [eE])
 |Compare=>exact absurd h (by simp [eE])
 |_=>rfl
section
variable {X:Cx} {CX:lN} {k n:Nat} {ps:List Str} {sp:Sp} {x:Str} {p pos:Pos} {e:Expr} {es:List Expr} {t:TA} {te:TE} {id T:String} {r:List V->Hp->VK->Prop}
def az (ha:PE X e te) (hr:PA X es t) (h:isStar e=false:=by rfl):PA X (e::es) (oO te t):=qG ha hr (cm h)
def bD [Quiet CX] (G:FnAt X.prog X.w X.K X.mg X.base CX x k ps sp) (hr:c_ n X.A) (hk:k<=n) (hg:Gl X x) (ha:PA X (e::es) t)
  (hdb:(x == ("__debug__" : Str))=false:=by decide) (h:(e::es).any isStar=false:=by rfl):PE X (.Call (.Name x p) (e::es) [] pos) (qr sp [] E0 t):=by
 rw [List.any_cons,Bool.or_eq_false_iff] at h;exact AW G hr hk hg ha hdb (cm h.1) (ig h.2)
def a9 (hc:bc X (.builtin id) r) (hg:Gl X x) (hm:X.mg x=none) (hv:bootBuiltins x=some (.builtin id)) (ha:PA X (e::es) t) (hn:x≠ "__name__" :=by decide) (hdb:(x == ("__debug__" : Str))=false:=by decide)
  (h:(e::es).any isStar=false:=by rfl):PE X (.Call (.Name x p) (e::es) [] pos) (AA r t):=by
 rw [List.any_cons,Bool.or_eq_false_iff] at h;exact uk hc hg hm hv ha hn hdb (cm h.1) (ig h.2)
def lY (hc:bc X (.type T) r) (hg:Gl X x) (hm:X.mg x=none) (hv:bootBuiltins x=some (.type T)) (ha:PA X (e::es) t) (hn:x≠ "__name__" :=by decide) (hdb:(x == ("__debug__" : Str))=false:=by decide)
  (h:(e::es).any isStar=false:=by rfl):PE X (.Call (.Name x p) (e::es) [] pos) (AA r t):=by
 rw [List.any_cons,Bool.or_eq_false_iff] at h;exact r9 hc hg hm hv ha hn hdb (cm h.1) (ig h.2)
def fi {g:TG} {u:pE} (h1:PG X e g) (h2:xn X es u) (h:isStar e=false:=by rfl):xn X (e::es) (u_ g u):=t_ h1 h2 (i5 h)
def wq (K:W.Frag) {j n:Nat} {u:pE} (hK:X.K=K) (hc:X.calm=true) (hh:xn X es u) (hn:es.length=n:=by rfl) (h:es.any isStar=false:=by rfl):PG X (.Tuple es j pos) (wZ K n u):=
 wu K hK hc hh (by rw [ib];exact hn) (fv h)
def lV (he:PE X e te) (h:eE e=true:=by rfl):PT X e (tB te):=yk he (sA h)
end
noncomputable def jd:Expr->Bool
 | .ListComp .. =>true
 | .SetComp .. =>true
 | .DictComp .. =>true
 |_=>false
noncomputable def isTup:Expr->Bool
 | .Tuple .. =>true
 |_=>false
noncomputable def uN:Expr->Bool
 | .Set .. =>true
 |_=>false
def gQ {e:Expr} {tg:Option Expr} {l:Nat} {env:Env} (h:jd e=false):swapsWith e tg l env=pure false:=by
 cases e<;>first|rfl|exact absurd h (by simp [jd])
def rl {tg e:Expr} {env:Env} (h:isTup e=false):swappedStores [tg] e env=pure none:=by
 cases e with
 |Tuple=>simp [isTup] at h
 |_=>cases tg<;>rfl
def oh {op:CmpOp} {b:Expr} (h:uN b=false):behindInMarks op b=false:=by
 cases b<;>first|rfl|exact absurd h (by simp [uN])
section
variable {X:Cx} {pos:Pos}
def lE {tg e:Expr} {te:TE} {g:TG} (he:PE X e te) (hg:PG X tg g) (h1:jd e=false:=by rfl) (h2:isTup e=false:=by rfl) (h3:isStar tg=false:=by rfl):PS X (.Assign [tg] e pos) (rk te g):=
 yn he hg (gQ h1) (rl h2) (i5 h3)
def aS {i:Nat} {x:Str} {e:Expr} {te:TE} {pos':Pos} (hN:X.N.Nodup) (hi:X.N[i]?=some x) (hx:Loc X.env.scope x) (he:PE X e te) (h:jd e=false:=by rfl) (hf:X.fn x=true\/X.env.scope.names.lookup x=some .local:=by first|exact .inl rfl|exact .inr rfl|assumption):
  PS X (.Assign [.Name x pos'] e pos) (rk te (jL i)):=ym hN hi hx he (gQ h) hf
def bG {e:Expr} {te:TE} (he:PE X e te) (h:jd e=false:=by rfl):PS X (.Expr e pos) (qq te):=wo he (gQ h)
end
def F6 (vs:List V):TA:=fun _ H Q=>Q vs H
end L2
namespace BitM
end BitM
namespace Rem
end Rem
namespace BitI
open PySem L2
def not_eq (x:Int):Builtin.bitNot x = -x - 1:=by unfold Builtin.bitNot;lia
def yt (a b:Nat):Builtin.bitOr (a:Int) (b:Int)=((a |||b:Nat):Int):=by
 unfold Builtin.bitOr;rw [PyProof.Rows.bitAnd_nn (by rw [not_eq];lia) (by rw [not_eq];lia)];have e: ∀n:Nat,(Builtin.bitNot (Builtin.bitNot (n:Int)))=(n:Int):=fun n=>by rw [not_eq,not_eq];lia
 rw [e a,e b,e];simp
end BitI
namespace Com
open PySem L2
def aK {H:Hp} {p:Addr} {o:HO} (h:H p=none):eo H (upd H p o):=fun b u e=>by rw [aj (aA e h)];exact e
def oQ {K:W.Frag} {H H':Hp} {a:Addr} {xs:List V} (e:eo H H') (h:cD K H a xs):cD K H' a xs:=e.seq h
def vm {ns:List Int} {lo hi:Option Int}:mz (ns.map V.int) lo hi=((ns.drop (HT.dP ns.length 0 lo)).take (HT.dP ns.length ns.length hi - HT.dP ns.length 0 lo)).map V.int:=by
 unfold mz;rw [List.length_map,List.map_take,List.map_drop]
def aJ {H:Hp} {p q:Addr} {o x:HO} (h:H p=some x) (hn:H q=none):upd H q o p=some x:=by rw [aj (aA h hn)];exact h
def ql {K:W.Frag} {H:Hp} {Q:VK} {l b:Addr} {xs zs:List V} (h1:H l=some (.lst xs)) (h2:H b=some (.lst zs)) (hz:xs.length+zs.length<=sizeLine) (q: ∀p,H p=none->Q (.ref p) (upd H p (.lst (xs++zs)))):nF K (.ref l) (.ref b) H Q:=
 .inl ⟨l,b,xs,zs,rfl,rfl,h1,h2,hz,q⟩
def ft {ns:List Int} {i:Nat} {x:V} (h:(ns.map V.int)[i]?=some x): ∃c,x = .int c/\ns[i]?=some c:=by
 rw [List.getElem?_map] at h;cases e:ns[i]? with
 |none=>rw [e] at h;cases h
 |some c=>rw [e] at h;cases h;exact ⟨c,rfl,rfl⟩
def de {n:Nat} (h:n<=1000):n<=sizeLine:=by rw [sizeLine_eq];lia
def uK {K:W.Frag} {H:Hp} {a:Addr} {xs:List V} {Q:VK} (h:H a=some (.lst xs)) (q:Q (.bl true) H):gj K [.ref a,.ty "list"] H Q:=⟨_,true,.lst h,yO K,q⟩
def wR {K:W.Frag} {H:Hp} {a:Addr} {xs:List V} {Q:VK} (h:H a=some (.tup xs)) (q:Q (.bl true) H):gj K [.ref a,.ty "tuple"] H Q:=⟨_,true,.tup h,yL K,q⟩
def fresh_ne {H:Hp} {p q:Addr} {o:HO} (h:upd H p o q=none):q≠p:=fun e=>by
 subst e;rw [au] at h;cases h
def Af {ns:List Int} {lo hi:Option Int}: ∃ms:List Int,mz (ns.map V.int) lo hi=ms.map V.int/\ms.length<=ns.length:=by
 refine ⟨_,vm,?_⟩;rw [List.length_take,List.length_drop];lia
end Com
namespace L2
open PySem PySem.Spec PyProof.Rows
structure i6 (K:W.Frag) (mg:Str->Option Value) (x:Str) (C:Addr):Prop where
 Gy:mg x=some (.ref C)
 cl:Ao K C
 mks:W.makesIn K C=true
 kp:W.keepIn K (.ref C)=true
def MethAt (K:W.Frag) (C:Addr) (m q:Str) (st:Stmt):Prop:= ∃f fd,DG K m q st f fd/\Meth K C m f
def cE (P:Program) (w:World) (K:W.Frag) (mg:Str->Option Value) (base:Heap) (CX:lN) (C:Addr) (m:Str) (k:Nat) (ps:List Str) (sp:Sp):Prop:=
 ∃f fd,kL P w K mg base CX k f fd ps sp/\Meth K C m f/\Binds K fd ps []
def uG {K:W.Frag} {h:Heap} {mg:Str->Option Value} {x:Str} {C:Addr} (X:K.In h) (G:h.Ns mainGlobals mg) (a:W.nsIn K mainGlobals x=some (some (.ref C)))
  (pg:W.plainGet K C Str.empty=true) (hd:W.hasDictIn K C=true) (po:W.plainOver K C=true) (sa:W.findIn K (.ref C) "__setattr__" = some (some (.builtin "object.__setattr__"))) (mk:W.makesIn K C=true) (kc:W.keepIn K (.ref C)=true):i6 K mg x C:=
 ⟨W.mg_of X G a,⟨pg,hd,po,sa⟩,mk,kc⟩
def sj {K:W.Frag} {C:Addr} {m q:Str} {st:Stmt} {f:Addr} {oc:Value} {od an:Option Addr} {osl:Array (Option Value)} {kV doc pm cdv ct:Value}
  (a:W.findIn K (.ref C) m=some (some (.ref f))) (i:W.isFn K (.ref f)=true)
  (l:K.lookup f=some ⟨oc,od,.func (W.fnOf m q (dq st) (cC st) (ay st) .none kV doc pm an cdv ct),osl⟩) (c:W.codeIn K cdv q=true) (k:W.keepIn K (.ref f)=true):MethAt K C m q st:=
 ⟨f,_,va l c k,⟨a,i,k⟩⟩
section
variable {P:Program} {w:World} {K:W.Frag} {mg:Str->Option Value} {base:Heap} {CX:lN}
def MethAt.fn {C:Addr} {m q:Str} {st:Stmt} {N ps:List Str} {k:Nat} {sp:Sp} (F:MethAt K C m q st) (S:aD N ps (ay st))
  (hb: ∀(kV doc pm:Value) (an:Option Addr) (cdv ct:Value) (us:List Value),us.length=ps.length->bindArgs (W.fnOf m q (dq st) (cC st) (ay st) .none kV doc pm an cdv ct) ⟨us,[]⟩=pure (ps.zip us))
  (len: ∀vs H Q E,sp vs H Q E->vs.length=ps.length)
  (
   hbody: ∀(f:Addr) (cdv:Value) (A:Around) (outer:List Env) (s:Shared) (H:Hp) (vs:List V) (Q:VK) (E:XK),c_ k (A.deeper (envOfC q (ay st) s.heap.objs.size f cdv))->sp vs H Q E->
   ∃t,pF (ph CX P w K mg base N q (ay st) f cdv A outer s H E).nox (cC st) t/\t {nx:=fun _ H'=>Q .non H',rt:=Q} (start N vs) H):cE P w K mg base CX C m (k+1) ps sp:=by
 obtain ⟨f,fd,F,hm⟩:=F;have bd:=F.binds hb;obtain ⟨oc,od,kV,doc,pm,an,cdv,ct,osl,rfl,lk,hcd⟩:=F.ex;refine ⟨f,_,xV lk hcd S len fun A outer s H vs Q E hr hsp=>?_,hm,bd⟩;obtain ⟨t,h,q⟩:=hbody f cdv A outer s H vs Q E hr hsp;exact ⟨t,h.nox,q⟩
end
def yi (C:Addr) (f:Str) (x:V) (H:Hp) (Q:VK):Prop:= ∃a,x = .ref a/\∃dx fs,H a=some (.ins C dx fs)/\∃v,fs.lookup f=some v/\Q v H
def xC (C:Addr) (f:Str) (ta:TE):TE:=fun σ H Q=>ta σ H fun x H1=>yi C f x H1 Q
def tI (C:Addr) (f:Str) (y x:V) (H:Hp) (N:Hp->Prop):Prop:= ∃a,x = .ref a/\∃dx fs,H a=some (.ins C dx fs)/\fs.length<1000/\N (upd H a (.ins C dx (bp f y fs)))
def xE (C:Addr) (f:Str) (ta tv:TE):TS:=fun D σ H=>tv σ H fun y H1=>ta σ H1 fun x H2=>tI C f y x H2 (D.nx σ)
def t5 (C:Addr) (f:Str) (x:V) (H:Hp) (K:V->(V->Hp->Prop)->Prop) (N:Hp->Prop):Prop:= ∃a,x = .ref a/\∃dx fs,H a=some (.ins C dx fs)/\∃v,fs.lookup f=some v/\
 K v fun z H3=> ∃dx' fs',H3 a=some (.ins C dx' fs')/\fs'.length<1000/\N (upd H3 a (.ins C dx' (bp f z fs')))
def xF (C:Addr) (f:Str) (ta tv:TE) (rd:R2):TS:=fun D σ H=>ta σ H fun x H1=>t5 C f x H1 (fun v R=>tv σ H1 fun y H2=>rd v y H2 R) (D.nx σ)
def D3 (C:Addr) (m:Str) (x:V) (H:Hp) (N:Prop):Prop:= ∃a,x = .ref a/\∃dx fs,H a=some (.ins C dx fs)/\fs.lookup m=none/\N
def x6 (C:Addr) (m:Str) (sp:Sp) (ta:TE) (t:TA):TE:=fun σ H Q=>ta σ H fun x H1=>D3 C m x H1 (t σ H1 fun vs H2=>sp (x::vs) H2 Q E0)
def tV {C a:Addr} {f:Str} {H:Hp} {Q:VK}:yi C f (.ref a) H Q= ∃dx fs,H a=some (.ins C dx fs)/\∃v,fs.lookup f=some v/\Q v H:=by
 apply propext;unfold yi;constructor
 ·rintro ⟨b,e,h⟩;cases e;exact h
 ·exact fun h=>⟨a,rfl,h⟩
def rC {C a:Addr} {f:Str} {y:V} {H:Hp} {N:Hp->Prop}:tI C f y (.ref a) H N= ∃dx fs,H a=some (.ins C dx fs)/\fs.length<1000/\N (upd H a (.ins C dx (bp f y fs))):=by
 apply propext;unfold tI;constructor
 ·rintro ⟨b,e,h⟩;cases e;exact h
 ·exact fun h=>⟨a,rfl,h⟩
def rX {C a:Addr} {f:Str} {H:Hp} {K:V->(V->Hp->Prop)->Prop} {N:Hp->Prop}:t5 C f (.ref a) H K N= ∃dx fs,H a=some (.ins C dx fs)/\∃v,fs.lookup f=some v/\
  K v fun z H3=> ∃dx' fs',H3 a=some (.ins C dx' fs')/\fs'.length<1000/\N (upd H3 a (.ins C dx' (bp f z fs'))):=by
 apply propext;unfold t5;constructor
 ·rintro ⟨b,e,h⟩;cases e;exact h
 ·exact fun h=>⟨a,rfl,h⟩
def vR {C a:Addr} {m:Str} {H:Hp} {N:Prop}:D3 C m (.ref a) H N= ∃dx fs,H a=some (.ins C dx fs)/\fs.lookup m=none/\N:=by
 apply propext;unfold D3;constructor
 ·rintro ⟨b,e,h⟩;cases e;exact h
 ·exact fun h=>⟨a,rfl,h⟩
def zX {C d:Addr} {l:List (Str×V)} {N:Addr->List (Str×V)->Prop}:(∃dx fs,some (HO.ins C d l)=some (HO.ins C dx fs)/\N dx fs)=N d l:=by
 apply propext;constructor
 ·rintro ⟨dx,fs,e,h⟩;cases e;exact h
 ·exact fun h=>⟨d,l,rfl,h⟩
def zU {x:V} {N:V->Prop}:(∃v,some x=some v/\N v)=N x:=by
 apply propext;constructor
 ·rintro ⟨v,e,h⟩;cases e;exact h
 ·exact fun h=>⟨x,rfl,h⟩
def se {K:W.Frag} {C:Addr} {f:Str} (h:W.findIn K (.ref C) f=some none):bf K C f:=h
def tu {H:Hp} {x dx C:Addr} {fs:List (Str×V)} (nx:H x=none) (nd:H dx=none):eo H (upd (upd H dx (.own x)) x (.ins C dx fs)):=fun b o e=>by
 rw [aj (aA e nx),aj (aA e nd)];exact e
def sT {H:Hp} {p:Addr} {o:HO} (h:H p=some o):upd H p o=H:=by
 funext b;unfold upd;split
 ·rename_i e;rw [e,h]
 ·rfl
section
variable {X:Cx} {C:Addr} {o e value:Expr} {es:List Expr} {f m x:Str} {p pos pos' tpos apos:Pos} {ta tv:TE} {t:TA} {k n:Nat} {ps:List Str} {sp:Sp}
def ak (he:PE X e ta) (c:i6 X.K X.mg x C) (nn:bf X.K C f) (hb:attributeBase e f X.env (eval e X.env)=eval e X.env):PE X (.Attribute e f pos) (xC C f ta):=by
 intro pins s σ H Q I h;refine xi hb (thn (he pins s σ H _ I h) fun u s1 ⟨x,H1,I1,rx,a,ex,dx,fs,ea,v,l,q⟩=>?_);subst ex;obtain rfl:u=Value.ref a:=rx;exact mj I1 ea c.cl nn l fun u' s2 I2 ru=>⟨v,H1,I2,ru,q⟩
def aG (ha:PE X o ta) (hv:PE X value tv) (c:i6 X.K X.mg x C) (nn:bf X.K C f) (hs:jd value=false:=by rfl):PS X (.Assign [.Attribute o f pos'] value pos) (xE C f ta tv):=by
 intro pins s σ H D I h;refine plainObj_wpAny_Assign_Attribute (thn (hv pins s σ H _ I h) fun u s1 ⟨y,H1,I1,ry,q⟩=>thn (ha pins s1 σ H1 _ I1 q) fun ov s2 ⟨x,H2,I2,rx,a,ex,dx,fs,ea,l,q2⟩=>?_) (gQ hs);subst ex;obtain rfl:ov=Value.ref a:=rx;exact lR I2 ea c.cl nn l ry fun s3 I3=>⟨σ,_,I3,q2⟩
def jD {op:Operator} {rd:R2} (ha:PE X o ta) (hv:PE X value tv) (c:i6 X.K X.mg x C) (nn:bf X.K C f) (hop:d2 X (inplaceOp op) rd):PS X (.AugAssign (.Attribute o f tpos) op value pos) (xF C f ta tv rd):=by
 intro pins s σ H D I h;refine wpAny_AugAssign_AttributeAny (thn (ha pins s σ H _ I h) fun ov s1 ⟨x,H1,I1,rx,a,ex,dx,fs,ea,v,l,q⟩=>?_);subst ex;obtain rfl:ov=Value.ref a:=rx;refine mj I1 ea c.cl nn l fun u s2 I2 ru=>thn (hv pins s2 σ H1 _ I2 q) fun w3 s3 ⟨y,H2,I3,ry,q3⟩=>thn (hop pins s3 σ H2 v y u w3 _ I3 ru ry q3) fun w4 s4 ⟨z,H3,I4,rz,dx',fs',ea',l',q4⟩=>?_;exact lR I4 ea' c.cl nn l' rz fun s5 I5=>⟨σ,_,I5,q4⟩
def bI {CX:lN} [Quiet CX] {pl:Sem Bool} (he:PE X o ta) (c:i6 X.K X.mg x C) (G:cE X.prog X.w X.K X.mg X.base CX C m k ps sp) (hr:c_ n X.A) (hk:k<=n) (ha:PA X (e::es) t) (hst:(e::es).any isStar=false:=by rfl)
  (
   ht:eval (.Call (.Attribute o m apos) (e::es) [] pos) X.env=(do
   let ov<-eval o X.env
   standAt apos.atName
   let (f,first)<-holding [ov] (getMethod ov m pl)
   callWith pos f first (backTo pos (starEach (e::es) X.env)) (backToKw pos (keywordEach [] X.env))):=by rfl):
  PE X (.Call (.Attribute o m apos) (e::es) [] pos) (x6 C m sp ta t):=by
 obtain ⟨f,fd,F,hm,b⟩:=G;rw [List.any_cons,Bool.or_eq_false_iff] at hst;intro pins s σ H Q I h;refine W.methodCall_KW (pl:=pl) (thn (he pins s σ H _ I h) fun u s1 ⟨x,H1,I1,rx,a,ex,dx,fs,ea,l,q⟩=>?_) ht;subst ex;obtain rfl:u=Value.ref a:=rx;refine mi I1 ea c.cl hm l ?_;refine W.callWith_K (first:=[.ref a]) (h₀:=X.base) I.ok.mod.kin hm.kp (thn (ha pos pins s1 σ H1 _ I1 q) fun us s2 ⟨vs,H2,I2,r,q2⟩=>⟨I2.kU,?_⟩) (cm hst.1) (ig hst.2)
 exact pR (us:= .ref a::us) (vs:= .ref a::vs) F (hr.mono hk) b .nil (Quiet.pass X) I2 (.cons rfl r) (by rw [List.append_nil];exact q2)
def br {CX:lN} [Quiet CX] {pl:Sem Bool} (he:PE X o ta) (c:i6 X.K X.mg x C) (G:cE X.prog X.w X.K X.mg X.base CX C m k ps sp) (hr:c_ n X.A) (hk:k<=n)
  (
   ht:eval (.Call (.Attribute o m apos) [] [] pos) X.env=(do
   let ov<-eval o X.env
   standAt apos.atName
   let (f,first)<-holding [ov] (getMethod ov m pl)
   callWith pos f first (backTo pos (starEach [] X.env)) (backToKw pos (keywordEach [] X.env))):=by rfl):
  PE X (.Call (.Attribute o m apos) [] [] pos) (x6 C m sp ta sW):=by
 obtain ⟨f,fd,F,hm,b⟩:=G;intro pins s σ H Q I h;refine W.methodCall_KW (pl:=pl) (thn (he pins s σ H _ I h) fun u s1 ⟨x,H1,I1,rx,a,ex,dx,fs,ea,l,q⟩=>?_) ht;subst ex;obtain rfl:u=Value.ref a:=rx;refine mi I1 ea c.cl hm l ?_;exact W.callWith_K0 (first:=[.ref a]) I1.kU hm.kp (pR (us:=[.ref a]) (vs:=[.ref a]) F (hr.mono hk) b .nil (Quiet.pass X) I1 (.cons rfl .nil) q)
def pZ {CX:lN} [Quiet CX] (c:i6 X.K X.mg x C) (G:cE X.prog X.w X.K X.mg X.base CX C "__init__" k ps sp) (hr:c_ n X.A) (hk:k+1<=n) (hg:Gl X x) (ha:PA X (e::es) t)
  (hdb:(x == ("__debug__" : Str))=false:=by decide) (h:(e::es).any isStar=false:=by rfl):PE X (.Call (.Name x p) (e::es) [] pos) (sX C sp [] E0 t):=by
 obtain ⟨f,fd,F,hm,b⟩:=G;rw [List.any_cons,Bool.or_eq_false_iff] at h;exact wy ⟨c.mks,hm.at_,hm.fn,c.kp⟩ F (hr.mono hk) hg c.Gy b .nil (Quiet.pass X) ha hdb (cm h.1) (ig h.2)
end
def Aq (K:W.Frag) (p:Addr) (i:Int) (H:Hp) (Q:VK):Option HO->Prop
 |some (.lst xs)=> ∃v,i4 xs i=some v/\Q v H
 |some (.tup xs)=> ∃v,i4 xs i=some v/\Q v H
 |_=>lU K (.ref p) (.int i) H Q
def vS (K:W.Frag):R2:=fun x y H Q=>match x,y with
 | .ref p,.int i=>Aq K p i H Q (H p)
 |x,y=>lU K x y H Q
def tQ {K:W.Frag} {p:Addr} {i:Int} {H:Hp} {Q:VK}:vS K (.ref p) (.int i) H Q=Aq K p i H Q (H p):=rfl
def tP {K:W.Frag} {z:Str} {i:Int} {H:Hp} {Q:VK}:vS K (.str z) (.int i) H Q=lU K (.str z) (.int i) H Q:=rfl
def wM {K:W.Frag} {p:Addr} {i:Int} {H:Hp} {Q:VK} {xs:List V}:Aq K p i H Q (some (.lst xs))= ∃v,i4 xs i=some v/\Q v H:=rfl
def wL {K:W.Frag} {p:Addr} {i:Int} {H:Hp} {Q:VK} {xs:List V}:Aq K p i H Q (some (.tup xs))= ∃v,i4 xs i=some v/\Q v H:=rfl
def wN {K:W.Frag} {p:Addr} {i:Int} {H:Hp} {Q:VK} (h:Aq K p i H Q (H p)):lU K (.ref p) (.int i) H Q:=by
 unfold Aq at h;split at h
 ·rename_i xs e;obtain ⟨v,a,b⟩:=h;exact o1 (cD.of e) a b
 ·rename_i xs e;obtain ⟨v,a,b⟩:=h;exact wQ (dZ.of e) a b
 ·exact h
def dI {X:Cx} (K:W.Frag) (h:X.K=K):pG X (vS K):=pG.imp (C9 K h) fun x y H Q h=>by
 unfold vS at h;split at h
 ·exact wN h
 ·exact h
def mL {α:Type} {xs:List α} {i:Nat} {x:α} (h:xs[i]?=some x):i4 xs (i:Int)=some x:=by
 have hl:i<xs.length:=(List.getElem?_eq_some_iff.mp h).1;unfold i4 sx;rw [if_pos (by lia),if_pos (by lia)];exact h
def q_ {α:Type} {a:α} {l:List α}:i4 (a::l) 0=some a:=mL (i:=0) rfl
def q9 {α:Type} {a b:α} {l:List α}:i4 (a::b::l) 1=some b:=mL (i:=1) rfl
def xY {α:Type} {a b c:α} {l:List α}:i4 (a::b::c::l) 2=some c:=mL (i:=2) rfl
def xX {α:Type} {a b c d:α} {l:List α}:i4 (a::b::c::d::l) 3=some d:=mL (i:=3) rfl
def Dz {α:Type} {a b c d e:α} {l:List α}:i4 (a::b::c::d::e::l) 4=some e:=mL (i:=4) rfl
def Dy {α:Type} {a b c d e f:α} {l:List α}:i4 (a::b::c::d::e::f::l) 5=some f:=mL (i:=5) rfl
def gO (K:W.Frag) (n:Nat) (t:pE) (a:Addr) (σ:St) (H:Hp) (Q:St->Hp->Prop):Option HO->Prop
 |some (.tup xs)=>xs.length=n/\t xs σ H Q
 |_=> ∃xs,dZ K H a xs/\xs.length=n/\t xs σ H Q
def uZ (K:W.Frag) (n:Nat) (t:pE):TG:=fun v σ H Q=>match v with
 | .ref a=>gO K n t a σ H Q (H a)
 |_=>False
def sF {K:W.Frag} {n:Nat} {t:pE} {a:Addr} {σ:St} {H:Hp} {Q:St->Hp->Prop}:uZ K n t (.ref a) σ H Q=gO K n t a σ H Q (H a):=rfl
def zQ {K:W.Frag} {n:Nat} {t:pE} {a:Addr} {σ:St} {H:Hp} {Q:St->Hp->Prop} {xs:List V}:gO K n t a σ H Q (some (.tup xs))=(xs.length=n/\t xs σ H Q):=rfl
def lH {X:Cx} {es:List Expr} {pos:Pos} (K:W.Frag) {j n:Nat} {u:pE} (hK:X.K=K) (hc:X.calm=true) (hh:xn X es u) (hn:es.length=n:=by rfl) (h:es.any isStar=false:=by rfl):PG X (.Tuple es j pos) (uZ K n u):=by
 intro pins s σ H v w Q I r q;refine wq K (j:=j) hK hc hh hn h pins s σ H v w Q I r ?_;unfold uZ at q;split at q
 ·
  rename_i a;unfold gO at q;split at q
  ·rename_i xs e;exact ⟨a,xs,rfl,dZ.of e,q⟩
  ·obtain ⟨xs,h1,h2⟩:=q;exact ⟨a,xs,rfl,h1,h2⟩
 ·exact q.elim
def uD (K:W.Frag) (p:Addr) (H:Hp) (Q:VK):Option HO->Prop
 |some (.lst xs)=>Q (.int xs.length) H
 |some (.tup xs)=>Q (.int xs.length) H
 |_=>kM K [.ref p] H Q
def nC (K:W.Frag):List V->Hp->VK->Prop:=fun xs H Q=>match xs with
 | [.ref p]=>uD K p H Q (H p)
 |xs=>kM K xs H Q
def rO {K:W.Frag} {p:Addr} {H:Hp} {Q:VK}:nC K [.ref p] H Q=uD K p H Q (H p):=rfl
def rN {K:W.Frag} {z:Str} {H:Hp} {Q:VK}:nC K [.str z] H Q=kM K [.str z] H Q:=rfl
def uC {K:W.Frag} {p:Addr} {H:Hp} {Q:VK} {xs:List V}:uD K p H Q (some (.lst xs))=Q (.int xs.length) H:=rfl
def uB {K:W.Frag} {p:Addr} {H:Hp} {Q:VK} {xs:List V}:uD K p H Q (some (.tup xs))=Q (.int xs.length) H:=rfl
def iq {X:Cx} (K:W.Frag) (h:X.K=K):bc X (.builtin "len") (nC K):=bc.imp (nN K h) fun xs H Q h=>by
 unfold nC at h;split at h
 ·
  rename_i p;unfold uD at h;split at h
  ·rename_i xs e;exact ⟨xs,.inl (cD.of e),h⟩
  ·rename_i xs e;exact ⟨xs,.inr (dZ.of e),h⟩
  ·exact h
 ·exact h
def p_ (K:W.Frag) (p:Addr) (n:String) (H:Hp) (Q:VK):Option HO->Prop
 |some (.lst _)=>if n = "list" then Q (.bl true) H else gj K [.ref p,.ty n] H Q
 |some (.tup _)=>if n = "tuple" then Q (.bl true) H else gj K [.ref p,.ty n] H Q
 |_=>gj K [.ref p,.ty n] H Q
def nE (K:W.Frag):List V->Hp->VK->Prop:=fun xs H Q=>match xs with
 | [.ref p,.ty n]=>p_ K p n H Q (H p)
 |xs=>gj K xs H Q
def kE {X:Cx} (K:W.Frag) (h:X.K=K):bc X (.builtin "isinstance") (nE K):=bc.imp (sP K h) fun xs H Q h=>by
 unfold nE at h;split at h
 ·
  rename_i p n;unfold p_ at h;split at h
  ·
   rename_i xs e;split at h
   ·rename_i c;subst c;exact Com.uK e h
   ·exact h
  ·
   rename_i xs e;split at h
   ·rename_i c;subst c;exact Com.wR e h
   ·exact h
  ·exact h
 ·exact h
def rR {K:W.Frag} {p:Addr} {n:String} {H:Hp} {Q:VK}:nE K [.ref p,.ty n] H Q=p_ K p n H Q (H p):=rfl
def uL {K:W.Frag} {p:Addr} {H:Hp} {Q:VK} {xs:List V}:p_ K p "tuple" H Q (some (.tup xs))=Q (.bl true) H:=by simp [p_]
def uM {K:W.Frag} {p:Addr} {H:Hp} {Q:VK} {xs:List V}:p_ K p "list" H Q (some (.lst xs))=Q (.bl true) H:=by simp [p_]
def wa {K:W.Frag} {i:Int} {n:String} {H:Hp} {Q:VK}:nE K [.int i,.ty n] H Q=gj K [.int i,.ty n] H Q:=rfl
def wb {K:W.Frag} {i:Bool} {n:String} {H:Hp} {Q:VK}:nE K [.bl i,.ty n] H Q=gj K [.bl i,.ty n] H Q:=rfl
def v_ {K:W.Frag} {i:Str} {n:String} {H:Hp} {Q:VK}:nE K [.str i,.ty n] H Q=gj K [.str i,.ty n] H Q:=rfl
def zV {l:List V} {N:List V->Prop}:(∃xs,some (HO.lst l)=some (HO.lst xs)/\N xs)=N l:=by
 apply propext;constructor
 ·rintro ⟨xs,e,h⟩;cases e;exact h
 ·exact fun h=>⟨l,rfl,h⟩
def w_ {l:List V} {k:Int} {N:List V->Nat->Prop}:(∃xs j,some (HO.lst l)=some (HO.lst xs)/\sx xs.length k=some j/\N xs j)= ∃j,sx l.length k=some j/\N l j:=by
 apply propext;constructor
 ·rintro ⟨xs,j,e,h⟩;cases e;exact ⟨j,h⟩
 ·rintro ⟨j,h⟩;exact ⟨l,j,rfl,h⟩
def gP (p:Addr) (H H':Hp):Prop:= ∀b o,H b=some o->b≠p->H' b=some o
def gP.refl {p:Addr} {H:Hp}:gP p H H:=fun _ _ h _=>h
def gP.upd {p:Addr} {H:Hp} {o:HO}:gP p H (upd H p o):=fun b x hb hne=>by rw [aj hne];exact hb
def gP.new {p q:Addr} {H H':Hp} {o:HO} (h:gP p H H') (hq:H' q=none):gP p H (L2.upd H' q o):=fun b x hb hne=>by
 rw [aj (aA (h b x hb hne) hq)];exact h b x hb hne
def qM: ∀{xs ys:List Int},xs.map Dt.int=ys.map Dt.int->xs=ys
 | [],[],_=>rfl
 | [],_::_,h=>by simp at h
 |_::_,[],h=>by simp at h
 |x::xs,y::ys,h=>by
  simp only [List.map_cons,List.cons.injEq] at h;have e:x=y:=by have:=h.1;cases this;rfl
  rw [e,qM h.2]
def vd {K:W.Frag} {H:Hp} {neg:Bool} {p r:Addr} {xs ys:List Int} {Q:VK} (h1:dZ K H p (xs.map V.int)) (h2:dZ K H r (ys.map V.int)) (q:Q (.bl (if neg then !decide (xs=ys) else decide (xs=ys))) H):i9 K neg (.ref p) (.ref r) H Q:=by
 refine ⟨1,_,_,by decide,qR h1,qR h2,?_⟩;by_cases e:xs=ys
 ·
  subst e;refine .inl ⟨rfl,?_⟩;cases neg<;>simpa using q
 ·
  refine .inr ⟨fun c=>e (qM (Dt.t.inj c)),?_⟩;cases neg<;>simpa [e] using q
end L2
namespace MeterM
noncomputable def mn (a b:Int):Int:=if b<a then b else a
noncomputable def hf (w:Int):Int:=if 1<w / 2 then w / 2 else 1
noncomputable def k1 (m k:Int) (s:Int×Int):Int×Int:=if s.1=m then s else if s.1<k then (s.1+1,s.2) else if s.2+1=s.1 then (s.1+1,0) else (s.1,s.2+1)
noncomputable def kn (m k:Int):Nat->Int×Int->Int×Int
 |0,s=>s
 |n+1,s=>k1 m k (kn m k n s)
def Dg {w m:Int} (h1:1<=w) (h2:w<=m):1<=hf w/\hf w<=m:=by
 unfold hf;split<;>lia
def An (m:Int) (s:Int×Int):Prop:=1<=s.1/\s.1<=m/\0<=s.2/\s.2<s.1
def E6 {m k:Int} (s:Int×Int) (h:An m s):An m (k1 m k s):=by
 obtain ⟨w,c⟩:=s;unfold An k1 at*
 simp only at*
 (repeat' split)<;>simp only<;>lia
def inb {m k:Int}: ∀(n:Nat) (s:Int×Int),An m s->An m (kn m k n s)
 |0,s,h=>h
 |n+1,s,h=>E6 _ (inb n s h)
end MeterM
namespace WaysM
noncomputable def lb (x:Nat):Nat:=x - (x &&& (x - 1))
def xk (a b:Nat):(a &&& b) % 2=(a % 2)*(b % 2):=by
 have e:=Nat.and_mod_two_pow (a:=a) (b:=b) (n:=1);simp only [Nat.pow_one] at e;rw [e];rcases (by lia:a % 2=0\/a % 2=1) with p|p<;>rcases (by lia:b % 2=0\/b % 2=1) with q|q<;>rw [p,q]<;>decide
def yu (a b:Nat) (h:(a |||b) % 2=1):a % 2=1\/b % 2=1:=by
 have e:=Nat.or_mod_two_pow (a:=a) (b:=b) (n:=1);simp only [Nat.pow_one] at e;rw [e] at h;rcases (by lia:a % 2=0\/a % 2=1) with p|p<;>rcases (by lia:b % 2=0\/b % 2=1) with q|q<;>rw [p,q] at h<;>first|(exact .inl p)|(exact .inr q)|(simp at h)
def wI (x:Nat) (h:0<x): ∃k,lb x=2 ^ k/\x % 2 ^ k=0/\x / 2 ^ k % 2=1:=by
 induction x using Nat.strongRecOn with
 |_ x ih=>
  have d:(x &&& (x - 1)) / 2=(x / 2) &&& ((x - 1) / 2):=Nat.and_div_two;have m:=xk x (x - 1);rcases (by lia:x % 2=0\/x % 2=1) with p|p
  ·
   obtain ⟨k,h1,h2,h3⟩:=ih (x / 2) (by lia) (by lia);rw [show (x - 1) / 2=x / 2 - 1 by lia] at d;rw [p] at m;refine ⟨k+1,?_,?_,?_⟩
   ·
    unfold lb at h1⊢;rw [Nat.pow_succ];have le:(x / 2 &&& (x / 2 - 1))<=x / 2:=Nat.and_le_left;lia
   ·
    rw [Nat.pow_succ,Nat.mul_comm,Nat.mod_mul];rw [h2];lia
   ·rw [Nat.pow_succ,Nat.mul_comm,<-Nat.div_div_eq_div_mul];exact h3
  ·
   refine ⟨0,?_,by lia,by simpa using p⟩;unfold lb;rw [show (x - 1) / 2=x / 2 by lia,Nat.and_self] at d;rw [p,show (x - 1) % 2=0 by lia] at m;lia
def yw (a b k:Nat):(a |||b) / 2 ^ k=a / 2 ^ k |||b / 2 ^ k:=by
 rw [<-Nat.shiftRight_eq_div_pow,<-Nat.shiftRight_eq_div_pow,<-Nat.shiftRight_eq_div_pow];exact Nat.shiftRight_or_distrib
noncomputable def low (t b:Int):Int×Int:=(t / (lb (t.toNat |||b.toNat):Nat),b / (lb (t.toNat |||b.toNat):Nat))
structure DE (t b t' b' s:Int):Prop where
 s0:0<s
 tt:t=s*t'
 bb:b=s*b'
 t0:0<=t'
 b0:0<b'
 od: ¬(t' % 2=0/\b' % 2=0)
 tl:t'<=t
 bl:b'<=b
def qK (t b:Nat) (hb:0<b): ∃k,lb (t |||b)=2 ^ k/\t % 2 ^ k=0/\b % 2 ^ k=0/\(t / 2 ^ k % 2=1\/b / 2 ^ k % 2=1):=by
 have hx:0<t |||b:=by
  have:b<=t |||b:=Nat.right_le_or;lia
 obtain ⟨k,h1,h2,h3⟩:=wI _ hx;have e:(t % 2 ^ k) |||(b % 2 ^ k)=0:=by rw [<-Nat.or_mod_two_pow];exact h2
 have e1:t % 2 ^ k<=(t % 2 ^ k) |||(b % 2 ^ k):=Nat.left_le_or;have e2:b % 2 ^ k<=(t % 2 ^ k) |||(b % 2 ^ k):=Nat.right_le_or;refine ⟨k,h1,by lia,by lia,?_⟩;rw [yw] at h3;exact yu _ _ h3
def fU {t b:Int} (ht:0<=t) (hb:0<b): ∃s,DE t b (low t b).1 (low t b).2 s:=by
 obtain ⟨t,rfl⟩:=Int.eq_ofNat_of_zero_le ht;obtain ⟨b,rfl⟩:=Int.eq_ofNat_of_zero_le (Int.le_of_lt hb);obtain ⟨k,h1,h2,h3,h4⟩:=qK t b (by lia);have hp:0<2 ^ k:=Nat.two_pow_pos k;have t1:=Nat.div_add_mod t (2 ^ k);have b1:=Nat.div_add_mod b (2 ^ k);rw [h2,Nat.add_zero] at t1;rw [h3,Nat.add_zero] at b1;have e1:(low (t:Int) (b:Int)).1=((t / 2 ^ k:Nat):Int):=by simp [low,h1]
 have e2:(low (t:Int) (b:Int)).2=((b / 2 ^ k:Nat):Int):=by simp [low,h1]
 rw [e1,e2];have l1:=Nat.div_le_self t (2 ^ k);have l2:=Nat.div_le_self b (2 ^ k);have l3:0<b / 2 ^ k:=by
  rcases Nat.eq_zero_or_pos (b / 2 ^ k) with z|z
  ·rw [z,Nat.mul_zero] at b1;lia
  ·exact z
 generalize t / 2 ^ k=t' at*
 generalize b / 2 ^ k=b' at*
 generalize 2 ^ k=s at*
 refine ⟨(s:Int),⟨by lia,?_,?_,by lia,by lia,by lia,by lia,by lia⟩⟩
 ·rw [<-Int.natCast_mul,t1]
 ·rw [<-Int.natCast_mul,b1]
def g5: ∀(n:Nat) (s b:Int),0<s->0<b->2 ^ n=s*b->∃j,j<=n/\b=2 ^ j
 |
   0,s,b,hs,hb,h=>⟨0,Nat.le_refl _,by
   have h1:s*b=1:=by simpa using h.symm
   have:b∣1:=⟨s,by rw [Int.mul_comm];exact h1.symm⟩;have:=Int.le_of_dvd (by decide) this;simp;lia⟩
 |n+1,s,b,hs,hb,h=>by
  by_cases hb2:b % 2=0
  ·
   obtain ⟨c,rfl⟩: ∃c,b=2*c:=⟨b / 2,by lia⟩;have:(2:Int) ^ n=s*c:=by
    have e:(2:Int)*2 ^ n=2*(s*c):=by rw [<-Int.mul_left_comm,<-h,Int.pow_succ,Int.mul_comm]
    lia
   obtain ⟨j,hj,e⟩:=g5 n s c hs (by lia) this;exact ⟨j+1,by lia,by rw [e,Int.pow_succ,Int.mul_comm]⟩
  ·
   by_cases hs2:s % 2=0
   ·
    obtain ⟨c,rfl⟩: ∃c,s=2*c:=⟨s / 2,by lia⟩;have:(2:Int) ^ n=c*b:=by
     have e:(2:Int)*2 ^ n=2*(c*b):=by rw [<-Int.mul_assoc,<-h,Int.pow_succ,Int.mul_comm]
     lia
    obtain ⟨j,hj,e⟩:=g5 n c b (by lia) hb this;exact ⟨j,by lia,e⟩
   ·
    exfalso;have e1:(s*b) % 2=1:=by rw [Int.mul_emod];rw [show s % 2=1 by lia,show b % 2=1 by lia];decide
    have e2:(2:Int) ^ (n+1) % 2=0:=by rw [Int.pow_succ];exact Int.mul_emod_left _ _
    rw [<-h] at e1;lia
end WaysM
namespace L2
open PySem PySem.Spec PyProof.Rows
def Bd (n:Nat) (x:Int):Prop:=x.natAbs<2 ^ n
def Bd.mul {a b:Nat} {x y:Int} (h:Bd a x) (h':Bd b y):Bd (a+b) (x*y):=by
 unfold Bd at*
 rw [Int.natAbs_mul,Nat.pow_add];exact Nat.mul_lt_mul'' h h'
def Bd.up {a b:Nat} {x:Int} (h:Bd a x) (hab:a<=b):Bd b x:=Nat.lt_of_lt_of_le h (Nat.pow_le_pow_right (by decide) hab)
def Bd.add {a:Nat} {x y:Int} (h:Bd a x) (h':Bd a y):Bd (a+1) (x+y):=by
 unfold Bd at*
 have:=Int.natAbs_add_le x y;rw [Nat.pow_succ];lia
def Bd.sub {a:Nat} {x y:Int} (h:Bd a x) (h':Bd a y):Bd (a+1) (x - y):=by
 unfold Bd at*
 have:(x - y).natAbs<=x.natAbs+y.natAbs:=by lia
 rw [Nat.pow_succ];lia
def Bd.of {a:Nat} {x:Int} (h0:0<=x) (h:x<2 ^ a):Bd a x:=by
 unfold Bd;have e:((2 ^ a:Nat):Int)=2 ^ a:=by simp
 lia
def Bd.le {a:Nat} {x y:Int} (h:Bd a y) (h0:0<=x) (hl:x<=y):Bd a x:=by
 unfold Bd at *;lia
def Bd.bits {n:Nat} {x:Int} (h:Bd n x):Builtin.Int.intBits x<=n:=by
 unfold Builtin.Int.intBits;split
 ·lia
 ·
  rename_i c;have hx:x.natAbs≠0:=by simpa using c
  have:=(Nat.log2_lt hx).mpr h;lia
def vD (i j:Int):Prop:=vE i j\/(Bd 8000 i/\Bd 8000 j)
def rb (_ j:Int):Prop:=0<j/\Bd 8000 j
def dQ {X:Cx}:d2 X (binaryOp .Mult) (rI vD fun i j=> .int (i*j)):=xM fun _ _ _ _ _ _ _ hc q=>mul_int q (by
 rcases hc with hc|⟨h1,h2⟩
 ·exact hc.ok
 ·exact IntMulOk.of_bits (Nat.le_trans h1.bits (by decide)) (Nat.le_trans h2.bits (by decide)))
def jF {X:Cx}:d2 X (binaryOp .FloorDiv) (rI rb fun i j=> .int (i / j)):=xM fun i j _ _ _ _ _ hc q=>by
 have e:i.fdiv j=i / j:=Int.fdiv_eq_ediv_of_nonneg i (Int.le_of_lt hc.1);rw [<-e] at q;refine floordiv_int (Int.ne_of_gt hc.1) q (.inl (PyProof.noPylong_of_log2 ?_));have hx:j.natAbs≠0:=by have:=hc.1;lia
 exact Nat.lt_of_lt_of_le ((Nat.log2_lt hx).mpr hc.2) (by decide)
def yE {i j:Int} (h : -(2 ^ 64)<i/\i<2 ^ 64):vD i j:= .inl (.inl h)
def z_ {i j:Int} (h0:0<j) (h:j<1073741824):rb i j:=⟨h0,Bd.up (a:=30) (Bd.of (Int.le_of_lt h0) h) (by decide)⟩
def jc {i j:Int} {a b:Nat} (h:Bd a i) (h':Bd b j) (ha:a<=8000) (hb:b<=8000):vD i j:= .inr ⟨h.up ha,h'.up hb⟩
def Aa {i j:Int} {a:Nat} (h0:0<j) (h:Bd a j) (ha:a<=8000):rb i j:=⟨h0,h.up ha⟩
end L2
namespace L2
def Fc (x:Int):(if x<0 then -x else x)=(x.natAbs:Int):=by split<;>lia
def Bd.abs {n:Nat} {x:Int} (h:Bd n x):Bd n (x.natAbs:Int):=by unfold Bd at *;simpa using h
def Bd.c {n k:Nat} (h:k<2 ^ n):Bd n (k:Int):=by unfold Bd;simpa using h
end L2
namespace WaysI
open PySem L2
def lowbit {t b:Int} (ht:0<=t) (hb:0<b):Builtin.bitAnd (Builtin.bitOr t b) (-(Builtin.bitOr t b))=(WaysM.lb (t.toNat |||b.toNat):Nat):=by
 obtain ⟨t,rfl⟩:=Int.eq_ofNat_of_zero_le ht;obtain ⟨b,rfl⟩:=Int.eq_ofNat_of_zero_le (Int.le_of_lt hb);rw [BitI.yt];have hx:0<t |||b:=by
  have:b<=t |||b:=Nat.right_le_or;lia
 rw [PyProof.Rows.bitAnd_pn (by lia) (by lia)];have e:(Builtin.bitNot (-((t |||b:Nat):Int))).toNat=(t |||b) - 1:=by rw [BitI.not_eq];lia
 rw [e];simp only [Int.toNat_natCast,WaysM.lb];have le:((t |||b) &&& ((t |||b) - 1))<=t |||b:=Nat.and_le_left;lia
def yK {t b:Int} (ht:0<=t) (hb:0<b):0<((WaysM.lb (t.toNat |||b.toNat):Nat):Int)/\((WaysM.lb (t.toNat |||b.toNat):Nat):Int)<=b:=by
 obtain ⟨t,rfl⟩:=Int.eq_ofNat_of_zero_le ht;obtain ⟨b,rfl⟩:=Int.eq_ofNat_of_zero_le (Int.le_of_lt hb);obtain ⟨k,h1,h2,h3,h4⟩:=WaysM.qK t b (by lia);simp only [Int.toNat_natCast];rw [h1];have hp:0<2 ^ k:=Nat.two_pow_pos k;have:=Nat.le_of_dvd (by lia) (Nat.dvd_of_mod_eq_zero h3);lia
end WaysI
namespace L2
open PySem PySem.Spec PyProof.Rows
def DT (i j:Nat) (D:Ends) (σ:St) (H:Hp):Option HO->Prop
 |some (.tup [a,b])=>D.nx ((σ.set j (some b)).set i (some a)) H
 |_=>False
def Fl (i j:Nat) (D:Ends) (σ:St) (v:V) (H:Hp):Prop:=match v with
 | .ref p=>DT i j D σ H (H p)
 |_=>False
def F5 (i j:Nat) (te:TE):TS:=fun D σ H=>te σ H fun v H1=>Fl i j D σ v H1
def vL {i j:Nat} {D:Ends} {σ:St} {p:Addr} {H:Hp}:Fl i j D σ (.ref p) H=DT i j D σ H (H p):=rfl
def vM {i j:Nat} {D:Ends} {σ:St} {H:Hp} {a b:V}:DT i j D σ H (some (.tup [a,b]))=D.nx ((σ.set j (some b)).set i (some a)) H:=rfl
def AJ (K:W.Frag):List V->Hp->VK->Prop:=fun xs H Q=>match xs with
 | [.int i,.int j]=>Q (.int (if j<i then j else i)) H
 | [.ref p]=> ∃ns:List Int,cD K H p (ns.map V.int)/\0<ns.length/\∀M,M∈ns->(∀a,a∈ns->M<=a)->Q (.int M) H
 |_=>False
def AK (K:W.Frag):List V->Hp->VK->Prop:=fun xs H Q=>match xs with
 | [.int i,.int j]=>Q (.int (if i<j then j else i)) H
 | [.ref p]=> ∃ns:List Int,cD K H p (ns.map V.int)/\0<ns.length/\∀M,M∈ns->(∀a,a∈ns->a<=M)->Q (.int M) H
 |_=>False
def rH {K:W.Frag} {p:Addr} {H:Hp} {Q:VK}:AJ K [.ref p] H Q= ∃ns:List Int,cD K H p (ns.map V.int)/\0<ns.length/\∀M,M∈ns->(∀a,a∈ns->M<=a)->Q (.int M) H:=rfl
def rK {K:W.Frag} {p:Addr} {H:Hp} {Q:VK}:AK K [.ref p] H Q= ∃ns:List Int,cD K H p (ns.map V.int)/\0<ns.length/\∀M,M∈ns->(∀a,a∈ns->a<=M)->Q (.int M) H:=rfl
noncomputable abbrev ik (i:Int):Key:=Sum.inl i
def vg (neg:Bool) (i:Int) (H:Hp) (Q:VK):Option HO->Prop
 |some (.dK kvs)=>Q (.bl (if neg then !(bT kvs (ik i)).isSome else (bT kvs (ik i)).isSome)) H
 |_=>False
def t4 (neg:Bool):R2:=fun y x H Q=>match y,x with
 | .int i,.ref a=>vg neg i H Q (H a)
 |_,_=>False
def t2 {neg:Bool} {i:Int} {a:Addr} {H:Hp} {Q:VK}:t4 neg (.int i) (.ref a) H Q=vg neg i H Q (H a):=rfl
def Ab {i:Int} {H:Hp} {Q:VK} {kvs:List (Key×V)}:vg true i H Q (some (.dK kvs))=Q (.bl (!(bT kvs (ik i)).isSome)) H:=rfl
def Ac {i:Int} {H:Hp} {Q:VK} {kvs:List (Key×V)}:vg false i H Q (some (.dK kvs))=Q (.bl (bT kvs (ik i)).isSome) H:=rfl
def DL (i:Int) (H:Hp) (Q:VK):Option HO->Prop
 |some (.dK kvs)=> ∃v,bT kvs (ik i)=some v/\Q v H
 |_=>False
def qC:R2:=fun x y H Q=>match x,y with
 | .ref a,.int i=>DL i H Q (H a)
 |_,_=>False
def rW {i:Int} {a:Addr} {H:Hp} {Q:VK}:qC (.ref a) (.int i) H Q=DL i H Q (H a):=rfl
def Dw {i:Int} {H:Hp} {Q:VK} {kvs:List (Key×V)}:DL i H Q (some (.dK kvs))= ∃v,bT kvs (ik i)=some v/\Q v H:=rfl
def DK (a:Addr) (i:Int) (v:V) (H:Hp) (N:Hp->Prop):Option HO->Prop
 |some (.dK kvs)=>kvs.length<sizeLine/\N (upd H a (.dK (putK kvs (ik i) v)))
 |_=>False
def qB (x y v:V) (H:Hp) (N:Hp->Prop):Prop:=match x,y with
 | .ref a,.int i=>DK a i v H N (H a)
 |_,_=>False
def tD (to ti tv:TE):TS:=fun D σ H=>tv σ H fun v H1=>to σ H1 fun x H2=>ti σ H2 fun y H3=>qB x y v H3 (D.nx σ)
def rT {i:Int} {a:Addr} {v:V} {H:Hp} {N:Hp->Prop}:qB (.ref a) (.int i) v H N=DK a i v H N (H a):=rfl
def Du {a:Addr} {i:Int} {v:V} {H:Hp} {N:Hp->Prop} {kvs:List (Key×V)}:DK a i v H N (some (.dK kvs))=(kvs.length<sizeLine/\N (upd H a (.dK (putK kvs (ik i) v)))):=rfl
def zH:Option HO->Prop
 |some (.dK _)=>True
 |_=>False
def z0 (a:Addr) (i:Int) (H:Hp) (Q:VK):Option HO->Prop
 |some (.dK kvs)=> ∃v,bT kvs (ik i)=some v/\Q v (upd H a (.dK (xW kvs (ik i))))
 |_=>False
def xI (x y:V) (H:Hp) (Q:VK):Prop:=match x,y with
 | .ref a,.int i=>z0 a i H Q (H a)
 |_,_=>False
def AQ (x:V) (H:Hp):Prop:=match x with
 | .ref a=>zH (H a)
 |_=>False
def x8 (to ti:TE):TE:=fun σ H Q=>to σ H fun x H1=>AQ x H1/\ti σ H1 fun y H2=>xI x y H2 Q
def tS {a:Addr} {H:Hp}:AQ (.ref a) H=zH (H a):=rfl
def zG {kvs:List (Key×V)}:zH (some (.dK kvs))=True:=rfl
def rV {i:Int} {a:Addr} {H:Hp} {Q:VK}:xI (.ref a) (.int i) H Q=z0 a i H Q (H a):=rfl
def zZ {a:Addr} {i:Int} {H:Hp} {Q:VK} {kvs:List (Key×V)}:z0 a i H Q (some (.dK kvs))= ∃v,bT kvs (ik i)=some v/\Q v (upd H a (.dK (xW kvs (ik i)))):=rfl
section
variable {X:Cx} {i o e value:Expr} {ti to te tv:TE} {pos pos' apos cpos:Pos}
def nL {neg:Bool} {y x:V} {H:Hp} {Q:VK} (q:t4 neg y x H Q): ∃j a kvs,y = .int j/\x = .ref a/\H a=some (.dK kvs)/\Q (.bl (if neg then !(bT kvs (ik j)).isSome else (bT kvs (ik j)).isSome)) H:=by
 unfold t4 at q;split at q
 ·
  rename_i j a;unfold vg at q;split at q
  ·rename_i kvs e1;exact ⟨j,a,kvs,rfl,rfl,e1,q⟩
  ·exact q.elim
 ·exact q.elim
def AY (hu:X.A.units+64<cLine) (hi:PE X i ti) (ho:PE X o to):PC X .In i o (xx (t4 false) ti to):=by
 intro pins s σ H Q I h;have hu':X.A.units+1<cLine:=by lia
 refine thn (hi pins s σ H _ I h) fun iv s1 ⟨y,H1,I1,ry,q1⟩=>thn (ho pins s1 σ H1 _ I1 q1) fun u s2 ⟨x,H2,I2,rx,q2⟩=>?_;obtain ⟨j,a,kvs,rfl,rfl,e1,q⟩:=nL q2;obtain rfl:u=Value.ref a:=rx;exact E9 hu' I2 (ng.k (k:=ik j) e1) ry fun s' I'=>⟨.bl _,H2,I',rfl,q⟩
def um (hu:X.A.units+64<cLine) (hi:PE X i ti) (ho:PE X o to):PC X .NotIn i o (xx (t4 true) ti to):=by
 intro pins s σ H Q I h;have hu':X.A.units+1<cLine:=by lia
 refine thn (hi pins s σ H _ I h) fun iv s1 ⟨y,H1,I1,ry,q1⟩=>thn (ho pins s1 σ H1 _ I1 q1) fun u s2 ⟨x,H2,I2,rx,q2⟩=>?_;obtain ⟨j,a,kvs,rfl,rfl,e1,q⟩:=nL q2;obtain rfl:u=Value.ref a:=rx;exact xb hu' I2 (ng.k (k:=ik j) e1) ry fun s' I'=>⟨.bl _,H2,I',rfl,q⟩
def vh {x y:V} {H:Hp} {Q:VK} (q:qC x y H Q): ∃j a kvs v,y = .int j/\x = .ref a/\H a=some (.dK kvs)/\bT kvs (ik j)=some v/\Q v H:=by
 unfold qC at q;split at q
 ·
  rename_i a j;unfold DL at q;split at q
  ·rename_i kvs e1;obtain ⟨v,h1,h2⟩:=q;exact ⟨j,a,kvs,v,rfl,rfl,e1,h1,h2⟩
  ·exact q.elim
 ·exact q.elim
def yr (hu:X.A.units+64<cLine) (ho:PE X o to) (hi:PE X i ti) (hs:DA i):PE X (.Subscript o i pos) (xx qC to ti):=by
 intro pins s σ H Q I h;have hu':X.A.units+1<cLine:=by lia
 refine vN PySem.F.slot_dict_getitem.lookup hs (thn (ho pins s σ H _ I h) fun u s1 ⟨x,H1,I1,rx,q1⟩=>thn (hi pins s1 σ H1 _ I1 q1) fun iv s2 ⟨y,H2,I2,ry,q2⟩=>?_);obtain ⟨j,a,kvs,v,rfl,rfl,e1,e2,q⟩:=vh q2;obtain rfl:u=Value.ref a:=rx;have g:ng H2 a (.int j) (some v):=e2▸ng.k (k:=ik j) e1;exact ⟨o8 I2 g,sJ hu' I2 g ry fun w' s3 I3 rw'=>⟨v,H2,I3,rw',q⟩⟩
def ve {x y v:V} {H:Hp} {N:Hp->Prop} (q:qB x y v H N): ∃j a kvs,y = .int j/\x = .ref a/\H a=some (.dK kvs)/\kvs.length<sizeLine/\N (upd H a (.dK (putK kvs (ik j) v))):=by
 unfold qB at q;split at q
 ·
  rename_i a j;unfold DK at q;split at q
  ·rename_i kvs e1;exact ⟨j,a,kvs,rfl,rfl,e1,q⟩
  ·exact q.elim
 ·exact q.elim
def pX (hu:X.A.units+64<cLine) (ho:PE X o to) (hi:PE X i ti) (hv:PE X value tv) (hs:jd value=false:=by rfl):PS X (.Assign [.Subscript o i pos'] value pos) (tD to ti tv):=by
 intro pins s σ H D I h;have hu':X.A.units+1<cLine:=by lia
 refine wpAny_Assign_Subscript (thn (hv pins s σ H _ I h) fun r s1 ⟨v,H1,I1,rv,q1⟩=>thn (ho pins s1 σ H1 _ I1 q1) fun u s2 ⟨x,H2,I2,rx,q2⟩=>thn (hi pins s2 σ H2 _ I2 q2) fun iv s3 ⟨y,H3,I3,ry,q3⟩=>?_) (gQ hs);obtain ⟨j,a,kvs,rfl,rfl,e1,hl,q⟩:=ve q3;obtain rfl:u=Value.ref a:=rx;exact sI hu' I3 (xo.k (k:=ik j) e1 hl) ry rv fun s4 I4=>⟨σ,_,I4,q⟩
end
def yJ (K:W.Frag) (p:Addr) (H:Hp) (Q:VK):Option HO->Prop
 |some (.dK kvs)=>Q (.int kvs.length) H
 |_=>nC K [.ref p] H Q
def AL (K:W.Frag):List V->Hp->VK->Prop:=fun xs H Q=>match xs with
 | [.ref p]=>yJ K p H Q (H p)
 |xs=>nC K xs H Q
def rM {K:W.Frag} {p:Addr} {H:Hp} {Q:VK}:AL K [.ref p] H Q=yJ K p H Q (H p):=rfl
def yI {K:W.Frag} {p:Addr} {H:Hp} {Q:VK} {kvs:List (Key×V)}:yJ K p H Q (some (.dK kvs))=Q (.int kvs.length) H:=rfl
def o5 {K:W.Frag} {H:Hp} {n:Nat} (hn:n<60) {neg:Bool} {p r:Addr} {xs ys:List V} {ds:List Dt} {Q:VK} (h1:dZ K H p xs) (h2:dZ K H r ys) (hd:Paired (Den K H n) xs ds) (he:Paired (Den K H n) ys ds) (q:Q (.bl (!neg)) H):i9 K neg (.ref p) (.ref r) H Q:=
 ⟨n+1,.t ds,.t ds,by lia,.inr (.inr ⟨p,_,_,rfl,rfl,h1,hd⟩),.inr (.inr ⟨r,_,_,rfl,rfl,h2,he⟩),.inl ⟨rfl,q⟩⟩
def qw (vs:List V) (H:Hp) (Q:VK):Prop:=match vs with
 | [.int i,.int j]=>(-(2 ^ 62)<=i/\i<2 ^ 62/\-(2 ^ 62)<=j/\j<2 ^ 62)/\∀p,H p=none->Q (.ref p) (upd H p (.rng i j))
 |_=>False
def xt (ta:TA):TE:=fun σ H Q=>ta σ H fun vs H1=>qw vs H1 Q
def rG {i j:Int} {H:Hp} {Q:VK}:qw [.int i,.int j] H Q=((-(2 ^ 62)<=i/\i<2 ^ 62/\-(2 ^ 62)<=j/\j<2 ^ 62)/\∀p,H p=none->Q (.ref p) (upd H p (.rng i j))):=rfl
def wx {X:Cx} {a b:Expr} {ta:TA} {p pos:Pos} (hg:Gl X "range") (hm:X.mg "range" = none) (ha:PA X [a,b] ta) (hs:starEach [a,b] X.env= [(false,eval a X.env),(false,eval b X.env)]:=by rfl) (hs2:starEach [b] X.env= [(false,eval b X.env)]:=by rfl):
  PE X (.Call (.Name "range" p) [a,b] [] pos) (xt ta):=by
 intro pins s σ H Q I h;refine Call_ (kg I hg hm boot_range (PyProof.Rows.callWith_type1 (thn (ha pos pins s σ H _ I h) fun us s1 ⟨vs,H1,I1,r1,q1⟩=>?_) (by rw [hs,hs2]) (by rw [hs2];rfl)));replace q1:qw vs H1 Q:=q1;unfold qw at q1;split at q1
 ·
  rename_i i j;obtain ⟨u1,u2,rfl,⟨t,rfl⟩,⟨t',rfl⟩⟩:=vals2 r1;refine call_range_2 ?_;exact ⟨.ref s1.heap.objs.size,_,I1.laid (o:= .rng i j) (fun b u e=>Heap.get?_push_of_some _ e) (Nat.le_refl _) (show bB X.prog X.w _ _ _ (.rng i j) from ⟨_,_,_,Heap.get?_push_size _ rfl⟩),rfl,q1.2 _ (I1.hok.fresh (Nat.le_refl _))⟩
 ·exact q1.elim
def qL (K:W.Frag) (p:Addr) (H:Hp) (Q:VK):Option HO->Prop
 |some (.rng i j)=>(-(2 ^ 62)<=i/\i<2 ^ 62/\-(2 ^ 62)<=j/\j<2 ^ 62)/\(j - i).toNat<=1000000/\∀l,H l=none->Q (.ref l) (upd H l (.lst (fT i (j - i).toNat)))
 |_=>j5 K [.ref p] H Q
def pT (K:W.Frag):List V->Hp->VK->Prop:=fun xs H Q=>match xs with
 | [.ref p]=>qL K p H Q (H p)
 |xs=>j5 K xs H Q
def pS {K:W.Frag} {p:Addr} {H:Hp} {Q:VK}:pT K [.ref p] H Q=qL K p H Q (H p):=rfl
def sr {K:W.Frag} {p:Addr} {H:Hp} {Q:VK} {i j:Int}:qL K p H Q (some (.rng i j))=((-(2 ^ 62)<=i/\i<2 ^ 62/\-(2 ^ 62)<=j/\j<2 ^ 62)/\(j - i).toNat<=1000000/\∀l,H l=none->Q (.ref l) (upd H l (.lst (fT i (j - i).toNat)))):=rfl
def qp: ∀{xs:List V} {us:List Value},xs.length=us.length->(∀(k:Nat) x u,xs[k]?=some x->us[k]?=some u->RelV x u)->Vals xs us
 | [],[],_,_=> .nil
 | [],_::_,h,_=>by simp at h
 |_::_,[],h,_=>by simp at h
 |x::xs,u::us,h,hr=> .cons (hr 0 x u rfl rfl) (qp (by simpa using h) fun k a b ha hb=>hr (k+1) a b (by simpa using ha) (by simpa using hb))
def p9 {i:Int} {n:Nat} {acc:Array Value} (h:ItemsOf (fun k v=> ∃t,v = .int (i+k*1) t) acc n):Vals (fT i n) acc.toList:=by
 refine qp (by simp [fT,h.1]) fun k x u hx hu=>?_;have hk:k<n:=by
  have:=(List.getElem?_eq_some_iff.mp hx).1;simpa [fT] using this
 obtain ⟨t,rfl⟩:=h.2 k u (by simpa using hu);have:x = .int (i+(k:Int)):=by
  unfold fT at hx;rw [List.getElem?_map,List.getElem?_range hk] at hx;exact (Option.some.inj hx).symm
 rw [this];exact ⟨t,by rw [Int.mul_one]⟩
def qf {X:Cx} (K:W.Frag) (hK:X.K=K) (hc:X.calm=true):bc X (.type "list") (pT K):=by
 intro pins s σ H xs us Q I rs q;unfold pT at q;split at q
 ·
  rename_i p;unfold qL at q;split at q
  ·
   rename_i i j e;obtain ⟨u,rfl,ru⟩:=vals1 rs;cases ru;obtain ⟨⟨b1,b2,b3,b4⟩,hn,q⟩:=q;obtain ⟨t,u,v,hr⟩:=(show bB X.prog X.w H s.heap p (.rng i j) from I.hok p _ e);refine call_list_range (n:=(j - i).toNat) (I.ok.hd hc) hr (small_one b1 b2 b3 b4) (by rw [rangeSize_one];split<;>lia) (by lia) fun h' tk acc' c' kp e1 it=>?_
   have rv:=p9 it;exact ⟨.ref s.heap.objs.size,_,I.laid (t':=tk) kp (Nat.le_refl _) (show bB X.prog X.w _ h' _ (.lst (fT i (j - i).toNat)) from ⟨by rw [sizeLine_eq];simp [fT];lia,acc'.toList,c',rv,by simpa using e1⟩),rfl,q _ (I.hok.fresh (Nat.le_refl _))⟩
  ·exact mD K hK pins s σ H _ us Q I rs q
 ·exact mD K hK pins s σ H _ us Q I rs q
section
variable {X:Cx} {K:W.Frag}
end
section
variable {X:Cx} {a b c d:Expr} {ta tb tc td:TE} {pos:Pos}
end
noncomputable abbrev sk (s:Str):Key:=Sum.inr s
def DX (z:Str) (H:Hp) (Q:VK):Option HO->Prop
 |some (.dK kvs)=> ∃v,bT kvs (sk z)=some v/\Q v H
 |_=>False
def AI:R2:=fun x y H Q=>match x,y with
 | .ref a,.str z=>DX z H Q (H a)
 |_,_=>False
def rF {z:Str} {a:Addr} {H:Hp} {Q:VK}:AI (.ref a) (.str z) H Q=DX z H Q (H a):=rfl
def AF {z:Str} {H:Hp} {Q:VK} {kvs:List (Key×V)}:DX z H Q (some (.dK kvs))= ∃v,bT kvs (sk z)=some v/\Q v H:=rfl
def DU (a:Addr) (z:Str) (v:V) (H:Hp) (N:Hp->Prop):Option HO->Prop
 |some (.dK kvs)=>kvs.length<sizeLine/\N (upd H a (.dK (putK kvs (sk z) v)))
 |_=>False
def xH (x y v:V) (H:Hp) (N:Hp->Prop):Prop:=match x,y with
 | .ref a,.str z=>DU a z v H N (H a)
 |_,_=>False
def yc (to ti tv:TE):TS:=fun D σ H=>tv σ H fun v H1=>to σ H1 fun x H2=>ti σ H2 fun y H3=>xH x y v H3 (D.nx σ)
def rE {z:Str} {a:Addr} {v:V} {H:Hp} {N:Hp->Prop}:xH (.ref a) (.str z) v H N=DU a z v H N (H a):=rfl
def AE {a:Addr} {z:Str} {v:V} {H:Hp} {N:Hp->Prop} {kvs:List (Key×V)}:DU a z v H N (some (.dK kvs))=(kvs.length<sizeLine/\N (upd H a (.dK (putK kvs (sk z) v)))):=rfl
section
variable {X:Cx} {i o e value:Expr} {ti to te tv:TE} {pos pos' apos cpos:Pos}
end
def zY {K:W.Frag} {H:Hp} {n:Nat} (hn:n<60) {neg:Bool} {p r:Addr} {xs ys:List V} {ds es:List Dt} {Q:VK} (h1:dZ K H p xs) (h2:dZ K H r ys) (hd:Paired (Den K H n) xs ds) (he:Paired (Den K H n) ys es) (c:ds≠es) (q:Q (.bl neg) H):i9 K neg (.ref p) (.ref r) H Q:=
 ⟨n+1,.t ds,.t es,by lia,.inr (.inr ⟨p,_,_,rfl,rfl,h1,hd⟩),.inr (.inr ⟨r,_,_,rfl,rfl,h2,he⟩),.inr ⟨fun h=>c (by injection h),q⟩⟩
section
variable {X:Cx} {pins:List (Addr×Obj)} {σ:St} {H:Hp} {s:Shared} {h':Heap}
end
section
variable {X:Cx} {elts:List Expr} {x1:_} {tpos:Pos}
end
section
variable {K:W.Frag} {g:TG} {tb:TS} {D:Ends} {σ:St} {H:Hp} {ta:TA}
end
section
variable {X:Cx} {o e f:Expr} {to te tf:TE} {apos cpos:Pos}
end
section
variable {X:Cx} {pos:Pos}
end
end L2
namespace WaysM
noncomputable def nsp (a A b B m:Int):Int×Int:=low (3*b*A+((a - m*A).natAbs:Int)*B) (4*(A*B))
noncomputable def nsm (a A m:Int):Int×Int:=low (3*a+m*A) (4*A)
structure St (n:Nat) (P S D a A b B:Int):Prop where
 p:P=4 ^ n
 s0:0<=S
 s1:S<=1000000*P
 d0:0<=D
 d1:D<=2000000*P
 sa:a*P=S*A
 db:b*(2*P)=D*B
 a0:0<=a
 b0:0<=b
 pa: ∃i,A=2 ^ i
 pb: ∃j,B=2 ^ j
 oa: ¬(a % 2=0/\A % 2=0)
 ob: ¬(b % 2=0/\B % 2=0)
def two_pos (i:Nat):(0:Int)<2 ^ i:=by
 have:((2 ^ i:Nat):Int)=2 ^ i:=by simp
 have:=Nat.two_pow_pos i;lia
def vb (i:Nat):(0:Int)<4 ^ i:=by
 have:((4 ^ i:Nat):Int)=4 ^ i:=by simp
 have:0<4 ^ i:=Nat.pow_pos (by decide);lia
def St.A0 {n:Nat} {P S D a A b B:Int} (h:St n P S D a A b B):0<A:=by obtain ⟨i,e⟩:=h.pa;rw [e];exact two_pos i
def St.B0 {n:Nat} {P S D a A b B:Int} (h:St n P S D a A b B):0<B:=by obtain ⟨i,e⟩:=h.pb;rw [e];exact two_pos i
def St.P0 {n:Nat} {P S D a A b B:Int} (h:St n P S D a A b B):0<P:=by rw [h.p];exact vb n
def jA {b B D:Int} {k j:Nat} (hB:B=2 ^ j) (h:b*2 ^ k=D*B) (o: ¬(b % 2=0/\B % 2=0)):B<=2 ^ k:=by
 by_cases hj:j<=k
 ·
  rw [hB];obtain ⟨d,rfl⟩:=Nat.exists_eq_add_of_le hj;have h1:(1:Int)<=2 ^ d:=by have:=two_pos d;lia
  have h2:=two_pos j;rw [Int.pow_add];have:=Int.mul_le_mul_of_nonneg_left h1 (Int.le_of_lt h2);lia
 ·
  exfalso;obtain ⟨d,rfl⟩:=Nat.exists_eq_add_of_le (show k+1<=j by lia);apply o;have e:(2:Int) ^ (k+1+d)=2 ^ k*(2*2 ^ d):=by rw [Int.pow_add,Int.pow_succ,Int.mul_assoc]
  rw [hB,e] at h;have h2:b=D*(2*2 ^ d):=by
   apply Int.eq_of_mul_eq_mul_left (Int.ne_of_gt (two_pos k));rw [Int.mul_comm,h];rw [Int.mul_left_comm]
  constructor
  ·rw [h2,Int.mul_left_comm];exact Int.mul_emod_right _ _
  ·rw [hB,e,Int.mul_left_comm];exact Int.mul_emod_right _ _
def jM (n:Nat):(4:Int) ^ n=2 ^ (2*n):=by rw [Int.pow_mul];rfl
def St.A1 {n:Nat} {P S D a A b B:Int} (h:St n P S D a A b B):A<=P:=by
 obtain ⟨i,e⟩:=h.pa;have h1:=h.sa;rw [h.p,jM] at h1;rw [h.p,jM];exact jA e h1 h.oa
def St.B1 {n:Nat} {P S D a A b B:Int} (h:St n P S D a A b B):B<=2*P:=by
 obtain ⟨i,e⟩:=h.pb;have h1:=h.db;have e2:2*P=2 ^ (2*n+1):=by rw [h.p,jM,Int.pow_succ];lia
 rw [e2] at h1⊢;exact jA e h1 h.ob
def St.a1 {n:Nat} {P S D a A b B:Int} (h:St n P S D a A b B):a<=S:=by
 have h1:=Int.mul_le_mul_of_nonneg_left h.A1 h.s0;rw [<-h.sa] at h1;exact Int.le_of_mul_le_mul_right h1 h.P0
def St.b1 {n:Nat} {P S D a A b B:Int} (h:St n P S D a A b B):b<=D:=by
 have h1:=Int.mul_le_mul_of_nonneg_left h.B1 h.d0;rw [<-h.db] at h1;exact Int.le_of_mul_le_mul_right h1 (by have:=h.P0;lia)
def cancel {s x y:Int} (hs:0<s) (h:s*x=s*y):x=y:=Int.eq_of_mul_eq_mul_left (Int.ne_of_gt hs) h
def St.first {m:Int} (h0:0<=m) (h1:m<=1000000):St 0 1 m m m 1 (low m 2).1 (low m 2).2:=by
 obtain ⟨s,L⟩:=fU (t:=m) (b:=2) h0 (by decide);obtain ⟨j,_,ej⟩:=g5 1 s _ L.s0 L.b0 (by simpa using L.bb);refine ⟨rfl,h0,by lia,h0,by lia,rfl,?_,h0,L.t0,⟨0,rfl⟩,⟨j,ej⟩,by lia,L.od⟩;apply cancel L.s0;have e1:=L.tt;have e2:=L.bb;generalize (low m 2).1=t at*
 generalize (low m 2).2=b at*
 rw [e1] at*
 grind
def St.step {n:Nat} {P S D a A b B m:Int} (h:St n P S D a A b B) (h0:0<=m) (h1:m<=1000000):
  St (n+1) (4*P) (3*S+m*P) (3*D+2*((S - m*P).natAbs:Int)) (nsm a A m).1 (nsm a A m).2 (nsp a A b B m).1 (nsp a A b B m).2:=by
 have A0:=h.A0;have B0:=h.B0;have P0:=h.P0;have a0:=h.a0;have b0:=h.b0;have sa:=h.sa;have db:=h.db;have s0:=h.s0;have s1:=h.s1;have d0:=h.d0;have d1:=h.d1;have mA:=Int.mul_nonneg h0 (Int.le_of_lt A0);have mP:=Int.mul_nonneg h0 (Int.le_of_lt P0);have mP1:=Int.mul_le_mul_of_nonneg_right h1 (Int.le_of_lt P0);have AB:=Int.mul_pos A0 B0;have bA:=Int.mul_nonneg b0 (Int.le_of_lt A0);have xB:=Int.mul_nonneg (Int.natCast_nonneg (a - m*A).natAbs) (Int.le_of_lt B0);obtain ⟨s,L⟩:=fU (t:=3*a+m*A) (b:=4*A) (by lia) (by lia);obtain ⟨r,M⟩:=fU (t:=3*b*A+((a - m*A).natAbs:Int)*B) (b:=4*(A*B)) (by rw [Int.mul_assoc];lia) (by lia);obtain ⟨i,ei⟩:=h.pa;obtain ⟨j,ej⟩:=h.pb;have p1:(2:Int) ^ (i+2)=s*(nsm a A m).2:=by
  refine Eq.trans ?_ L.bb;rw [ei,Int.pow_add,Int.mul_comm];rfl
 have p2:(2:Int) ^ (i+j+2)=r*(nsp a A b B m).2:=by
  refine Eq.trans ?_ M.bb;rw [ei,ej,<-Int.pow_add,Int.pow_add _ _ 2,Int.mul_comm];rfl
 obtain ⟨i',_,ei'⟩:=g5 _ _ _ L.s0 L.b0 p1;obtain ⟨j',_,ej'⟩:=g5 _ _ _ M.s0 M.b0 p2;refine ⟨by rw [h.p,Int.pow_succ,Int.mul_comm],by lia,by lia,by lia,by lia,?_,?_,L.t0,M.t0,⟨i',ei'⟩,⟨j',ej'⟩,L.od,M.od⟩
 ·
  apply cancel L.s0;have e1:=L.tt;have e2:=L.bb;unfold nsm;generalize (low (3*a+m*A) (4*A)).1=t at*
  generalize (low (3*a+m*A) (4*A)).2=u at*
  have k1:s*(t*(4*P))=(3*a+m*A)*(4*P):=by rw [e1];grind
  have k2:s*((3*S+m*P)*u)=(3*S+m*P)*(4*A):=by rw [e2];grind
  rw [k1,k2];have:(3*a+m*A)*(4*P)=12*(a*P)+4*(m*A*P):=by grind
  rw [this,sa]
  grind
 ·
  apply cancel M.s0;have e1:=M.tt;have e2:=M.bb;unfold nsp;have ab:((a - m*A).natAbs:Int)*P=((S - m*P).natAbs:Int)*A:=by
   have q1:((a - m*A)*P).natAbs=((S - m*P)*A).natAbs:=by
    have:(a - m*A)*P=(S - m*P)*A:=by
     rw [Int.sub_mul,Int.sub_mul,sa];grind
    rw [this]
   rw [Int.natAbs_mul,Int.natAbs_mul] at q1;have q2:((P.natAbs:Nat):Int)=P:=by lia
   have q3:((A.natAbs:Nat):Int)=A:=by lia
   have q4:(((a - m*A).natAbs*P.natAbs:Nat):Int)=(((S - m*P).natAbs*A.natAbs:Nat):Int):=by rw [q1]
   rw [Int.natCast_mul,Int.natCast_mul,q2,q3] at q4;exact q4
  generalize ((a - m*A).natAbs:Int)=x at*
  generalize ((S - m*P).natAbs:Int)=y at*
  generalize (low (3*b*A+x*B) (4*(A*B))).1=t at*
  generalize (low (3*b*A+x*B) (4*(A*B))).2=u at*
  have k1:r*(t*(2*(4*P)))=(3*b*A+x*B)*(2*(4*P)):=by rw [e1];grind
  have k2:r*((3*D+2*y)*u)=(3*D+2*y)*(4*(A*B)):=by rw [e2];grind
  rw [k1,k2];have:(3*b*A+x*B)*(2*(4*P))=12*A*(b*(2*P))+8*B*(x*P):=by grind
  rw [this,db,ab]
  grind
end WaysM
namespace K53
open PySem L2 Com
def ao (u:TS):TS:=u
def aw {X:Cx} {l:List Stmt} {u:TS} (h:pF X l u):pF X l (ao u):=h
noncomputable def top (i:Nat):Stmt:=Challenge.pw_slowroad_k53_sender_never_falls.main.body.getD i (.Pass ⟨0,0,0,0⟩)
abbrev fX (ps:List Str) (x y:Str) (s:Stmt):Prop:= ∀(kV doc pm:Value) (an:Option Addr) (cdv ct:Value) (us:List Value),us.length=ps.length->bindArgs (W.fnOf x y (dq s) (cC s) (ay s) .none kV doc pm an cdv ct) ⟨us,[]⟩=pure (ps.zip us)
def xQ {α:Type} {us:List α} (h:us.length=1): ∃a0,us= [a0]:=List.length_eq_one_iff.mp h
def xP {α:Type} {us:List α} (h:us.length=2): ∃a0 a1,us= [a0,a1]:=by
 obtain ⟨a,t,rfl⟩:=List.exists_cons_of_length_eq_add_one h;obtain ⟨b0,rfl⟩:=xQ (Nat.succ.inj h);exact ⟨a,b0,rfl⟩
def xO {α:Type} {us:List α} (h:us.length=3): ∃a0 a1 a2,us= [a0,a1,a2]:=by
 obtain ⟨a,t,rfl⟩:=List.exists_cons_of_length_eq_add_one h;obtain ⟨b0,b1,rfl⟩:=xP (Nat.succ.inj h);exact ⟨a,b0,b1,rfl⟩
def xN {α:Type} {us:List α} (h:us.length=4): ∃a0 a1 a2 a3,us= [a0,a1,a2,a3]:=by
 obtain ⟨a,t,rfl⟩:=List.exists_cons_of_length_eq_add_one h;obtain ⟨b0,b1,b2,rfl⟩:=xO (Nat.succ.inj h);exact ⟨a,b0,b1,b2,rfl⟩
def C3 {α:Type} {us:List α} (h:us.length=5): ∃a0 a1 a2 a3 a4,us= [a0,a1,a2,a3,a4]:=by
 obtain ⟨a,t,rfl⟩:=List.exists_cons_of_length_eq_add_one h;obtain ⟨b0,b1,b2,b3,rfl⟩:=xN (Nat.succ.inj h);exact ⟨a,b0,b1,b2,b3,rfl⟩
set_option hygiene false in
local macro_rules | `(tactic| exists 2) => `(tactic| exact ⟨rfl,rfl,rfl,by decide +kernel,rfl,by decide +kernel,by decide +kernel⟩)
set_option hygiene false in
local macro_rules | `(tactic| exists 3) => `(tactic| (intro _ _ _ _ _ _ us hl; first | (obtain ⟨_,rfl⟩ := xQ hl; rfl) | (obtain ⟨_,_,rfl⟩ := xP hl; rfl) | (obtain ⟨_,_,_,rfl⟩ := xO hl; rfl) | (obtain ⟨_,_,_,_,rfl⟩ := xN hl; rfl) | (obtain ⟨_,_,_,_,_,rfl⟩ := C3 hl; rfl)))
noncomputable abbrev dG:Stmt:=inClass (top 1) 0
def jC:aD ["self","most"] ["self","most"] (ay dG):=by exists 2
def jW:fX ["self","most"] "__init__" "Meter.__init__" dG:=by exists 3
noncomputable abbrev fH:Stmt:=inClass (top 1) 1
def gT:aD ["self","many","piece"] ["self","many"] (ay fH):=by exists 2
def mJ:fX ["self","many"] "known" "Meter.known" fH:=by exists 3
noncomputable abbrev dF:Stmt:=inClass (top 1) 2
def jB:aD ["self"] ["self"] (ay dF):=by exists 2
def jV:fX ["self"] "know_one" "Meter.know_one" dF:=by exists 3
noncomputable abbrev gh:Stmt:=inClass (top 1) 3
def mS:aD ["self"] ["self"] (ay gh):=by exists 2
def nc:fX ["self"] "half" "Meter.half" gh:=by exists 3
noncomputable abbrev d9:Stmt:=inClass (top 1) 4
def j3:aD ["self"] ["self"] (ay d9):=by exists 2
def kI:fX ["self"] "ran_out" "Meter.ran_out" d9:=by exists 3
noncomputable abbrev d_:Stmt:=inClass (top 1) 5
def j4:aD ["self"] ["self"] (ay d_):=by exists 2
def kJ:fX ["self"] "hurried" "Meter.hurried" d_:=by exists 3
noncomputable abbrev nW:Stmt:=top 3
def tj:aD ["ring","one","other"] ["ring","one","other"] (ay nW):=by exists 2
def vw:fX ["ring","one","other"] "ahead" "ahead" nW:=by exists 3
noncomputable abbrev lT:Stmt:=top 6
def nz:aD ["top","bottom","shared"] ["top","bottom"] (ay lT):=by exists 2
def sQ:fX ["top","bottom"] "lowest" "lowest" lT:=by exists 3
noncomputable abbrev d7:Stmt:=inClass (top 7) 0
def j2:aD ["self","first","longest"] ["self","first","longest"] (ay d7):=by exists 2
def kG:fX ["self","first","longest"] "__init__" "Ways.__init__" d7:=by exists 3
noncomputable abbrev d6:Stmt:=inClass (top 7) 1
def j1:aD ["self","m"] ["self","m"] (ay d6):=by exists 2
def kF:fX ["self","m"] "measured" "Ways.measured" d6:=by exists 3
noncomputable abbrev cS:Stmt:=inClass (top 7) 2
def cL:aD ["self","m","bottoms","away"] ["self","m"] (ay cS):=by exists 2
def iO:fX ["self","m"] "next_spread" "Ways.next_spread" cS:=by exists 3
noncomputable abbrev cT:Stmt:=inClass (top 7) 3
def iu:aD ["self","m"] ["self","m"] (ay cT):=by exists 2
def iP:fX ["self","m"] "next_smooth" "Ways.next_smooth" cT:=by exists 3
noncomputable abbrev dg:Stmt:=inClass (top 7) 4
def eL:aD ["self","top"] ["self"] (ay dg):=by exists 2
def ju:fX ["self"] "least_wait" "Ways.least_wait" dg:=by exists 3
noncomputable abbrev eO:Stmt:=inClass (top 7) 5
def kS:aD ["self"] ["self"] (ay eO):=by exists 2
def lA:fX ["self"] "ran_out" "Ways.ran_out" eO:=by exists 3
noncomputable abbrev di:Stmt:=inClass (top 10) 0
def i8:aD ["self","ring","first","longest","most"] ["self","ring","first","longest","most"] (ay di):=by exists 2
def jw:fX ["self","ring","first","longest","most"] "__init__" "Sender.__init__" di:=by exists 3
noncomputable abbrev gg:Stmt:=inClass (top 10) 1
def mR:aD ["self","thing"] ["self","thing"] (ay gg):=by exists 2
def m_:fX ["self","thing"] "put" "Sender.put" gg:=by exists 3
noncomputable abbrev fG:Stmt:=inClass (top 10) 2
def lS:aD ["self"] ["self"] (ay fG):=by exists 2
def mI:fX ["self"] "many" "Sender.many" fG:=by exists 3
noncomputable abbrev eP:Stmt:=inClass (top 10) 4
def cO:aD ["self","number","room","held","turn","steps","fresh","place"] ["self","number","room","held","turn"] (ay eP):=by exists 2
def lB:fX ["self","number","room","held","turn"] "heard" "Sender.heard" eP:=by exists 3
noncomputable abbrev cX:Stmt:=inClass (top 10) 5
def er:aD ["self","steps","low"] ["self","steps"] (ay cX):=by exists 2
def iT:fX ["self","steps"] "grow_base" "Sender.grow_base" cX:=by exists 3
noncomputable abbrev cW:Stmt:=inClass (top 10) 6
def iz:aD ["self","held"] ["self","held"] (ay cW):=by exists 2
def iS:fX ["self","held"] "note_held" "Sender.note_held" cW:=by exists 3
noncomputable abbrev cq:Stmt:=inClass (top 10) 7
def bX:aD ["self","places","fresh","place"] ["self","places"] (ay cq):=by exists 2
def gN:fX ["self","places"] "newly_known" "Sender.newly_known" cq:=by exists 3
noncomputable abbrev bC:Stmt:=inClass (top 10) 8
def eM:aD ["self"] ["self"] (ay bC):=by exists 2
def e9:fX ["self"] "known_above_base" "Sender.known_above_base" bC:=by exists 3
noncomputable abbrev cU:Stmt:=inClass (top 10) 9
def iw:aD ["self"] ["self"] (ay cU):=by exists 2
def iQ:fX ["self"] "under_way" "Sender.under_way" cU:=by exists 3
noncomputable abbrev cp:Stmt:=inClass (top 10) 10
def gJ:aD ["self"] ["self"] (ay cp):=by exists 2
def gM:fX ["self"] "thing_waits" "Sender.thing_waits" cp:=by exists 3
noncomputable abbrev bZ:Stmt:=inClass (top 10) 11
def f_:aD ["self","turn"] ["self","turn"] (ay bZ):=by exists 2
def gG:fX ["self","turn"] "clock_is_out" "Sender.clock_is_out" bZ:=by exists 3
noncomputable abbrev bY:Stmt:=inClass (top 10) 12
def f7:aD ["self"] ["self"] (ay bY):=by exists 2
def gF:fX ["self"] "hurry_is_due" "Sender.hurry_is_due" bY:=by exists 3
noncomputable abbrev cM:Stmt:=inClass (top 10) 13
def gS:aD ["self"] ["self"] (ay cM):=by exists 2
def ia:fX ["self"] "new_may_go" "Sender.new_may_go" cM:=by exists 3
noncomputable abbrev gW:Stmt:=inClass (top 10) 14
def nV:aD ["self","turn"] ["self","turn"] (ay gW):=by exists 2
def oH:fX ["self","turn"] "go" "Sender.go" gW:=by exists 3
noncomputable abbrev cV:Stmt:=inClass (top 10) 15
def iy:aD ["self","turn"] ["self","turn"] (ay cV):=by exists 2
def iR:fX ["self","turn"] "set_clock" "Sender.set_clock" cV:=by exists 3
noncomputable abbrev dh:Stmt:=inClass (top 10) 16
def i7:aD ["self","turn"] ["self","turn"] (ay dh):=by exists 2
def jv:fX ["self","turn"] "go_again" "Sender.go_again" dh:=by exists 3
noncomputable abbrev d8:Stmt:=inClass (top 10) 17
def fS:aD ["self","turn","place"] ["self","turn"] (ay d8):=by exists 2
def kH:fX ["self","turn"] "go_new" "Sender.go_new" d8:=by exists 3
noncomputable abbrev b8:Stmt:=inClass (top 10) 18
def gb:aD ["self","turn"] ["self","turn"] (ay b8):=by exists 2
def gH:fX ["self","turn"] "ask_for_room" "Sender.ask_for_room" b8:=by exists 3
noncomputable abbrev gc:Stmt:=top 12
def mQ:aD ["_law_found"] ["_law_found"] (ay gc):=by exists 2
def m7:fX ["_law_found"] "_law_whole" "_law_whole" gc:=by exists 3
noncomputable abbrev eN:Stmt:=top 13
def kR:aD ["_law_script","_law_k"] ["_law_script","_law_k"] (ay eN):=by exists 2
def lz:fX ["_law_script","_law_k"] "_law_cell_at" "_law_cell_at" eN:=by exists 3
noncomputable abbrev gd:Stmt:=top 14
def dO:aD ["_law_cell","_law_k","_law_number_here","_law_step"] ["_law_cell","_law_k"] (ay gd):=by exists 2
def m8:fX ["_law_cell","_law_k"] "_law_mixed" "_law_mixed" gd:=by exists 3
noncomputable abbrev fE:Stmt:=top 15
def bN:aD ["_law_script","_law_cell","_law_ring","_law_first","_law_longest"] ["_law_script"] (ay fE):=by exists 2
def mG:fX ["_law_script"] "_law_sender" "_law_sender" fE:=by exists 3
noncomputable abbrev fF:Stmt:=top 16
def gR:aD ["_law_cell","_law_base","_law_top","_law_ring","_law_way"] ["_law_cell","_law_base","_law_top","_law_ring"] (ay fF):=by exists 2
def mH:fX ["_law_cell","_law_base","_law_top","_law_ring"] "_law_number" "_law_number" fF:=by exists 3
noncomputable abbrev fB:Stmt:=top 17
def bM:aD ["_law_sender_here","_law_now","_law_number_here","_law_base","_law_top","_law_edge","_law_many"] ["_law_sender_here","_law_now"] (ay fB):=by exists 2
def mF:fX ["_law_sender_here","_law_now"] "_law_stands" "_law_stands" fB:=by exists 3
noncomputable abbrev gU:Stmt:=top 18
def cA:aD ["_law_sender_here","_law_turn","_law_now","_law_base","_law_top","_law_edge","_law_many","_law_found"] ["_law_sender_here","_law_turn","_law_now"] (ay gU):=by exists 2
def oG:fX ["_law_sender_here","_law_turn","_law_now"] "_law_gone" "_law_gone" gU:=by exists 3
noncomputable abbrev gf:Stmt:=top 19
def a8:aD ["_law_sender_here","_law_cell","_law_turn","_law_now","_law_ring","_law_base","_law_top","_law_edge","_law_many","_law_number_here","_law_room","_law_marks","_law_held","_law_far"] ["_law_sender_here","_law_cell","_law_turn","_law_now","_law_ring"] (ay gf):=by exists 2
def m9:fX ["_law_sender_here","_law_cell","_law_turn","_law_now","_law_ring"] "_law_heard" "_law_heard" gf:=by exists 3
noncomputable abbrev tw:Stmt:=top 20
def df:aD ["_law_script","_law_ring","_law_sender_here","_law_now","_law_turn","_law_cell","_law_k"] ["_law_script"] (ay tw):=by exists 2
def vv:fX ["_law_script"] "law" "law" tw:=by exists 3
section
variable {x v0 v1 v2 v3 v4 v5 v6 v7 v8 v9 v10 v11:V}
noncomputable def jt (v0:V):List (Str×V):=[("most",v0)]
def mx:(jt v0).length<1000:=by show 1<1000;decide
def mw:bp "most" v0 []=jt v0:=by kernel_rfl
noncomputable def js (v0 v1:V):List (Str×V):=[("most",v0),("window",v1)]
def mv:(js v0 v1).length<1000:=by show 2<1000;decide
def mr:bp "window" v1 (jt v0)=js v0 v1:=by kernel_rfl
noncomputable def jr (v0 v1 v2:V):List (Str×V):=[("most",v0),("window",v1),("knee",v2)]
def mq:(jr v0 v1 v2).length<1000:=by show 3<1000;decide
def ml:bp "knee" v2 (js v0 v1)=jr v0 v1 v2:=by kernel_rfl
noncomputable def aC (v0 v1 v2 v3:V):List (Str×V):=[("most",v0),("window",v1),("knee",v2),("counted",v3)]
def oy:(aC v0 v1 v2 v3).length<1000:=by show 4<1000;decide
def ox:bp "counted" v3 (jr v0 v1 v2)=aC v0 v1 v2 v3:=by kernel_rfl
def jS:(aC v0 v1 v2 v3).lookup ("most" : Str)=some v0:=by kernel_rfl
def iN:(aC v0 v1 v2 v3).lookup ("window" : Str)=some v1:=by kernel_rfl
def jT:(aC v0 v1 v2 v3).lookup ("knee" : Str)=some v2:=by kernel_rfl
def h8:(aC v0 v1 v2 v3).lookup ("counted" : Str)=some v3:=by kernel_rfl
def iK:bp "window" x (aC v0 v1 v2 v3)=aC v0 x v2 v3:=by kernel_rfl
def jQ:bp "knee" x (aC v0 v1 v2 v3)=aC v0 v1 x v3:=by kernel_rfl
def hZ:bp "counted" x (aC v0 v1 v2 v3)=aC v0 v1 v2 x:=by kernel_rfl
def jR:(aC v0 v1 v2 v3).lookup ("known" : Str)=none:=by kernel_rfl
def h7:(aC v0 v1 v2 v3).lookup ("know_one" : Str)=none:=by kernel_rfl
def kB:(aC v0 v1 v2 v3).lookup ("half" : Str)=none:=by kernel_rfl
def iL:(aC v0 v1 v2 v3).lookup ("ran_out" : Str)=none:=by kernel_rfl
def iM:(aC v0 v1 v2 v3).lookup ("hurried" : Str)=none:=by kernel_rfl
noncomputable def kr (v0:V):List (Str×V):=[("longest",v0)]
def mZ:(kr v0).length<1000:=by show 1<1000;decide
def mY:bp "longest" v0 []=kr v0:=by kernel_rfl
noncomputable def kq (v0 v1:V):List (Str×V):=[("longest",v0),("smooth",v1)]
def mX:(kq v0 v1).length<1000:=by show 2<1000;decide
def mW:bp "smooth" v1 (kr v0)=kq v0 v1:=by kernel_rfl
noncomputable def ko (v0 v1 v2:V):List (Str×V):=[("longest",v0),("smooth",v1),("spread",v2)]
def mV:(ko v0 v1 v2).length<1000:=by show 3<1000;decide
def mU:bp "spread" v2 (kq v0 v1)=ko v0 v1 v2:=by kernel_rfl
noncomputable def aM (v0 v1 v2 v3:V):List (Str×V):=[("longest",v0),("smooth",v1),("spread",v2),("wait",v3)]
def o4:(aM v0 v1 v2 v3).length<1000:=by show 4<1000;decide
def o3:bp "wait" v3 (ko v0 v1 v2)=aM v0 v1 v2 v3:=by kernel_rfl
def iF:(aM v0 v1 v2 v3).lookup ("longest" : Str)=some v0:=by kernel_rfl
def ji:(aM v0 v1 v2 v3).lookup ("smooth" : Str)=some v1:=by kernel_rfl
def jh:(aM v0 v1 v2 v3).lookup ("spread" : Str)=some v2:=by kernel_rfl
def km:(aM v0 v1 v2 v3).lookup ("wait" : Str)=some v3:=by kernel_rfl
def jf:bp "smooth" x (aM v0 v1 v2 v3)=aM v0 x v2 v3:=by kernel_rfl
def je:bp "spread" x (aM v0 v1 v2 v3)=aM v0 v1 x v3:=by kernel_rfl
def kj:bp "wait" x (aM v0 v1 v2 v3)=aM v0 v1 v2 x:=by kernel_rfl
def iE:(aM v0 v1 v2 v3).lookup ("measured" : Str)=none:=by kernel_rfl
def gs:(aM v0 v1 v2 v3).lookup ("next_spread" : Str)=none:=by kernel_rfl
def gu:(aM v0 v1 v2 v3).lookup ("next_smooth" : Str)=none:=by kernel_rfl
def gK:(aM v0 v1 v2 v3).lookup ("least_wait" : Str)=none:=by kernel_rfl
def jg:(aM v0 v1 v2 v3).lookup ("ran_out" : Str)=none:=by kernel_rfl
noncomputable def fu (v0:V):List (Str×V):=[("ring",v0)]
def ly:(fu v0).length<1000:=by show 1<1000;decide
def lx:bp "ring" v0 []=fu v0:=by kernel_rfl
noncomputable def dY (v0 v1:V):List (Str×V):=[("ring",v0),("ways",v1)]
def lu:(dY v0 v1).length<1000:=by show 2<1000;decide
def lr:bp "ways" v1 (fu v0)=dY v0 v1:=by kernel_rfl
noncomputable def dX (v0 v1 v2:V):List (Str×V):=[("ring",v0),("ways",v1),("meter",v2)]
def lq:(dX v0 v1 v2).length<1000:=by show 3<1000;decide
def lp:bp "meter" v2 (dY v0 v1)=dX v0 v1 v2:=by kernel_rfl
noncomputable def hX (v0 v1 v2 v3:V):List (Str×V):=[("ring",v0),("ways",v1),("meter",v2),("things",v3)]
def ll:(hX v0 v1 v2 v3).length<1000:=by show 4<1000;decide
def lj:bp "things" v3 (dX v0 v1 v2)=hX v0 v1 v2 v3:=by kernel_rfl
noncomputable def hV (v0 v1 v2 v3 v4:V):List (Str×V):=[("ring",v0),("ways",v1),("meter",v2),("things",v3),("base",v4)]
def lh:(hV v0 v1 v2 v3 v4).length<1000:=by show 5<1000;decide
def lg:bp "base" v4 (hX v0 v1 v2 v3)=hV v0 v1 v2 v3 v4:=by kernel_rfl
noncomputable def hU (v0 v1 v2 v3 v4 v5:V):List (Str×V):=[("ring",v0),("ways",v1),("meter",v2),("things",v3),("base",v4),("top",v5)]
def la:(hU v0 v1 v2 v3 v4 v5).length<1000:=by show 6<1000;decide
def k_:bp "top" v5 (hV v0 v1 v2 v3 v4)=hU v0 v1 v2 v3 v4 v5:=by kernel_rfl
noncomputable def hJ (v0 v1 v2 v3 v4 v5 v6:V):List (Str×V):=[("ring",v0),("ways",v1),("meter",v2),("things",v3),("base",v4),("top",v5),("edge",v6)]
def k9:(hJ v0 v1 v2 v3 v4 v5 v6).length<1000:=by show 7<1000;decide
def k8:bp "edge" v6 (hU v0 v1 v2 v3 v4 v5)=hJ v0 v1 v2 v3 v4 v5 v6:=by kernel_rfl
noncomputable def hG (v0 v1 v2 v3 v4 v5 v6 v7:V):List (Str×V):=[("ring",v0),("ways",v1),("meter",v2),("things",v3),("base",v4),("top",v5),("edge",v6),("clock",v7)]
def k7:(hG v0 v1 v2 v3 v4 v5 v6 v7).length<1000:=by show 8<1000;decide
def k6:bp "clock" v7 (hJ v0 v1 v2 v3 v4 v5 v6)=hG v0 v1 v2 v3 v4 v5 v6 v7:=by kernel_rfl
noncomputable def dW (v0 v1 v2 v3 v4 v5 v6 v7 v8:V):List (Str×V):=[("ring",v0),("ways",v1),("meter",v2),("things",v3),("base",v4),("top",v5),("edge",v6),("clock",v7),("base_hurried",v8)]
def kZ:(dW v0 v1 v2 v3 v4 v5 v6 v7 v8).length<1000:=by show 9<1000;decide
def kY:bp "base_hurried" v8 (hG v0 v1 v2 v3 v4 v5 v6 v7)=dW v0 v1 v2 v3 v4 v5 v6 v7 v8:=by kernel_rfl
noncomputable def dn (v0 v1 v2 v3 v4 v5 v6 v7 v8 v9:V):List (Str×V):=[("ring",v0),("ways",v1),("meter",v2),("things",v3),("base",v4),("top",v5),("edge",v6),("clock",v7),("base_hurried",v8),("known_places",v9)]
def kA:(dn v0 v1 v2 v3 v4 v5 v6 v7 v8 v9).length<1000:=by show 10<1000;decide
def kz:bp "known_places" v9 (dW v0 v1 v2 v3 v4 v5 v6 v7 v8)=dn v0 v1 v2 v3 v4 v5 v6 v7 v8 v9:=by kernel_rfl
noncomputable def dk (v0 v1 v2 v3 v4 v5 v6 v7 v8 v9 v10:V):List (Str×V):=[("ring",v0),("ways",v1),("meter",v2),("things",v3),("base",v4),("top",v5),("edge",v6),("clock",v7),("base_hurried",v8),("known_places",v9),("first_turns",v10)]
def ky:(dk v0 v1 v2 v3 v4 v5 v6 v7 v8 v9 v10).length<1000:=by show 11<1000;decide
def kx:bp "first_turns" v10 (dn v0 v1 v2 v3 v4 v5 v6 v7 v8 v9)=dk v0 v1 v2 v3 v4 v5 v6 v7 v8 v9 v10:=by kernel_rfl
noncomputable def ax (v0 v1 v2 v3 v4 v5 v6 v7 v8 v9 v10 v11:V):List (Str×V):=[("ring",v0),("ways",v1),("meter",v2),("things",v3),("base",v4),("top",v5),("edge",v6),("clock",v7),("base_hurried",v8),("known_places",v9),("first_turns",v10),("gone_again",v11)]
def m4:(ax v0 v1 v2 v3 v4 v5 v6 v7 v8 v9 v10 v11).length<1000:=by show 12<1000;decide
def m3:bp "gone_again" v11 (dk v0 v1 v2 v3 v4 v5 v6 v7 v8 v9 v10)=ax v0 v1 v2 v3 v4 v5 v6 v7 v8 v9 v10 v11:=by kernel_rfl
def jn:(ax v0 v1 v2 v3 v4 v5 v6 v7 v8 v9 v10 v11).lookup ("ring" : Str)=some v0:=by kernel_rfl
def jm:(ax v0 v1 v2 v3 v4 v5 v6 v7 v8 v9 v10 v11).lookup ("ways" : Str)=some v1:=by kernel_rfl
def iI:(ax v0 v1 v2 v3 v4 v5 v6 v7 v8 v9 v10 v11).lookup ("meter" : Str)=some v2:=by kernel_rfl
def g_:(ax v0 v1 v2 v3 v4 v5 v6 v7 v8 v9 v10 v11).lookup ("things" : Str)=some v3:=by kernel_rfl
def jq:(ax v0 v1 v2 v3 v4 v5 v6 v7 v8 v9 v10 v11).lookup ("base" : Str)=some v4:=by kernel_rfl
def jP:(ax v0 v1 v2 v3 v4 v5 v6 v7 v8 v9 v10 v11).lookup ("top" : Str)=some v5:=by kernel_rfl
def jo:(ax v0 v1 v2 v3 v4 v5 v6 v7 v8 v9 v10 v11).lookup ("edge" : Str)=some v6:=by kernel_rfl
def iJ:(ax v0 v1 v2 v3 v4 v5 v6 v7 v8 v9 v10 v11).lookup ("clock" : Str)=some v7:=by kernel_rfl
def eW:(ax v0 v1 v2 v3 v4 v5 v6 v7 v8 v9 v10 v11).lookup ("base_hurried" : Str)=some v8:=by kernel_rfl
def eV:(ax v0 v1 v2 v3 v4 v5 v6 v7 v8 v9 v10 v11).lookup ("known_places" : Str)=some v9:=by kernel_rfl
def fh:(ax v0 v1 v2 v3 v4 v5 v6 v7 v8 v9 v10 v11).lookup ("first_turns" : Str)=some v10:=by kernel_rfl
def fL:(ax v0 v1 v2 v3 v4 v5 v6 v7 v8 v9 v10 v11).lookup ("gone_again" : Str)=some v11:=by kernel_rfl
def jk:bp "base" x (ax v0 v1 v2 v3 v4 v5 v6 v7 v8 v9 v10 v11)=ax v0 v1 v2 v3 x v5 v6 v7 v8 v9 v10 v11:=by kernel_rfl
def jN:bp "top" x (ax v0 v1 v2 v3 v4 v5 v6 v7 v8 v9 v10 v11)=ax v0 v1 v2 v3 v4 x v6 v7 v8 v9 v10 v11:=by kernel_rfl
def jj:bp "edge" x (ax v0 v1 v2 v3 v4 v5 v6 v7 v8 v9 v10 v11)=ax v0 v1 v2 v3 v4 v5 x v7 v8 v9 v10 v11:=by kernel_rfl
def iG:bp "clock" x (ax v0 v1 v2 v3 v4 v5 v6 v7 v8 v9 v10 v11)=ax v0 v1 v2 v3 v4 v5 v6 x v8 v9 v10 v11:=by kernel_rfl
def eU:bp "base_hurried" x (ax v0 v1 v2 v3 v4 v5 v6 v7 v8 v9 v10 v11)=ax v0 v1 v2 v3 v4 v5 v6 v7 x v9 v10 v11:=by kernel_rfl
def ku:(ax v0 v1 v2 v3 v4 v5 v6 v7 v8 v9 v10 v11).lookup ("put" : Str)=none:=by kernel_rfl
def jO:(ax v0 v1 v2 v3 v4 v5 v6 v7 v8 v9 v10 v11).lookup ("many" : Str)=none:=by kernel_rfl
def jl:(ax v0 v1 v2 v3 v4 v5 v6 v7 v8 v9 v10 v11).lookup ("heard" : Str)=none:=by kernel_rfl
def gy:(ax v0 v1 v2 v3 v4 v5 v6 v7 v8 v9 v10 v11).lookup ("grow_base" : Str)=none:=by kernel_rfl
def gx:(ax v0 v1 v2 v3 v4 v5 v6 v7 v8 v9 v10 v11).lookup ("note_held" : Str)=none:=by kernel_rfl
def fK:(ax v0 v1 v2 v3 v4 v5 v6 v7 v8 v9 v10 v11).lookup ("newly_known" : Str)=none:=by kernel_rfl
def dU:(ax v0 v1 v2 v3 v4 v5 v6 v7 v8 v9 v10 v11).lookup ("known_above_base" : Str)=none:=by kernel_rfl
def gv:(ax v0 v1 v2 v3 v4 v5 v6 v7 v8 v9 v10 v11).lookup ("under_way" : Str)=none:=by kernel_rfl
def fJ:(ax v0 v1 v2 v3 v4 v5 v6 v7 v8 v9 v10 v11).lookup ("thing_waits" : Str)=none:=by kernel_rfl
def fe:(ax v0 v1 v2 v3 v4 v5 v6 v7 v8 v9 v10 v11).lookup ("clock_is_out" : Str)=none:=by kernel_rfl
def fc:(ax v0 v1 v2 v3 v4 v5 v6 v7 v8 v9 v10 v11).lookup ("hurry_is_due" : Str)=none:=by kernel_rfl
def fW:(ax v0 v1 v2 v3 v4 v5 v6 v7 v8 v9 v10 v11).lookup ("new_may_go" : Str)=none:=by kernel_rfl
def kX:(ax v0 v1 v2 v3 v4 v5 v6 v7 v8 v9 v10 v11).lookup ("go" : Str)=none:=by kernel_rfl
def gw:(ax v0 v1 v2 v3 v4 v5 v6 v7 v8 v9 v10 v11).lookup ("set_clock" : Str)=none:=by kernel_rfl
def gL:(ax v0 v1 v2 v3 v4 v5 v6 v7 v8 v9 v10 v11).lookup ("go_again" : Str)=none:=by kernel_rfl
def iH:(ax v0 v1 v2 v3 v4 v5 v6 v7 v8 v9 v10 v11).lookup ("go_new" : Str)=none:=by kernel_rfl
def fg:(ax v0 v1 v2 v3 v4 v5 v6 v7 v8 v9 v10 v11).lookup ("ask_for_room" : Str)=none:=by kernel_rfl
end
structure Txt (K:W.Frag) (mg:Str->Option Value) (ae ai aa:Addr):Prop where
 aQ:i6 K mg "Meter" ae
 eB:bf K ae "most"
 aR:bf K ae "window"
 bS:bf K ae "knee"
 ba:bf K ae "counted"
 aO:i6 K mg "Ways" ai
 cw:bf K ai "longest"
 aI:bf K ai "smooth"
 aY:bf K ai "spread"
 bO:bf K ai "wait"
 ag:i6 K mg "Sender" aa
 dR:bf K aa "ring"
 bu:bf K aa "ways"
 bz:bf K aa "meter"
 bU:bf K aa "things"
 aB:bf K aa "base"
 aH:bf K aa "top"
 bw:bf K aa "edge"
 bj:bf K aa "clock"
 aW:bf K aa "base_hurried"
 aV:bf K aa "known_places"
 bh:bf K aa "first_turns"
 bq:bf K aa "gone_again"
 dM:MethAt K ae "__init__" "Meter.__init__" dG
 fQ:MethAt K ae "known" "Meter.known" fH
 dJ:MethAt K ae "know_one" "Meter.know_one" dF
 gD:MethAt K ae "half" "Meter.half" gh
 ek:MethAt K ae "ran_out" "Meter.ran_out" d9
 en:MethAt K ae "hurried" "Meter.hurried" d_
 oz:e_ K mg "ahead" nW
 my:e_ K mg "lowest" lT
 eg:MethAt K ai "__init__" "Ways.__init__" d7
 ed:MethAt K ai "measured" "Ways.measured" d6
 cZ:MethAt K ai "next_spread" "Ways.next_spread" cS
 c4:MethAt K ai "next_smooth" "Ways.next_smooth" cT
 dr:MethAt K ai "least_wait" "Ways.least_wait" dg
 eY:MethAt K ai "ran_out" "Ways.ran_out" eO
 du:MethAt K aa "__init__" "Sender.__init__" di
 gC:MethAt K aa "put" "Sender.put" gg
 fP:MethAt K aa "many" "Sender.many" fG
 eZ:MethAt K aa "heard" "Sender.heard" eP
 c8:MethAt K aa "grow_base" "Sender.grow_base" cX
 c7:MethAt K aa "note_held" "Sender.note_held" cW
 cy:MethAt K aa "newly_known" "Sender.newly_known" cq
 bE:MethAt K aa "known_above_base" "Sender.known_above_base" bC
 c5:MethAt K aa "under_way" "Sender.under_way" cU
 cx:MethAt K aa "thing_waits" "Sender.thing_waits" cp
 cb:MethAt K aa "clock_is_out" "Sender.clock_is_out" bZ
 b_:MethAt K aa "hurry_is_due" "Sender.hurry_is_due" bY
 cN:MethAt K aa "new_may_go" "Sender.new_may_go" cM
 h_:MethAt K aa "go" "Sender.go" gW
 c6:MethAt K aa "set_clock" "Sender.set_clock" cV
 dt:MethAt K aa "go_again" "Sender.go_again" dh
 eh:MethAt K aa "go_new" "Sender.go_new" d8
 cc:MethAt K aa "ask_for_room" "Sender.ask_for_room" b8
 gz:e_ K mg "_law_whole" gc
 eX:e_ K mg "_law_cell_at" eN
 gA:e_ K mg "_law_mixed" gd
 fN:e_ K mg "_law_sender" fE
 fO:e_ K mg "_law_number" fF
 fM:e_ K mg "_law_stands" fB
 h9:e_ K mg "_law_gone" gU
 gB:e_ K mg "_law_heard" gf
 qW:e_ K mg "law" tw
 vy:mg "abs" = none
 qj:mg "bool" = none
 vx:mg "int" = none
 dv:mg "isinstance" = none
 mK:mg "len" = none
 qi:mg "list" = none
 nS:mg "max" = none
 pC:mg "min" = none
 eC:mg "range" = none
 lL:mg "tuple" = none
 gE:vC mg "WAIT_LEAST" (.int 2)
 dN:vC mg "KNOWN_TO_HURRY" (.int 2)
noncomputable section
open PySem W
abbrev Ob:=Obj
abbrev Pm:=Params
noncomputable abbrev q (x:String) (k:Nat):Value:= .str (Str.ofString x) k
noncomputable abbrev tp (x:List Value):Obj:=⟨.type "tuple",none,.seq x.toArray,#[]⟩
noncomputable abbrev fm (n m:String) (t:Stmt):=FuncData.mk (Str.ofString n) (Str.ofString m) (L2.dq t) (.stmts (L2.cC t)) (L2.ay t)
noncomputable abbrev cd (n:String) (a:Nat) (m:String) (b c:Nat) (l d e f g:Int) (r:Nat) (o:Bool) (k:Int) (s:Nat) (v w x y:Value) (i:Int) (z:Nat):Ob:=⟨.type "code",none,.fields #[q n a,q m b,q "/claim/cut.py" c,.int l 0,.int d 0,.int e 0,.int f 0,.int g 0,.ref r,.bool o,.int k 0,.ref s,v,w,x,y,.int i 0,.int l 0,q "/claim/cut.py" z],#[]⟩
noncomputable abbrev f0 (n m:String) (t:Stmt):Ob:=⟨.none,none,.func (fm n m t 0 [] .none .none .none .none none .none .none 0),#[]⟩
noncomputable abbrev f1 (n m:String) (t:Stmt) (c:Nat) (v:Value) (r:Nat):Ob:=⟨.type "function",none,.func (fm n m t c [] .none .none .none v none (.ref r) .none 0),#[]⟩
abbrev den (P:Params) (x:String) (k:Nat) (v:Value):DictEntry:=DictEntry.mk (PyData.keyHash P (Str.ofString x)) (Value.str (Str.ofString x) k) v
def up:List Ob->BT->Nat->BT
 | [],t,_=>t
 |o::r,t,n=>up r (t.ins n o) (n+1)
def ch:List (Nat×Ob)->BT->BT
 | [],t=>t
 |p::r,t=>ch r (t.ins p.1 p.2)
abbrev nt {α:Type} (n m:String) (t:Stmt) (k:String->String->Stmt->α):α:=k n m t
abbrev cf (n m:String) (t:Stmt) (a:Nat) (l d g:Int) (r i:Nat):Ob:=cd n a m (a+1) (a+2) l d 0 0 g r true 181 (r+1) .none (.ref (r+2)) (.ref (r+3)) (.ref (r+4)) i (i+1)
abbrev ck (n:String) (a:Nat) (l:Int) (r:Nat):Ob:=cd n a n (a+1) (a+2) l 0 0 0 0 r false 181 (r+1) .none .none .none .none (a+3) (a+4)
abbrev q0:=q "slowroad.ways" 269
abbrev q1:=q "slowroad.meter" 187
abbrev q2:=q "slowroad.sender" 356
abbrev q3:=q "law_slowroad_k53_sender_never_falls" 544
def tql:List String->Nat->List Value
 | [],_=>[]
 |x::r,k=>q x k::tql r (k+1)
abbrev tq (l:List String) (k:Nat):Ob:=tp (tql l k)
def ztl:List (Int×Int×Nat)->List Value
 | []=>[]
 |x::r=> .int x.1 0 :: .int x.2.1 0 :: .ref x.2.2::ztl r
abbrev zt (l:List (Int×Int×Nat)):Ob:=⟨.none,none,.fields (ztl l).toArray,#[]⟩
abbrev zo (n:String) (b m:List Value) (a:Nat) (s:List Value) (d:Option Value) (t u:Value):Ob:=⟨.type "type",none,.cls (.mk (.ofString n) b (m++ [.type "object"]) a (.ofString n) true [] s false none false),#[d,none,some t,some u,some (.builtin "object.__new__"),some (.bool true)]⟩
abbrev pg:=Challenge.rw_slowroad_k53_sender_never_falls.row.prog
noncomputable def mdl (P:Pm):List DictEntry:=[den P "__doc__" 166 .none,den P "__package__" 167 .none,den P "__loader__" 168 (.builtin "__main__.__loader__#opaque"),den P "__spec__" 169 .none,den P "__annotations__" 170 (.ref 6),den P "__builtins__" 171 (.ref 4),den P "__file__" 173 (q "/claim/cut.py" 172),den P "__cached__" 174 .none,den P "Meter" 257 (.ref 66),den P "ahead" 268 (.ref 77),den P "WAIT_LEAST" 272 (.int 2 271),den P "lowest" 281 (.ref 84),den P "Ways" 355 (.ref 136),den P "KNOWN_TO_HURRY" 359 (.int 2 358),den P "Sender" 543 (.ref 277),den P "_law_whole" 552 (.ref 288),den P "_law_cell_at" 560 (.ref 295),den P "_law_mixed" 570 (.ref 302),den P "_law_sender" 581 (.ref 309),den P "_law_number" 592 (.ref 316),den P "_law_stands" 605 (.ref 323),den P "_law_gone" 619 (.ref 330),den P "_law_heard" 625 (.ref 335),den P "law" 638 (.ref 342)]
abbrev md (P:Pm) (v:Value) (k n:Nat):Ob:=⟨.type "dict",none,.dict ⟨den P "__name__" 165 v::(mdl P).take k⟩ n,#[]⟩
def ltl:List Value:=ztl [(80,4,153),(94,4,160),(97,4,167),(100,4,174),(103,4,181),(118,4,188),(123,4,193),(126,4,198),(132,4,203),(135,4,210),(138,4,217),(141,4,224),(144,4,231),(147,4,238),(150,4,245),(164,4,252),(167,4,259),(173,4,266),(181,4,273)]
abbrev lt (k:Nat):Ob:=⟨.none,none,.fields ⟨ltl.take k⟩,#[]⟩
noncomputable abbrev zf (a b c:Nat) (m:Value) (d:Nat):Ob:=⟨.type "frame",none,.plain,#[some (.ref a),some (.ref b),some (.ref c),none,some m,none,some (.ref d)]⟩
noncomputable abbrev zi (i j:Nat):Stmt:=inClass (top i) j
noncomputable abbrev zm (P:Params) (a:Nat) (m:Value):DictEntry:=den P "__module__" a m
noncomputable abbrev zl (P:Params) (a:Nat) (m:Int) (b:Nat):DictEntry:=den P "__firstlineno__" a (.int m b)
noncomputable abbrev za (P:Params) (a b:Nat):DictEntry:=den P "__static_attributes__" a (.ref b)
noncomputable abbrev zd (x:Array DictEntry) (n:Nat):Ob:=⟨.type "dict",none,.dict x n,#[]⟩
abbrev sO (x:String):Str:=Str.ofString x
def aN:=tp []
def fq:Ob:=⟨.none,none,.fields #[],#[]⟩
def FV:=ck "<module>" 182 1 11
def FU:=zf 13 3 3 (q "__main__" 164) 0
def Gx(P:Pm):=md P q0 12 13
def Gw:=zt [(2,0,20),(38,0,76),(42,0,83)]
def Ex:Ob:=⟨.type "builtin_function_or_method",none,.fields #[.builtin "type.__prepare__",.type "type"],#[]⟩
def Gv(P:Pm):=zd #[zm P 196 q1,den P "__qualname__" 198 (q "Meter" 197),zl P 200 2 199,den P "__init__" 208 (.ref 28),den P "known" 217 (.ref 35),den P "know_one" 224 (.ref 42),den P "half" 231 (.ref 49),den P "ran_out" 238 (.ref 56),den P "hurried" 245 (.ref 63),za P 250 64] 10
def Gu:=zt [(4,4,27),(10,4,34),(14,4,41),(25,4,48),(28,4,55),(33,4,62)]
def Gs:=ck "Meter" 191 2 18
def Gr:=zf 20 3 17 q1 0
def FT:=tq ["self","most"] 204
abbrev E4 {α}:=nt (α:=α) "__init__" "Meter.__init__" (zi 1 0)
def Gq:=E4 f0
def FR:=E4 cf 201 4 2 3 22 206
def FQ:=E4 f1 3 q1 27
def FP:=tq ["self","many","piece"] 212
abbrev E3 {α}:=nt (α:=α) "known" "Meter.known" (zi 1 1)
def Gp:=E3 f0
def FO:=E3 cf 209 10 2 3 29 215
def FN:=E3 f1 3 q1 34
def FL:=tq ["self"] 221
abbrev E2 {α}:=nt (α:=α) "know_one" "Meter.know_one" (zi 1 2)
def Gn:=E2 f0
def FK:=E2 cf 218 14 1 3 36 222
def FJ:=E2 f1 3 q1 41
def FI:=tq ["self"] 228
abbrev E1 {α}:=nt (α:=α) "half" "Meter.half" (zi 1 3)
def Gm:=E1 f0
def FH:=E1 cf 225 25 1 3 43 229
def FG:=E1 f1 3 q1 48
def FF:=tq ["self"] 235
abbrev EZ {α}:=nt (α:=α) "ran_out" "Meter.ran_out" (zi 1 4)
def Gj:=EZ f0
def FE:=EZ cf 232 28 1 3 50 236
def FD:=EZ f1 3 q1 55
def FC:=tq ["self"] 242
abbrev EY {α}:=nt (α:=α) "hurried" "Meter.hurried" (zi 1 5)
def Gi:=EY f0
def FA:=EY cf 239 33 1 3 57 243
def Fz:=EY f1 3 q1 62
def Fy:=tq ["counted","knee","most","window"] 246
def Fx(P:Pm):=zd #[zm P 196 q1,zl P 200 2 199,den P "__init__" 208 (.ref 28),den P "known" 217 (.ref 35),den P "know_one" 224 (.ref 42),den P "half" 231 (.ref 49),den P "ran_out" 238 (.ref 56),den P "hurried" 245 (.ref 63),za P 250 64,den P "__dict__" 252 (.ref 67),den P "__weakref__" 254 (.ref 68),den P "__doc__" 255 .none] 4
def Fw:=zo "Meter" [.type "object"] [.ref 66] 65 [] none (q "Meter" 189) (q "Meter" 197)
def Fv:Ob:=⟨.type "getset_descriptor",none,.fields #[q "__dict__" 251,.ref 66,.builtin "function.__dict__",.builtin "function.__dict__#set"],#[]⟩
def Fu:Ob:=⟨.type "getset_descriptor",none,.fields #[q "__weakref__" 253,.ref 66,.builtin "ExceptionGroup.__weakref__",.none],#[]⟩
def Gh:Ob:=⟨.type "super",none,.fields #[.ref 66,.ref 66,.ref 66],#[]⟩
def Gg:Ob:=⟨.type "builtin_function_or_method",none,.fields #[.builtin "object.__init_subclass__",.ref 66],#[]⟩
def Ft:=tq ["ring","one","other"] 263
abbrev EX {α}:=nt (α:=α) "ahead" "ahead" (top 3)
def Gf:=EX f0
def Fs:=EX cf 260 38 3 3 71 266
def Fq:=EX f1 3 (q "slowroad.rings" 258) 76
def Fp:=tq ["top","bottom","shared"] 276
abbrev EW {α}:=nt (α:=α) "lowest" "lowest" (top 6)
def Ge:=EW f0
def Fo:=EW cf 273 42 2 3 78 279
def Fn:=EW f1 3 q0 83
def Gd(P:Pm):=md P q2 14 15
def Gb:=zt [(2,0,20),(38,0,76),(42,0,83),(45,0,90)]
def Ga(P:Pm):=zd #[zm P 289 q0,den P "__qualname__" 291 (q "Ways" 290),zl P 293 45 292,den P "__init__" 302 (.ref 98),den P "measured" 310 (.ref 105),den P "next_spread" 320 (.ref 112),den P "next_smooth" 328 (.ref 119),den P "least_wait" 336 (.ref 126),den P "ran_out" 343 (.ref 133),za P 348 134] 10
def F_:=zt [(47,4,97),(53,4,104),(62,4,111),(67,4,118),(70,4,125),(74,4,132)]
def F9:=ck "Ways" 284 45 88
def F8:=zf 90 3 87 q0 0
def Fm:=tq ["self","first","longest"] 297
abbrev zC {α}:=nt (α:=α) "__init__" "Ways.__init__" (zi 7 0)
def ER:=zC f0
def C0:=zC cf 294 47 3 3 92 300
def CZ:=zC f1 3 q0 97
def CY:=tq ["self","m"] 306
abbrev zB {α}:=nt (α:=α) "measured" "Ways.measured" (zi 7 1)
def EO:=zB f0
def CV:=zB cf 303 53 2 3 99 308
def CU:=zB f1 3 q0 104
def CT:=tq ["self","m","bottoms","away"] 314
abbrev zA {α}:=nt (α:=α) "next_spread" "Ways.next_spread" (zi 7 2)
def EN:=zA f0
def CQ:=zA cf 311 62 2 3 106 318
def CP:=zA f1 3 q0 111
def CO:=tq ["self","m"] 324
abbrev zy {α}:=nt (α:=α) "next_smooth" "Ways.next_smooth" (zi 7 3)
def EM:=zy f0
def CN:=zy cf 321 67 2 3 113 326
def CL:=zy f1 3 q0 118
def CK:=tq ["self","top"] 332
abbrev zx {α}:=nt (α:=α) "least_wait" "Ways.least_wait" (zi 7 4)
def EL:=zx f0
def CJ:=zx cf 329 70 1 3 120 334
def CI:=zx f1 3 q0 125
def CH:=tq ["self"] 340
abbrev zw {α}:=nt (α:=α) "ran_out" "Ways.ran_out" (zi 7 5)
def EK:=zw f0
def CG:=zw cf 337 74 1 3 127 341
def CF:=zw f1 3 q0 132
def CD:=tq ["longest","smooth","spread","wait"] 344
def CC(P:Pm):=zd #[zm P 289 q0,zl P 293 45 292,den P "__init__" 302 (.ref 98),den P "measured" 310 (.ref 105),den P "next_spread" 320 (.ref 112),den P "next_smooth" 328 (.ref 119),den P "least_wait" 336 (.ref 126),den P "ran_out" 343 (.ref 133),za P 348 134,den P "__dict__" 350 (.ref 137),den P "__weakref__" 352 (.ref 138),den P "__doc__" 353 .none] 4
def CB:=zo "Ways" [.type "object"] [.ref 136] 135 [] none (q "Ways" 282) (q "Ways" 290)
def CA:Ob:=⟨.type "getset_descriptor",none,.fields #[q "__dict__" 349,.ref 136,.builtin "function.__dict__",.builtin "function.__dict__#set"],#[]⟩
def Cz:Ob:=⟨.type "getset_descriptor",none,.fields #[q "__weakref__" 351,.ref 136,.builtin "ExceptionGroup.__weakref__",.none],#[]⟩
def EJ:Ob:=⟨.type "super",none,.fields #[.ref 136,.ref 136,.ref 136],#[]⟩
def EI:Ob:=⟨.type "builtin_function_or_method",none,.fields #[.builtin "object.__init_subclass__",.ref 136],#[]⟩
def EH(P:Pm):=md P q2 15 16
def EG:=zt [(2,0,20),(38,0,76),(42,0,83),(45,0,90),(78,0,146)]
def EF(P:Pm):=zd #[zm P 367 q2,den P "__qualname__" 369 (q "Sender" 368),zl P 371 78 370,den P "__init__" 382 (.ref 154),den P "put" 390 (.ref 161),den P "many" 397 (.ref 168),den P "thing" 405 (.ref 175),den P "heard" 419 (.ref 182),den P "grow_base" 428 (.ref 189),den P "note_held" 434 (.ref 194),den P "newly_known" 440 (.ref 199),den P "known_above_base" 446 (.ref 204),den P "under_way" 453 (.ref 211),den P "thing_waits" 460 (.ref 218),den P "clock_is_out" 468 (.ref 225),den P "hurry_is_due" 475 (.ref 232),den P "new_may_go" 482 (.ref 239),den P "go" 490 (.ref 246),den P "set_clock" 498 (.ref 253),den P "go_again" 506 (.ref 260),den P "go_new" 515 (.ref 267),den P "ask_for_room" 523 (.ref 274),za P 536 275] 23
def EE:=lt 57
def ED:=ck "Sender" 362 78 144
def EC:=zf 146 3 143 q2 0
def Cy:=tq ["self","ring","first","longest","most"] 375
abbrev zv {α}:=nt (α:=α) "__init__" "Sender.__init__" (zi 10 0)
def EB:=zv f0
def Cw:=zv cf 372 80 5 3 148 380
def Cv:=zv f1 3 q2 153
def Cu:=tq ["self","thing"] 386
abbrev zu {α}:=nt (α:=α) "put" "Sender.put" (zi 10 1)
def EA:=zu f0
def Ct:=zu cf 383 94 2 3 155 388
def Cs:=zu f1 3 q2 160
def Cr:=tq ["self"] 394
abbrev zr {α}:=nt (α:=α) "many" "Sender.many" (zi 10 2)
def Ez:=zr f0
def Cq:=zr cf 391 97 1 3 162 395
def Cp:=zr f1 3 q2 167
def Co:=tq ["self","place"] 401
abbrev zq {α}:=nt (α:=α) "thing" "Sender.thing" (zi 10 3)
def Ey:=zq f0
def Cn:=zq cf 398 100 2 3 169 403
def Cm:=zq f1 3 q2 174
def Ck:=tq ["self","number","room","held","turn","steps","fresh","place"] 409
abbrev zp {α}:=nt (α:=α) "heard" "Sender.heard" (zi 10 4)
def Ew:=zp f0
def Cj:=zp cf 406 103 5 3 176 417
def Ci:=zp f1 3 q2 181
def Cg:=tq ["self","steps","low"] 423
abbrev zk {α}:=nt (α:=α) "grow_base" "Sender.grow_base" (zi 10 5)
def Eu:=zk f0
def Cf:=zk cf 420 118 2 3 183 426
def Ce:=zk f1 3 q2 188
abbrev C8 {α}:=nt (α:=α) "note_held" "Sender.note_held" (zi 10 6)
def Et:=C8 f0
def Cd:=cd "note_held" 429 "Sender.note_held" 430 431 123 2 0 0 3 190 true 181 191 .none .none .none (.ref 192) 432 433
def Cc:=C8 f1 3 q2 193
abbrev C7 {α}:=nt (α:=α) "newly_known" "Sender.newly_known" (zi 10 7)
def Es:=C7 f0
def Cb:=cd "newly_known" 435 "Sender.newly_known" 436 437 126 2 0 0 3 195 true 181 196 .none .none .none (.ref 197) 438 439
def Ca:=C7 f1 3 q2 198
abbrev C6 {α}:=nt (α:=α) "known_above_base" "Sender.known_above_base" (zi 10 8)
def Er:=C6 f0
def B_:=cd "known_above_base" 441 "Sender.known_above_base" 442 443 132 1 0 0 3 200 true 181 201 .none .none .none (.ref 202) 444 445
def B9:=C6 f1 3 q2 203
def B8:=tq ["self"] 450
abbrev zj {α}:=nt (α:=α) "under_way" "Sender.under_way" (zi 10 9)
def Ep:=zj f0
def B7:=zj cf 447 135 1 3 205 451
def B6:=zj f1 3 q2 210
def B5:=tq ["self"] 457
abbrev zh {α}:=nt (α:=α) "thing_waits" "Sender.thing_waits" (zi 10 10)
def Eo:=zh f0
def B4:=zh cf 454 138 1 3 212 458
def B3:=zh f1 3 q2 217
def BZ:=tq ["self","turn"] 464
abbrev zg {α}:=nt (α:=α) "clock_is_out" "Sender.clock_is_out" (zi 10 11)
def En:=zg f0
def BY:=zg cf 461 141 2 3 219 466
def BX:=zg f1 3 q2 224
def BW:=tq ["self"] 472
abbrev ze {α}:=nt (α:=α) "hurry_is_due" "Sender.hurry_is_due" (zi 10 12)
def Em:=ze f0
def BV:=ze cf 469 144 1 3 226 473
def BU:=ze f1 3 q2 231
def BS:=tq ["self"] 479
abbrev zc {α}:=nt (α:=α) "new_may_go" "Sender.new_may_go" (zi 10 13)
def El:=zc f0
def BR:=zc cf 476 147 1 3 233 480
def BQ:=zc f1 3 q2 238
def BP:=tq ["self","turn"] 486
abbrev zb {α}:=nt (α:=α) "go" "Sender.go" (zi 10 14)
def Ek:=zb f0
def BO:=zb cf 483 150 2 3 240 488
def BN:=zb f1 3 q2 245
def BM:=tq ["self","turn"] 494
abbrev y_ {α}:=nt (α:=α) "set_clock" "Sender.set_clock" (zi 10 15)
def Ej:=y_ f0
def BL:=y_ cf 491 164 2 3 247 496
def BK:=y_ f1 3 q2 252
def BJ:=tq ["self","turn"] 502
abbrev y9 {α}:=nt (α:=α) "go_again" "Sender.go_again" (zi 10 16)
def Ei:=y9 f0
def BI:=y9 cf 499 167 2 3 254 504
def BH:=y9 f1 3 q2 259
def BG:=tq ["self","turn","place"] 510
abbrev y8 {α}:=nt (α:=α) "go_new" "Sender.go_new" (zi 10 17)
def Eh:=y8 f0
def BF:=y8 cf 507 173 2 3 261 513
def BE:=y8 f1 3 q2 266
def BD:=tq ["self","turn"] 519
abbrev y7 {α}:=nt (α:=α) "ask_for_room" "Sender.ask_for_room" (zi 10 18)
def Eg:=y7 f0
def BC:=y7 cf 516 181 2 3 268 521
def BB:=y7 f1 3 q2 273
def BA:=tq ["base","base_hurried","clock","edge","first_turns","gone_again","known_places","meter","ring","things","top","ways"] 524
def By(P:Pm):=zd #[zm P 367 q2,zl P 371 78 370,den P "__init__" 382 (.ref 154),den P "put" 390 (.ref 161),den P "many" 397 (.ref 168),den P "thing" 405 (.ref 175),den P "heard" 419 (.ref 182),den P "grow_base" 428 (.ref 189),den P "note_held" 434 (.ref 194),den P "newly_known" 440 (.ref 199),den P "known_above_base" 446 (.ref 204),den P "under_way" 453 (.ref 211),den P "thing_waits" 460 (.ref 218),den P "clock_is_out" 468 (.ref 225),den P "hurry_is_due" 475 (.ref 232),den P "new_may_go" 482 (.ref 239),den P "go" 490 (.ref 246),den P "set_clock" 498 (.ref 253),den P "go_again" 506 (.ref 260),den P "go_new" 515 (.ref 267),den P "ask_for_room" 523 (.ref 274),za P 536 275,den P "__dict__" 538 (.ref 278),den P "__weakref__" 540 (.ref 279),den P "__doc__" 541 .none] 4
def Bx:=zo "Sender" [.type "object"] [.ref 277] 276 [] none (q "Sender" 360) (q "Sender" 368)
def Bw:Ob:=⟨.type "getset_descriptor",none,.fields #[q "__dict__" 537,.ref 277,.builtin "function.__dict__",.builtin "function.__dict__#set"],#[]⟩
def Bv:Ob:=⟨.type "getset_descriptor",none,.fields #[q "__weakref__" 539,.ref 277,.builtin "ExceptionGroup.__weakref__",.none],#[]⟩
def Ef:Ob:=⟨.type "super",none,.fields #[.ref 277,.ref 277,.ref 277],#[]⟩
def Ee:Ob:=⟨.type "builtin_function_or_method",none,.fields #[.builtin "object.__init_subclass__",.ref 277],#[]⟩
def Bu(P:Pm):=zd #[den P "__name__" 165 q3,den P "__doc__" 166 .none,den P "__package__" 167 .none,den P "__loader__" 168 (.builtin "__main__.__loader__#opaque"),den P "__spec__" 169 .none,den P "__annotations__" 170 (.ref 6),den P "__builtins__" 171 (.ref 4),den P "__file__" 173 (q "/claim/cut.py" 172),den P "__cached__" 174 .none,den P "Meter" 257 (.ref 66),den P "ahead" 268 (.ref 77),den P "WAIT_LEAST" 272 (.int 2 271),den P "lowest" 281 (.ref 84),den P "Ways" 355 (.ref 136),den P "KNOWN_TO_HURRY" 359 (.int 2 358),den P "Sender" 543 (.ref 277),den P "_law_whole" 552 (.ref 288),den P "_law_cell_at" 560 (.ref 295),den P "_law_mixed" 570 (.ref 302),den P "_law_sender" 581 (.ref 309),den P "_law_number" 592 (.ref 316),den P "_law_stands" 605 (.ref 323),den P "_law_gone" 619 (.ref 330),den P "_law_heard" 625 (.ref 335),den P "law" 638 (.ref 342)] 25
def Ed:=zt [(2,0,20),(38,0,76),(42,0,83),(45,0,90),(78,0,146),(191,0,287),(193,0,294),(197,0,301),(204,0,308),(212,0,315),(221,0,322),(231,0,329),(249,0,334),(260,0,341)]
def Bt:=tq ["_law_found"] 549
abbrev y6 {α}:=nt (α:=α) "_law_whole" "_law_whole" (top 12)
def Ec:=y6 f0
def Bs:=y6 cf 546 191 1 3 282 550
def Br:=y6 f1 3 q3 287
def Bq:=tq ["_law_script","_law_k"] 556
abbrev y4 {α}:=nt (α:=α) "_law_cell_at" "_law_cell_at" (top 13)
def Eb:=y4 f0
def Bp:=y4 cf 553 193 2 3 289 558
def Bo:=y4 f1 3 q3 294
def Bn:=tq ["_law_cell","_law_k","_law_number_here","_law_step"] 564
abbrev y3 {α}:=nt (α:=α) "_law_mixed" "_law_mixed" (top 14)
def Ea:=y3 f0
def Bm:=y3 cf 561 197 2 3 296 568
def Bl:=y3 f1 3 q3 301
def Bk:=tq ["_law_script","_law_cell","_law_ring","_law_first","_law_longest"] 574
abbrev y2 {α}:=nt (α:=α) "_law_sender" "_law_sender" (top 15)
def D_:=y2 f0
def Bj:=y2 cf 571 204 1 3 303 579
def Bi:=y2 f1 3 q3 308
def Bh:=tq ["_law_cell","_law_base","_law_top","_law_ring","_law_way"] 585
abbrev y0 {α}:=nt (α:=α) "_law_number" "_law_number" (top 16)
def D9:=y0 f0
def Bg:=y0 cf 582 212 4 3 310 590
def Bf:=y0 f1 3 q3 315
def Be:=tq ["_law_sender_here","_law_now","_law_number_here","_law_base","_law_top","_law_edge","_law_many"] 596
abbrev yZ {α}:=nt (α:=α) "_law_stands" "_law_stands" (top 17)
def D8:=yZ f0
def Bc:=yZ cf 593 221 2 3 317 603
def Bb:=yZ f1 3 q3 322
def Ba:=tq ["_law_sender_here","_law_turn","_law_now","_law_base","_law_top","_law_edge","_law_many","_law_found"] 609
abbrev yY {α}:=nt (α:=α) "_law_gone" "_law_gone" (top 18)
def D7:=yY f0
def A_:=yY cf 606 231 3 3 324 617
def A9:=yY f1 3 q3 329
abbrev C5 {α}:=nt (α:=α) "_law_heard" "_law_heard" (top 19)
def D6:=C5 f0
def A8:=cd "_law_heard" 620 "_law_heard" 621 622 249 5 0 0 3 331 true 181 332 .none .none .none (.ref 333) 623 624
def A7:=C5 f1 3 q3 334
def A6:=tq ["_law_script","_law_ring","_law_sender_here","_law_now","_law_turn","_law_cell","_law_k"] 629
abbrev yX {α}:=nt (α:=α) "law" "law" (top 20)
def D5:=yX f0
def A5:=yX cf 626 260 1 3 336 636
def A4:=yX f1 3 q3 341
local macro_rules
 | `(#[0]) => `(List.nil)
 | `(#[0,$n:num,$x]) => `(List.cons (nat_lit $n, $x) List.nil)
 | `(#[0,$n:num,$x,$xs,*]) => `(List.cons (nat_lit $n, $x) #[0,$xs,*])
def vF:Params->Frag:=fun P=>#[0,2,boot_o_2 P,3,Bu P,22,aN,24,FT,25,aN,27,FR,28,FQ,29,aN,31,FP,32,aN,34,FO,35,FN,36,aN,38,FL,39,aN,41,FK,42,FJ,43,aN,45,FI,46,aN,48,FH,49,FG,50,aN,52,FF,53,aN,55,FE,56,FD,57,aN,59,FC,60,aN,62,FA,63,Fz,64,Fy,65,Fx P,66,Fw,67,Fv,68,Fu,71,aN,73,Ft,74,aN,76,Fs,77,Fq,78,aN,80,Fp,81,aN,83,Fo,84,Fn,92,aN,94,Fm,95,aN,97,C0,98,CZ,99,aN,101,CY,102,aN,104,CV,105,CU,106,aN,108,CT,109,aN,111,CQ,112,CP,113,aN,115,CO,116,aN,118,CN,119,CL,120,aN,122,CK,123,aN,125,CJ,126,CI,127,aN,129,CH,130,aN,132,CG,133,CF,134,CD,135,CC P,136,CB,137,CA,138,Cz,148,aN,150,Cy,151,aN,153,Cw,154,Cv,155,aN,157,Cu,158,aN,160,Ct,161,Cs,162,aN,164,Cr,165,aN,167,Cq,168,Cp,169,aN,171,Co,172,aN,174,Cn,175,Cm,176,aN,178,Ck,179,aN,181,Cj,182,Ci,183,aN,185,Cg,186,aN,188,Cf,189,Ce,190,aN,193,Cd,194,Cc,195,aN,198,Cb,199,Ca,200,aN,203,B_,204,B9,205,aN,207,B8,208,aN,210,B7,211,B6,212,aN,214,B5,215,aN,217,B4,218,B3,219,aN,221,BZ,222,aN,224,BY,225,BX,226,aN,228,BW,229,aN,231,BV,232,BU,233,aN,235,BS,236,aN,238,BR,239,BQ,240,aN,242,BP,243,aN,245,BO,246,BN,247,aN,249,BM,250,aN,252,BL,253,BK,254,aN,256,BJ,257,aN,259,BI,260,BH,261,aN,263,BG,264,aN,266,BF,267,BE,268,aN,270,BD,271,aN,273,BC,274,BB,275,BA,276,By P,277,Bx,278,Bw,279,Bv,282,aN,284,Bt,285,aN,287,Bs,288,Br,289,aN,291,Bq,292,aN,294,Bp,295,Bo,296,aN,298,Bn,299,aN,301,Bm,302,Bl,303,aN,305,Bk,306,aN,308,Bj,309,Bi,310,aN,312,Bh,313,aN,315,Bg,316,Bf,317,aN,319,Be,320,aN,322,Bc,323,Bb,324,aN,326,Ba,327,aN,329,A_,330,A9,331,aN,334,A8,335,A7,336,aN,338,A6,339,aN,341,A5,342,A4]
def gr:Program:={Challenge.pw_slowroad_k53_sender_never_falls with main:={Challenge.pw_slowroad_k53_sender_never_falls.main with body:=[top 1,top 3,top 5,top 6,top 7,top 9,top 10,top 12,top 13,top 14,top 15,top 16,top 17,top 18,top 19,top 20]}}
def iZ:List Addr:=[2,3,22,24,25,27,28,29,31,32,34,35,36,38,39,41,42,43,45,46,48,49,50,52,53,55,56,57,59,60,62,63,64,65,66,67,68,71,73,74,76,77,78,80,81,83,84,92,94,95,97,98,99,101,102,104,105,106,108,109,111,112,113,115,116,118,119,120,122,123,125,126,127,129,130,132,133,134,135,136,137,138,148,150,151,153,154,155,157,158,160,161,162,164,165,167,168,169,171,172,174,175,176,178,179,181,182,183,185,186,188,189,190,193,194,195,198,199,200,203,204,205,207,208,210,211,212,214,215,217,218,219,221,222,224,225,226,228,229,231,232,233,235,236,238,239,240,242,243,245,246,247,249,250,252,253,254,256,257,259,260,261,263,264,266,267,268,270,271,273,274,275,276,277,278,279,282,284,285,287,288,289,291,292,294,295,296,298,299,301,302,303,305,306,308,309,310,312,313,315,316,317,319,320,322,323,324,326,327,329,330,331,334,335,336,338,339,341,342]
def jJ: ∀P,iZ=(vF P).map (·.1):=fun _=>by kernel_rfl
def qO:Env:={scope:=pg.main.scope,locals:=mainNs,globals:=mainNs,cells:=[],code:=Value.ref 13,frame:=some 14}
def mh:List Stmt:=behindTheImports pg
def xU:Code:= .body mh qO
abbrev Dm:List Frame:=[topFrame (Pos.mk 0 0 0 0)]
abbrev hdn:Option Value:=Option.some (Value.ref 6)
def hpre:Params->Heap:=fun P=>⟨Array.mk [boot_o_0 P,boot_o_1 P,boot_o_2 P,boot_o_3 P,boot_o_4 P,boot_o_5 P,boot_o_6 P,boot_o_7 P,boot_o_8 P,boot_o_9 P,boot_o_10 P,aN,fq,FV,FU],Life.mk List.nil List.nil List.nil 0 List.nil List.nil Bool.false (List.toArray List.nil) List.nil 0 Bool.false Bool.false Bool.false 0 (List.cons 2000 (List.cons 10 (List.cons 10 List.nil))) Bool.false 0 Bool.true List.nil List.nil 0 Bool.false⟩
def zK (w:World) (os:OsState):topGo treeTable pg w 11 hdn 12 (⟨boot_heap w.params,Array.mk [],boot_drawn,boot_toks,os⟩:Shared) (topStub pg)=some ((⟨hpre w.params,Array.mk [],Drawn.mk 0 0 0 0,187,os⟩:Shared),⟨denote treeTable xU,xU,Pos.mk 0 0 0 0,Dm⟩):=by kernel_rfl
def o2 (P:Pm):BT:=up [boot_o_0 P,boot_o_1 P,boot_o_2 P,boot_o_3 P,boot_o_4 P,boot_o_5 P,boot_o_6 P,boot_o_7 P,boot_o_8 P,boot_o_9 P,boot_o_10 P,aN,fq,FV,FU] .nil 0
abbrev lif:Life:=Life.mk List.nil List.nil List.nil 0 List.nil List.nil Bool.false (List.toArray List.nil) List.nil 0 Bool.false Bool.false Bool.false 0 (List.cons 2000 (List.cons 10 (List.cons 10 List.nil))) Bool.false 0 Bool.true List.nil List.nil 0 Bool.false
abbrev sh (t:Pm->BT) (n k:Nat) (w:World) (os:OsState):SharedT:=SharedT.mk (t w.params) n lif (Array.mk []) (Drawn.mk 0 0 0 0) k os
def hgg (i j:Nat):List Stmt:=(mh.drop i).take j
abbrev sgr (w:World) (os:OsState) (n:Nat) (a:World->OsState->SharedT) (l:List Stmt) (p:Pos) (b:World->OsState->SharedT) (q:Pos):Prop:=segRunT treeTable pg w 11 hdn 1 n (a w os) (piecesOf l qO xU p Dm)=some (.next,b w os,xU,q)
abbrev mf:=sh o2 15 187
def zP (w:World) (os:OsState):segRun treeTable pg w 11 hdn 1 1 (⟨hpre w.params,Array.mk [],Drawn.mk 0 0 0 0,187,os⟩:Shared) (blockOf mh qO xU (Pos.mk 0 0 0 0) Dm)=some (.next,((mf w os)).abs,xU,Pos.mk 0 0 0 0):=by kernel_rfl
def xS (P:Pm):BT:=up [aN,Ex,Gv P,aN,Gu,Gs,Gr,aN,fq,FT,aN,Gq,FR,FQ,aN,fq,FP,aN,Gp,FO,FN,aN,fq,FL,aN,Gn,FK,FJ,aN,fq,FI,aN,Gm,FH,FG,aN,fq,FF,aN,Gj,FE,FD,aN,fq,FC,aN,Gi,FA,Fz,Fy,Fx P,Fw,Fv,Fu,Gh,Gg,aN,fq,Ft,aN,Gf,Fs,Fq,aN,fq,Fp,aN,Ge,Fo,Fn] (ch [(3,Gx P),(12,Gw)] (o2 P)) 15
abbrev xT:=sh xS 85 282
def FW:=hgg 0 7
def Dl (w os):sgr w os 481 mf FW (.mk 0 0 0 0) xT (.mk 42 0 44 44):=by unfold sgr;kernel_rfl
def uR (P:Pm):BT:=up [aN,Ex,Ga P,aN,F_,F9,F8,aN,fq,Fm,aN,ER,C0,CZ,aN,fq,CY,aN,EO,CV,CU,aN,fq,CT,aN,EN,CQ,CP,aN,fq,CO,aN,EM,CN,CL,aN,fq,CK,aN,EL,CJ,CI,aN,fq,CH,aN,EK,CG,CF,CD,CC P,CB,CA,Cz,EJ,EI] (ch [(3,Gd P),(12,Gb)] (xS P)) 85
abbrev uU:=sh uR 141 360
def Df:=hgg 7 3
def zN (w os):sgr w os 406 xT Df (.mk 42 0 44 44) uU (.mk 77 0 77 14):=by unfold sgr;kernel_rfl
def uQ (P:Pm):BT:=up [aN,Ex,EF P,aN,EE,ED,EC,aN,fq,Cy,aN,EB,Cw,Cv,aN,fq,Cu,aN,EA,Ct,Cs,aN,fq,Cr,aN,Ez,Cq,Cp,aN,fq,Co,aN,Ey,Cn,Cm,aN,fq,Ck,aN,Ew,Cj,Ci,aN,fq,Cg,aN,Eu,Cf,Ce,aN,fq,Et,Cd,Cc,aN,fq,Es,Cb,Ca,aN,fq,Er,B_,B9,aN,fq,B8,aN,Ep,B7,B6,aN,fq,B5,aN,Eo,B4,B3,aN,fq,BZ,aN,En,BY,BX,aN,fq,BW,aN,Em,BV,BU,aN,fq,BS,aN,El,BR,BQ,aN,fq,BP,aN,Ek,BO,BN,aN,fq,BM,aN,Ej,BL,BK,aN,fq,BJ,aN,Ei,BI,BH,aN,fq,BG,aN,Eh,BF,BE,aN,fq,BD,aN,Eg,BC,BB,BA,By P,Bx,Bw,Bv,Ef,Ee] (ch [(3,EH P),(12,EG)] (uR P)) 141
abbrev uT:=sh uQ 282 544
def De:=hgg 10 1
def zM (w os):sgr w os 804 uU De (.mk 77 0 77 14) uT (.mk 78 0 189 28):=by unfold sgr;kernel_rfl
def uP (P:Pm):BT:=up [aN,fq,Bt,aN,Ec,Bs,Br,aN,fq,Bq,aN,Eb,Bp,Bo,aN,fq,Bn,aN,Ea,Bm,Bl,aN,fq,Bk,aN,D_,Bj,Bi,aN,fq,Bh,aN,D9,Bg,Bf,aN,fq,Be,aN,D8,Bc,Bb,aN,fq,Ba,aN,D7,A_,A9,aN,fq,D6,A8,A7,aN,fq,A6,aN,D5,A5,A4] (ch [(3,Bu P),(12,Ed)] (uQ P)) 282
abbrev uS:=sh uP 343 639
def Dd:=hgg 11 10
def zL (w os):sgr w os 299 uT Dd (.mk 78 0 189 28) uS (.mk 260 0 282 15):=by unfold sgr;kernel_rfl
def hfin:Pm->Heap:=fun P=>⟨Array.mk ((uP P).list 343),Life.mk List.nil List.nil List.nil 0 List.nil List.nil Bool.false (List.toArray List.nil) List.nil 0 Bool.false Bool.false Bool.false 0 (List.cons 2000 (List.cons 10 (List.cons 10 List.nil))) Bool.false 0 Bool.true List.nil List.nil 0 Bool.false⟩
def zO (w:World) (os:OsState):topRun treeTable pg w 11 hdn 2 ((uS w os)).abs ⟨doneF .next,xU,Pos.mk 260 0 282 15,Dm⟩=some (⟨hfin w.params,Array.mk [],Drawn.mk 0 0 0 0,639,os⟩:Shared):=by kernel_rfl
def wY:mh=FW++(Df++(De++(Dd++([])))):=by kernel_rfl
def wW (w:World) (os:OsState):topRun treeTable pg w 11 hdn 1992 ((mf w os)).abs (restOf mh qO xU (Pos.mk 0 0 0 0) Dm)=some (⟨hfin w.params,Array.mk [],Drawn.mk 0 0 0 0,639,os⟩:Shared):=by
 rw [wY];exact (piece_app (segRun_of (Dl w os)) (piece_app (segRun_of (zN w os)) (piece_app (segRun_of (zM w os)) (piece_app (segRun_of (zL w os)) (piece_nil (zO w os))))))
def zJ (w:World) (os:OsState):topRun treeTable pg w 11 hdn 2005 (⟨boot_heap w.params,Array.mk [],boot_drawn,boot_toks,os⟩:Shared) (topStub pg)=some (⟨hfin w.params,Array.mk [],Drawn.mk 0 0 0 0,639,os⟩:Shared):=go_top (n:=12) (N:=1993) (zK w os) (piece_block (n:=1) (N:=1992) (zP w os) (wW w os))
def wX: ∀w:World,(fencedOpening treeTable pg w 4098).map (fun s=>(s.heap,s.gens,s.drawn,s.toks))=some (boot_heap w.params,Array.mk [],boot_drawn,boot_toks):=boot_open rfl (by decide) (fun s=>rfl)
def wV: ∀w:World,((boot_heap w.params).isNs mainGlobals&&(Array.mk []:Array GenState).size == 0,(boot_heap w.params).objs.size,(boot_heap w.params).nsMap mainGlobals "__annotations__")=(true,11,hdn):=fun w=>by kernel_rfl
def Dj (w:World) (os:OsState):(staticsOk (importedModules pg.main.body) (boot_heap w.params) (hfin w.params)&&namesBound pg (hfin w.params)&&gensDone (⟨hfin w.params,Array.mk [],Drawn.mk 0 0 0 0,639,os⟩:Shared)&&laidKept (boot_heap w.params) (hfin w.params))=true:=by kernel_rfl
def Di (w:World) (os:OsState):openSeen gr [] (importedModules pg.main.body) (fun s=>xlAt gr [] s&&recOk Challenge.rw_slowroad_k53_sender_never_falls.row.records s) true (⟨hfin w.params,Array.mk [],Drawn.mk 0 0 0 0,639,os⟩:Shared)=openGood gr []:=by kernel_rfl
def Dh (w:World) (os:OsState):(kHook vF iZ jJ).obs (⟨hfin w.params,Array.mk [],Drawn.mk 0 0 0 0,639,os⟩:Shared)=(kHook vF iZ jJ).val w:=by kernel_rfl
def Dk: ∀w:World,Option.map (fun s=>(openSeen gr [] (importedModules pg.main.body) (fun s=>xlAt gr [] s&&recOk Challenge.rw_slowroad_k53_sender_never_falls.row.records s) true s,(kHook vF iZ jJ).obs s)) (openEnds treeTable pg w 4098)=some (openGood gr [],(kHook vF iZ jJ).val w):=LeftO.of_pieces (H₀:=boot_heap) (H₁:=hfin) wX wV zJ (by decide) (fun w=>funext fun os=>looks_pair (Dj w os) (looks_pair (Di w os) (Dh w os)))
end
def dc (ae:Addr):Sp:=fun vs H Q E=>match vs with
 | [.ref p,.int m]=> ∃dx,H p=some (.ins ae dx [])/\Q .non (upd H p (.ins ae dx (aC (.int m) (.int (MeterM.mn 2 m)) (.int m) (.int 0))))
 |_=>False
def da (ae:Addr):Sp:=fun vs H Q E=>match vs with
 | [.ref p]=> ∃dx m w k c,H p=some (.ins ae dx (aC (.int m) (.int w) (.int k) (.int c)))/\Q .non (upd H p (.ins ae dx (aC (.int m) (.int (MeterM.k1 m k (w,c)).1) (.int k) (.int (MeterM.k1 m k (w,c)).2))))
 |_=>False
def eK (ae:Addr):Sp:=fun vs H Q E=>match vs with
 | [.ref p,.int n]=>(0<=n/\n<1000)/\∃dx m w k c,H p=some (.ins ae dx (aC (.int m) (.int w) (.int k) (.int c)))/\Q .non (upd H p (.ins ae dx (aC (.int m) (.int (MeterM.kn m k n.toNat (w,c)).1) (.int k) (.int (MeterM.kn m k n.toNat (w,c)).2))))
 |_=>False
def fA (ae:Addr):Sp:=fun vs H Q E=>match vs with
 | [.ref p]=> ∃dx m w k c,H p=some (.ins ae dx (aC (.int m) (.int w) (.int k) (.int c)))/\Q (.int (MeterM.hf w)) H
 |_=>False
def dC (ae:Addr):Sp:=fun vs H Q E=>match vs with
 | [.ref p]=> ∃dx m w k c,H p=some (.ins ae dx (aC (.int m) (.int w) (.int k) (.int c)))/\Q .non (upd H p (.ins ae dx (aC (.int m) (.int 1) (.int (MeterM.hf w)) (.int 0))))
 |_=>False
def dE (ae:Addr):Sp:=fun vs H Q E=>match vs with
 | [.ref p]=> ∃dx m w k c,H p=some (.ins ae dx (aC (.int m) (.int w) (.int k) (.int c)))/\Q .non (upd H p (.ins ae dx (aC (.int m) (.int (MeterM.hf w)) (.int (MeterM.hf w)) (.int 0))))
 |_=>False
structure Wb (a A b B m:Int):Prop where
 m0:0<=m
 m1:m<=1000000
 a0:0<=a
 A0:0<A
 b0:0<=b
 B0:0<B
 a1:Bd 1000 a
 A1:Bd 1000 A
 b1:Bd 1000 b
 B1:Bd 1000 B
def nT (ai:Addr) (H:Hp) (p dx:Addr) (L w a A b B:Int):Prop:= ∃ps pp,H p=some (.ins ai dx (aM (.int L) (.ref ps) (.ref pp) (.int w)))/\H ps=some (.tup [.int a,.int A])/\H pp=some (.tup [.int b,.int B])
noncomputable abbrev nsp:=WaysM.nsp
noncomputable abbrev nsm:=WaysM.nsm
noncomputable def lw (a A b B:Int):Int:=-(-(a*B+4*b*A) / (A*B))
noncomputable def wt (L a A b B:Int):Int:=if 2<(if lw a A b B<L then lw a A b B else L) then (if lw a A b B<L then lw a A b B else L) else 2
def Wb.mB {a A b B m:Int} (W:Wb a A b B m):Bd 20 m:=Bd.of W.m0 (by have:=W.m1;lia)
def Wb.C2 {a A b B m:Int} (W:Wb a A b B m):0<=3*a+m*A/\0<4*A:=by
 have:=Int.mul_nonneg W.m0 (Int.le_of_lt W.A0);have:=W.a0;have:=W.A0;lia
def Wb.C1 {a A b B m:Int} (W:Wb a A b B m):0<=3*b*A+((a - m*A).natAbs:Int)*B/\0<4*(A*B):=by
 have p1:=Int.mul_pos W.A0 W.B0;have:=Int.mul_nonneg (Int.mul_nonneg (show (0:Int)<=3 by decide) W.b0) (Int.le_of_lt W.A0);have:=Int.mul_nonneg (Int.natCast_nonneg (a - m*A).natAbs) (Int.le_of_lt W.B0);lia
def Wb.ET {a A b B m:Int} (W:Wb a A b B m):0<=(nsm a A m).1/\0<(nsm a A m).2/\Bd 2000 (nsm a A m).1/\Bd 2000 (nsm a A m).2:=by
 obtain ⟨s,Lo⟩:=WaysM.fU W.C2.1 W.C2.2;have h1:Bd 1021 (3*a+m*A):=(((Bd.c (n:=2) (k:=3) (by decide)).mul W.a1).up (show 2+1000<=1020 by decide)).add (W.mB.mul W.A1);exact ⟨Lo.t0,Lo.b0,(h1.le Lo.t0 Lo.tl).up (by decide),(Bd.le ((Bd.c (n:=3) (k:=4) (by decide)).mul W.A1) (Int.le_of_lt Lo.b0) Lo.bl).up (by decide)⟩
def Wb.ES {a A b B m:Int} (W:Wb a A b B m):0<=(nsp a A b B m).1/\0<(nsp a A b B m).2/\Bd 3000 (nsp a A b B m).1/\Bd 3000 (nsp a A b B m).2:=by
 obtain ⟨s,Lo⟩:=WaysM.fU W.C1.1 W.C1.2;have d:=((W.a1.up (show 1000<=1020 by decide)).sub (W.mB.mul W.A1)).abs;have h1:Bd 2022 (3*b*A+((a - m*A).natAbs:Int)*B):=((((Bd.c (n:=2) (k:=3) (by decide)).mul W.b1).mul W.A1).up (show 2+1000+1000<=2021 by decide)).add (d.mul W.B1);exact ⟨Lo.t0,Lo.b0,(h1.le Lo.t0 Lo.tl).up (by decide),(Bd.le ((Bd.c (n:=3) (k:=4) (by decide)).mul (W.A1.mul W.B1)) (Int.le_of_lt Lo.b0) Lo.bl).up (by decide)⟩
def Wb.of {n:Nat} {P S D a A b B m:Int} (h:WaysM.St n P S D a A b B) (hn:n<=200) (h0:0<=m) (h1:m<=1000000):Wb a A b B m:=by
 have e:(4:Int) ^ n=((2 ^ (2*n):Nat):Int):=by rw [WaysM.jM];simp
 have hP:Bd 401 P:=by rw [h.p,e];exact Bd.c (Nat.pow_lt_pow_right (by decide) (by lia))
 have P0:=Int.le_of_lt h.P0;have hS:Bd 421 S:=Bd.le ((Bd.c (n:=20) (k:=1000000) (by decide)).mul hP) h.s0 h.s1;have hD:Bd 422 D:=Bd.le ((Bd.c (n:=21) (k:=2000000) (by decide)).mul hP) h.d0 h.d1;exact ⟨h0,h1,h.a0,h.A0,h.b0,h.B0,(hS.le h.a0 h.a1).up (by decide),(hP.le (Int.le_of_lt h.A0) h.A1).up (by decide),(hD.le h.b0 h.b1).up (by decide),(Bd.le ((Bd.c (n:=2) (k:=2) (by decide)).mul hP) (Int.le_of_lt h.B0) h.B1).up (by decide)⟩
def jZ:Sp:=fun vs H Q E=>match vs with
 | [.int t,.int b]=>(0<=t/\0<b/\Bd 8000 b)/\∀p,H p=none->Q (.ref p) (upd H p (.tup [.int (WaysM.low t b).1,.int (WaysM.low t b).2]))
 |_=>False
def dA (ai:Addr):Sp:=fun vs H Q E=>match vs with
 | [.ref p,.int f,.int l]=> ∃dx,H p=some (.ins ai dx [])/\Q .non (upd H p (.ins ai dx (aM (.int l) .non .non (.int f))))
 |_=>False
def cF (ai:Addr):Sp:=fun vs H Q E=>match vs with
 | [.ref p,.int m]=> ∃dx L w a A b B,Wb a A b B m/\nT ai H p dx L w a A b B/\∀q,H q=none->Q (.ref q) (upd H q (.tup [.int (nsp a A b B m).1,.int (nsp a A b B m).2]))
 |_=>False
def cG (ai:Addr):Sp:=fun vs H Q E=>match vs with
 | [.ref p,.int m]=> ∃dx L s ps w a A,(0<=m/\m<=1000000/\0<=a/\0<A/\Bd 1000 A)/\H p=some (.ins ai dx (aM (.int L) (.ref ps) s (.int w)))/\H ps=some (.tup [.int a,.int A])/\∀q,H q=none->Q (.ref q) (upd H q (.tup [.int (nsm a A m).1,.int (nsm a A m).2]))
 |_=>False
def cP (ai:Addr):Sp:=fun vs H Q E=>match vs with
 | [.ref p]=> ∃dx L w a A b B,(0<A/\0<B/\Bd 2000 a/\Bd 2000 A/\Bd 3000 b/\Bd 3000 B)/\nT ai H p dx L w a A b B/\Q (.int (lw a A b B)) H
 |_=>False
def cz (ai:Addr):Sp:=fun vs H Q E=>match vs with
 | [.ref p,.int m]=>(0<=m/\m<=1000000)/\((∃dx L w,H p=some (.ins ai dx (aM (.int L) .non .non (.int w)))/\∀H',gP p H H'->nT ai H' p dx L (wt L m 1 (WaysM.low m 2).1 (WaysM.low m 2).2) m 1 (WaysM.low m 2).1 (WaysM.low m 2).2->Q .non H')\/(∃dx L w a A b B,Wb a A b B m/\nT ai H p dx L w a A b B/\∀H',gP p H H'->nT ai H' p dx L (wt L (nsm a A m).1 (nsm a A m).2 (nsp a A b B m).1 (nsp a A b B m).2) (nsm a A m).1 (nsm a A m).2 (nsp a A b B m).1 (nsp a A b B m).2->Q .non H'))
 |_=>False
def d4 (ai:Addr):Sp:=fun vs H Q E=>match vs with
 | [.ref p]=> ∃dx L s sp w,H p=some (.ins ai dx (aM (.int L) s sp (.int w)))/\Q .non (upd H p (.ins ai dx (aM (.int L) s sp (.int (if L<2*w then L else 2*w)))))
 |_=>False
def fw:Sp:=fun vs H Q E=>match vs with
 | [.int _]=>Q (.bl true) H
 |_=>False
def d3 (K:W.Frag) (a₀:Addr) (ns:List Int):Sp:=fun vs H Q E=>match vs with
 | [.ref a,.int k]=>a=a₀/\cD K H a₀ (ns.map V.int)/\0<=k/\∀n,Q (.int n) H
 |_=>False
def lP:Sp:=fun vs H Q E=>match vs with
 | [.int r,.int a,.int b]=>0<r/\Q (.int ((b - a) % r)) H
 |_=>False
noncomputable abbrev Wg:=Option (Int×Int×Int×Int)
def WS (C:Addr) (H:Hp) (p dx:Addr) (L w:Int) (g:Wg) (k:Nat):Prop:=2<=L/\(2<=w/\w<=L)/\((k=0/\g=none/\H p=some (.ins C dx (aM (V.int L) V.non V.non (V.int w))))\/∃n P S D a A b B,g=some (a,A,b,B)/\n+1=k/\WaysM.St n P S D a A b B/\nT C H p dx L w a A b B)
noncomputable def mgs (g:Wg) (m:Int):Wg:=match g with
 |none=>some (m,1,(WaysM.low m 2).1,(WaysM.low m 2).2)
 |some (a,A,b,B)=>some ((nsm a A m).1,(nsm a A m).2,(nsp a A b B m).1,(nsp a A b B m).2)
noncomputable def mws (L:Int) (g:Wg):Int:=match g with
 |none=>2
 |some (a,A,b,B)=>wt L a A b B
def xr {L a A b B:Int} (h:2<=L):2<=wt L a A b B/\wt L a A b B<=L:=by
 unfold wt;generalize lw a A b B=x
 (repeat' split)<;>lia
def WS.meas {C p dx:Addr} {H:Hp} {L w m:Int} {g:Wg} {k:Nat} {Q:VK} {E:XK} (h:WS C H p dx L w g k) (hk:k<=200) (m0:0<=m) (m1:m<=1000000) (q: ∀H',gP p H H'->WS C H' p dx L (mws L (mgs g m)) (mgs g m) (k+1)->Q .non H'):cz C [.ref p,.int m] H Q E:=by
 obtain ⟨hL,hw,⟨h1,rfl,hi⟩|⟨n,P,S,D,a,A,b,B,rfl,h1,hS,hA⟩⟩:=h
 ·exact ⟨⟨m0,m1⟩,.inl ⟨dx,L,w,hi,fun H' hB hW=>q H' hB ⟨hL,xr hL,.inr ⟨0,_,_,_,_,_,_,_,rfl,by lia,WaysM.St.first m0 m1,hW⟩⟩⟩⟩
 ·exact ⟨⟨m0,m1⟩,.inr ⟨dx,L,w,a,A,b,B,Wb.of hS (by lia) m0 m1,hA,fun H' hB hW=>q H' hB ⟨hL,xr hL,.inr ⟨n+1,_,_,_,_,_,_,_,rfl,by lia,hS.step m0 m1,hW⟩⟩⟩⟩
def WS.ins {C p dx:Addr} {H:Hp} {L w:Int} {g:Wg} {k:Nat} (h:WS C H p dx L w g k): ∃s sp,H p=some (.ins C dx (aM (V.int L) s sp (V.int w))):=by
 obtain ⟨_,_,⟨_,_,hi⟩|⟨n,P,S,D,a,A,b,B,_,_,_,⟨ps,pp,g1,_⟩⟩⟩:=h
 ·exact ⟨_,_,hi⟩
 ·exact ⟨_,_,g1⟩
def WS.keep {C p dx:Addr} {H H':Hp} {L w:Int} {g:Wg} {k:Nat} (h:WS C H p dx L w g k) (hp: ∀o,H p=some o->H' p=some o) (ht: ∀t l,H t=some (.tup l)->H' t=some (.tup l)):WS C H' p dx L w g k:=by
 obtain ⟨h0,h1,⟨a1,a2,a3⟩|⟨n,P,S,D,a,A,b,B,b0,b1,b2,⟨ps,pp,g1,g2,g3⟩⟩⟩:=h
 ·exact ⟨h0,h1,.inl ⟨a1,a2,hp _ a3⟩⟩
 ·exact ⟨h0,h1,.inr ⟨n,P,S,D,a,A,b,B,b0,b1,b2,⟨ps,pp,hp _ g1,ht _ _ g2,ht _ _ g3⟩⟩⟩
def MS (C:Addr) (H:Hp) (p dx:Addr) (mo wi kn co:Int):Prop:=H p=some (.ins C dx (aC (.int mo) (.int wi) (.int kn) (.int co)))/\MeterM.An mo (wi,co)
structure Ad where
 dx:Addr
 pw:Addr
 pm:Addr
 pt:Addr
 pk:Addr
 pf:Addr
 pa:Addr
 dw:Addr
 dm:Addr
structure Sd where
 R:Int
 b:Int
 t:Int
 e:Int
 clk:V
 hur:Bool
 T:List V
 Kn:List (Key×V)
 Fi:List (Key×V)
 Ag:List (Key×V)
 L:Int
 w:Int
 k:Nat
 wi:Int
 g:Wg
 mo:Int
 kn:Int
 co:Int
structure aT (CS CW CM:Addr) (H:Hp) (x:Addr) (A:Ad) (z:Sd):Prop where
 hx:H x=some (.ins CS A.dx (ax (.int z.R) (.ref A.pw) (.ref A.pm) (.ref A.pt) (.int z.b) (.int z.t) (.int z.e) z.clk (.bl z.hur) (.ref A.pk) (.ref A.pf) (.ref A.pa)))
 ht:H A.pt=some (.lst z.T)
 hk:H A.pk=some (.dK z.Kn)
 hf:H A.pf=some (.dK z.Fi)
 ha:H A.pa=some (.dK z.Ag)
 ws:WS CW H A.pw A.dw z.L z.w z.g z.k
 ms:MS CM H A.pm A.dm z.mo z.wi z.kn z.co
 kf:A.pk≠A.pf
 ka:A.pk≠A.pa
 fa:A.pf≠A.pa
 xw:x≠A.pw
 xm:x≠A.pm
 wm:A.pw≠A.pm
def aT.same {CS CW CM x:Addr} {H H':Hp} {A:Ad} {z:Sd} (h:aT CS CW CM H x A z) (e:eo H H'):aT CS CW CM H' x A z:=by
 obtain ⟨e1,hi⟩:=h.ms;exact ⟨e _ _ h.hx,e _ _ h.ht,e _ _ h.hk,e _ _ h.hf,e _ _ h.ha,h.ws.keep (fun o q=>e _ _ q) (fun t l q=>e _ _ q),⟨e _ _ e1,hi⟩,h.kf,h.ka,h.fa,h.xw,h.xm,h.wm⟩
def aT.put {CS CW CM x:Addr} {H:Hp} {A:Ad} {z:Sd} (h:aT CS CW CM H x A z) (b t e:Int) (c:V) (u:Bool):aT CS CW CM (upd H x (.ins CS A.dx (ax (.int z.R) (.ref A.pw) (.ref A.pm) (.ref A.pt) (.int b) (.int t) (.int e) c (.bl u) (.ref A.pk) (.ref A.pf) (.ref A.pa)))) x A {z with b:=b,t:=t,e:=e,clk:=c,hur:=u}:=by
 obtain ⟨e1,hi⟩:=h.ms;refine ⟨au,by rw [aj (a_ h.ht h.hx (by simp))];exact h.ht,by rw [aj (a_ h.hk h.hx (by simp))];exact h.hk,by rw [aj (a_ h.hf h.hx (by simp))];exact h.hf,by rw [aj (a_ h.ha h.hx (by simp))];exact h.ha,
  h.ws.keep (fun o q=>by rw [aj h.xw.symm];exact q) (fun t l q=>by rw [aj (a_ q h.hx (by simp))];exact q),⟨by rw [aj h.xm.symm];exact e1,hi⟩,h.kf,h.ka,h.fa,h.xw,h.xm,h.wm⟩
def aT.row {CS CW CM x q:Addr} {H:Hp} {A:Ad} {z:Sd} {o u:HO} (h:aT CS CW CM H x A z) (hq:H q=some o) (T:List V) (Kn Fi:List (Key×V)) (n1: ∀C d l,o≠ .ins C d l) (n2: ∀l,o≠ .tup l)
  (g1:upd H q u A.pt=some (.lst T)) (g2:upd H q u A.pk=some (.dK Kn)) (g3:upd H q u A.pf=some (.dK Fi)) (g4:q≠A.pa):aT CS CW CM (upd H q u) x A {z with T:=T,Kn:=Kn,Fi:=Fi}:=by
 obtain ⟨e1,hi⟩:=h.ms;have ni: ∀p C d l,H p=some (.ins C d l)->p≠q:=fun p C d l e c=>by rw [c,hq] at e;cases e;exact n1 _ _ _ rfl
 obtain ⟨s,sp,ew⟩:=h.ws.ins;exact ⟨by rw [aj (ni _ _ _ _ h.hx)];exact h.hx,g1,g2,g3,by rw [aj g4.symm];exact h.ha,h.ws.keep (fun o' e=>by rw [aj (ni _ _ _ _ ew)];exact e) (fun t l e=>by rw [aj (fun c=>by rw [c,hq] at e;cases e;exact n2 _ rfl)];exact e),⟨by rw [aj (ni _ _ _ _ e1)];exact e1,hi⟩,h.kf,h.ka,h.fa,h.xw,h.xm,h.wm⟩
def kK (x:Addr) (A:Ad) (H H':Hp):Prop:= ∀b u,H b=some u->b≠x->b≠A.pw->b≠A.pm->b≠A.pt->b≠A.pk->b≠A.pf->H' b=some u
def kK.of {x:Addr} {A:Ad} {H H':Hp} (h:eo H H'):kK x A H H':=fun b u e _ _ _ _ _ _=>h b u e
def kK.trans {x:Addr} {A:Ad} {H H' H'':Hp} (h:kK x A H H') (h':kK x A H' H''):kK x A H H'':=fun b u e a1 a2 a3 a4 a5 a6=>h' b u (h b u e a1 a2 a3 a4 a5 a6) a1 a2 a3 a4 a5 a6
def aT.nw {CS CW CM x:Addr} {H:Hp} {A:Ad} {z:Sd} (h:aT CS CW CM H x A z) {b:Addr} {o:HO} (e:H b=some o) (n: ∀C d l,o≠ .ins C d l):b≠x/\b≠A.pw/\b≠A.pm:=by
 obtain ⟨s,sp,ew⟩:=h.ws.ins;obtain ⟨em,_⟩:=h.ms;exact ⟨a_ e h.hx (n _ _ _),a_ e ew (n _ _ _),a_ e em (n _ _ _)⟩
def aT.ways {CS CW CM x:Addr} {H H':Hp} {A:Ad} {z:Sd} {w:Int} {g:Wg} {k:Nat} (h:aT CS CW CM H x A z) (hB:gP A.pw H H') (hw:WS CW H' A.pw A.dw z.L w g k):aT CS CW CM H' x A {z with w:=w,g:=g,k:=k}:=by
 obtain ⟨em,hi⟩:=h.ms;exact ⟨hB _ _ h.hx h.xw,hB _ _ h.ht (h.nw h.ht (by simp)).2.1,hB _ _ h.hk (h.nw h.hk (by simp)).2.1,hB _ _ h.hf (h.nw h.hf (by simp)).2.1,hB _ _ h.ha (h.nw h.ha (by simp)).2.1,hw,⟨hB _ _ em h.wm.symm,hi⟩,h.kf,h.ka,h.fa,h.xw,h.xm,h.wm⟩
def aT.meter {CS CW CM x:Addr} {H H':Hp} {A:Ad} {z:Sd} {wi kn co:Int} (h:aT CS CW CM H x A z) (hB:gP A.pm H H') (hm:MS CM H' A.pm A.dm z.mo wi kn co):aT CS CW CM H' x A {z with wi:=wi,kn:=kn,co:=co}:=by
 obtain ⟨em,hi⟩:=h.ms;exact ⟨hB _ _ h.hx h.xm,hB _ _ h.ht (h.nw h.ht (by simp)).2.2,hB _ _ h.hk (h.nw h.hk (by simp)).2.2,hB _ _ h.hf (h.nw h.hf (by simp)).2.2,hB _ _ h.ha (h.nw h.ha (by simp)).2.2,h.ws.keep (fun o e=>hB _ _ e h.wm) (fun t l e=>hB _ _ e (a_ e em (by simp))),hm,h.kf,h.ka,h.fa,h.xw,h.xm,h.wm⟩
def kK.tup {CS CW CM x t:Addr} {H H':Hp} {A:Ad} {z:Sd} {l:List V} (f:kK x A H H') (h:aT CS CW CM H x A z) (e:H t=some (.tup l)):H' t=some (.tup l):=by
 obtain ⟨a1,a2,a3⟩:=h.nw e (by simp);exact f t _ e a1 a2 a3 (a_ e h.ht (by simp)) (a_ e h.hk (by simp)) (a_ e h.hf (by simp))
def kK.lst {CS CW CM x t:Addr} {H H':Hp} {A:Ad} {z:Sd} {l:List V} (f:kK x A H H') (h:aT CS CW CM H x A z) (e:H t=some (.lst l)) (n:t≠A.pt):H' t=some (.lst l):=by
 obtain ⟨a1,a2,a3⟩:=h.nw e (by simp);exact f t _ e a1 a2 a3 n (a_ e h.hk (by simp)) (a_ e h.hf (by simp))
def kK.none {CS CW CM x p:Addr} {H H':Hp} {A:Ad} {z:Sd} (f:kK x A H H') (h:aT CS CW CM H' x A z) (e:H' p=none):H p=none:=by
 obtain ⟨s,sp,ew⟩:=h.ws.ins;obtain ⟨em,_⟩:=h.ms;cases q:H p with
 |none=>rfl
 |some u=>
  have nn: ∀{b:Addr} {o:HO},H' b=some o->p≠b:=fun {b o} eb c=>by rw [c,eb] at e;cases e
  rw [f p u q (nn h.hx) (nn ew) (nn em) (nn h.ht) (nn h.hk) (nn h.hf)] at e;cases e
def w6 {H H':Hp} (e:eo H H') {p:Addr} (h:H' p=none):H p=none:=by
 cases q:H p with
 |none=>rfl
 |some o=>rw [e _ _ q] at h;cases h
def Am {α:Type} {xs:List α} {i:Int} (h0:0<=i) (h1:i<xs.length): ∃v,i4 xs i=some v:=by
 obtain ⟨j,rfl⟩: ∃j:Nat,i=(j:Int):=⟨i.toNat,by lia⟩;exact ⟨xs[j]'(by lia),mL (List.getElem?_eq_getElem (by lia))⟩
noncomputable def knw (D:List (Key×V)) (j:Int):Bool:=(bT D (ik j)).isSome
noncomputable def kab (z:Sd):Nat:=((List.range (z.t - (z.b+1)).toNat).filter fun j:Nat=>knw z.Kn (z.b+1+(j:Int))).length
def p8 {z:Sd}:kab z<=(z.t - (z.b+1)).toNat:=by
 unfold kab;exact Nat.le_trans (List.length_filter_le _ _) (by rw [List.length_range];exact Nat.le_refl _)
def wJ {z:Sd} {N:Nat} (h:N=(z.t - (z.b+1)).toNat):(List.map (fun v=>v) (List.filter (fun v=>match v with|V.int i=>knw z.Kn i|_=>false) (fT (z.b+1) N))).length=kab z:=by
 subst h;unfold fT kab;rw [List.map_id',List.filter_map,List.length_map];rfl
noncomputable def putAll (D:List (Key×V)) (ps:List Int):List (Key×V):=ps.foldl (fun D n=>putK D (ik n) (.bl true)) D
noncomputable def frs (D:List (Key×V)) (ps:List Int):List Int:=ps.filter fun n=>!knw D n
def zR {D:List (Key×V)} {ps:List Int}:List.map (fun v=>v) (List.filter (fun v=>match v with|V.int i=>!knw D i|_=>false) (ps.map V.int))=(frs D ps).map V.int:=by
 unfold frs;rw [List.map_id',List.filter_map];rfl
def gm {D:List (Key×V)} {ps:List Int}:(putAll D ps).length<=D.length+ps.length:=by
 induction ps generalizing D with
 |nil=>exact Nat.le_refl _
 |cons a t ih=>
  have h1:=ih (D:=putK D (ik a) (.bl true));have h2:=dS D (ik a) (.bl true);show (putAll (putK D (ik a) (.bl true)) t).length<=_;simp only [List.length_cons];lia
def putAll_snoc {D:List (Key×V)} {ps:List Int} {n:Int}:putAll D (ps++ [n])=putK (putAll D ps) (ik n) (.bl true):=by
 unfold putAll;rw [List.foldl_append];rfl
noncomputable def irg (b:Int) (n:Nat):List Int:=(List.range n).map fun j:Nat=>b+(j:Int)
def uO {b:Int} {n:Nat}:fT b n=(irg b n).map V.int:=by
 unfold fT irg;rw [List.map_map];rfl
noncomputable def hld (z:Sd) (hs:List Int):List Int:=(hs.filter fun h=>decide (z.b+h<z.t)).map fun h=>z.b+h
def zI {z:Sd} {hs:List Int}:List.map (fun v=>match v with|V.int i=>V.int (z.b+i)|v=>v) (List.filter (fun v=>match v with|V.int i=>decide (z.b+i<z.t)|_=>false) (hs.map V.int))=(hld z hs).map V.int:=by
 unfold hld;rw [List.filter_map,List.map_map,List.map_map];rfl
def ot {z:Sd} {hs:List Int}:(hld z hs).length<=hs.length:=by
 unfold hld;rw [List.length_map];exact List.length_filter_le _ _
def lM (x:Addr) (A:Ad) (H H':Hp):Prop:= ∀b u,H b=some u->b≠x->b≠A.pw->b≠A.pm->b≠A.pt->b≠A.pk->b≠A.pf->b≠A.pa->H' b=some u
def kK.seven {x:Addr} {A:Ad} {H H':Hp} (h:kK x A H H'):lM x A H H':=fun b u e a1 a2 a3 a4 a5 a6 _=>h b u e a1 a2 a3 a4 a5 a6
def lM.trans {x:Addr} {A:Ad} {H H' H'':Hp} (h:lM x A H H') (h':lM x A H' H''):lM x A H H'':=fun b u e a1 a2 a3 a4 a5 a6 a7=>h' b u (h b u e a1 a2 a3 a4 a5 a6 a7) a1 a2 a3 a4 a5 a6 a7
def aT.DZ {CS CW CM x:Addr} {H:Hp} {A:Ad} {z:Sd} (h:aT CS CW CM H x A z) (Ag:List (Key×V)):aT CS CW CM (upd H A.pa (.dK Ag)) x A {z with Ag:=Ag}:=by
 obtain ⟨e1,hi⟩:=h.ms;have ni: ∀{p C d:Addr} {l:List (Str×V)},H p=some (.ins C d l)->p≠A.pa:=fun e=>a_ e h.ha (by simp);obtain ⟨s,sp,ew⟩:=h.ws.ins;exact ⟨by rw [aj (ni h.hx)];exact h.hx,by rw [aj (a_ h.ht h.ha (by simp))];exact h.ht,by rw [aj h.ka];exact h.hk,by rw [aj h.fa];exact h.hf,au,h.ws.keep (fun o' e=>by rw [aj (ni ew)];exact e) (fun t l e=>by rw [aj (a_ e h.ha (by simp))];exact e),⟨by rw [aj (ni e1)];exact e1,hi⟩,h.kf,h.ka,h.fa,h.xw,h.xm,h.wm⟩
def lM.none {CS CW CM x p:Addr} {H H':Hp} {A:Ad} {z:Sd} (f:lM x A H H') (h:aT CS CW CM H' x A z) (e:H' p=none):H p=none:=by
 obtain ⟨s,sp,ew⟩:=h.ws.ins;obtain ⟨em,_⟩:=h.ms;cases q:H p with
 |none=>rfl
 |some u=>
  have nn: ∀{b:Addr} {o:HO},H' b=some o->p≠b:=fun {b o} eb c=>by rw [c,eb] at e;cases e
  rw [f p u q (nn h.hx) (nn ew) (nn em) (nn h.ht) (nn h.hk) (nn h.hf) (nn h.ha)] at e;cases e
def F2 (c:V) (n:Int) (r:Bool):Prop:=(c = .non/\r=false)\/∃i,c = .int i/\r=decide (i<=n)
structure Bz (z:Sd):Prop where
 b0:0<=z.b
 bt:z.b<=z.t
 t1:z.t<=900
def fz (aa ai ae:Addr):Sp:=fun vs H Q E=>match vs with
 | [.ref x,th]=> ∃A z,aT aa ai ae H x A z/\z.T.length<1000/\∀H',gP A.pt H H'->aT aa ai ae H' x A {z with T:=z.T++ [th]}->Q .non H'
 |_=>False
def eJ (aa ai ae:Addr):Sp:=fun vs H Q E=>match vs with
 | [.ref x]=> ∃A z,aT aa ai ae H x A z/\Q (.int z.T.length) H
 |_=>False
def kQ (aa ai ae:Addr):Sp:=fun vs H Q E=>match vs with
 | [.ref x,.int p]=> ∃A z v,aT aa ai ae H x A z/\i4 z.T p=some v/\Q v H
 |_=>False
def bx (aa ai ae:Addr):Sp:=fun vs H Q E=>match vs with
 | [.ref x]=> ∃A z,aT aa ai ae H x A z/\Bz z/\∀H',eo H H'->Q (.int (kab z)) H'
 |_=>False
def cH (aa ai ae:Addr):Sp:=fun vs H Q E=>match vs with
 | [.ref x]=> ∃A z,aT aa ai ae H x A z/\Bz z/\∀H',eo H H'->Q (.int (z.t - z.b - kab z)) H'
 |_=>False
def bV (aa ai ae:Addr):Sp:=fun vs H Q E=>match vs with
 | [.ref x]=> ∃A z,aT aa ai ae H x A z/\Q (.bl (decide (z.t<z.T.length))) H
 |_=>False
def bP (aa ai ae:Addr):Sp:=fun vs H Q E=>match vs with
 | [.ref x]=> ∃A z,aT aa ai ae H x A z/\Bz z/\∀H',eo H H'->Q (.bl (decide (z.b<z.t) && !z.hur&&decide ((2:Int)<=kab z))) H'
 |_=>False
def cn (aa ai ae:Addr):Sp:=fun vs H Q E=>match vs with
 | [.ref x]=> ∃A z,aT aa ai ae H x A z/\Bz z/\∀H',eo H H'->Q (.bl (decide (z.t<z.T.length)&&decide (z.t<z.e)&&decide (z.t - z.b - kab z<z.wi))) H'
 |_=>False
def bW (aa ai ae:Addr):Sp:=fun vs H Q E=>match vs with
 | [.ref x,.ref l]=> ∃A z,∃ps:List Int,aT aa ai ae H x A z/\H l=some (.lst (ps.map V.int))/\z.Kn.length<1000000/\ps.length<=1000/\∀p H',H p=none->kK x A H H'->aT aa ai ae H' x A {z with Kn:=putAll z.Kn (frs z.Kn ps)}->H' p=some (.lst ((frs z.Kn ps).map V.int))->Q (.ref p) H'
 |_=>False
def cI (aa ai ae:Addr):Sp:=fun vs H Q E=>match vs with
 | [.ref x,.int n]=> ∃A z,aT aa ai ae H x A z/\∀H',gP x H H'->aT aa ai ae H' x A {z with clk:= .int (n+z.w)}->Q .non H'
 |_=>False
def cK (aa ai ae:Addr):Sp:=fun vs H Q E=>match vs with
 | [.ref x,.int st]=> ∃A z,aT aa ai ae H x A z/\Bz z/\(0<=st/\st<=z.t - z.b)/\z.Kn.length<1000000/\∀fs p H',fs=frs z.Kn (irg z.b st.toNat)->H p=none->kK x A H H'->aT aa ai ae H' x A {z with b:=z.b+st,Kn:=putAll z.Kn fs}->H' p=some (.lst (fs.map V.int))->Q (.ref p) H'
 |_=>False
def cJ (aa ai ae:Addr):Sp:=fun vs H Q E=>match vs with
 | [.ref x,.ref t]=> ∃A z,∃hs:List Int,aT aa ai ae H x A z/\H t=some (.tup (hs.map V.int))/\hs.length<=1000/\z.Kn.length<1000000/\∀fs p H',fs=frs z.Kn (hld z hs)->H p=none->kK x A H H'->aT aa ai ae H' x A {z with Kn:=putAll z.Kn fs}->H' p=some (.lst (fs.map V.int))->Q (.ref p) H'
 |_=>False
def cQ (aa ai ae:Addr):Sp:=fun vs H Q E=>match vs with
 | [.ref x,.int n]=> ∃A z,aT aa ai ae H x A z/\z.Ag.length<1000000/\∀p H',H p=none->lM x A H H'->aT aa ai ae H' x A {z with clk:= .int (n+z.w),hur:=true,Ag:=putK z.Ag (ik z.b) (.bl true)}->H' p=some (.tup [.str "again",.int z.b])->Q (.ref p) H'
 |_=>False
def bQ (aa ai ae:Addr):Sp:=fun vs H Q E=>match vs with
 | [.ref x,.int n]=> ∃A z r,aT aa ai ae H x A z/\F2 z.clk n r/\Q (.bl r) H
 |_=>False
def dB (aa ai ae:Addr):Sp:=fun vs H Q E=>match vs with
 | [.ref x,.int n]=> ∃A z,aT aa ai ae H x A z/\z.Fi.length<1000000/\∀p H',H p=none->kK x A H H'->aT aa ai ae H' x A {z with clk:=if z.b=z.t then .int (n+z.w) else z.clk,t:=z.t+1,Fi:=putK z.Fi (ik z.t) (.int n)}->H' p=some (.tup [.str "new",.int z.t])->Q (.ref p) H'
 |_=>False
noncomputable def w2 (z:Sd):Int:=if z.L<2*z.w then z.L else 2*z.w
def WS.ran {C p dx:Addr} {H:Hp} {L w:Int} {g:Wg} {k:Nat} (h:WS C H p dx L w g k): ∃s sp,H p=some (.ins C dx (aM (V.int L) s sp (V.int w)))/\WS C (upd H p (.ins C dx (aM (V.int L) s sp (V.int (if L<2*w then L else 2*w))))) p dx L (if L<2*w then L else 2*w) g k:=by
 obtain ⟨h0,h1,⟨a1,a2,a3⟩|⟨n,P,S,D,a,A,b,B,b0,b1,b2,⟨ps,pp,g1,g2,g3⟩⟩⟩:=h
 ·exact ⟨_,_,a3,h0,by split<;>lia,.inl ⟨a1,a2,au⟩⟩
 ·exact ⟨_,_,g1,h0,by split<;>lia,.inr ⟨n,P,S,D,a,A,b,B,b0,b1,b2,⟨ps,pp,au,by rw [aj (a_ g2 g1 (by simp))];exact g2,by rw [aj (a_ g3 g1 (by simp))];exact g3⟩⟩⟩
noncomputable def uo (c:V) (n:Int):Bool:=match c with
 | .int i=>decide (i<=n)
 |_=>false
noncomputable def uV (z:Sd):Bool:=decide (z.b<z.t) && !z.hur&&decide ((2:Int)<=kab z)
noncomputable def sf (z:Sd):Bool:=decide (z.t<z.T.length)&&decide (z.t<z.e)&&decide (z.t - z.b - kab z<z.wi)
noncomputable def C4 (z:Sd) (n:Int):Sd:={z with w:=w2 z,wi:=1,kn:=MeterM.hf z.wi,co:=0,clk:= .int (n+w2 z),hur:=true,Ag:=putK z.Ag (ik z.b) (.bl true)}
noncomputable def E7 (z:Sd) (n:Int):Sd:={z with wi:=MeterM.hf z.wi,kn:=MeterM.hf z.wi,co:=0,clk:= .int (n+z.w),hur:=true,Ag:=putK z.Ag (ik z.b) (.bl true)}
noncomputable def EU (z:Sd) (n:Int):Sd:={z with clk:=if z.b=z.t then .int (n+z.w) else z.clk,t:=z.t+1,Fi:=putK z.Fi (ik z.t) (.int n)}
noncomputable def E_ (z:Sd) (n:Int):Sd:={z with w:=w2 z,clk:= .int (n+w2 z)}
noncomputable def DY (z:Sd) (n:Int):Sd:={z with clk:= .int (n+z.w)}
def DH (z z':Sd) (n:Int) (v:V) (H H':Hp):Prop:=(z.clk = .non/\z'=DY z n/\v = .non)\/(∃i,z.clk = .int i/\n<i/\z'=z/\v = .non)\/(∃i,z.clk = .int i/\i<=n/\z'=E_ z n/\∃p,v = .ref p/\H p=none/\H' p=some (.tup [.str "ask",.non]))
def DF (z z':Sd) (n:Int) (v:V) (H H':Hp):Prop:=
 (z.b<z.t/\uo z.clk n=true/\z'=C4 z n/\∃p,v = .ref p/\H p=none/\H' p=some (.tup [.str "again",.int z.b]))\/
 (
  (z.b<z.t->uo z.clk n=false)/\((uV z=true/\z'=E7 z n/\∃p,v = .ref p/\H p=none/\H' p=some (.tup [.str "again",.int z.b]))\/
  (
   uV z=false/\((sf z=true/\z'=EU z n/\∃p,v = .ref p/\H p=none/\H' p=some (.tup [.str "new",.int z.t]))\/
   (sf z=false/\((z.t<z.T.length/\z.b=z.t/\DH z z' n v H H')\/(¬(z.t<z.T.length/\z.b=z.t)/\z'=z/\v = .non)))))))
def DH.fr {z z':Sd} {n:Int} {v:V} {H H0 H':Hp} (h:DH z z' n v H H') (f: ∀p,H p=none->H0 p=none):DH z z' n v H0 H':=by
 rcases h with h|h|⟨i,h1,h2,h3,p,h4,h5,h6⟩
 ·exact .inl h
 ·exact .inr (.inl h)
 ·exact .inr (.inr ⟨i,h1,h2,h3,p,h4,f p h5,h6⟩)
def bR (aa ai ae:Addr):Sp:=fun vs H Q E=>match vs with
 | [.ref x,.int n]=> ∃A z,aT aa ai ae H x A z/\(z.clk = .non\/∃i,z.clk = .int i)/\∀v H' z',lM x A H H'->aT aa ai ae H' x A z'->DH z z' n v H H'->Q v H'
 |_=>False
def fZ (aa ai ae:Addr):Sp:=fun vs H Q E=>match vs with
 | [.ref x,.int n]=> ∃A z,aT aa ai ae H x A z/\Bz z/\(z.clk = .non\/∃i,z.clk = .int i)/\z.Ag.length<1000000/\z.Fi.length<1000000/\∀v H' z',lM x A H H'->aT aa ai ae H' x A z'->DF z z' n v H H'->Q v H'
 |_=>False
noncomputable def cnt (D:List (Key×V)) (t:Nat):Nat:=((List.range t).filter fun j:Nat=>knw D (j:Int)).length
def Ai {D:List (Key×V)} {t:Nat}:cnt D t<=t:=by
 unfold cnt;exact Nat.le_trans (List.length_filter_le _ _) (by rw [List.length_range];exact Nat.le_refl _)
def mC {D:List (Key×V)} {t:Nat}:cnt D (t+1)=cnt D t+if knw D (t:Int) then 1 else 0:=by
 unfold cnt;rw [List.range_succ,List.filter_append,List.length_append];congr 1;rw [List.filter_cons];split<;>simp
def om {D:List (Key×V)} {a b:Int} {v:V}:knw (putK D (ik a) v) b=(decide (b=a)||knw D b):=by
 unfold knw;rw [oK];by_cases c:b=a
 ·subst c;rw [if_pos rfl];simp
 ·rw [if_neg (by intro h;exact c (by injection h))];simp [c]
def qY {D:List (Key×V)} {a:Int} {v:V} (h:knw D a=false) (h0:0<=a): ∀{t:Nat},cnt (putK D (ik a) v) t=cnt D t+if a<(t:Int) then 1 else 0
 |0=>by show 0=0+_;rw [if_neg (by lia)]
 |t+1=>by
  rw [mC,mC,qY h h0 (t:=t),om];by_cases c:(t:Int)=a
  ·
   subst c;rw [h];simp;lia
  ·
   have e:(decide ((t:Int)=a)||knw D (t:Int))=knw D (t:Int):=by simp [c]
   rw [e];generalize (if knw D (t:Int)=true then 1 else 0)=gk;by_cases c2:a<(t:Int)
   ·rw [if_pos c2,if_pos (show a<((t+1:Nat):Int) by lia)];lia
   ·rw [if_neg c2,if_neg (show¬a<((t+1:Nat):Int) by lia)];lia
def jU {t:Nat}: ∀{fs:List Int} {D:List (Key×V)},fs.Nodup->(∀a∈fs,knw D a=false/\0<=a/\a<(t:Int))->cnt (putAll D fs) t=cnt D t+fs.length
 | [],_,_,_=>rfl
 |a::l,D,hn,h=>by
  obtain ⟨h1,h2,h3⟩:=h a (List.mem_cons_self ..);obtain ⟨n1,n2⟩:=List.nodup_cons.mp hn;show cnt (putAll (putK D (ik a) (.bl true)) l) t=_;rw [jU n2 (fun b hb=>?_),qY h1 h2,if_pos h3,List.length_cons]
  ·lia
  ·
   obtain ⟨k1,k2,k3⟩:=h b (List.mem_cons_of_mem _ hb);have:b≠a:=fun e=>n1 (by rw [<-e];exact hb);exact ⟨by rw [om,k1];simp [this],k2,k3⟩
def ki {b:Int} {n:Nat}:(irg b n).Nodup:=by
 unfold irg;unfold List.Nodup;rw [List.pairwise_map];exact (List.nodup_range (n:=n)).imp fun h e=>h (by lia)
def oq {b a:Int} {n:Nat} (h:a∈irg b n):b<=a/\a<b+n:=by
 unfold irg at h;obtain ⟨j,hj,rfl⟩:=List.mem_map.mp h;have:=List.mem_range.mp hj;lia
def nK {z:Sd} {hs:List Int} (h:hs.Nodup):(hld z hs).Nodup:=by
 unfold hld;unfold List.Nodup;rw [List.pairwise_map];exact (List.Pairwise.filter _ h).imp fun h e=>h (by lia)
def qN {z:Sd} {hs:List Int} {a:Int} (h:a∈hld z hs):a<z.t/\∃k∈hs,a=z.b+k:=by
 unfold hld at h;obtain ⟨k,hk,rfl⟩:=List.mem_map.mp h;obtain ⟨m1,m2⟩:=List.mem_filter.mp hk;exact ⟨by simpa using m2,k,m1,rfl⟩
def lJ {D:List (Key×V)} {ps:List Int} {a:Int} (h:a∈frs D ps):a∈ps/\knw D a=false:=by
 unfold frs at h;obtain ⟨m1,m2⟩:=List.mem_filter.mp h;exact ⟨m1,by simpa using m2⟩
def Tq (z:Sd) (tn:Int):Prop:= ∀j:Int,0<=j->j<z.t->∃f,bT z.Fi (ik j)=some (.int f)/\0<=tn - f/\tn - f<=1000000
noncomputable def far' (z:Sd) (nu:Int):Int:=(nu - z.b) % z.R
noncomputable def jY (z:Sd) (nu:Int):List Int:=frs z.Kn (irg z.b (far' z nu).toNat)
noncomputable def eA (z:Sd) (nu:Int):Sd:={z with b:=z.b+far' z nu,Kn:=putAll z.Kn (jY z nu)}
noncomputable def jx (z:Sd) (nu:Int) (hs:List Int):List Int:=frs (eA z nu).Kn (hld (eA z nu) hs)
noncomputable def fsh (z:Sd) (nu:Int) (hs:List Int):List Int:=jY z nu++jx z nu hs
noncomputable def w5 (z:Sd) (p:Int):Int:=match bT z.Fi (ik p) with
 |some (.int f)=>f
 |_=>0
noncomputable abbrev Ws:=Int×Wg×Nat
noncomputable def si (z:Sd) (tn:Int) (s:Ws) (p:Int):Ws:=if knw z.Ag p then s else (mws z.L (mgs s.2.1 (tn - w5 z p)),mgs s.2.1 (tn - w5 z p),s.2.2+1)
noncomputable def mall (z:Sd) (tn:Int) (fs:List Int):Ws:=fs.foldl (si z tn) (z.w,z.g,z.k)
def so {z:Sd} {tn c:Int} {fs:List Int}:mall z tn (fs++ [c])=si z tn (mall z tn fs) c:=by unfold mall;rw [List.foldl_append];rfl
noncomputable def hrd (z:Sd) (nu rm:Int) (hs:List Int) (tn:Int):Sd:=
 ⟨z.R,z.b+far' z nu,z.t,if z.e<z.b+far' z nu+rm then z.b+far' z nu+rm else z.e,if 0<far' z nu then (if z.b+far' z nu<z.t then .int (tn+(mall z tn (fsh z nu hs)).1) else .non) else z.clk,if 0<far' z nu then false else z.hur,z.T,putAll (eA z nu).Kn (jx z nu hs),z.Fi,z.Ag,z.L,(mall z tn (fsh z nu hs)).1,(mall z tn (fsh z nu hs)).2.2,(MeterM.kn z.mo z.kn (fsh z nu hs).length (z.wi,z.co)).1,(mall z tn (fsh z nu hs)).2.1,z.mo,z.kn,(MeterM.kn z.mo z.kn (fsh z nu hs).length (z.wi,z.co)).2⟩
def d5 (aa ai ae:Addr):Sp:=fun vs H Q E=>match vs with
 | [.ref x,.int nu,.int rm,.ref hd,.int tn]=> ∃A z,∃hs:List Int,aT aa ai ae H x A z/\Bz z/\0<z.R/\H hd=some (.tup (hs.map V.int))/\hs.length<=100/\hs.Nodup/\(∀k∈hs,0<=k)/\Tq z tn/\z.Kn.length<500000/\z.t<=190/\z.k<=cnt z.Kn z.t.toNat/\∀p H',H p=none->lM x A H H'->((z.t - z.b<far' z nu/\eo H H'/\H' p=some (.lst []))\/(far' z nu<=z.t - z.b/\aT aa ai ae H' x A (hrd z nu rm hs tn)/\H' p=some (.lst ((fsh z nu hs).map V.int))))->Q (.ref p) H'
 |_=>False
def cR (aa ai ae:Addr):Sp:=fun vs H Q E=>match vs with
 | [.ref x,.int r,.int f,.int l,.int m]=>(2<=f/\f<=l/\1<=m)/\∃dx,H x=some (.ins aa dx [])/\∀A H',gP x H H'->aT aa ai ae H' x A ⟨r,0,0,1,.non,false,[],[],[],[],l,f,0,MeterM.mn 2 m,none,m,m,0⟩->Q .non H'
 |_=>False
structure Gk (z z':Sd):Prop where
 R:z'.R=z.R
 L:z'.L=z.L
 b:z'.b=z.b
 e:z'.e=z.e
 T:z'.T=z.T
 Kn:z'.Kn=z.Kn
 k:z'.k=z.k
 g:z'.g=z.g
 ck:z'.clk = .non\/∃i,z'.clk = .int i
def DF.gk {z z':Sd} {n:Int} {v:V} {H H':Hp} (o:DF z z' n v H H') (hc:z.clk = .non\/∃i,z.clk = .int i):Gk z z':=by
 rcases o with ⟨_,_,rfl,_⟩|⟨_,⟨_,rfl,_⟩|⟨_,⟨_,rfl,_⟩|⟨_,⟨_,_,⟨_,rfl,_⟩|⟨i,h,_,rfl,_⟩|⟨i,_,_,rfl,_⟩⟩|⟨_,rfl,_⟩⟩⟩⟩
 ·exact ⟨rfl,rfl,rfl,rfl,rfl,rfl,rfl,rfl,.inr ⟨_,rfl⟩⟩
 ·exact ⟨rfl,rfl,rfl,rfl,rfl,rfl,rfl,rfl,.inr ⟨_,rfl⟩⟩
 ·
  refine ⟨rfl,rfl,rfl,rfl,rfl,rfl,rfl,rfl,?_⟩;show (if z.b=z.t then V.int (n+z.w) else z.clk) = .non\/∃i,(if z.b=z.t then V.int (n+z.w) else z.clk) = .int i;split
  ·exact .inr ⟨_,rfl⟩
  ·exact hc
 ·exact ⟨rfl,rfl,rfl,rfl,rfl,rfl,rfl,rfl,.inr ⟨_,rfl⟩⟩
 ·exact ⟨rfl,rfl,rfl,rfl,rfl,rfl,rfl,rfl,hc⟩
 ·exact ⟨rfl,rfl,rfl,rfl,rfl,rfl,rfl,rfl,.inr ⟨_,rfl⟩⟩
 ·exact ⟨rfl,rfl,rfl,rfl,rfl,rfl,rfl,rfl,hc⟩
def F1 (z z':Sd) (n:Int) (v:V) (H H':Hp):Prop:=(v = .non/\z'.t=z.t/\z'.Fi=z.Fi/\z'.Ag=z.Ag)\/∃p,v = .ref p/\H p=none/\((H' p=some (.tup [.str "again",.int z.b])/\z.b<z.t/\z'.t=z.t/\z'.Fi=z.Fi/\z'.Ag=putK z.Ag (ik z.b) (.bl true))\/(H' p=some (.tup [.str "new",.int z.t])/\z.t<z.T.length/\z.t<z.e/\z'.t=z.t+1/\z'.Fi=putK z.Fi (ik z.t) (.int n)/\z'.Ag=z.Ag)\/(H' p=some (.tup [.str "ask",.non])/\z.b=z.t/\z.t<z.T.length/\z.e<=z.t/\z'.t=z.t/\z'.Fi=z.Fi/\z'.Ag=z.Ag))
def DF.r {z z':Sd} {n:Int} {v:V} {H H':Hp} (o:DF z z' n v H H') (hw:1<=z.wi):F1 z z' n v H H':=by
 rcases o with ⟨h1,_,rfl,p,h2,h3,h4⟩|⟨_,⟨hh,rfl,p,h2,h3,h4⟩|⟨_,⟨hn,rfl,p,h2,h3,h4⟩|⟨hn,⟨a1,a2,⟨_,rfl,h2⟩|⟨i,_,_,rfl,h2⟩|⟨i,_,_,rfl,p,h2,h3,h4⟩⟩|⟨_,rfl,h2⟩⟩⟩⟩
 ·exact .inr ⟨p,h2,h3,.inl ⟨h4,h1,rfl,rfl,rfl⟩⟩
 ·
  unfold uV at hh;rw [Bool.and_eq_true,Bool.and_eq_true,decide_eq_true_eq] at hh;exact .inr ⟨p,h2,h3,.inl ⟨h4,hh.1.1,rfl,rfl,rfl⟩⟩
 ·
  unfold sf at hn;rw [Bool.and_eq_true,Bool.and_eq_true,decide_eq_true_eq,decide_eq_true_eq] at hn;exact .inr ⟨p,h2,h3,.inr (.inl ⟨h4,hn.1.1,hn.1.2,rfl,rfl,rfl⟩)⟩
 ·exact .inl ⟨h2,rfl,rfl,rfl⟩
 ·exact .inl ⟨h2,rfl,rfl,rfl⟩
 ·
  refine .inr ⟨p,h2,h3,.inr (.inr ⟨h4,a2,a1,?_,rfl,rfl,rfl⟩)⟩;by_cases c3:z.t<z.e
  ·
   exfalso;have k0:kab z=0:=by have:=p8 (z:=z);lia
   unfold sf at hn;rw [decide_eq_true a1,decide_eq_true c3,decide_eq_true (by lia)] at hn;cases hn
  ·lia
 ·exact .inl ⟨h2,rfl,rfl,rfl⟩
structure Hk (z z':Sd) (nu rm:Int) (hs:List Int):Prop where
 R:z'.R=z.R
 L:z'.L=z.L
 t:z'.t=z.t
 T:z'.T=z.T
 Fi:z'.Fi=z.Fi
 Ag:z'.Ag=z.Ag
 b:z'.b=z.b+far' z nu
 e:z'.e=if z.e<z.b+far' z nu+rm then z.b+far' z nu+rm else z.e
 Kn:z'.Kn=putAll (eA z nu).Kn (jx z nu hs)
 k:z'.k<=z.k+(jY z nu).length+(jx z nu hs).length
 ck:(z'.clk = .non\/∃i,z'.clk = .int i)
def uy {z:Sd} {tn:Int}: ∀{fs:List Int} {s:Ws},(fs.foldl (si z tn) s).2.2<=s.2.2+fs.length
 | [],_=>Nat.le_refl _
 |a::l,s=>by
  have h1:=uy (z:=z) (tn:=tn) (fs:=l) (s:=si z tn s a);have h2:(si z tn s a).2.2<=s.2.2+1:=by
   unfold si;split
   ·lia
   ·exact Nat.le_refl _
  show ((l.foldl (si z tn) (si z tn s a)).2.2)<=_;rw [List.length_cons];lia
def Dc {z:Sd} {nu rm tn:Int} {hs:List Int} (hc:z.clk = .non\/∃i,z.clk = .int i):Hk z (hrd z nu rm hs tn) nu rm hs:=by
 refine ⟨rfl,rfl,rfl,rfl,rfl,rfl,rfl,rfl,rfl,?_,?_⟩
 ·
  have h1:(hrd z nu rm hs tn).k<=z.k+(fsh z nu hs).length:=uy (z:=z) (tn:=tn) (fs:=fsh z nu hs) (s:=(z.w,z.g,z.k));have h2:(fsh z nu hs).length=(jY z nu).length+(jx z nu hs).length:=List.length_append;lia
 ·
  show (if 0<far' z nu then (if z.b+far' z nu<z.t then V.int (tn+(mall z tn (fsh z nu hs)).1) else .non) else z.clk) = .non\/∃i,(if 0<far' z nu then (if z.b+far' z nu<z.t then V.int (tn+(mall z tn (fsh z nu hs)).1) else .non) else z.clk) = .int i;split
  ·
   split
   ·exact .inr ⟨_,rfl⟩
   ·exact .inl rfl
  ·exact hc
structure Jw (z:Sd) (r tn:Int) (s:Nat):Prop where
 R:z.R=r
 r0:0<r
 B:Bz z
 te:z.t<=z.e
 tm:z.t<=z.T.length
 tl:z.T.length<=180
 k:z.k<=cnt z.Kn z.t.toNat
 kn: ∀j:Int,z.t<=j->knw z.Kn j=false
 ck:z.clk = .non\/∃i,z.clk = .int i
 tq: ∀j:Int,0<=j->j<z.t->∃f,bT z.Fi (ik j)=some (.int f)/\0<=f/\f<=tn
 x4:0<=tn
 Ap:tn<=900000+20*s
 s1:z.Kn.length<=300*s
 s2:z.Fi.length<=s
 s3:z.Ag.length<=s
def Jw.turn {z:Sd} {r tn d:Int} {s:Nat} (h:Jw z r tn s) (h0:0<=d) (h1:d<=20):Jw z r (tn+d) (s+1):=by
 have e1:=h.x4;have e2:=h.Ap;have e3:=h.s1;have e4:=h.s2;have e5:=h.s3;exact ⟨h.R,h.r0,h.B,h.te,h.tm,h.tl,h.k,h.kn,h.ck,fun j a b=>by
  obtain ⟨f,q1,q2,q3⟩:=h.tq j a b;exact ⟨f,q1,q2,by lia⟩,by lia,by lia,by lia,by lia,by lia⟩
def Jw.more {z:Sd} {r tn:Int} {s s':Nat} (h:Jw z r tn s) (h1:s<=s'):Jw z r tn s':=by
 have e2:=h.Ap;have e3:=h.s1;have e4:=h.s2;have e5:=h.s3;exact ⟨h.R,h.r0,h.B,h.te,h.tm,h.tl,h.k,h.kn,h.ck,h.tq,h.x4,by lia,by lia,by lia,by lia⟩
def Jw.put {z:Sd} {r tn:Int} {s:Nat} {v:V} (h:Jw z r tn s) (h1:z.T.length<180):Jw {z with T:=z.T++ [v]} r tn s:=by
 have e1:=h.tm;exact ⟨h.R,h.r0,⟨h.B.b0,h.B.bt,h.B.t1⟩,h.te,by show z.t<=((z.T++ [v]).length:Int);rw [List.length_append,List.length_singleton];lia,by show (z.T++ [v]).length<=180;rw [List.length_append,List.length_singleton];lia,h.k,h.kn,h.ck,h.tq,h.x4,h.Ap,h.s1,h.s2,h.s3⟩
def vp {D:List (Key×V)} {t:Nat}:cnt D t<=cnt D (t+1):=by rw [mC];lia
def Jw.go {z z':Sd} {r tn:Int} {s:Nat} {v:V} {H H':Hp} (h:Jw z r tn s) (g:Gk z z') (o:F1 z z' tn v H H'):Jw z' r tn (s+1)/\z.t<=z'.t:=by
 have e0:=h.B.b0;have e1:=h.Ap;have e3:=h.s1;have e4:=h.s2;have e5:=h.s3;have e6:=h.B.bt;have e7:=h.tl;have e8:=h.tm;have same:z'.t=z.t->z'.Fi=z.Fi->z'.Ag.length<=s+1->Jw z' r tn (s+1)/\z.t<=z'.t:=fun a1 a2 a3=>
  ⟨⟨g.R.trans h.R,h.r0,⟨by rw [g.b];exact h.B.b0,by rw [g.b,a1];exact h.B.bt,by rw [a1];exact h.B.t1⟩,by rw [a1,g.e];exact h.te,by rw [a1,g.T];exact h.tm,by rw [g.T];exact h.tl,by rw [g.k,g.Kn,a1];exact h.k,fun j hj=>by rw [g.Kn];exact h.kn j (by lia),g.ck,fun j a b=>by rw [a2];exact h.tq j a (by lia),h.x4,by lia,by rw [g.Kn];lia,by rw [a2];lia,a3⟩,by lia⟩
 rcases o with ⟨_,a1,a2,a3⟩|⟨p,_,_,⟨_,_,a1,a2,a3⟩|⟨_,b1,b2,a1,a2,a3⟩|⟨_,_,_,_,a1,a2,a3⟩⟩
 ·exact same a1 a2 (by rw [a3];lia)
 ·exact same a1 a2 (by rw [a3];have:=dS z.Ag (ik z.b) (.bl true);lia)
 ·
  have ec:z'.t.toNat=z.t.toNat+1:=by lia
  refine ⟨⟨g.R.trans h.R,h.r0,⟨by rw [g.b];exact h.B.b0,by rw [g.b,a1];lia,by lia⟩,by rw [g.e];lia,by rw [g.T];lia,by rw [g.T];exact h.tl,by rw [g.k,g.Kn,ec];exact Nat.le_trans h.k vp,fun j hj=>by rw [g.Kn];exact h.kn j (by lia),g.ck,fun j a b=>?_,h.x4,by lia,by rw [g.Kn];lia,by rw [a2];have:=dS z.Fi (ik z.t) (.int tn);lia,by rw [a3];lia⟩,by lia⟩;rw [a2,oK];by_cases c:j=z.t
  ·
   subst c;rw [if_pos rfl];exact ⟨tn,rfl,h.x4,Int.le_refl _⟩
  ·
   rw [if_neg (by intro q;exact c (by injection q))];exact h.tq j a (by lia)
 ·exact same a1 a2 (by rw [a3];lia)
def oo {j:Int}: ∀{fs:List Int} {D:List (Key×V)},(∀a∈fs,a≠j)->knw (putAll D fs) j=knw D j
 | [],_,_=>rfl
 |a::l,D,h=>by
  show knw (putAll (putK D (ik a) (.bl true)) l) j=_;rw [oo fun b hb=>h b (List.mem_cons_of_mem _ hb),om];have:=h a (List.mem_cons_self ..);simp [this.symm]
def zT {z:Sd} {nu:Int}:(jY z nu).length<=(far' z nu).toNat:=by
 have h1:(jY z nu).length<=(irg z.b (far' z nu).toNat).length:=List.length_filter_le _ _;have h2:(irg z.b (far' z nu).toNat).length=(far' z nu).toNat:=by unfold irg;rw [List.length_map,List.length_range]
 lia
def zS {z:Sd} {nu:Int} {hs:List Int}:(jx z nu hs).length<=hs.length:=by
 have h1:(jx z nu hs).length<=(hld (eA z nu) hs).length:=List.length_filter_le _ _;exact Nat.le_trans h1 ot
def Jw.tqq {z:Sd} {r tn:Int} {s:Nat} (h:Jw z r tn s) (h1:s<=2000):Tq z tn:=fun j a b=>by
 obtain ⟨f,q1,q2,q3⟩:=h.tq j a b;have:=h.Ap;exact ⟨f,q1,by lia,by lia⟩
def Jw.hrd {z z':Sd} {r tn nu rm:Int} {s:Nat} {hs:List Int} (h:Jw z r tn s) (hl:hs.length<=100) (hn:hs.Nodup) (h0: ∀k∈hs,0<=k) (hf:far' z nu<=z.t - z.b) (g:Hk z z' nu rm hs):Jw z' r tn (s+1):=by
 have r0:=h.r0;have eR:=h.R;have far0:0<=far' z nu:=Int.emod_nonneg _ (by lia);have b0:=h.B.b0;have bt:=h.B.bt;have e1:=h.Ap;have e3:=h.s1;have e4:=h.s2;have e5:=h.s3;have e7:=h.tl;have e8:=h.tm;have l1:=zT (z:=z) (nu:=nu);have l2:=zS (z:=z) (nu:=nu) (hs:=hs);have m1: ∀a∈jY z nu,knw z.Kn a=false/\0<=a/\a<(z.t.toNat:Int):=fun a ha=>by
  obtain ⟨q1,q2⟩:=lJ ha;have:=oq q1;exact ⟨q2,by lia,by lia⟩
 have m2: ∀a∈jx z nu hs,knw (eA z nu).Kn a=false/\0<=a/\a<(z.t.toNat:Int):=fun a ha=>by
  obtain ⟨q1,q2⟩:=lJ ha;obtain ⟨q3,k,q4,q5⟩:=qN q1;have q6:=h0 k q4;have q7:a<z.t:=q3;have q8:a=z.b+far' z nu+k:=q5;exact ⟨q2,by lia,by lia⟩
 have c1:cnt (eA z nu).Kn z.t.toNat=cnt z.Kn z.t.toNat+(jY z nu).length:=jU (ki.filter _) m1;have c2:cnt (putAll (eA z nu).Kn (jx z nu hs)) z.t.toNat=cnt (eA z nu).Kn z.t.toNat+(jx z nu hs).length:=jU ((nK hn).filter _) m2;have k1:(eA z nu).Kn.length<=z.Kn.length+(jY z nu).length:=gm;have k2:(putAll (eA z nu).Kn (jx z nu hs)).length<=(eA z nu).Kn.length+(jx z nu hs).length:=gm;have gk:=g.k;have hk:=h.k;have te:=h.te;refine ⟨g.R.trans h.R,h.r0,⟨by rw [g.b];lia,by rw [g.b,g.t];lia,by rw [g.t];exact h.B.t1⟩,by rw [g.t,g.e];split<;>lia,by rw [g.t,g.T];exact h.tm,by rw [g.T];exact h.tl,by rw [g.Kn,g.t,c2,c1];lia,fun j hj=>?_,g.ck,fun j a b=>by rw [g.Fi];exact h.tq j a (by rw [g.t] at b;exact b),h.x4,by lia,by rw [g.Kn];lia,by rw [g.Fi];lia,by rw [g.Ag];lia⟩
 rw [g.t] at hj;rw [g.Kn,oo fun a ha=>by have:=(m2 a ha).2.2;lia];show knw (putAll z.Kn (jY z nu)) j=false;rw [oo fun a ha=>by have:=(m1 a ha).2.2;lia];exact h.kn j hj
def fx:Sp:=fun vs H Q E=>match vs with
 | [.int c,.int k]=>0<=k/\∀v,0<=v->Q (.int v) H
 |_=>False
def eI:Sp:=fun vs H Q E=>match vs with
 | [.int c,.int b,.int t,.int r]=>(b<=t/\0<r)/\∀v,Q (.int v) H
 |_=>False
def lM.tup {CS CW CM x t:Addr} {H H':Hp} {A:Ad} {z:Sd} {l:List V} (f:lM x A H H') (h:aT CS CW CM H x A z) (e:H t=some (.tup l)):H' t=some (.tup l):=by
 obtain ⟨a1,a2,a3⟩:=h.nw e (by simp);exact f t _ e a1 a2 a3 (a_ e h.ht (by simp)) (a_ e h.hk (by simp)) (a_ e h.hf (by simp)) (a_ e h.ha (by simp))
def lM.lst {CS CW CM x t:Addr} {H H':Hp} {A:Ad} {z:Sd} {l:List V} (f:lM x A H H') (h:aT CS CW CM H x A z) (e:H t=some (.lst l)) (n:t≠A.pt):H' t=some (.lst l):=by
 obtain ⟨a1,a2,a3⟩:=h.nw e (by simp);exact f t _ e a1 a2 a3 n (a_ e h.hk (by simp)) (a_ e h.hf (by simp)) (a_ e h.ha (by simp))
def eG (aa ai ae:Addr) (K:W.Frag) (a₀:Addr) (ns:List Int):Sp:=fun vs H Q E=>match vs with
 | [.ref a]=>a=a₀/\cD K H a₀ (ns.map V.int)/\∀r x A p z H',eo H H'->aT aa ai ae H' x A z->Jw z r 0 0->(z.b=0/\z.t=0/\z.e=1/\z.T= [])->H' p=some (.tup [.int r,.ref x])->Q (.ref p) H'
 |_=>False
def eF (aa ai ae:Addr):Sp:=fun vs H Q E=>match vs with
 | [.ref x,.ref n]=> ∃A z r tn s,aT aa ai ae H x A z/\Jw z r tn s/\H n=some (.tup [.int z.b,.int z.t,.int z.e,.int z.T.length])/\∀H',eo H H'->Q (.bl true) H'
 |_=>False
def fY (aa ai ae:Addr):Sp:=fun vs H Q E=>match vs with
 | [.ref x,.int tn,.ref n]=> ∃A z r s,aT aa ai ae H x A z/\Jw z r tn s/\s<=1600/\H n=some (.tup [.int z.b,.int z.t,.int z.e,.int z.T.length])/\∀n' z' H',lM x A H H'->aT aa ai ae H' x A z'->Jw z' r tn (s+1)->z'.T=z.T->H' n'=some (.tup [.int z'.b,.int z'.t,.int z'.e,.int z'.T.length])->Q (.ref n') H'
 |_=>False
def fy (aa ai ae:Addr):Sp:=fun vs H Q E=>match vs with
 | [.ref x,.int c,.int tn,.ref n,.int r]=> ∃A z s,aT aa ai ae H x A z/\Jw z r tn s/\s<=1600/\H n=some (.tup [.int z.b,.int z.t,.int z.e,.int z.T.length])/\∀n' z' H',lM x A H H'->aT aa ai ae H' x A z'->Jw z' r tn (s+1)->z'.T=z.T->H' n'=some (.tup [.int z'.b,.int z'.t,.int z'.e,.int z'.T.length])->Q (.ref n') H'
 |_=>False
def Lv (CS CW CM x:Addr) (A:Ad) (p2 a:Addr) (ms:List Int) (r:Int) (S T:Nat) (v5:Option V) (σ:St) (H':Hp):Prop:=H' p2=some (.lst (ms.map V.int))/\∃z tn s n v6,aT CS CW CM H' x A z/\Jw z r tn s/\s<=S/\z.T.length<=T/\H' n=some (.tup [.int z.b,.int z.t,.int z.e,.int z.T.length])/\σ= [some (.ref a),some (.int r),some (.ref x),some (.ref n),some (.int tn),v5,v6]
set_option compiler.extract_closed false in
local macro_rules | `(tactic| exists $es,*) => `(tactic| simp only [Au,xu,xx,Ff,x5,tC,rk,jL,As,xA,x9,Az,Ax,sV,tB,Av,AD,Fh,qr,oO,sW,AA,pP,xD,DP,xy,Fj,qq,Fg,vK,xv,wd,yh,yd,Dq,Dp,qA,qy,qz,qx,tW,tJ,rZ,rY,rQ,rP,vW,vX,vV,vY,vZ,vT,vU,rJ,rL,tY,tL,tX,tK,we,vQ,wc,pV,yg,yf,DR,DI,vJ,vI,oT,tG,tT,tU,sY,ri,rh,rg,rj,pO,pN,pM,rA,rq,rp,qd,t7,t6,tF,pU,oS,nX,nY,rD,Ar,Aw,F6,F4,uY,qa,u9,E8,DO,qq,pQ,s_,Option.join_some,xq,xZ,vE,Ae,zW,
 L2.start,List.map_cons,List.map_nil,List.length_cons,List.length_nil,List.replicate_zero,List.replicate_succ,List.append_nil,List.nil_append,List.cons_append,List.getElem?_cons_zero,List.getElem?_cons_succ,List.set_cons_zero,List.set_cons_succ,decide_eq_true_eq,Bool.not_eq_true',decide_eq_false_iff_not,if_true,if_false,ite_true,ite_false,Bool.false_eq_true,true_and,and_true,Bool.not_true,Bool.not_false,Int.reduceLT,Int.reduceLE,Int.reducePow,Int.reduceToNat,Int.reduceAdd,Int.reduceSub,Int.reduceMul,Int.reduceNeg,Nat.reducePow,Nat.reduceLT,Nat.reduceLeDiff,true_or,or_true,Int.reduceEq,and_self,Nat.reduceAdd,Nat.reduceSub,Int.neg_neg,reduceCtorEq,not_true_eq_false,not_false_eq_true,
 dc,da,eK,fA,dC,dE,jZ,dA,cF,cG,cP,cz,d4,fw,d3,lP,fz,eJ,kQ,bx,cH,bV,bP,cn,bW,cI,cK,cJ,cQ,bQ,dB,bR,fZ,d5,cR,fx,eI,eG,eF,fY,fy,xC,xE,xF,x6,sX,tV,rC,rX,vR,zX,au,vH,L2.zU,mx,mw,mv,mr,mq,ml,oy,ox,jS,iN,jT,h8,iK,jQ,hZ,jR,h7,kB,iL,iM,mZ,mY,mX,mW,mV,mU,o4,o3,iF,ji,jh,km,jf,je,kj,iE,gs,gu,gK,jg,ly,lx,lu,lr,lq,lp,ll,lj,lh,lg,la,k_,k9,k8,k7,k6,kZ,kY,kA,kz,ky,kx,m4,m3,jn,jm,iI,g_,jq,jP,jo,iJ,eW,eV,fh,fL,jk,jN,jj,iG,eU,ku,jO,jl,gy,gx,fK,dU,gv,fJ,fe,fc,fW,kX,gw,gL,iH,fg,s9,t2,Ab,Ac,rW,Dw,tD,rT,Du,x8,tS,zG,rV,zZ,DS,rM,yI,xt,rG,pS,sr,rF,AF,yc,rE,AE,Ay,pL,tQ,tP,wM,wL,q_,q9,xY,xX,Dz,Dy,L2.vz,sF,zQ,rO,rN,uC,uB,rR,wa,wb,v_,uL,uM,zV,w_,F5,vL,vM,rH,rK,$[$es:term],*])
local macro_rules | `(tactic| walk_at "wps") => `(tactic| exists true_and)
section
variable {ae ai aa:Addr} {P:Program} {w:World} {K:W.Frag} {mg:Str->Option Value} {base:Heap}
variable (T:Txt K mg ae ai aa)
set_option hygiene false in
local macro_rules | `(tactic| exists 0, $a, $b, $c, $d:ident) => `(tactic| (refine ($a).fn $b $c (fun vs H Q E h => ?_) fun f cdv A outer s H vs Q E HR h => ?_; (unfold $d at h; split at h <;> first | rfl | exact h.elim); unfold $d at h; split at h; rotate_left; exact h.elim))
set_option hygiene false in
local macro_rules | `(tactic| exists 1, $a, $b, $c, $d:ident) => `(tactic| (refine ($a).fnX $b $c (fun vs H Q E h => ?_) fun f cdv A outer s H vs Q E HR h => ?_; (unfold $d at h; split at h <;> first | rfl | exact h.elim); unfold $d at h; split at h; rotate_left; exact h.elim))
include T in def jH:cE P w K mg base fb ae "__init__" 1 ["self","most"] (dc ae):=by
 exists 0,T.dM,jC,jW,dc;rename_i p m;refine ⟨_,(af (aG (pv 0) (pv 1) T.aQ T.eB)
 (af (aG (pv 0) (a9 (kD rfl) (by rfl) T.pC qh (az ah (az (pv 1) av))) T.aQ T.aR)
 (af (aG (pv 0) (pv 1) T.aQ T.bS)
 (aq (aG (pv 0) ah T.aQ T.ba))))),?_⟩
 obtain ⟨dx,hp,q⟩:=h;exists hp;exact q
include T in def jG:cE P w K mg base fb ae "know_one" 1 ["self"] (da ae):=by
 exists 0,T.dJ,jB,jV,da;rename_i p;refine ⟨_,(af (bg (aF (cu K rfl HR.units) (ak (pv 0) T.aQ T.aR rfl) (ak (pv 0) T.aQ T.eB rfl) (nomark _)) (aq qE) aL)
 (af (bg (aF fo (ak (pv 0) T.aQ T.aR rfl) (ak (pv 0) T.aQ T.bS rfl) (nomark _)) (af (jD (pv 0) ah T.aQ T.aR jI)
 (aq qE)) aL)
 (af (jD (pv 0) ah T.aQ T.ba jI)
 (aq (bg (aF (cu K rfl HR.units) (ak (pv 0) T.aQ T.ba rfl) (ak (pv 0) T.aQ T.aR rfl) (nomark _)) (af (jD (pv 0) ah T.aQ T.aR jI)
 (aq (aG (pv 0) ah T.aQ T.ba))) aL))))),?_⟩
 obtain ⟨dx,m,w,k,c,hp,q⟩:=h;exists hp;unfold MeterM.k1 at q;split
 ·
  rename_i c1;rw [if_pos c1] at q;rw [sT hp] at q;exact q
 ·
  rename_i c1;rw [if_neg c1] at q;split
  ·
   rename_i c2;rw [if_pos c2] at q;exact q
  ·
   rename_i c2;rw [if_neg c2] at q;split
   ·
    rename_i c3;rw [if_pos c3] at q;exact q
   ·
    rename_i c3;rw [if_neg c3] at q;exact q
include T in def l_:cE P w K mg base fb ae "known" 2 ["self","many"] (eK ae):=by
 exists 0,T.fQ,gT,mJ,eK;rename_i p n;refine ⟨_,(aq (gZ PassesOwn.never rfl (ic rfl T.eC (az (pv 1) av)) (aU (i:=2) gT.nd rfl (Or.inl rfl)) (aq (bG (br (pv 0) T.aQ (jG T) HR (by decide)))))),?_⟩;obtain ⟨hn,dx,m,w,k,c,hp,q⟩:=h;walk_at "wps";refine ⟨by lia,?_⟩;refine ow (fun i σ H'=>H'=upd H p (.ins ae dx (aC (.int m) (.int (MeterM.kn m k i (w,c)).1) (.int k) (.int (MeterM.kn m k i (w,c)).2)))/\∃v2,σ= [some (.ref p),some (.int n),v2]) ⟨by rw [MeterM.kn];exact (sT hp).symm,none,rfl⟩ (fun i σ H' hi hp'=>?_) (fun σ H' hp'=>?_)
 ·
  obtain ⟨rfl,v2,rfl⟩:=hp';walk_at "wps";refine ⟨dx,m,_,k,_,rfl,?_,_,rfl⟩;rfl
 ·
  obtain ⟨rfl,v2,rfl⟩:=hp';exact q
include T in def iY:cE P w K mg base fb ae "half" 1 ["self"] (fA ae):=by
 exists 0,T.gD,mS,nc,fA;rename_i p;refine ⟨_,(aq (aE (a9 (ip rfl) (by rfl) T.nS oF (az ah (az (ar bo (ak (pv 0) T.aQ T.aR rfl) ah) av))))),?_⟩;obtain ⟨dx,m,w,k,c,hp,q⟩:=h;exists hp;exact q
include T in def kd:cE P w K mg base fb ae "ran_out" 2 ["self"] (dC ae):=by
 exists 0,T.ek,j3,kI,dC;rename_i p;refine ⟨_,(af (aG (pv 0) (br (pv 0) T.aQ (iY T) HR (by decide)) T.aQ T.bS)
 (af (aG (pv 0) ah T.aQ T.aR)
 (aq (aG (pv 0) ah T.aQ T.ba)))),?_⟩
 obtain ⟨dx,m,w,k,c,hp,q⟩:=h;exists hp;exact ⟨dx,m,w,k,c,rfl,q⟩
include T in def ke:cE P w K mg base fb ae "hurried" 2 ["self"] (dE ae):=by
 exists 0,T.en,j4,kJ,dE;rename_i p;refine ⟨_,(af (aG (pv 0) (br (pv 0) T.aQ (iY T) HR (by decide)) T.aQ T.bS)
 (af (aG (pv 0) (ak (pv 0) T.aQ T.bS rfl) T.aQ T.aR)
 (aq (aG (pv 0) ah T.aQ T.ba)))),?_⟩
 obtain ⟨dx,m,w,k,c,hp,q⟩:=h;exists hp;exact ⟨dx,m,w,k,c,rfl,q⟩
include T in def j8:FnAt P w K mg base fb "lowest" 1 ["top","bottom"] jZ:=by
 exists 0,T.my,nz,sQ,jZ;rename_i t b;refine ⟨_,(af (aS (i:=2) nz.nd rfl (Or.inl rfl) (ar yB (ar xK (pv 0) (pv 1)) (uc pH (ar xK (pv 0) (pv 1)))))
 (aq (aE (cY (az (ar jF (pv 0) (pv 2)) (az (ar jF (pv 1) (pv 2)) av)))))),?_⟩
 obtain ⟨⟨h0,h1,h2⟩,q⟩:=h;walk_at "wps";rw [WaysI.lowbit h0 h1];have hl:=WaysI.yK h0 h1;have hd: ∀i,rb i (WaysM.lb (t.toNat |||b.toNat):Nat):=fun i=>⟨hl.1,h2.le (Int.le_of_lt hl.1) hl.2⟩;exact ⟨hd _,hd _,q⟩
include T in def j_:cE P w K mg base fb ai "__init__" 1 ["self","first","longest"] (dA ai):=by
 exists 0,T.eg,j2,kG,dA;rename_i p f l;refine ⟨_,(af (aG (pv 0) (pv 2) T.aO T.cw)
 (af (aG (pv 0) b9 T.aO T.aI)
 (af (aG (pv 0) b9 T.aO T.aY)
 (aq (aG (pv 0) (pv 1) T.aO T.bO))))),?_⟩
 obtain ⟨dx,hp,q⟩:=h;exists hp;exact q
include T in def iA:cE P w K mg base fb ai "next_spread" 2 ["self","m"] (cF ai):=by
 exists 0,T.cZ,cL,iO,cF;rename_i p m;refine ⟨_,(af (aS (i:=2) cL.nd rfl (Or.inl rfl) (ar dQ (bJ (dI K rfl) (ak (pv 0) T.aO T.aI rfl) ah (fun _ _=>rfl)) (bJ (dI K rfl) (ak (pv 0) T.aO T.aY rfl) ah (fun _ _=>rfl))))
 (aw (af (aS (i:=3) cL.nd rfl (Or.inl rfl) (a9 vt (by rfl) T.vy Ak (az (ar dH (bJ (dI K rfl) (ak (pv 0) T.aO T.aI rfl) ah (fun _ _=>rfl)) (ar dQ (pv 1) (bJ (dI K rfl) (ak (pv 0) T.aO T.aI rfl) ah (fun _ _=>rfl)))) av)))
 (aw (aq (aE (bD (j8 T) HR (by decide) rfl (az (ar (aP K rfl) (ar dQ (ar fI ah (bJ (dI K rfl) (ak (pv 0) T.aO T.aY rfl) ah (fun _ _=>rfl))) (bJ (dI K rfl) (ak (pv 0) T.aO T.aI rfl) ah (fun _ _=>rfl))) (ar dQ (pv 3) (bJ (dI K rfl) (ak (pv 0) T.aO T.aY rfl) ah (fun _ _=>rfl)))) (az (ar fI ah (pv 2)) av))))))))),?_⟩
 obtain ⟨dx,L,w,a,A,b,B,W,⟨ps,pp,hp,hs,hq⟩,q⟩:=h;generalize h_u1:ao _=u1;exists hp,hs,hq;have m2:=W.mB;have b3:Bd 1002 (3*b):=Bd.mul (a:=2) (Bd.c (k:=3) (by decide)) W.b1;have hAB:=W.A1.mul W.B1;have d:=((W.a1.up (show 1000<=1020 by decide)).sub (m2.mul W.A1)).abs;have p1:=Int.mul_pos W.A0 W.B0;refine ⟨jc W.A1 W.B1 (by decide) (by decide),?_⟩;rw [<-h_u1,ao];generalize h_u2:ao _=u2;exists hp,hs,hq;refine ⟨jc m2 W.A1 (by decide) (by decide),_,rfl,?_⟩;rw [Fc];rw [<-h_u2,ao];exists hp,hs,hq;refine ⟨jc b3 W.A1 (by decide) (by decide),jc d W.B1 (by decide) (by decide),⟨?_,by lia,((Bd.c (n:=3) (k:=4) (by decide)).mul hAB).up (by decide)⟩,q⟩;have:=Int.mul_nonneg (Int.mul_nonneg (show (0:Int)<=3 by decide) W.b0) (Int.le_of_lt W.A0);have:=Int.mul_nonneg (Int.natCast_nonneg (a - m*A).natAbs) (Int.le_of_lt W.B0);lia
include T in def iB:cE P w K mg base fb ai "next_smooth" 2 ["self","m"] (cG ai):=by
 exists 0,T.c4,iu,iP,cG;rename_i p m;refine ⟨_,(aq (aE (bD (j8 T) HR (by decide) rfl (az (ar (aP K rfl) (ar fI ah (bJ (dI K rfl) (ak (pv 0) T.aO T.aI rfl) ah (fun _ _=>rfl))) (ar dQ (pv 1) (bJ (dI K rfl) (ak (pv 0) T.aO T.aI rfl) ah (fun _ _=>rfl)))) (az (ar fI ah (bJ (dI K rfl) (ak (pv 0) T.aO T.aI rfl) ah (fun _ _=>rfl))) av))))),?_⟩;obtain ⟨dx,L,s,ps,w,a,A,⟨m0,m1,a0,A0,A1⟩,hp,hs,q⟩:=h;exists hp,hs;have:=Int.mul_nonneg m0 (Int.le_of_lt A0);exact ⟨yE (by lia),⟨by lia,by lia,((Bd.c (n:=3) (k:=4) (by decide)).mul A1).up (by decide)⟩,q⟩
include T in def ja:cE P w K mg base fb ai "least_wait" 1 ["self"] (cP ai):=by
 exists 0,T.dr,eL,ju,cP;rename_i p;refine ⟨_,(af (aS (i:=1) eL.nd rfl (Or.inl rfl) (ar (aP K rfl) (ar dQ (bJ (dI K rfl) (ak (pv 0) T.aO T.aI rfl) ah (fun _ _=>rfl)) (bJ (dI K rfl) (ak (pv 0) T.aO T.aY rfl) ah (fun _ _=>rfl))) (ar dQ (ar fI ah (bJ (dI K rfl) (ak (pv 0) T.aO T.aY rfl) ah (fun _ _=>rfl))) (bJ (dI K rfl) (ak (pv 0) T.aO T.aI rfl) ah (fun _ _=>rfl)))))
 (aw (aq (aE (uc pH (ar jF (uc pH (pv 1)) (ar dQ (bJ (dI K rfl) (ak (pv 0) T.aO T.aI rfl) ah (fun _ _=>rfl)) (bJ (dI K rfl) (ak (pv 0) T.aO T.aY rfl) ah (fun _ _=>rfl))))))))),?_⟩
 obtain ⟨dx,L,w,a,A,b,B,⟨A0,B0,a1,A1,b1,B1⟩,⟨ps,pp,hp,hs,hq⟩,q⟩:=h;generalize h_u1:ao _=u1;exists hp,hs,hq;refine ⟨jc a1 B1 (by decide) (by decide),jc ((Bd.c (n:=3) (k:=4) (by decide)).mul b1) A1 (by decide) (by decide),?_⟩;rw [<-h_u1,ao];exists hp,hs,hq;exact ⟨jc A1 B1 (by decide) (by decide),Aa (Int.mul_pos A0 B0) (A1.mul B1) (by decide),q⟩
include T in def j9:cE P w K mg base fb ai "measured" 3 ["self","m"] (cz ai):=by
 exists 0,T.ed,j1,kF,cz;rename_i p m;refine ⟨_,(af (bg (aF jE (ak (pv 0) T.aO T.aI rfl) b9 (nomark _)) (af (aG (pv 0) (cY (az (pv 1) (az ah av))) T.aO T.aI)
 (aw (aq (aG (pv 0) (bD (j8 T) HR (by decide) rfl (az (pv 1) (az ah av))) T.aO T.aY)))) (af (aG (pv 0) (bI (pv 0) T.aO (iA T) HR (by decide) (az (pv 1) av)) T.aO T.aY)
 (aw (aq (aG (pv 0) (bI (pv 0) T.aO (iB T) HR (by decide) (az (pv 1) av)) T.aO T.aI)))))
 (aw (aq (aG (pv 0) (a9 (ip rfl) (by rfl) T.nS oF (az (ui rfl T.gE) (az (a9 (kD rfl) (by rfl) T.pC qh (az (ak (pv 0) T.aO T.cw rfl) (az (br (pv 0) T.aO (ja T) HR (by decide)) av))) av))) T.aO T.bO)))),?_⟩
 obtain ⟨hm,⟨dx,L,w,hp,q⟩|⟨dx,L,w,a,A,b,B,W,⟨ps,pp,hp,hs,hq⟩,q⟩⟩:=h
 ·
  generalize h_u1:ao _=u1;generalize h_u2:ao _=u2;generalize h_u3:ao _=u3;exists hp;intro p1 hp1;have n1:p≠p1:=aA hp hp1;have e1:=aJ (o:= .tup [V.int m,V.int 1]) hp hp1;exists e1;rw [<-h_u1,ao];walk_at "wps";refine ⟨⟨hm.1,Bd.up (a:=2) (Bd.c (k:=2) (by decide)) (by decide)⟩,fun p2 hp2=>?_⟩;have n2:p2≠p:=fresh_ne hp2;have n3:p1≠p2:=fun e=>by rw [<-e,aj n1.symm,au] at hp2;cases hp2
  have e2:=aJ (o:= .tup [V.int (WaysM.low m 2).1,V.int (WaysM.low m 2).2]) (au (H:=upd H p1 (.tup [V.int m,V.int 1])) (a:=p) (o:= .ins ai dx (aM (.int L) (.ref p1) .non (.int w)))) hp2;exists e2;rw [<-h_u3,ao];walk_at "wps";obtain ⟨s,Lo⟩:=WaysM.fU (t:=m) (b:=2) hm.1 (by decide);have l1:=Lo.t0;have l2:=Lo.b0;have l3:=Lo.tl;have l4:=Lo.bl;have mb:Bd 20 m:=Bd.of hm.1 (by lia);refine ⟨dx,L,w,m,1,(WaysM.low m 2).1,(WaysM.low m 2).2,⟨by decide,l2,mb.up (by decide),Bd.up (a:=1) (Bd.c (k:=1) (by decide)) (by decide),(mb.le l1 l3).up (by decide),(Bd.le (Bd.c (n:=2) (k:=2) (by decide)) (Int.le_of_lt l2) l4).up (by decide)⟩,⟨p1,p2,au,?_,?_⟩,?_⟩
  ·rw [aj n1.symm,aj n3,aj n1.symm,au]
  ·rw [aj n2,au]
  ·
   refine q _ ?_ ⟨p1,p2,au,?_,?_⟩
   ·
    intro b o hb hne;rw [aj hne,aj,aj hne,aj (aA hb hp1)]
    ·exact hb
    ·intro e;rw [e] at hb;rw [aj n2,aj n3.symm] at hp2;rw [hb] at hp2;cases hp2
   ·rw [aj n1.symm,aj n3,aj n1.symm,au]
   ·rw [aj n2,au]
 ·
  generalize h_u1:ao _=u1;generalize h_u2:ao _=u2;generalize h_u3:ao _=u3;exists hp,hs,hq;have n0:ps≠p:=a_ hs hp (by simp);refine ⟨dx,L,w,a,A,b,B,W,⟨ps,pp,hp,hs,hq⟩,fun q1 hq1=>?_⟩;have n1:p≠q1:=aA hp hq1;have n4:ps≠q1:=aA hs hq1;have e1:=aJ (o:= .tup [V.int (nsp a A b B m).1,V.int (nsp a A b B m).2]) hp hq1;exists e1;rw [<-h_u2,ao];walk_at "wps";refine ⟨dx,L,.ref q1,ps,w,a,A,⟨hm.1,hm.2,W.a0,W.A0,W.A1⟩,rfl,by rw [aj n0,aj n4];exact hs,fun q2 hq2=>?_⟩;have n2:q2≠p:=fresh_ne hq2;have n3:q1≠q2:=fun e=>by rw [<-e,aj n1.symm,au] at hq2;cases hq2
  have e2:=aJ (o:= .tup [V.int (nsm a A m).1,V.int (nsm a A m).2]) (au (H:=upd H q1 (.tup [V.int (nsp a A b B m).1,V.int (nsp a A b B m).2])) (a:=p) (o:= .ins ai dx (aM (.int L) (.ref ps) (.ref q1) (.int w)))) hq2;exists e2;rw [<-h_u3,ao];walk_at "wps";have B1:=W.ET;have B2:=W.ES;refine ⟨dx,L,w,_,_,_,_,⟨B1.2.1,B2.2.1,B1.2.2.1,B1.2.2.2,B2.2.2.1,B2.2.2.2⟩,⟨q2,q1,au,?_,?_⟩,?_⟩
  ·rw [aj n2,au]
  ·rw [aj n1.symm,aj n3,aj n1.symm,au]
  ·
   refine q _ ?_ ⟨q2,q1,au,?_,?_⟩
   ·
    intro b o hb hne;rw [aj hne,aj,aj hne,aj (aA hb hq1)]
    ·exact hb
    ·intro e;rw [e] at hb;rw [aj n2,aj n3.symm] at hq2;rw [hb] at hq2;cases hq2
   ·rw [aj n2,au]
   ·rw [aj n1.symm,aj n3,aj n1.symm,au]
include T in def gI:cE P w K mg base fb ai "ran_out" 1 ["self"] (d4 ai):=by
 exists 0,T.eY,kS,lA,d4;rename_i p;refine ⟨_,(aq (aG (pv 0) (a9 (kD rfl) (by rfl) T.pC qh (az (ar fI ah (ak (pv 0) T.aO T.bO rfl)) (az (ak (pv 0) T.aO T.cw rfl) av))) T.aO T.bO)),?_⟩;obtain ⟨dx,L,s,sp,w,hp,q⟩:=h;exists hp;exact q
include T in def iV:FnAt P w K mg base fb "_law_whole" 1 ["_law_found"] fw:=by
 exists 0,T.gz,mQ,m7,fw;refine ⟨_,(aq (aE (j7 (a9 (kE K rfl) (by rfl) T.dv fR (az (pv 0) (az (ue rfl T.vx Aj) av))) (nZ (ug (a9 (kE K rfl) (by rfl) T.dv fR (az (pv 0) (az (ue rfl T.qj xh) av)))))))),?_⟩;walk_at "wps";exact h
include T in def bF (a₀:Addr) (ns:List Int):FnAt P w K mg base fb "_law_cell_at" 1 ["_law_script","_law_k"] (d3 K a₀ ns):=by
 exists 0,T.eX,kR,lz,d3;rename_i a k;refine ⟨_,(af (bg (aF fo (pv 1) (a9 (nN K rfl) (by rfl) T.mK mE (az (pv 0) av)) (nomark _)) (aq (aE (bJ (C9 K rfl) (pv 0) (pv 1) (fun _ _=>rfl)))) aL)
 (aq (aE ah))),?_⟩
 obtain ⟨rfl,hS,h0,q⟩:=h;walk_at "wps";refine ⟨_,.inl hS,?_⟩;rw [List.length_map];split
 ·rename_i c;exact uJ hS h0 c (q _)
 ·exact q _
include T in def ux:FnAt P w K mg base fb "ahead" 1 ["ring","one","other"] lP:=by
 exists 0,T.oz,tj,vw,lP;rename_i r a b;refine ⟨_,(aq (aE (ar aX (ar dH (pv 2) (pv 1)) (pv 0)))),?_⟩;walk_at "wps";exact h
include T in def mT:cE P w K mg base fb aa "put" 1 ["self","thing"] (fz aa ai ae):=by
 exists 0,T.gC,mR,m_,fz;rename_i x th;refine ⟨_,(aq (bG (p0 K rfl (ak (pv 0) T.ag T.bU rfl) (pv 1)))),?_⟩;obtain ⟨A,z,hS,hl,q⟩:=h;exists hS.hx,hS.ht;refine ⟨sU (cD.of hS.ht),by rw [sizeLine_eq];lia,q _ gP.upd ?_⟩;exact hS.row hS.ht _ z.Kn z.Fi (by simp) (by simp) au (by rw [aj (a_ hS.hk hS.ht (by simp))];exact hS.hk) (by rw [aj (a_ hS.hf hS.ht (by simp))];exact hS.hf) (a_ hS.ht hS.ha (by simp))
include T in def l9:cE P w K mg base fb aa "many" 1 ["self"] (eJ aa ai ae):=by
 exists 0,T.fP,lS,mI,eJ;rename_i x;refine ⟨_,(aq (aE (a9 (iq K rfl) (by rfl) T.mK mE (az (ak (pv 0) T.ag T.bU rfl) av)))),?_⟩;obtain ⟨A,z,hS,q⟩:=h;exists hS.hx,hS.ht;exact q
include T in def cv:cE P w K mg base fb aa "known_above_base" 1 ["self"] (bx aa ai ae):=by
 exists 0,T.bE,eM,e9,bx;rename_i x;refine ⟨_,(aq (aE (a9 (iq K rfl) (by rfl) T.mK mE (az (n_ (N:=(["place","self"]:List Str)) (nv:=1) (ix:=[0]) rfl (qX (by kernel_rfl)) (nG rfl T.eC (az (ar (aP K rfl) (ak (pv 0) T.ag T.aB rfl) ah) (az (ak (pv 0) T.ag T.aH rfl) av))) (fun _ _ _ _ _=>(aU (i:=0) (show ((["place","self"]:List Str)).Nodup by decide) rfl (Or.inl rfl))) (fun _ _ _ _ _=>(lD (pW (AY HR.units (pv 0) (ak (pv 1) T.ag T.aV rfl)) (oh rfl)))) (fun _ _ _ _ _=>(pv 0))) av)))),?_⟩;obtain ⟨A,z,hS,⟨b0,b1,b2⟩,q⟩:=h;exists hS.hx;refine ⟨by lia,?_⟩;refine vo (p:=fun v=>match v with | .int i=>knw z.Kn i|_=>false) (f:=fun v=>v) (de (by lia)) ?_ ?_ ?_
 ·
  intro j hj Q' q';exists hS.hx,hS.hk;exact q'
 ·
  intro j hj _ Q' q';walk_at "wps";exact q'
 have e:=wJ (z:=z) rfl;have kl:=p8 (z:=z);refine ⟨de (by rw [e];lia),fun l hl=>?_⟩;rw [e];exact q _ (aK hl)
include T in def bK:cE P w K mg base fb aa "under_way" 2 ["self"] (cH aa ai ae):=by
 exists 0,T.c5,iw,iQ,cH;rename_i x;refine ⟨_,(aq (aE (ar dH (ar dH (ak (pv 0) T.ag T.aH rfl) (ak (pv 0) T.ag T.aB rfl)) (br (pv 0) T.ag (cv T) HR (by decide))))),?_⟩;obtain ⟨A,z,hS,hb,q⟩:=h;exists hS.hx;exact ⟨A,z,hS,hb,fun H' sm=>q H' sm⟩
include T in def dy:cE P w K mg base fb aa "thing_waits" 2 ["self"] (bV aa ai ae):=by
 exists 0,T.cx,gJ,gM,bV;rename_i x;refine ⟨_,(aq (aE (fj fo (ak (pv 0) T.ag T.aH rfl) (br (pv 0) T.ag (l9 T) HR (by decide)) (nomark _)))),?_⟩;obtain ⟨A,z,hS,q⟩:=h;exists hS.hx;exact ⟨A,z,hS,q⟩
include T in def gn:cE P w K mg base fb aa "hurry_is_due" 2 ["self"] (bP aa ai ae):=by
 exists 0,T.b_,f7,gF,bP;rename_i x;refine ⟨_,(aq (aE (j7 (fj fo (ak (pv 0) T.ag T.aB rfl) (ak (pv 0) T.ag T.aH rfl) (nomark _)) (j7 (ug (ak (pv 0) T.ag T.aW rfl)) (nZ (fj uv (br (pv 0) T.ag (cv T) HR (by decide)) (ui rfl T.dN) (nomark _))))))),?_⟩;obtain ⟨A,z,hS,hb,q⟩:=h;exists hS.hx;by_cases c1:z.b<z.t
 ·
  rw [if_pos c1];cases c2:z.hur
  ·
   rw [c2] at q;refine ⟨A,z,hS,hb,fun H' sm=>?_⟩;have:=q H' sm;simp only [decide_eq_true c1,Bool.true_and,Bool.not_false] at this;simpa using this
  ·
   rw [c2] at q;have:=q H (eo.refl _);simpa [c1] using this
 ·
  rw [if_neg c1];have:=q H (eo.refl _);simpa [c1] using this
include T in def g8:cE P w K mg base fb aa "new_may_go" 3 ["self"] (cn aa ai ae):=by
 exists 0,T.cN,gS,ia,cn;rename_i x;refine ⟨_,(aq (aE (j7 (br (pv 0) T.ag (dy T) HR (by decide)) (j7 (fj fo (ak (pv 0) T.ag T.aH rfl) (ak (pv 0) T.ag T.bw rfl) (nomark _)) (nZ (fj fo (br (pv 0) T.ag (bK T) HR (by decide)) (ak (ak (pv 0) T.ag T.bz rfl) T.aQ T.aR rfl) (nomark _))))))),?_⟩;obtain ⟨A,z,hS,hb,q⟩:=h;exists hS.hx;refine ⟨A,z,hS,?_⟩;by_cases c1:z.t<z.T.length
 ·
  rw [if_pos c1];by_cases c2:z.t<z.e
  ·
   rw [if_pos c2];refine ⟨A,z,hS,hb,fun H' sm=>?_⟩;have S':=hS.same sm;obtain ⟨em,hi⟩:=S'.ms;exists S'.hx,em;have:=q H' sm;simpa [c1,c2] using this
  ·
   rw [if_neg c2];have:=q H (eo.refl _);simpa [c1,c2] using this
 ·
  rw [if_neg c1];have:=q H (eo.refl _);simpa [c1] using this
include T in def dz:cE P w K mg base fb aa "newly_known" 1 ["self","places"] (bW aa ai ae):=by
 exists 0,T.cy,bX,gN,bW;rename_i x l;refine ⟨_,(af (wk (i:=2) (N:=(["place","self"]:List Str)) (nv:=1) (ix:=[0]) rfl bX.nd rfl rfl (qX (by kernel_rfl)) (ie K rfl (pv 1)) (fun _ _ _ _ _=>(aU (i:=0) (show ((["place","self"]:List Str)).Nodup by decide) rfl (Or.inl rfl))) (fun _ _ _ _ _=>(lD (pW (um HR.units (pv 0) (ak (pv 1) T.ag T.aV rfl)) (oh rfl)))) (fun _ _ _ _ _=>(pv 0)))
 (af (gZ PassesOwn.never rfl (ie K rfl (pv 2)) (aU (i:=3) bX.nd rfl (Or.inl rfl)) (aq (pX HR.units (ak (pv 0) T.ag T.aV rfl) (pv 3) g7)))
 (aq (aE (pv 2))))),?_⟩
 obtain ⟨A,z,ps,hS,hl,hk,hpl,q⟩:=h;walk_at "wps";refine xc (xs:=ps.map V.int) (p:=fun v=>match v with | .int i=>!knw z.Kn i|_=>false) (f:=fun v=>v) (cD.of hl) (de (by rw [List.length_map];lia)) ?_ ?_ ?_
 ·
  intro y hy Q' q';obtain ⟨i,_,rfl⟩:=List.mem_map.mp hy;exists hS.hx,hS.hk;exact q'
 ·
  intro y hy _ Q' q';walk_at "wps";exact q'
 rw [zR];have hfl:(frs z.Kn ps).length<=ps.length:=List.length_filter_le _ _;refine ⟨de (by rw [List.length_map];lia),fun l1 hl1=>?_⟩;generalize frs z.Kn ps=fs at*
 have S1:=hS.same (aK (o:= .lst (fs.map V.int)) hl1);have s1:=aK (o:= .lst (fs.map V.int)) hl1;have k1:=au (H:=H) (a:=l1) (o:= .lst (fs.map V.int));generalize upd H l1 (.lst (fs.map V.int))=H1 at*
 refine lK (xs:=fs.map V.int) (cD.of k1) (fun i σ H'=>H' l1=some (.lst (fs.map V.int))/\kK x A H H'/\aT aa ai ae H' x A {z with Kn:=putAll z.Kn (fs.take i)}/\∃v,σ= [some (.ref x),some (.ref l),some (.ref l1),v]) ⟨k1,kK.of s1,S1,none,rfl⟩ (fun i σ H' _ hp=>cD.of hp.1) (fun i y σ H' hy hp=>?_) (fun σ H' hp=>?_)
 ·
  obtain ⟨h1,f1,S2,v,rfl⟩:=hp;obtain ⟨c,rfl,hc⟩:=ft hy;have nlk:l1≠A.pk:=a_ h1 S2.hk (by simp);have hkl:(putAll z.Kn (fs.take i)).length<=z.Kn.length+(fs.take i).length:=gm;have htl:(fs.take i).length<=fs.length:=by rw [List.length_take];exact Nat.min_le_right _ _
  exists S2.hx,S2.hk;refine ⟨by rw [sizeLine_eq];lia,by rw [aj nlk];exact h1,fun b u e a1 a2 a3 a4 a5 a6=>by rw [aj a5];exact f1 b u e a1 a2 a3 a4 a5 a6,?_,_,rfl⟩;have et:putK (putAll z.Kn (fs.take i)) (ik c) (.bl true)=putAll z.Kn (fs.take (i+1)):=by
   rw [List.take_add_one,hc];exact putAll_snoc.symm
  rw [et];exact S2.row S2.hk z.T (putAll z.Kn (fs.take (i+1))) z.Fi (by simp) (by simp) (by rw [aj (a_ S2.ht S2.hk (by simp))];exact S2.ht) au (by rw [aj S2.kf.symm];exact S2.hf) S2.ka
 ·
  obtain ⟨h1,f1,S2,v,rfl⟩:=hp;rw [List.length_map,List.take_length] at S2;walk_at "wps";exact q l1 _ hl1 f1 S2 h1
include T in def bL:cE P w K mg base fb aa "set_clock" 1 ["self","turn"] (cI aa ai ae):=by
 exists 0,T.c6,iy,iR,cI;rename_i x n;refine ⟨_,(aq (aG (pv 0) (ar (aP K rfl) (pv 1) (ak (ak (pv 0) T.ag T.bu rfl) T.aO T.bO rfl)) T.ag T.bj)),?_⟩;obtain ⟨A,z,hS,q⟩:=h;obtain ⟨s0,sp0,hw⟩:=hS.ws.ins;exists hS.hx,hw;exact q _ gP.upd (hS.put _ _ _ _ _)
include T in def iD:cE P w K mg base fb aa "grow_base" 2 ["self","steps"] (cK aa ai ae):=by
 exists 0,T.c8,er,iT,cK;rename_i x st;refine ⟨_,(af (aS (i:=2) er.nd rfl (Or.inl rfl) (ak (pv 0) T.ag T.aB rfl))
 (af (jD (pv 0) (pv 1) T.ag T.aB jI)
 (aq (aE (bI (pv 0) T.ag (dz T) HR (by decide) (az (lY (qf K rfl rfl) (by rfl) T.qi xg (az (wx rfl T.eC (az (pv 2) (az (ak (pv 0) T.ag T.aB rfl) av))) av)) av)))))),?_⟩
 obtain ⟨A,z,hS,⟨b0,b1,b2⟩,hst,hk,q⟩:=h;exists hS.hx;refine ⟨by lia,fun p hp=>⟨by lia,by lia,fun l hl=>?_⟩⟩;have S1:=hS.put (z.b+st) z.t z.e z.clk z.hur;have b1:gP x H (upd H x (HO.ins aa A.dx (ax (V.int z.R) (V.ref A.pw) (V.ref A.pm) (V.ref A.pt) (V.int (z.b+st)) (V.int z.t) (V.int z.e) z.clk (V.bl z.hur) (V.ref A.pk) (V.ref A.pf) (V.ref A.pa)))):=gP.upd;generalize upd H x (HO.ins aa A.dx (ax (V.int z.R) (V.ref A.pw) (V.ref A.pm) (V.ref A.pt) (V.int (z.b+st)) (V.int z.t) (V.int z.e) z.clk (V.bl z.hur) (V.ref A.pk) (V.ref A.pf) (V.ref A.pa)))=H1 at*
 have S2:=(S1.same (aK (o:= .rng z.b (z.b+st)) hp)).same (aK (o:= .lst (fT z.b (z.b+st - z.b).toNat)) hl);have b2:gP x H (upd (upd H1 p (.rng z.b (z.b+st))) l (.lst (fT z.b (z.b+st - z.b).toNat))):=(b1.new hp).new hl;generalize upd (upd H1 p (.rng z.b (z.b+st))) l (.lst (fT z.b (z.b+st - z.b).toNat))=H2 at*
 have il:(irg z.b st.toNat).length<=1000:=by unfold irg;rw [List.length_map,List.length_range];lia
 refine ⟨A,_,irg z.b st.toNat,S2,by rw [show z.b+st - z.b=st by lia,uO],hk,il,fun p1 H3 hp1 fr S3 hl3=>?_⟩;refine q _ p1 H3 rfl ?_ (fun b u e a1 a2 a3 a4 a5 a6=>fr b u (b2 b u e a1) a1 a2 a3 a4 a5 a6) S3 hl3;cases e:H p1 with
 |none=>rfl
 |some u=>
  exfalso;by_cases c:p1=x
  ·rw [c,S2.hx] at hp1;cases hp1
  ·rw [b2 p1 u e c] at hp1;cases hp1
include T in def iC:cE P w K mg base fb aa "note_held" 2 ["self","held"] (cJ aa ai ae):=by
 exists 0,T.c7,iz,iS,cJ;rename_i x t;refine ⟨_,(aq (aE (bI (pv 0) T.ag (dz T) HR (by decide) (az (n_ (N:=(["step","self"]:List Str)) (nv:=1) (ix:=[0]) rfl (qX (by kernel_rfl)) (ie K rfl (pv 1)) (fun _ _ _ _ _=>(aU (i:=0) (show ((["step","self"]:List Str)).Nodup by decide) rfl (Or.inl rfl))) (fun _ _ _ _ _=>(lD (aF fo (ar (aP K rfl) (ak (pv 1) T.ag T.aB rfl) (pv 0)) (ak (pv 1) T.ag T.aH rfl) (nomark _)))) (fun _ _ _ _ _=>(ar (aP K rfl) (ak (pv 1) T.ag T.aB rfl) (pv 0)))) av)))),?_⟩;obtain ⟨A,z,hs,hS,ht,hl,hk,q⟩:=h;exists hS.hx;refine Ah (xs:=hs.map V.int) (p:=fun v=>match v with | .int i=>decide (z.b+i<z.t)|_=>false) (f:=fun v=>match v with | .int i=> .int (z.b+i)|v=>v) (dZ.of ht) (de (by rw [List.length_map];lia)) ?_ ?_ ?_
 ·
  intro y hy Q' q';obtain ⟨i,_,rfl⟩:=List.mem_map.mp hy;exists hS.hx;exact q'
 ·
  intro y hy _ Q' q';obtain ⟨i,_,rfl⟩:=List.mem_map.mp hy;exists hS.hx;exact q'
 rw [zI];have hl2:=ot (z:=z) (hs:=hs);refine ⟨de (by rw [List.length_map];lia),fun l hl3=>?_⟩;have S1:=hS.same (aK (o:= .lst ((hld z hs).map V.int)) hl3);have s1:=aK (o:= .lst ((hld z hs).map V.int)) hl3;refine ⟨A,z,_,S1,rfl,hk,by lia,fun p H3 hp fr S3 hl4=>q _ p H3 rfl ?_ (fun b u e a1 a2 a3 a4 a5 a6=>fr b u (s1 b u e) a1 a2 a3 a4 a5 a6) S3 hl4⟩;exact w6 s1 hp
include T in def eS:cE P w K mg base fb aa "go_again" 2 ["self","turn"] (cQ aa ai ae):=by
 exists 0,T.dt,i7,jv,cQ;rename_i x n;refine ⟨_,(af (bG (bI (pv 0) T.ag (bL T) HR (by decide) (az (pv 1) av)))
 (af (aG (pv 0) g7 T.ag T.aW)
 (af (pX HR.units (ak (pv 0) T.ag T.bq rfl) (ak (pv 0) T.ag T.aB rfl) g7)
 (aq (aE (cY (az g6 (az (ak (pv 0) T.ag T.aB rfl) av)))))))),?_⟩
 obtain ⟨A,z,hS,hl,q⟩:=h;exists hS.hx;refine ⟨A,z,hS,fun H1 hB S1=>?_⟩;have nax:A.pa≠x:=a_ S1.ha S1.hx (by simp);exists S1.hx,S1.ha,aj nax,aj nax.symm;refine ⟨by rw [sizeLine_eq];lia,fun p hp=>?_⟩;have S2:=S1.put z.b z.t z.e (.int (n+z.w)) true;have S3:=S2.DZ (putK z.Ag (ik z.b) (.bl true));have f3:lM x A H (upd (upd H1 x (.ins aa A.dx (ax (.int z.R) (.ref A.pw) (.ref A.pm) (.ref A.pt) (.int z.b) (.int z.t) (.int z.e) (.int (n+z.w)) (.bl true) (.ref A.pk) (.ref A.pf) (.ref A.pa)))) A.pa (.dK (putK z.Ag (ik z.b) (.bl true)))):=fun b u e a1 a2 a3 a4 a5 a6 a7=>by rw [aj a7,aj a1];exact hB b u e a1
 exact q p _ (f3.none S3 hp) (fun b u e a1 a2 a3 a4 a5 a6 a7=>aJ (f3 b u e a1 a2 a3 a4 a5 a6 a7) hp) (S3.same (aK hp)) au
include T in def dj:cE P w K mg base fb aa "clock_is_out" 1 ["self","turn"] (bQ aa ai ae):=by
 exists 0,T.cb,f_,gG,bQ;rename_i x n;refine ⟨_,(aq (aE (j7 (fj ur (ak (pv 0) T.ag T.bj rfl) b9 (nomark _)) (nZ (fj uv (pv 1) (ak (pv 0) T.ag T.bj rfl) (nomark _)))))),?_⟩;obtain ⟨A,z,r,hS,hc,q⟩:=h;have hx:=hS.hx;rcases hc with ⟨hc,rfl⟩|⟨c,hc,rfl⟩
 ·
  rw [hc] at hx;exists hx;exact q
 ·
  rw [hc] at hx;exists hx;exact q
include T in def kb:cE P w K mg base fb aa "go_new" 2 ["self","turn"] (dB aa ai ae):=by
 exists 0,T.eh,fS,kH,dB;rename_i x n;refine ⟨_,(af (aS (i:=2) fS.nd rfl (Or.inl rfl) (ak (pv 0) T.ag T.aH rfl))
 (qD (bg (aF (cu K rfl HR.units) (ak (pv 0) T.ag T.aB rfl) (ak (pv 0) T.ag T.aH rfl) (nomark _)) (aq (bG (bI (pv 0) T.ag (bL T) HR (by decide) (az (pv 1) av)))) aL)
 (af (pX HR.units (ak (pv 0) T.ag T.bh rfl) (pv 2) (pv 1))
 (af (jD (pv 0) ah T.ag T.aH jI)
 (aq (aE (cY (az g6 (az (pv 2) av))))))))),?_⟩
 obtain ⟨A,z,hS,hl,q⟩:=h;exists hS.hx;refine ⟨fun σ' H'=>gP x H H'/\aT aa ai ae H' x A {z with clk:=if z.b=z.t then .int (n+z.w) else z.clk}/\σ'= [some (.ref x),some (.int n),some (.int z.t)],?_,?_⟩
 ·
  exists hS.hx;by_cases c:z.b=z.t
  ·
   rw [if_pos c,if_pos c];exact ⟨A,z,hS,fun H' hB S'=>⟨hB,S'⟩⟩
  ·
   rw [if_neg c,if_neg c];exact ⟨gP.refl,hS⟩
 rintro σ' H1 ⟨hB,S1,rfl⟩;generalize (if z.b=z.t then V.int (n+z.w) else z.clk)=ck at*
 have nfx:A.pf≠x:=a_ hS.hf hS.hx (by simp);exists S1.hx,S1.hf,aj nfx.symm;refine ⟨by rw [sizeLine_eq];lia,fun p hp=>?_⟩;have S2:=S1.row (u:= .dK (putK z.Fi (ik z.t) (.int n))) S1.hf z.T z.Kn (putK z.Fi (ik z.t) (.int n)) (by simp) (by simp) (by rw [aj (a_ S1.ht S1.hf (by simp))];exact S1.ht) (by rw [aj S1.kf];exact S1.hk) au S1.fa;have S3:=S2.put z.b (z.t+1) z.e ck z.hur;have fr:kK x A H (upd (upd H1 A.pf (.dK (putK z.Fi (ik z.t) (.int n)))) x (.ins aa A.dx (ax (.int z.R) (.ref A.pw) (.ref A.pm) (.ref A.pt) (.int z.b) (.int (z.t+1)) (.int z.e) ck (.bl z.hur) (.ref A.pk) (.ref A.pf) (.ref A.pa)))):=fun b u e a1 a2 a3 a4 a5 a6=>by rw [aj a1,aj a6];exact hB b u e a1
 exact q p _ (fr.none S3 hp) (fun b u e a1 a2 a3 a4 a5 a6=>aJ (fr b u e a1 a2 a3 a4 a5 a6) hp) (S3.same (aK hp)) au
include T in def gp:cE P w K mg base fb aa "ask_for_room" 3 ["self","turn"] (bR aa ai ae):=by
 exists 0,T.cc,gb,gH,bR;rename_i x n;refine ⟨_,(af (bg (aF jE (ak (pv 0) T.ag T.bj rfl) b9 (nomark _)) (af (bG (bI (pv 0) T.ag (bL T) HR (by decide) (az (pv 1) av)))
 (aw (aq (aE b9)))) aL)
 (aw (af (bg (gY (lV (bI (pv 0) T.ag (dj T) HR (by decide) (az (pv 1) av)))) (aq (aE b9)) aL)
 (aw (af (bG (br (ak (pv 0) T.ag T.bu rfl) T.aO (gI T) HR (by decide)))
 (aw (af (bG (bI (pv 0) T.ag (bL T) HR (by decide) (az (pv 1) av)))
 (aw (aq (aE (cY (az g6 (az b9 av))))))))))))),?_⟩
 obtain ⟨A,z,hS,hc,q⟩:=h;generalize h_u1:ao _=u1;generalize h_u2:ao _=u2;exists hS.hx;by_cases c0:z.clk = .non
 ·
  rw [if_pos c0];refine ⟨A,z,hS,fun H1 hB S1=>?_⟩;rw [<-h_u1,ao];walk_at "wps";exact q .non H1 _ (fun b u e a1 _ _ _ _ _ _=>hB b u e a1) S1 (.inl ⟨c0,rfl,rfl⟩)
 rw [if_neg c0];obtain ⟨i,hi⟩: ∃i,z.clk = .int i:=hc.resolve_left c0;rw [<-h_u2,ao];generalize h_u3:ao _=u3;exists hS.hx;refine ⟨A,z,_,hS,.inr ⟨i,hi,rfl⟩,?_⟩;by_cases c1:i<=n
 ·
  rw [if_neg (by simpa using c1)];rw [<-h_u3,ao];generalize h_u4:ao _=u4;obtain ⟨s0,sp0,ew,hw⟩:=hS.ws.ran;exists hS.hx,ew;refine ⟨A.dw,z.L,s0,sp0,z.w,rfl,?_⟩;have S1:=hS.ways gP.upd hw;have b1:gP A.pw H (upd H A.pw (.ins ai A.dw (aM (V.int z.L) s0 sp0 (V.int (if z.L<2*z.w then z.L else 2*z.w))))):=gP.upd;generalize upd H A.pw (.ins ai A.dw (aM (V.int z.L) s0 sp0 (V.int (if z.L<2*z.w then z.L else 2*z.w))))=H1 at*
  rw [<-h_u4,ao];generalize h_u5:ao _=u5;exists S1.hx;refine ⟨A,_,S1,fun H2 hB S2=>?_⟩;rw [<-h_u5,ao];walk_at "wps";intro p hp;have f2:lM x A H H2:=fun b u e a1 a2 _ _ _ _ _=>hB b u (b1 b u e a2) a1;exact q (.ref p) _ _ (fun b u e a1 a2 a3 a4 a5 a6 a7=>aJ (f2 b u e a1 a2 a3 a4 a5 a6 a7) hp) (S2.same (aK hp)) (.inr (.inr ⟨i,hi,c1,rfl,p,rfl,f2.none S2 hp,au⟩))
 ·
  rw [if_pos (by simpa using c1)];exact q .non H z (fun b u e _ _ _ _ _ _ _=>e) hS (.inr (.inl ⟨i,hi,by lia,rfl,rfl⟩))
include T in def og:cE P w K mg base fb aa "go" 4 ["self","turn"] (fZ aa ai ae):=by
 exists 0,T.h_,nV,oH,fZ;rename_i x n;refine ⟨_,(af (bg (PW.pt (pw_and (aF fo (ak (pv 0) T.ag T.aB rfl) (ak (pv 0) T.ag T.aH rfl) (nomark _)) (pw_and1 (lV (bI (pv 0) T.ag (dj T) HR (by decide) (az (pv 1) av)))))) (af (bG (br (ak (pv 0) T.ag T.bu rfl) T.aO (gI T) HR (by decide)))
 (aw (af (bG (br (ak (pv 0) T.ag T.bz rfl) T.aQ (kd T) HR (by decide)))
 (aw (aq (aE (bI (pv 0) T.ag (eS T) HR (by decide) (az (pv 1) av)))))))) aL)
 (aw (af (bg (lV (br (pv 0) T.ag (gn T) HR (by decide))) (af (bG (br (ak (pv 0) T.ag T.bz rfl) T.aQ (ke T) HR (by decide)))
 (aw (aq (aE (bI (pv 0) T.ag (eS T) HR (by decide) (az (pv 1) av)))))) aL)
 (aw (af (bg (lV (br (pv 0) T.ag (g8 T) HR (by decide))) (aq (aE (bI (pv 0) T.ag (kb T) HR (by decide) (az (pv 1) av)))) aL)
 (aw (af (bg (PW.pt (pw_and (lV (br (pv 0) T.ag (dy T) HR (by decide))) (pw_and1 (aF (cu K rfl HR.units) (ak (pv 0) T.ag T.aB rfl) (ak (pv 0) T.ag T.aH rfl) (nomark _))))) (aq (aE (bI (pv 0) T.ag (gp T) HR (by decide) (az (pv 1) av)))) aL)
 (aq (aE b9))))))))),?_⟩
 obtain ⟨A,z,hS,hb,hc,hAg,hFi,q⟩:=h;generalize h_ua:ao _=ua;generalize h_u1:ao _=u1;obtain ⟨s0,sp0,ew,hw⟩:=hS.ws.ran;exists hS.hx,ew;have rest1:(z.b<z.t->uo z.clk n=false)->u1 {nx:=fun _ H'=>Q .non H',rt:=Q} [some (.ref x),some (.int n)] H:=by
  intro hno;rw [<-h_u1,ao];generalize h_ub:ao _=ub;generalize h_u2:ao _=u2;exists hS.hx;refine ⟨A,z,hS,hb,fun H1 sm1=>?_⟩;have S1:=hS.same sm1;obtain ⟨em,hi⟩:=S1.ms;have ehd:uV z=(decide (z.b<z.t) && !z.hur&&decide ((2:Int)<=kab z)):=rfl;rw [<-ehd];cases hh:uV z
  ·
   rw [if_neg (by decide)];rw [<-h_u2,ao];generalize h_u3:ao _=u3;exists S1.hx;refine ⟨A,z,S1,hb,fun H2 sm2=>?_⟩;have S2:=S1.same sm2;have f2:lM x A H H2:=fun b u e _ _ _ _ _ _ _=>sm2 _ _ (sm1 _ _ e);have non2: ∀p,H2 p=none->H p=none:=fun p hp=>by
    cases e:H p with
    |none=>rfl
    |some u=>rw [sm2 _ _ (sm1 _ _ e)] at hp;cases hp
   have enm:sf z=(decide (z.t<z.T.length)&&decide (z.t<z.e)&&decide (z.t - z.b - kab z<z.wi)):=rfl;rw [<-enm];cases hn:sf z
   ·
    rw [if_neg (by decide)];rw [<-h_u3,ao];exists S2.hx;refine ⟨A,z,S2,?_⟩;have qn: ¬(z.t<z.T.length/\z.b=z.t)->Q .non H2:=fun hno2=>q .non H2 z f2 S2 (.inr ⟨hno,.inr ⟨hh,.inr ⟨hn,.inr ⟨hno2,rfl,rfl⟩⟩⟩⟩);by_cases c1:z.t<z.T.length
    ·
     by_cases c2:z.b=z.t
     ·
      rw [if_pos c1,if_pos c2];exact ⟨A,z,S2,hc,fun v H' z' fr S' g=>q v H' z' (f2.trans fr) S' (.inr ⟨hno,.inr ⟨hh,.inr ⟨hn,.inl ⟨c1,c2,g.fr non2⟩⟩⟩⟩)⟩
     ·
      rw [if_pos c1,if_neg c2];exact qn fun c=>c2 c.2
    ·
     rw [if_neg c1];exact qn fun c=>c1 c.1
   ·
    rw [if_pos rfl];exists S2.hx;refine ⟨A,z,S2,hFi,fun p H3 hp fr S3 hp3=>?_⟩;exact q (.ref p) H3 _ (f2.trans fr.seven) S3 (.inr ⟨hno,.inr ⟨hh,.inl ⟨hn,rfl,p,rfl,non2 p hp,hp3⟩⟩⟩)
  ·
   rw [if_pos rfl];exists S1.hx,em;refine ⟨A.dm,z.mo,z.wi,z.kn,z.co,rfl,?_⟩;have hh1:1<=MeterM.hf z.wi/\MeterM.hf z.wi<=z.mo:=MeterM.Dg hi.1 hi.2.1;have S2:=S1.meter (H':=upd H1 A.pm (.ins ae A.dm (aC (.int z.mo) (.int (MeterM.hf z.wi)) (.int (MeterM.hf z.wi)) (.int 0)))) gP.upd ⟨au,⟨hh1.1,hh1.2,Int.le_refl _,by show (0:Int)<MeterM.hf z.wi;lia⟩⟩;have f2:lM x A H (upd H1 A.pm (.ins ae A.dm (aC (.int z.mo) (.int (MeterM.hf z.wi)) (.int (MeterM.hf z.wi)) (.int 0)))):=fun b u e _ _ a3 _ _ _ _=>by rw [aj a3];exact sm1 b u e
   generalize upd H1 A.pm (.ins ae A.dm (aC (.int z.mo) (.int (MeterM.hf z.wi)) (.int (MeterM.hf z.wi)) (.int 0)))=H2 at*
   rw [<-h_ub,ao];exists S2.hx;refine ⟨A,_,S2,hAg,fun p H3 hp fr S3 hp3=>?_⟩;exact q (.ref p) H3 _ (f2.trans fr) S3 (.inr ⟨hno,.inl ⟨hh,rfl,p,rfl,f2.none S2 hp,hp3⟩⟩)
 by_cases c0:z.b<z.t
 ·
  rw [if_pos c0];have hr:F2 z.clk n (uo z.clk n):=by
   rcases hc with h|⟨i,h⟩
   ·exact .inl ⟨h,by rw [h];rfl⟩
   ·exact .inr ⟨i,h,by rw [h];rfl⟩
  refine ⟨A,z,_,hS,hr,?_⟩;cases ho:uo z.clk n
  ·
   rw [if_neg (by decide)];exact rest1 fun _=>ho
  ·
   rw [if_pos rfl];refine ⟨A.dw,z.L,s0,sp0,z.w,rfl,?_⟩;have S1:=hS.ways gP.upd hw;have b1:gP A.pw H (upd H A.pw (.ins ai A.dw (aM (V.int z.L) s0 sp0 (V.int (if z.L<2*z.w then z.L else 2*z.w))))):=gP.upd;generalize upd H A.pw (.ins ai A.dw (aM (V.int z.L) s0 sp0 (V.int (if z.L<2*z.w then z.L else 2*z.w))))=H1 at*
   obtain ⟨em,hi⟩:=S1.ms;rw [<-h_ua,ao];generalize h_ud:ao _=ud;exists S1.hx,em;refine ⟨A.dm,z.mo,z.wi,z.kn,z.co,rfl,?_⟩;have S2:=S1.meter (H':=upd H1 A.pm (.ins ae A.dm (aC (.int z.mo) (.int 1) (.int (MeterM.hf z.wi)) (.int 0)))) gP.upd ⟨au,⟨Int.le_refl _,Int.le_trans hi.1 hi.2.1,Int.le_refl _,by show (0:Int)<1;lia⟩⟩;have f2:lM x A H (upd H1 A.pm (.ins ae A.dm (aC (.int z.mo) (.int 1) (.int (MeterM.hf z.wi)) (.int 0)))):=fun b u e _ a2 a3 _ _ _ _=>by rw [aj a3];exact b1 b u e a2
   generalize upd H1 A.pm (.ins ae A.dm (aC (.int z.mo) (.int 1) (.int (MeterM.hf z.wi)) (.int 0)))=H2 at*
   rw [<-h_ud,ao];exists S2.hx;refine ⟨A,_,S2,hAg,fun p H3 hp fr S3 hp3=>?_⟩;exact q (.ref p) H3 _ (f2.trans fr) S3 (.inl ⟨c0,ho,rfl,p,rfl,f2.none S2 hp,hp3⟩)
 ·
  rw [if_neg c0];exact rest1 fun c=>absurd c c0
include T in def kT:cE P w K mg base fb aa "heard" 4 ["self","number","room","held","turn"] (d5 aa ai ae):=by
 exists 0,T.eZ,cO,lB,d5;rename_i x nu rm hd tn;refine ⟨_,(af (aS (i:=5) cO.nd rfl (Or.inl rfl) (bD (ux T) HR (by decide) rfl (az (ak (pv 0) T.ag T.dR rfl) (az (ak (pv 0) T.ag T.aB rfl) (az (pv 1) av)))))
 (aw (af (bg (aF nH (pv 5) (ar dH (ak (pv 0) T.ag T.aH rfl) (ak (pv 0) T.ag T.aB rfl)) (nomark _)) (aq (aE (j6 av))) aL)
 (aw (af (aS (i:=6) cO.nd rfl (Or.inl rfl) (ar (aP K rfl) (bI (pv 0) T.ag (iD T) HR (by decide) (az (pv 5) av)) (bI (pv 0) T.ag (iC T) HR (by decide) (az (pv 3) av))))
 (aw (af (aG (pv 0) (a9 (ip rfl) (by rfl) T.nS oF (az (ak (pv 0) T.ag T.bw rfl) (az (ar (aP K rfl) (ak (pv 0) T.ag T.aB rfl) (pv 2)) av))) T.ag T.bw)
 (aw (af (gZ PassesOwn.never rfl (ie K rfl (pv 6)) (aU (i:=7) cO.nd rfl (Or.inl rfl)) (aq (bg (pW (um HR.units (pv 7) (ak (pv 0) T.ag T.bq rfl)) (oh rfl)) (aq (bG (bI (ak (pv 0) T.ag T.bu rfl) T.aO (j9 T) HR (by decide) (az (ar dH (pv 4) (yr HR.units (ak (pv 0) T.ag T.bh rfl) (pv 7) (fun _ _=>rfl))) av)))) aL)))
 (aw (af (bG (bI (ak (pv 0) T.ag T.bz rfl) T.aQ (l_ T) HR (by decide) (az (a9 (iq K rfl) (by rfl) T.mK mE (az (pv 6) av)) av)))
 (aw (af (bg (aF nH (pv 5) ah (nomark _)) (af (aG (pv 0) (uh (aF fo (ak (pv 0) T.ag T.aB rfl) (ak (pv 0) T.ag T.aH rfl) (nomark _)) (ar (aP K rfl) (pv 4) (ak (ak (pv 0) T.ag T.bu rfl) T.aO T.bO rfl)) b9) T.ag T.bj)
 (aq (aG (pv 0) g7 T.ag T.aW))) aL)
 (aq (aE (pv 6)))))))))))))))),?_⟩
 obtain ⟨A,z,hs,hS,hb,hR,hhd,hsl,hnd,hs0,hT,hkl,ht,hk,q⟩:=h;generalize h_u0:ao _=u0;exists hS.hx;refine ⟨hR,?_⟩;rw [<-h_u0,ao];generalize h_u1:ao _=u1;exists hS.hx;have ef:(nu - z.b) % z.R=far' z nu:=rfl;rw [ef];have far0:0<=far' z nu:=Int.emod_nonneg _ (by lia);by_cases c0:z.t - z.b<far' z nu
 ·
  rw [if_pos c0];intro p hp;exact q p _ hp (fun b u e _ _ _ _ _ _ _=>aJ e hp) (.inl ⟨c0,aK hp,au⟩)
 rw [if_neg c0];have b0:=hb.b0;have bt:=hb.bt;rw [<-h_u1,ao];generalize h_u2:ao _=u2;exists hS.hx;refine ⟨A,z,hS,hb,⟨far0,by lia⟩,by lia,fun fs p H1 efs hp fr S1 l1=>?_⟩;obtain rfl:fs=jY z nu:=efs;replace S1:aT aa ai ae H1 x A (eA z nu):=S1;have hd1:=fr.tup hS hhd;have npt:p≠A.pt:=fun c=>by rw [c,hS.ht] at hp;cases hp
 have fl1:(jY z nu).length<=190:=by
  have h1:(jY z nu).length<=(irg z.b (far' z nu).toNat).length:=List.length_filter_le _ _;have h2:(irg z.b (far' z nu).toNat).length=(far' z nu).toNat:=by unfold irg;rw [List.length_map,List.length_range]
  lia
 have kl1:(eA z nu).Kn.length<=z.Kn.length+(jY z nu).length:=gm;exists S1.hx;refine ⟨A,_,hs,S1,hd1,by lia,by lia,fun fs2 p2 H2 efs2 hp2 fr2 S2 l2=>?_⟩;obtain rfl:fs2=jx z nu hs:=efs2;have l12:=fr2.lst S1 l1 npt;have fl2:(jx z nu hs).length<=100:=by
  have h1:(jx z nu hs).length<=(hld (eA z nu) hs).length:=List.length_filter_le _ _;have h2:=ot (z:=eA z nu) (hs:=hs);lia
 refine ql l12 l2 (de (by rw [List.length_map,List.length_map];lia)) fun p3 hp3=>?_;have fr3:kK x A H H2:=fr.trans fr2;have hp30:=fr3.none S2 hp3;have S3:=S2.same (aK (o:= .lst ((jY z nu).map V.int++(jx z nu hs).map V.int)) hp3);have f3:kK x A H (upd H2 p3 (.lst ((jY z nu).map V.int++(jx z nu hs).map V.int))):=fun b u e a1 a2 a3 a4 a5 a6=>aJ (fr3 b u e a1 a2 a3 a4 a5 a6) hp3;have l3:upd H2 p3 (.lst ((jY z nu).map V.int++(jx z nu hs).map V.int)) p3=some (.lst ((jY z nu++jx z nu hs).map V.int)):=by rw [au,List.map_append]
 generalize upd H2 p3 (.lst ((jY z nu).map V.int++(jx z nu hs).map V.int))=H3 at*
 rw [<-h_u2,ao];generalize h_u3:ao _=u3;exists S3.hx;have tN:((z.t.toNat:Nat):Int)=z.t:=by lia
 have i1: ∀a∈jY z nu,knw z.Kn a=false/\0<=a/\a<((z.t.toNat:Nat):Int):=fun a ha=>by
  obtain ⟨m1,m2⟩:=lJ ha;have:=oq m1;exact ⟨m2,by lia,by lia⟩
 have i2: ∀a∈jx z nu hs,knw (eA z nu).Kn a=false/\0<=a/\a<((z.t.toNat:Nat):Int):=fun a ha=>by
  obtain ⟨m1,m2⟩:=lJ ha;obtain ⟨h1,k,hk1,rfl⟩:=qN m1;have h2:=hs0 k hk1;have h3:(eA z nu).b=z.b+far' z nu:=rfl;have h4:(eA z nu).t=z.t:=rfl;exact ⟨m2,by lia,by lia⟩
 have n1:(jY z nu).Nodup:=List.Pairwise.filter _ ki;have n2:(jx z nu hs).Nodup:=List.Pairwise.filter _ (nK hnd);have c1:=jU n1 i1;have c2:=jU n2 i2;have c3:=Ai (D:=putAll (eA z nu).Kn (jx z nu hs)) (t:=z.t.toNat);have tot:z.k+((jY z nu).length+(jx z nu hs).length)<=190:=by
  have e1:cnt (eA z nu).Kn z.t.toNat=cnt (putAll z.Kn (jY z nu)) z.t.toNat:=rfl;lia
 have hpl: ∀a∈jY z nu++jx z nu hs,0<=a/\a<z.t:=fun a ha=>by
  rcases List.mem_append.mp ha with h|h
  ·have:=i1 a h;lia
  ·have:=i2 a h;lia
 have efl:(jY z nu++jx z nu hs).length=(jY z nu).length+(jx z nu hs).length:=List.length_append;clear c1 c2 c3 i1 i2 n1 n2;have S4:=S3.put (eA z nu).b (eA z nu).t (if (eA z nu).e<(eA z nu).b+rm then (eA z nu).b+rm else (eA z nu).e) (eA z nu).clk (eA z nu).hur;have n3x:p3≠x:=a_ l3 S3.hx (by simp);generalize hE:(if (eA z nu).e<(eA z nu).b+rm then (eA z nu).b+rm else (eA z nu).e)=e' at*
 have l4:upd H3 x (HO.ins aa A.dx (ax (V.int (eA z nu).R) (V.ref A.pw) (V.ref A.pm) (V.ref A.pt) (V.int (eA z nu).b) (V.int (eA z nu).t) (V.int e') (eA z nu).clk (V.bl (eA z nu).hur) (V.ref A.pk) (V.ref A.pf) (V.ref A.pa))) p3=some (.lst ((jY z nu++jx z nu hs).map V.int)):=by rw [aj n3x];exact l3
 have f4:kK x A H (upd H3 x (HO.ins aa A.dx (ax (V.int (eA z nu).R) (V.ref A.pw) (V.ref A.pm) (V.ref A.pt) (V.int (eA z nu).b) (V.int (eA z nu).t) (V.int e') (eA z nu).clk (V.bl (eA z nu).hur) (V.ref A.pk) (V.ref A.pf) (V.ref A.pa)))):=fun b u e a1 a2 a3 a4 a5 a6=>by rw [aj a1];exact f3 b u e a1 a2 a3 a4 a5 a6
 generalize upd H3 x (HO.ins aa A.dx (ax (V.int (eA z nu).R) (V.ref A.pw) (V.ref A.pm) (V.ref A.pt) (V.int (eA z nu).b) (V.int (eA z nu).t) (V.int e') (eA z nu).clk (V.bl (eA z nu).hur) (V.ref A.pk) (V.ref A.pf) (V.ref A.pa)))=H4 at*
 obtain ⟨z4,ez4⟩: ∃z4:Sd,z4=⟨z.R,z.b+far' z nu,z.t,e',z.clk,z.hur,z.T,putAll (eA z nu).Kn (jx z nu hs),z.Fi,z.Ag,z.L,z.w,z.k,z.wi,z.g,z.mo,z.kn,z.co⟩:=⟨_,rfl⟩;replace S4:aT aa ai ae H4 x A z4:=by rw [ez4];exact S4
 have e4F:z4.Fi=z.Fi:=by rw [ez4]
 have e4k:z4.k=z.k:=by rw [ez4]
 have e4A:z4.Ag=z.Ag:=by rw [ez4]
 have e4L:z4.L=z.L:=by rw [ez4]
 have e4w:z4.w=z.w:=by rw [ez4]
 have e4g:z4.g=z.g:=by rw [ez4]
 have e4m:z4.mo=z.mo/\z4.wi=z.wi/\z4.kn=z.kn/\z4.co=z.co:=by rw [ez4];exact ⟨rfl,rfl,rfl,rfl⟩
 clear S3 S2 S1 l3 f3 l1 l12 l2;rw [<-h_u3,ao];generalize h_u4:ao _=u4;walk_at "wps";generalize hfs:jY z nu++jx z nu hs=fs at*
 have kk: ∀{i:Nat} {c:Int},fs[i]?=some c->mall z tn (fs.take (i+1))=si z tn (mall z tn (fs.take i)) c:=fun {i c} hc=>by
  rw [List.take_add_one,hc];exact so
 have S40:aT aa ai ae H4 x A {z4 with w:=z.w,g:=z.g,k:=z.k}:=by
  have e:({z4 with w:=z.w,g:=z.g,k:=z.k}:Sd)=z4:=by rw [ez4]
  rw [e];exact S4
 refine lK (xs:=fs.map V.int) (cD.of l4) (fun i σ H'=> ∃v7,(mall z tn (fs.take i)).2.2<=z.k+i/\kK x A H H'/\H' p3=some (.lst (fs.map V.int))/\aT aa ai ae H' x A {z4 with w:=(mall z tn (fs.take i)).1,g:=(mall z tn (fs.take i)).2.1,k:=(mall z tn (fs.take i)).2.2}/\σ= [some (.ref x),some (.int nu),some (.int rm),some (.ref hd),some (.int tn),some (.int (far' z nu)),some (.ref p3),v7]) ⟨none,by show z.k<=z.k+0;lia,f4,l4,S40,rfl⟩ (fun i σ H' _ hp=>by obtain ⟨_,_,_,hh,_⟩:=hp;exact cD.of hh) (fun i y σ H5 hy hp=>?_) (fun σ H5 hp=>?_)
 ·
  obtain ⟨v7,kle,f5,l5,S5,rfl⟩:=hp;obtain ⟨c,rfl,hci⟩:=ft hy;have il:i<fs.length:=(List.getElem?_eq_some_iff.mp hci).1;obtain ⟨c0',c1'⟩:=hpl c (List.mem_of_getElem? hci);obtain ⟨f,hf,g0,g1⟩:=hT c c0' c1';obtain ⟨s0,sp0,ew⟩:=S5.ws.ins;have hf5:=S5.hf;have ha5:=S5.ha;have ff:w5 z c=f:=by unfold w5;rw [hf]
  rw [kk hci];generalize mall z tn (fs.take i)=s at*
  exists S5.hx,ha5,hf5,ew;cases ea:(bT z4.Ag (ik c)).isSome
  ·have e1:si z tn s c=(mws z.L (mgs s.2.1 (tn - f)),mgs s.2.1 (tn - f),s.2.2+1):=by
    unfold si knw;rw [<-e4A,ea,ff];rfl
   rw [if_pos rfl,e1];refine ⟨_,by rw [e4F];exact hf,?_⟩;walk_at "wps";exact WS.meas (E:=E0) (Q:=fun _ H'=> ∃v7,s.2.2+1<=z.k+(i+1)/\kK x A H H'/\H' p3=some (.lst (fs.map V.int))/\aT aa ai ae H' x A {z4 with w:=mws z.L (mgs s.2.1 (tn - f)),g:=mgs s.2.1 (tn - f),k:=s.2.2+1}/\([some (.ref x),some (.int nu),some (.int rm),some (.ref hd),some (.int tn),some (.int (far' z nu)),some (.ref p3),some (.int c)]:St)= [some (.ref x),some (.int nu),some (.int rm),some (.ref hd),some (.int tn),some (.int (far' z nu)),some (.ref p3),v7]) S5.ws (by show s.2.2<=200;lia) g0 g1 (fun H6 hB hw=>⟨_,by lia,fun b u e a1 a2 a3 a4 a5 a6=>hB _ _ (f5 b u e a1 a2 a3 a4 a5 a6) a2,hB _ _ l5 (S5.nw l5 (by simp)).2.1,by rw [<-e4L];exact S5.ways hB hw,rfl⟩)
  ·have e1:si z tn s c=s:=by
    unfold si knw;rw [<-e4A,ea];rfl
   rw [if_neg (by decide),e1];exact ⟨_,by lia,f5,l5,S5,rfl⟩
 obtain ⟨v7,kle,f5,l5,S5,rfl⟩:=hp;rw [List.length_map,List.take_length] at S5;obtain ⟨em,hi⟩:=S5.ms;rw [<-h_u4,ao];generalize h_u5:ao _=u5;exists S5.hx,l5,em;refine ⟨by rw [List.length_map];lia,A.dm,z4.mo,z4.wi,z4.kn,z4.co,rfl,?_⟩;have elen:((fs.map V.int).length:Int).toNat=fs.length:=by rw [List.length_map];lia
 rw [elen];have hst0:MeterM.kn z4.mo z4.kn fs.length (z4.wi,z4.co)=MeterM.kn z.mo z.kn fs.length (z.wi,z.co):=by rw [e4m.1,e4m.2.1,e4m.2.2.1,e4m.2.2.2]
 rw [hst0];generalize hst:MeterM.kn z.mo z.kn fs.length (z.wi,z.co)=st at*
 have hin:MeterM.An z4.mo st:=by rw [<-hst0];exact MeterM.inb _ _ hi
 have S6:=S5.meter (H':=upd H5 A.pm (.ins ae A.dm (aC (.int z4.mo) (.int st.1) (.int z4.kn) (.int st.2)))) gP.upd ⟨au,hin⟩;have l6:upd H5 A.pm (.ins ae A.dm (aC (.int z4.mo) (.int st.1) (.int z4.kn) (.int st.2))) p3=some (.lst (fs.map V.int)):=by rw [aj (S5.nw l5 (by simp)).2.2];exact l5
 have f6:kK x A H (upd H5 A.pm (.ins ae A.dm (aC (.int z4.mo) (.int st.1) (.int z4.kn) (.int st.2)))):=fun b u e a1 a2 a3 a4 a5 a6=>by rw [aj a3];exact f5 b u e a1 a2 a3 a4 a5 a6
 generalize upd H5 A.pm (.ins ae A.dm (aC (.int z4.mo) (.int st.1) (.int z4.kn) (.int st.2)))=H6 at*
 clear S5 S4 l5 f5 em;obtain ⟨s0,sp0,ew⟩:=S6.ws.ins;have hE':e'=if z.e<z.b+far' z nu+rm then z.b+far' z nu+rm else z.e:=hE.symm;rw [<-h_u5,ao];exists S6.hx,ew;subst ez4;have ehr:fsh z nu hs=fs:=hfs;by_cases d0:0<far' z nu
 ·
  rw [if_pos d0];have fin: ∀c:V,c=(if z.b+far' z nu<z.t then .int (tn+(mall z tn fs).1) else .non)->Q (.ref p3) (upd H6 x (HO.ins aa A.dx (ax (V.int z.R) (V.ref A.pw) (V.ref A.pm) (V.ref A.pt) (V.int (z.b+far' z nu)) (V.int z.t) (V.int e') c (V.bl false) (V.ref A.pk) (V.ref A.pf) (V.ref A.pa)))):=fun c hcu=>by
   have S7:=S6.put (z.b+far' z nu) z.t e' c false;refine q p3 _ hp30 (fun b u e a1 a2 a3 a4 a5 a6 _=>by rw [aj a1];exact f6 b u e a1 a2 a3 a4 a5 a6) (.inr ⟨by lia,?_,by rw [aj n3x,ehr];exact l6⟩);unfold hrd;rw [ehr,if_pos d0,if_pos d0,hst,<-hcu,<-hE'];exact S7
  by_cases d1:z.b+far' z nu<z.t
  ·
   rw [if_pos d1] at fin⊢;exact fin _ rfl
  ·
   rw [if_neg d1] at fin⊢;exact fin _ rfl
 ·
  rw [if_neg d0];refine q p3 _ hp30 f6.seven (.inr ⟨by lia,?_,by rw [ehr];exact l6⟩);unfold hrd;rw [ehr,if_neg d0,if_neg d0,hst,<-hE'];exact S6
include T in def jb:cE P w K mg base fb aa "__init__" 3 ["self","ring","first","longest","most"] (cR aa ai ae):=by
 exists 0,T.du,i8,jw,cR;rename_i x r f l m;refine ⟨_,(af (aG (pv 0) (pv 1) T.ag T.dR)
 (af (aG (pv 0) (pZ T.aO (j_ T) HR (by decide) rfl (az (pv 2) (az (pv 3) av))) T.ag T.bu)
 (aw (af (aG (pv 0) (pZ T.aQ (jH T) HR (by decide) rfl (az (pv 4) av)) T.ag T.bz)
 (aw (af (aG (pv 0) (j6 av) T.ag T.bU)
 (af (aG (pv 0) ah T.ag T.aB)
 (af (aG (pv 0) ah T.ag T.aH)
 (af (aG (pv 0) ah T.ag T.bw)
 (af (aG (pv 0) b9 T.ag T.bj)
 (af (aG (pv 0) g7 T.ag T.aW)
 (aw (af (aG (pv 0) lX T.ag T.aV)
 (aw (af (aG (pv 0) lX T.ag T.bh)
 (aw (aq (aG (pv 0) lX T.ag T.bq)))))))))))))))))),?_⟩
 obtain ⟨hf,dx,hx,q⟩:=h;generalize h_u1:ao _=u1;exists hx;intro pw dw npw ndw new;refine ⟨dw,rfl,?_⟩;have nwx:x≠pw:=(fresh_ne npw).symm;have ndx:x≠dw:=(fresh_ne ndw).symm;exists aj nwx,aj ndx;obtain ⟨H1,e1⟩: ∃H1,H1=upd (upd (upd (upd H x (.ins aa dx (fu (.int r)))) dw (.own pw)) pw (.ins ai dw (aM (.int l) .non .non (.int f)))) x (.ins aa dx (dY (.int r) (.ref pw))):=⟨_,rfl⟩;rw [<-e1];rw [aj nwx.symm] at npw;rw [aj ndx.symm] at ndw;have hx1:H1 x=some (.ins aa dx (dY (.int r) (.ref pw))):=by rw [e1];exact au
 have w1:H1 pw=some (.ins ai dw (aM (.int l) .non .non (.int f))):=by rw [e1,aj nwx.symm];exact au
 have b1:gP x H H1:=fun b o e n=>by rw [e1,aj n,aj (aA e npw),aj (aA e ndw),aj n];exact e
 clear e1;rw [<-h_u1,ao];generalize h_u2:ao _=u2;walk_at "wps";intro pm dm npm ndm nem;refine ⟨dm,rfl,?_⟩;have nmx:x≠pm:=aA hx1 npm;have ndx2:x≠dm:=aA hx1 ndm;exists aj nmx,aj ndx2,hx1;obtain ⟨H2,e2⟩: ∃H2,H2=upd (upd (upd H1 dm (.own pm)) pm (.ins ae dm (aC (.int m) (.int (MeterM.mn 2 m)) (.int m) (.int 0)))) x (.ins aa dx (dX (.int r) (.ref pw) (.ref pm))):=⟨_,rfl⟩;rw [<-e2];have hx2:H2 x=some (.ins aa dx (dX (.int r) (.ref pw) (.ref pm))):=by rw [e2];exact au
 have m2:H2 pm=some (.ins ae dm (aC (.int m) (.int (MeterM.mn 2 m)) (.int m) (.int 0))):=by rw [e2,aj nmx.symm];exact au
 have b2:gP x H1 H2:=fun b o e n=>by rw [e2,aj n,aj (aA e npm),aj (aA e ndm)];exact e
 have nwm:pw≠pm:=aA w1 npm;have w2:=b2 _ _ w1 nwx.symm;clear e2;rw [<-h_u2,ao];generalize h_u3:ao _=u3;walk_at "wps";intro pt npt;have ntx:x≠pt:=aA hx2 npt;exists aj ntx,hx2;obtain ⟨H3,e3⟩: ∃H3,H3=upd (upd H2 pt (.lst [])) x (.ins aa dx (dW (.int r) (.ref pw) (.ref pm) (.ref pt) (.int 0) (.int 0) (.int 1) .non (.bl false))):=⟨_,rfl⟩;rw [<-e3];have hx3:H3 x=some (.ins aa dx (dW (.int r) (.ref pw) (.ref pm) (.ref pt) (.int 0) (.int 0) (.int 1) .non (.bl false))):=by rw [e3];exact au
 have t3:H3 pt=some (.lst []):=by rw [e3,aj ntx.symm];exact au
 have b3:gP x H2 H3:=fun b o e n=>by rw [e3,aj n,aj (aA e npt)];exact e
 clear e3;rw [<-h_u3,ao];generalize h_u4:ao _=u4;walk_at "wps";intro pk npk;have nkx:x≠pk:=aA hx3 npk;exists aj nkx,hx3;obtain ⟨H4,e4⟩: ∃H4,H4=upd (upd H3 pk (.dK [])) x (.ins aa dx (dn (.int r) (.ref pw) (.ref pm) (.ref pt) (.int 0) (.int 0) (.int 1) .non (.bl false) (.ref pk))):=⟨_,rfl⟩;rw [<-e4];have hx4:H4 x=some (.ins aa dx (dn (.int r) (.ref pw) (.ref pm) (.ref pt) (.int 0) (.int 0) (.int 1) .non (.bl false) (.ref pk))):=by rw [e4];exact au
 have k4:H4 pk=some (.dK []):=by rw [e4,aj nkx.symm];exact au
 have b4:gP x H3 H4:=fun b o e n=>by rw [e4,aj n,aj (aA e npk)];exact e
 clear e4;rw [<-h_u4,ao];generalize h_u5:ao _=u5;walk_at "wps";intro pf npf;have nfx:x≠pf:=aA hx4 npf;exists aj nfx,hx4;obtain ⟨H5,e5⟩: ∃H5,H5=upd (upd H4 pf (.dK [])) x (.ins aa dx (dk (.int r) (.ref pw) (.ref pm) (.ref pt) (.int 0) (.int 0) (.int 1) .non (.bl false) (.ref pk) (.ref pf))):=⟨_,rfl⟩;rw [<-e5];have hx5:H5 x=some (.ins aa dx (dk (.int r) (.ref pw) (.ref pm) (.ref pt) (.int 0) (.int 0) (.int 1) .non (.bl false) (.ref pk) (.ref pf))):=by rw [e5];exact au
 have f5:H5 pf=some (.dK []):=by rw [e5,aj nfx.symm];exact au
 have b5:gP x H4 H5:=fun b o e n=>by rw [e5,aj n,aj (aA e npf)];exact e
 clear e5;rw [<-h_u5,ao];walk_at "wps";intro pa npa;have nax:x≠pa:=aA hx5 npa;exists aj nax,hx5;have b6:gP x H5 (upd (upd H5 pa (.dK [])) x (.ins aa dx (ax (.int r) (.ref pw) (.ref pm) (.ref pt) (.int 0) (.int 0) (.int 1) .non (.bl false) (.ref pk) (.ref pf) (.ref pa)))):=fun b o e n=>by rw [aj n,aj (aA e npa)];exact e
 have k5:=b5 _ _ k4 nkx.symm;refine q ⟨dx,pw,pm,pt,pk,pf,pa,dw,dm⟩ _ (fun b o e n=>b6 _ _ (b5 _ _ (b4 _ _ (b3 _ _ (b2 _ _ (b1 b o e n) n) n) n) n) n) ⟨au,b6 _ _ (b5 _ _ (b4 _ _ t3 ntx.symm) ntx.symm) ntx.symm,b6 _ _ k5 nkx.symm,b6 _ _ f5 nfx.symm,by rw [aj nax.symm];exact au,⟨by show 2<=l;lia,by show 2<=f/\f<=l;lia,.inl ⟨rfl,rfl,b6 _ _ (b5 _ _ (b4 _ _ (b3 _ _ w2 nwx.symm) nwx.symm) nwx.symm) nwx.symm⟩⟩,⟨b6 _ _ (b5 _ _ (b4 _ _ (b3 _ _ m2 nmx.symm) nmx.symm) nmx.symm) nmx.symm,?_⟩,aA k4 npf,aA k5 npa,aA f5 npa,nwx,nmx,nwm⟩;show 1<=MeterM.mn 2 m/\MeterM.mn 2 m<=m/\(0:Int)<=0/\(0:Int)<MeterM.mn 2 m;unfold MeterM.mn;split<;>lia
include T in def iW:FnAt P w K mg base fb "_law_mixed" 1 ["_law_cell","_law_k"] fx:=by
 exists 0,T.gA,dO,m8,fx;rename_i c k;refine ⟨_,(af (bg (PW.pt (pw_and (aF uv (pv 0) (ar qH ah ah) (nomark _)) (pw_and (aF (cu K rfl HR.units) (ar aX (pv 0) ah) ah (nomark _)) (pw_and1 (aF nH (ar uq (pv 0) (ar (aP K rfl) ah (ar fI ah (pv 1)))) ah (nomark _)))))) (aq (aE (ar aX (ar uq (pv 0) (ar (aP K rfl) ah (ar fI ah (pv 1)))) ah))) aL)
 (aw (af (aS (i:=2) dO.nd rfl (Or.inl rfl) (ar (aP K rfl) (ar aX (pv 0) ah) ah))
 (af (gZ PassesOwn.never rfl (ic rfl T.eC (az ah av)) (aU (i:=3) dO.nd rfl (Or.inl rfl)) (aq (aS (i:=2) dO.nd rfl (Or.inl rfl) (ar aX (ar (aP K rfl) (ar (aP K rfl) (ar dQ (pv 2) (pv 2)) (ar fI ah (pv 2))) (pv 1)) ah))))
 (aq (aE (pv 2))))))),?_⟩
 obtain ⟨h0,q⟩:=h;generalize h_u1:ao _=u1;walk_at "wps";have sh:xp 1 90:=⟨⟨by decide,by decide⟩,by decide+kernel,by decide+kernel⟩;have tail:u1 {nx:=fun _ H'=>Q .non H',rt:=Q} [some (.int c),some (.int k),none,none] H:=by
  rw [<-h_u1,ao];walk_at "wps";refine ow (lo:=0) (n:=2) (fun i σ H'=>H'=H/\∃v v3,σ= [some (.int c),some (.int k),some (.int v),v3]/\0<=v/\v<4294967296) ⟨rfl,_,none,rfl,by lia,by lia⟩ (fun i σ H' _ hp=>?_) (fun σ H' hp=>?_)
  ·
   obtain ⟨rfl,v,v3,rfl,h0,h1⟩:=hp;walk_at "wps";refine ⟨.inl (.inl ⟨by lia,by lia⟩),_,_,rfl,?_,?_⟩
   ·exact Int.emod_nonneg _ (by decide)
   ·exact Int.lt_trans (Int.emod_lt_of_pos _ (by decide)) (by decide)
  ·
   obtain ⟨rfl,v,v3,rfl,h0,h1⟩:=hp;walk_at "wps";exact q v h0
 refine ⟨sh,?_⟩;split
 ·
  split
  ·
   refine ⟨by lia,?_⟩;split
   ·exact ⟨by lia,q _ (Int.emod_nonneg _ (by decide))⟩
   ·exact tail
  ·exact tail
 ·exact tail
include T in def l0:FnAt P w K mg base fb "_law_number" 1 ["_law_cell","_law_base","_law_top","_law_ring"] eI:=by
 exists 0,T.fO,gR,mH,eI;rename_i c b t r;refine ⟨_,(af (aS (i:=4) gR.nd rfl (Or.inl rfl) (ar aX (pv 0) ah))
 (af (bg (aF fo (pv 4) ah (nomark _)) (aq (aE (ar aX (ar (aP K rfl) (pv 1) (ar aX (ar bo (pv 0) ah) (ar (aP K rfl) (ar dH (pv 2) (pv 1)) ah))) (pv 3)))) aL)
 (af (bg (aF (cu K rfl HR.units) (pv 4) ah (nomark _)) (aq (aE (ar aX (pv 2) (pv 3)))) aL)
 (af (bg (aF (cu K rfl HR.units) (pv 4) ah (nomark _)) (aq (aE (ar aX (ar dH (ar dH (pv 1) ah) (ar aX (ar bo (pv 0) ah) ah)) (pv 3)))) aL)
 (aq (aE (ar aX (ar bo (pv 0) ah) (pv 3)))))))),?_⟩
 obtain ⟨⟨h1,h2⟩,q⟩:=h;walk_at "wps";split
 ·exact ⟨by lia,h2,q _⟩
 ·
  split
  ·exact ⟨h2,q _⟩
  ·
   split
   ·exact ⟨h2,q _⟩
   ·exact ⟨h2,q _⟩
def D4: ∀j:Fin 15,(0:Int)<1*2 ^ ((j:Nat)+1)/\(1:Int)*2 ^ ((j:Nat)+1)<1073741824:=by decide+kernel
def w9 {p:Int->Bool} {b:Int} {n:Nat}:List.map (fun v=>v) (List.filter (fun v=>match v with|V.int i=>p i|_=>false) (fT b n))=((irg b n).filter p).map V.int:=by
 rw [uO,List.map_id',List.filter_map];rfl
include T in def lZ (a₀:Addr) (ns:List Int):FnAt P w K mg base fb "_law_sender" 5 ["_law_script"] (eG aa ai ae K a₀ ns):=by
 exists 0,T.fN,bN,mG,eG;rename_i a;refine ⟨_,(af (aS (i:=1) bN.nd rfl (Or.inl rfl) (bD (bF T a₀ ns) HR (by decide) rfl (az (pv 0) (az ah av))))
 (aw (af (aS (i:=2) bN.nd rfl (Or.inl rfl) (bJ (dI K rfl) (j6 (az (ar (aP K rfl) ah (ar aX (ar bo (pv 1) ah) ah)) (az (ar (aP K rfl) ah (ar aX (ar bo (pv 1) ah) ah)) (az ah (az (ar (aP K rfl) ah (ar aX (ar fI (ar bo (pv 1) ah) ah) (ar qI ah ah))) av))))) (ar aX (pv 1) ah) (fun _ _=>rfl)))
 (aw (af (aS (i:=3) bN.nd rfl (Or.inl rfl) (ar (aP K rfl) ah (ar aX (bD (bF T a₀ ns) HR (by decide) rfl (az (pv 0) (az ah av))) ah)))
 (aw (af (aS (i:=4) bN.nd rfl (Or.inl rfl) (ar (aP K rfl) (pv 3) (ar aX (ar bo (bD (bF T a₀ ns) HR (by decide) rfl (az (pv 0) (az ah av))) ah) ah)))
 (aw (af (bg (aF (cu K rfl HR.units) (ar aX (ar bo (bD (bF T a₀ ns) HR (by decide) rfl (az (pv 0) (az ah av))) ah) ah) ah (nomark _)) (aq (aS (i:=4) bN.nd rfl (Or.inl rfl) (ar dH (ar qI ah ah) (ar aX (ar bo (bD (bF T a₀ ns) HR (by decide) rfl (az (pv 0) (az ah av))) ah) ah)))) aL)
 (aw (aq (aE (cY (az (pv 2) (az (pZ T.ag (jb T) HR (by decide) rfl (az (pv 2) (az (pv 3) (az (pv 4) (az (ar (aP K rfl) ah (ar aX (bD (bF T a₀ ns) HR (by decide) rfl (az (pv 0) (az ah av))) (bJ (dI K rfl) (j6 (az ah (az ah av))) (ar aX (ar bo (pv 1) ah) ah) (fun _ _=>rfl)))) av))))) av))))))))))))))),?_⟩
 obtain ⟨rfl,hS,q⟩:=h;generalize h_u1:ao _=u1;walk_at "wps";refine ⟨hS,fun c=>?_⟩;rw [<-h_u1,ao];generalize h_u2:ao _=u2;walk_at "wps";intro p hp;obtain ⟨r,hr,r0⟩: ∃r:Int,i4 [V.int (1+c / 4 % 9),V.int (16+c / 4 % 64),V.int 32,V.int (1+c / 4*48271 % 1000000000)] (c % 4)=some (.int r)/\0<r:=by
  have h4:c % 4=0\/c % 4=1\/c % 4=2\/c % 4=3:=by lia
  rcases h4 with e|e|e|e<;>rw [e]
  ·exact ⟨_,q_,by lia⟩
  ·exact ⟨_,q9,by lia⟩
  ·exact ⟨_,xY,by lia⟩
  ·exact ⟨_,xX,by lia⟩
 refine ⟨_,hr,?_⟩;have sm1:=aK (o:= .lst [V.int (1+c / 4 % 9),V.int (16+c / 4 % 64),V.int 32,V.int (1+c / 4*48271 % 1000000000)]) hp;have hS1:=oQ sm1 hS;clear hr;generalize upd H p (.lst [V.int (1+c / 4 % 9),V.int (16+c / 4 % 64),V.int 32,V.int (1+c / 4*48271 % 1000000000)])=H1 at*
 rw [<-h_u2,ao];generalize h_u3:ao _=u3;walk_at "wps";refine ⟨hS1,fun n1=>?_⟩;rw [<-h_u3,ao];generalize h_u4:ao _=u4;walk_at "wps";refine ⟨hS1,fun n2=>?_⟩;rw [<-h_u4,ao];generalize h_u5:ao _=u5;walk_at "wps";refine ⟨hS1,fun n3=>?_⟩;have tail: ∀L:Int,2+n1 % 30<=L->u5 {nx:=fun _ H'=>Q V.non H',rt:=Q} [some (V.ref a),some (V.int c),some (V.int r),some (V.int (2+n1 % 30)),some (V.int L)] H1:=by
  intro L hL;rw [<-h_u5,ao];walk_at "wps";refine ⟨hS1,fun n5 p1 hp1=>?_⟩;obtain ⟨m0,em0,m00⟩: ∃m0:Int,i4 [V.int 20,V.int 1000] (c / 3 % 2)=some (.int m0)/\0<m0:=by
   have h4:c / 3 % 2=0\/c / 3 % 2=1:=by lia
   rcases h4 with e|e<;>rw [e]
   ·exact ⟨_,q_,by decide⟩
   ·exact ⟨_,q9,by decide⟩
  have mm0:=Int.emod_nonneg n5 (show m0≠0 by lia);refine ⟨_,em0,?_⟩;walk_at "wps";refine ⟨m00,fun x dx nx ndx nex=>⟨⟨by lia,hL,by lia⟩,dx,rfl,fun A H2 hB2 S2 p2 hp2=>?_⟩⟩;refine q r x A p2 _ _ (fun b o e=>?_) (S2.same (aK hp2)) ⟨rfl,r0,⟨Int.le_refl _,Int.le_refl _,by show (0:Int)<=900;decide⟩,by show (0:Int)<=1;decide,Int.le_refl _,Nat.zero_le _,Nat.zero_le _,fun j _=>rfl,.inl rfl,fun j h0 h1=>absurd h1 (by show¬j<0;lia),Int.le_refl _,by decide,Nat.le_refl _,Nat.le_refl _,Nat.le_refl _⟩ ⟨rfl,rfl,rfl,rfl⟩ au;have e1:=aJ (o:= .lst [V.int 20,V.int 1000]) (sm1 b o e) hp1;exact aJ (hB2 b o (tu nx ndx b o e1) (aA e1 nx)) hp2
 split
 ·exact ⟨hS1,fun n4=>tail _ (by lia)⟩
 ·exact tail _ (by lia)
include T in def eQ:FnAt P w K mg base fb "_law_stands" 3 ["_law_sender_here","_law_now"] (eF aa ai ae):=by
 exists 0,T.fM,bM,mF,eF;rename_i x n;refine ⟨_,(af (gZ PassesOwn.never rfl (ie K rfl (j6 (az (ak (pv 0) T.ag T.aB rfl) (az (ak (pv 0) T.ag T.aH rfl) (az (ak (pv 0) T.ag T.bw rfl) (az (br (pv 0) T.ag (bK T) HR (by decide)) av)))))) (aU (i:=2) bM.nd rfl (Or.inl rfl)) (aq (bg (gY (lV (bD (iV T) HR (by decide) rfl (az (pv 2) av)))) (aq (aE g7)) aL)))
 (aw (af (lE (pv 1) (lH K (n:=4) rfl rfl (fi (aU (i:=3) bM.nd rfl (Or.inl rfl)) (fi (aU (i:=4) bM.nd rfl (Or.inl rfl)) (fi (aU (i:=5) bM.nd rfl (Or.inl rfl)) (fi (aU (i:=6) bM.nd rfl (Or.inl rfl)) lG))))))
 (aw (af (bg (PW.pt (pw_or (aF (uu K rfl HR.units) (cY (az (ak (pv 0) T.ag T.aB rfl) (az (ak (pv 0) T.ag T.aH rfl) (az (ak (pv 0) T.ag T.bw rfl) av)))) (cY (az (pv 3) (az (pv 4) (az (pv 5) av)))) (nomark _)) (pw_or (gY (t8 qJ qJ (pv 3) (pv 4) (pv 5))) (pw_or1 (aF nH (pv 4) (pv 6) (nomark _)))))) (aq (aE g7)) aL)
 (aw (af (bg (aF (cu K rfl HR.units) (pv 3) (pv 4) (nomark _)) (aq (aE (fj (cu K rfl HR.units) (br (pv 0) T.ag (bK T) HR (by decide)) ah (nomark _)))) aL)
 (aq (aE (uj qJ qJ ah (br (pv 0) T.ag (bK T) HR (by decide)) (ar dH (pv 4) (pv 3)))))))))))),?_⟩
 obtain ⟨A,z,r,tn,s,hS,J,hn,q⟩:=h;generalize h_u1:ao _=u1;exists hS.hx;refine ⟨A,z,hS,J.B,fun H1 sm1 p hp=>?_⟩;have S1:=hS.same sm1;have n1:=sm1 _ _ hn;have S2:=S1.same (aK (o:= .lst [V.int z.b,V.int z.t,V.int z.e,V.int (z.t - z.b - (kab z:Int))]) hp);have n2:=aJ (o:= .lst [V.int z.b,V.int z.t,V.int z.e,V.int (z.t - z.b - (kab z:Int))]) n1 hp;have sm2:eo H (upd H1 p (.lst [V.int z.b,V.int z.t,V.int z.e,V.int (z.t - z.b - (kab z:Int))])):=fun b o e=>aJ (sm1 b o e) hp;have l2:upd H1 p (.lst [V.int z.b,V.int z.t,V.int z.e,V.int (z.t - z.b - (kab z:Int))]) p=some (.lst ([z.b,z.t,z.e,z.t - z.b - (kab z:Int)].map V.int)):=au;generalize upd H1 p (.lst [V.int z.b,V.int z.t,V.int z.e,V.int (z.t - z.b - (kab z:Int))])=H2 at*
 refine lK (xs:=[z.b,z.t,z.e,z.t - z.b - (kab z:Int)].map V.int) (cD.of l2) (fun i σ H'=>H'=H2/\∃v,σ= [some (.ref x),some (.ref n),v,none,none,none,none]) ⟨rfl,none,rfl⟩ (fun i σ H' _ hp=>by rw [hp.1];exact cD.of l2) (fun i y σ H3 hy hp=>?_) (fun σ H3 hp=>?_)
 ·
  obtain ⟨rfl,v,rfl⟩:=hp;obtain ⟨c,rfl,_⟩:=ft hy;walk_at "wps";exact ⟨_,rfl⟩
 obtain ⟨rfl,v,rfl⟩:=hp;rw [<-h_u1,ao];generalize h_u2:ao _=u2;exists n2;rw [<-h_u2,ao];generalize h_u3:ao _=u3;exists S2.hx;intro p1 hp1 p2 hp2;have t1:=aJ (o:= .tup [V.int z.b,V.int z.t,V.int z.e]) (au (H:=H3) (a:=p1) (o:= .tup [V.int z.b,V.int z.t,V.int z.e])) hp2;refine vd (xs:=[z.b,z.t,z.e]) (ys:=[z.b,z.t,z.e]) (dZ.of t1) (dZ.of au) ⟨_,rfl,?_⟩;rw [if_neg (by simp),if_pos J.B.bt,if_neg (by have:=J.te;lia),if_neg (by have:=J.tm;lia)];have S4:=(S2.same (aK (o:= .tup [V.int z.b,V.int z.t,V.int z.e]) hp1)).same (aK (o:= .tup [V.int z.b,V.int z.t,V.int z.e]) hp2);have sm4:eo H (upd (upd H3 p1 (.tup [V.int z.b,V.int z.t,V.int z.e])) p2 (.tup [V.int z.b,V.int z.t,V.int z.e])):=fun b o e=>aJ (aJ (sm2 b o e) hp1) hp2;generalize upd (upd H3 p1 (.tup [V.int z.b,V.int z.t,V.int z.e])) p2 (.tup [V.int z.b,V.int z.t,V.int z.e])=H4 at*
 rw [<-h_u3,ao];exists S4.hx;have kl:=p8 (z:=z);have bt:=J.B.bt;by_cases c:z.b=z.t
 ·
  rw [if_pos c];refine ⟨A,z,S4,J.B,fun H5 sm5=>?_⟩;rw [decide_eq_true (by lia)];exact q H5 fun b o e=>sm5 _ _ (sm4 b o e)
 ·
  rw [if_neg c];refine ⟨A,z,S4,J.B,fun H5 sm5=>?_⟩;rw [if_pos (by lia),decide_eq_true (by lia)];exact q H5 fun b o e=>sm5 _ _ (sm4 b o e)
include T in def oe:FnAt P w K mg base fb "_law_gone" 5 ["_law_sender_here","_law_turn","_law_now"] (fY aa ai ae):=by
 exists 0,T.h9,cA,oG,fY;rename_i x tn n;refine ⟨_,(af (lE (pv 2) (lH K (n:=4) rfl rfl (fi (aU (i:=3) cA.nd rfl (Or.inl rfl)) (fi (aU (i:=4) cA.nd rfl (Or.inl rfl)) (fi (aU (i:=5) cA.nd rfl (Or.inl rfl)) (fi (aU (i:=6) cA.nd rfl (Or.inl rfl)) lG))))))
 (aw (af (aS (i:=7) cA.nd rfl (Or.inl rfl) (bI (pv 0) T.ag (og T) HR (by decide) (az (pv 1) av)))
 (aw (af (bg (aF jE (pv 7) b9 (nomark _)) (aq (aE (pv 2))) aL)
 (aw (af (bg (PW.pt (pw_or (gY (lV (a9 (kE K rfl) (by rfl) T.dv fR (az (pv 7) (az (ue rfl T.lL pB) av))))) (pw_or1 (aF (uu K rfl HR.units) (a9 (iq K rfl) (by rfl) T.mK mE (az (pv 7) av)) ah (nomark _))))) (aq (aE b9)) aL)
 (aw (af (bg (aF (cu K rfl HR.units) (bJ (dI K rfl) (pv 7) ah (fun _ _=>rfl)) g6 (nomark _)) (af (bg (PW.pt (pw_and (aF jE (bJ (dI K rfl) (pv 7) ah (fun _ _=>rfl)) b9 (nomark _)) (pw_and (aF (cu K rfl HR.units) (pv 3) (pv 4) (nomark _)) (pw_and (aF (cu K rfl HR.units) (pv 4) (pv 5) (nomark _)) (pw_and1 (aF fo (pv 4) (pv 6) (nomark _))))))) (aq (aE (pv 2))) aL)
 (aq (aE b9))) aL)
 (aw (af (bg (gY (lV (bD (iV T) HR (by decide) rfl (az (bJ (dI K rfl) (pv 7) ah (fun _ _=>rfl)) av)))) (aq (aE b9)) aL)
 (aw (af (bg (PW.pt (pw_and (aF (cu K rfl HR.units) (pv 7) (cY (az g6 (az (pv 4) av))) (nomark _)) (pw_and (aF fo (pv 4) (pv 5) (nomark _)) (pw_and1 (aF fo (pv 4) (pv 6) (nomark _)))))) (aq (aE (cY (az (pv 3) (az (ar (aP K rfl) (pv 4) ah) (az (pv 5) (az (pv 6) av))))))) aL)
 (aw (af (bg (PW.pt (pw_and (aF (cu K rfl HR.units) (pv 7) (cY (az g6 (az (pv 3) av))) (nomark _)) (pw_and1 (aF fo (pv 3) (pv 4) (nomark _))))) (aq (aE (pv 2))) aL)
 (aq (aE b9))))))))))))))))),?_⟩
 obtain ⟨A,z,r,s,hS,J,hs,hn,q⟩:=h;generalize h_u1:ao _=u1;exists hn;rw [<-h_u1,ao];generalize h_u2:ao _=u2;exists hS.hx;refine ⟨A,z,hS,J.B,J.ck,by have:=J.s3;lia,by have:=J.s2;lia,fun v H1 z1 f1 S1 o=>?_⟩;obtain ⟨_,hi⟩:=hS.ms;have g:=o.gk J.ck;have o':=o.r hi.1;obtain ⟨J1,t1⟩:=J.go g o';have n1:=f1.tup hS hn;have eb:=g.b;have ee:=g.e;have eT:=g.T;clear o;rcases o' with ⟨rfl,a1,a2,a3⟩|⟨p,rfl,hp0,⟨hp,c1,a1,a2,a3⟩|⟨hp,c1,c2,a1,a2,a3⟩|⟨hp,c1,c2,c3,a1,a2,a3⟩⟩
 ·
  rw [<-h_u2,ao];generalize h_u3:ao _=u3;walk_at "wps";exact q n z1 H1 f1 S1 J1 eT (by rw [eb,a1,ee,eT];exact n1)
 ·
  rw [<-h_u2,ao];generalize h_u3:ao _=u3;walk_at "wps";rw [<-h_u3,ao];generalize h_u4:ao _=u4;exists hp;rw [if_neg (by decide)];rw [<-h_u4,ao];generalize h_u5:ao _=u5;exists hp;rw [if_neg (by decide+kernel)];rw [<-h_u5,ao];generalize h_u6:ao _=u6;exists hp;rw [<-h_u6,ao];generalize h_u7:ao _=u7;exists hp;intro p1 hp1;have h2:=aJ (o:= .tup [V.str (Str.ofString "new"),V.int z.t]) hp hp1;have S2:=S1.same (aK (o:= .tup [V.str (Str.ofString "new"),V.int z.t]) hp1);have n2:=aJ (o:= .tup [V.str (Str.ofString "new"),V.int z.t]) n1 hp1;have k2:=au (H:=H1) (a:=p1) (o:= .tup [V.str (Str.ofString "new"),V.int z.t]);have f2:lM x A H (upd H1 p1 (.tup [V.str (Str.ofString "new"),V.int z.t])):=fun b u e b1 b2 b3 b4 b5 b6 b7=>aJ (f1 b u e b1 b2 b3 b4 b5 b6 b7) hp1;generalize upd H1 p1 (.tup [V.str (Str.ofString "new"),V.int z.t])=H2 at*
  refine zY (n:=0) (by decide) (dZ.of h2) (dZ.of k2) (ds:=[.str "again",.int z.b]) (es:=[.str "new",.int z.t]) (.cons (.inr (.inr ⟨_,rfl,rfl⟩)) (.cons (.inr (.inl ⟨_,rfl,rfl⟩)) .nil)) (.cons (.inr (.inr ⟨_,rfl,rfl⟩)) (.cons (.inr (.inl ⟨_,rfl,rfl⟩)) .nil)) (fun e=>by injection e with e1 _;injection e1 with e1;exact absurd e1 (by decide+kernel)) ⟨_,rfl,?_⟩;rw [if_neg (by decide)];rw [<-h_u7,ao];exists h2;intro p3 hp3;have h4:=aJ (o:= .tup [V.str (Str.ofString "again"),V.int z.b]) h2 hp3;have S4:=S2.same (aK (o:= .tup [V.str (Str.ofString "again"),V.int z.b]) hp3);have n4:=aJ (o:= .tup [V.str (Str.ofString "again"),V.int z.b]) n2 hp3;refine o5 (n:=0) (by decide) (dZ.of h4) (dZ.of au) (ds:=[.str "again",.int z.b]) (.cons (.inr (.inr ⟨_,rfl,rfl⟩)) (.cons (.inr (.inl ⟨_,rfl,rfl⟩)) .nil)) (.cons (.inr (.inr ⟨_,rfl,rfl⟩)) (.cons (.inr (.inl ⟨_,rfl,rfl⟩)) .nil)) ⟨_,rfl,?_⟩;rw [if_pos (by decide),if_pos c1];exact q n z1 _ (fun b u e b1 b2 b3 b4 b5 b6 b7=>aJ (f2 b u e b1 b2 b3 b4 b5 b6 b7) hp3) S4 J1 eT (by rw [eb,a1,ee,eT];exact n4)
 ·
  rw [<-h_u2,ao];generalize h_u3:ao _=u3;walk_at "wps";rw [<-h_u3,ao];generalize h_u4:ao _=u4;exists hp;rw [if_neg (by decide)];rw [<-h_u4,ao];generalize h_u5:ao _=u5;exists hp;rw [if_neg (by decide+kernel)];rw [<-h_u5,ao];generalize h_u6:ao _=u6;exists hp;rw [<-h_u6,ao];generalize h_u7:ao _=u7;exists hp;intro p1 hp1;have h2:=aJ (o:= .tup [V.str (Str.ofString "new"),V.int z.t]) hp hp1;refine o5 (n:=0) (by decide) (dZ.of h2) (dZ.of au) (ds:=[.str "new",.int z.t]) (.cons (.inr (.inr ⟨_,rfl,rfl⟩)) (.cons (.inr (.inl ⟨_,rfl,rfl⟩)) .nil)) (.cons (.inr (.inr ⟨_,rfl,rfl⟩)) (.cons (.inr (.inl ⟨_,rfl,rfl⟩)) .nil)) ⟨_,rfl,?_⟩;rw [if_pos (by decide),if_pos c2,if_pos c1];intro p3 hp3;exact q p3 z1 _ (fun b u e b1 b2 b3 b4 b5 b6 b7=>aJ (aJ (f1 b u e b1 b2 b3 b4 b5 b6 b7) hp1) hp3) ((S1.same (aK hp1)).same (aK hp3)) J1 eT (by rw [eb,a1,ee,eT];exact au)
 ·
  rw [<-h_u2,ao];generalize h_u3:ao _=u3;walk_at "wps";rw [<-h_u3,ao];generalize h_u4:ao _=u4;exists hp;rw [if_neg (by decide)];rw [<-h_u4,ao];generalize h_u5:ao _=u5;exists hp;rw [if_pos c1,if_pos (by have:=J.te;lia),if_pos c2];exact q n z1 H1 f1 S1 J1 eT (by rw [eb,a1,ee,eT];exact n1)
include T in def iX:FnAt P w K mg base fb "_law_heard" 5 ["_law_sender_here","_law_cell","_law_turn","_law_now","_law_ring"] (fy aa ai ae):=by
 exists 0,T.gB,a8,m9,fy;rename_i x c tn n r;refine ⟨_,(af (lE (pv 3) (lH K (n:=4) rfl rfl (fi (aU (i:=5) a8.nd rfl (Or.inl rfl)) (fi (aU (i:=6) a8.nd rfl (Or.inl rfl)) (fi (aU (i:=7) a8.nd rfl (Or.inl rfl)) (fi (aU (i:=8) a8.nd rfl (Or.inl rfl)) lG))))))
 (aw (af (aS (i:=9) a8.nd rfl (Or.inl rfl) (bD (l0 T) HR (by decide) rfl (az (bD (iW T) HR (by decide) rfl (az (pv 1) (az ah av))) (az (pv 5) (az (pv 6) (az (pv 4) av))))))
 (aw (af (aS (i:=10) a8.nd rfl (Or.inl rfl) (ar aX (ar bo (pv 1) ah) ah))
 (aw (af (aS (i:=11) a8.nd rfl (Or.inr rfl) (bD (iW T) HR (by decide) rfl (az (pv 1) (az ah av))))
 (aw (af (aS (i:=12) a8.nd rfl (Or.inl rfl) (lY (pz K rfl) (by rfl) T.lL pB (az (n_ (N:=(["_law_k","_law_marks"]:List Str)) (nv:=1) (ix:=[11]) rfl (qX (by kernel_rfl)) (nG rfl T.eC (az ah (az ah av))) (fun _ _ _ _ _=>(aU (i:=0) (show ((["_law_k","_law_marks"]:List Str)).Nodup by decide) rfl (Or.inl rfl))) (fun _ _ _ _ _=>(lD (aF (cu K rfl HR.units) (ar aX (ar jF (pv 1) (ar qH ah (pv 0))) ah) ah (nomark _)))) (fun _ _ _ _ _=>(pv 0))) av)))
 (aw (af (bG (bI (pv 0) T.ag (kT T) HR (by decide) (az (pv 9) (az (pv 10) (az (pv 12) (az (pv 2) av))))))
 (aw (af (aS (i:=13) a8.nd rfl (Or.inl rfl) (ar aX (ar dH (pv 9) (pv 5)) (pv 4)))
 (af (bg (aF nH (pv 13) (ar dH (pv 6) (pv 5)) (nomark _)) (aq (aE (pv 3))) aL)
 (aq (aE (cY (az (ar (aP K rfl) (pv 5) (pv 13)) (az (pv 6) (az (a9 (ip rfl) (by rfl) T.nS oF (az (pv 7) (az (ar (aP K rfl) (ar (aP K rfl) (pv 5) (pv 13)) (pv 10)) av))) (az (pv 8) av))))))))))))))))))))),?_⟩
 obtain ⟨A,z,s,hS,J,hs,hn,q⟩:=h;have bt:=J.B.bt;generalize h_u1:ao _=u1;exists hn;rw [<-h_u1,ao];generalize h_u2:ao _=u2;walk_at "wps";refine fun v1 hv1=>⟨⟨bt,J.r0⟩,fun nu=>?_⟩;rw [<-h_u2,ao];generalize h_u3:ao _=u3;walk_at "wps";rw [<-h_u3,ao];generalize h_u4:ao _=u4;walk_at "wps";intro mm hmm;rw [<-h_u4,ao];generalize h_u5:ao _=u5;walk_at "wps";refine vo (p:=fun v=>match v with | .int i=>decide (mm / (1*2 ^ i.toNat) % 2=1)|_=>false) (f:=fun v=>v) (de (by decide)) ?_ ?_ ?_
 ·
  intro j hj Q' q';walk_at "wps";have ej:(1+(j:Int)).toNat=j+1:=by lia
  obtain ⟨g1,g2⟩:=D4 ⟨j,hj⟩;refine ⟨⟨⟨by lia,by lia⟩,by decide+kernel,by decide+kernel⟩,?_,q'⟩;rw [ej];exact z_ g1 g2
 ·
  intro j hj _ Q' q';walk_at "wps";exact q'
 rw [w9 (p:=fun i=>decide (mm / (1*2 ^ i.toNat) % 2=1))];have hlen:((irg 1 15).filter fun i=>decide (mm / (1*2 ^ i.toNat) % 2=1)).length<=15:=Nat.le_trans (List.length_filter_le _ _) (by unfold irg;rw [List.length_map,List.length_range];exact Nat.le_refl _);have hnd:((irg 1 15).filter fun i=>decide (mm / (1*2 ^ i.toNat) % 2=1)).Nodup:=ki.filter _;have hs0: ∀k∈((irg 1 15).filter fun i=>decide (mm / (1*2 ^ i.toNat) % 2=1)),0<=k:=fun k hk=>by
  have:=oq (List.mem_filter.mp hk).1;lia
 generalize ((irg 1 15).filter fun i=>decide (mm / (1*2 ^ i.toNat) % 2=1))=hs' at*
 refine ⟨de (by rw [List.length_map];lia),fun l hl=>⟨_,.inl ⟨cD.of au,fun l1 hl1=>?_⟩⟩⟩;have S1:=(hS.same (aK (o:= .lst (hs'.map V.int)) hl)).same (aK (o:= .tup (hs'.map V.int)) hl1);have sm1:eo H (upd (upd H l (.lst (hs'.map V.int))) l1 (.tup (hs'.map V.int))):=fun b o e=>aJ (aJ e hl) hl1;have th:=au (H:=upd H l (.lst (hs'.map V.int))) (a:=l1) (o:= .tup (hs'.map V.int));generalize upd (upd H l (.lst (hs'.map V.int))) l1 (.tup (hs'.map V.int))=H1 at*
 have n1:=sm1 _ _ hn;rw [<-h_u5,ao];generalize h_u6:ao _=u6;exists S1.hx;have e8:=J.tm;have e7:=J.tl;have e3:=J.s1;refine ⟨A,z,hs',S1,J.B,by rw [J.R];exact J.r0,th,by lia,hnd,hs0,J.tqq (by lia),by lia,by lia,J.k,fun p H2 hp f2 hq=>?_⟩;have eR:=J.R;have r0:=J.r0;have ef:(nu - z.b) % r=far' z nu:=by unfold far';rw [eR]
 have f20:lM x A H H2:=fun b u e b1 b2 b3 b4 b5 b6 b7=>f2 b u (sm1 b u e) b1 b2 b3 b4 b5 b6 b7;have n2:=f2.tup S1 n1;rcases hq with ⟨c0,sm2,_⟩|⟨c0,S2,_⟩
 ·
  rw [<-h_u6,ao];walk_at "wps";refine ⟨r0,?_⟩;rw [ef];rw [if_pos c0];exact q n z H2 f20 (S1.same sm2) (J.more (Nat.le_succ _)) rfl n2
 ·
  rw [<-h_u6,ao];walk_at "wps";refine ⟨r0,?_⟩;rw [ef];rw [if_neg (by lia)];intro p3 hp3;have J2:=J.hrd (rm:=c / 7 % 17) (tn:=tn) (by lia) hnd hs0 c0 (Dc (nu:=nu) (rm:=c / 7 % 17) (tn:=tn) (hs:=hs') J.ck);exact q p3 _ _ (fun b u e b1 b2 b3 b4 b5 b6 b7=>aJ (f20 b u e b1 b2 b3 b4 b5 b6 b7) hp3) (S2.same (aK hp3)) J2 rfl au
def yD (T:Txt K mg ae ai aa):FnAt P w K mg base fb "law" 6 ["_law_script"] (ny K):=by
 refine T.qW.fn df vv (fun vs H Q E h=>?_) fun f cdv A outer s H vs Q E HR h=>?_
 ·unfold ny at h;split at h<;>first|rfl|exact h.elim
 ·
  unfold ny at h;split at h
  ·
   rename_i a;obtain ⟨ns,hS,hl,_,q⟩:=h;refine ⟨_,(af (lE (bD (lZ T a ns) HR (by decide) rfl (az (pv 0) av)) (lH K (n:=2) rfl rfl (fi (aU (i:=1) df.nd rfl (Or.inl rfl)) (fi (aU (i:=2) df.nd rfl (Or.inl rfl)) lG))))
 (aw (af (aS (i:=3) df.nd rfl (Or.inl rfl) (cY (az ah (az ah (az ah (az ah av))))))
 (af (aS (i:=4) df.nd rfl (Or.inl rfl) ah)
 (aw (af (gZ PassesOwn.never rfl (ie K rfl (uf (DV K rfl) (pv 0) (qF ah) (qF ah))) (aU (i:=5) df.nd rfl (Or.inl rfl)) (af (gZ PassesOwn.never rfl (ic rfl T.eC (az (ar aX (pv 5) ah) av)) (aU (i:=6) df.nd rfl (Or.inl rfl)) (af (bG (bI (pv 2) T.ag (mT T) HR (by decide) (az (cY (az g6 (az (bJ (dI K rfl) g6 (pv 6) (fun _ _=>rfl)) av))) av)))
 (aw (aq (aS (i:=3) df.nd rfl (Or.inl rfl) (cY (az (bJ (dI K rfl) (pv 3) ah (fun _ _=>rfl)) (az (bJ (dI K rfl) (pv 3) ah (fun _ _=>rfl)) (az (bJ (dI K rfl) (pv 3) ah (fun _ _=>rfl)) (az (ar (aP K rfl) (bJ (dI K rfl) (pv 3) ah (fun _ _=>rfl)) ah) av))))))))))
 (aw (qD (bg (aF (cu K rfl HR.units) (ar aX (ar bo (pv 5) ah) ah) ah (nomark _)) (af (aS (i:=4) df.nd rfl (Or.inl rfl) (ar (aP K rfl) (pv 4) (ar aX (ar bo (pv 5) ah) ah)))
 (aw (af (aS (i:=3) df.nd rfl (Or.inl rfl) (bD (iX T) HR (by decide) rfl (az (pv 2) (az (ar bo (pv 5) ah) (az (pv 4) (az (pv 3) (az (pv 1) av)))))))
 (aw (aq (bg (gY (lV (bD (eQ T) HR (by decide) rfl (az (pv 2) (az (pv 3) av))))) (aq (aE g7)) aL)))))) aL)
 (aw (af (gZ PassesOwn.never rfl (ic rfl T.eC (az (ar (aP K rfl) ah (ar aX (ar bo (pv 5) ah) ah)) av)) (aU (i:=6) df.nd rfl (Or.inl rfl)) (af (aS (i:=4) df.nd rfl (Or.inl rfl) (ar (aP K rfl) (ar (aP K rfl) (pv 4) (bJ (dI K rfl) (j6 (az ah (az ah av))) (ar bo (ar aX (ar bo (pv 5) ah) ah) ah) (fun _ _=>rfl))) (ar dQ (ar aX (ar bo (pv 5) ah) ah) (pv 6))))
 (aw (af (aS (i:=3) df.nd rfl (Or.inl rfl) (bD (oe T) HR (by decide) rfl (az (pv 2) (az (pv 4) (az (pv 3) av)))))
 (aw (aq (bg (PW.pt (pw_or (aF jE (pv 3) b9 (nomark _)) (pw_or1 (gY (lV (bD (eQ T) HR (by decide) rfl (az (pv 2) (az (pv 3) av)))))))) (aq (aE g7)) aL)))))))
 (aw (aq (bg (aF nH (ar aX (ar bo (pv 5) ah) ah) ah (nomark _)) (af (aS (i:=3) df.nd rfl (Or.inl rfl) (bD (iX T) HR (by decide) rfl (az (pv 2) (az (pv 5) (az (pv 4) (az (pv 3) (az (pv 1) av)))))))
 (aw (aq (bg (gY (lV (bD (eQ T) HR (by decide) rfl (az (pv 2) (az (pv 3) av))))) (aq (aE g7)) aL)))) aL)))))))))
 (aq (aE g7)))))))),?_⟩
   generalize h_ua:ao _=ua;walk_at "wps";refine ⟨hS,fun r x A p z H1 sm1 S1 J1 ez hp1=>?_⟩;exists hp1;rw [<-h_ua,ao];generalize h_ub:ao _=ub;walk_at "wps";intro pn hpn;have S2:=S1.same (aK (o:= .tup [V.int 0,V.int 0,V.int 1,V.int 0]) hpn);have n2:=au (H:=H1) (a:=pn) (o:= .tup [V.int 0,V.int 0,V.int 1,V.int 0]);have sm2:eo H (upd H1 pn (.tup [V.int 0,V.int 0,V.int 1,V.int 0])):=fun b o e=>aJ (sm1 b o e) hpn;generalize upd H1 pn (.tup [V.int 0,V.int 0,V.int 1,V.int 0])=H2 at*
   rw [<-h_ub,ao];generalize h_v1:ao _=v1;generalize h_v2:ao _=v2;walk_at "wps";refine rB (oQ sm2 hS) fun p2 hp2=>?_;obtain ⟨ms,em,hms⟩:=Af (ns:=ns) (lo:=some 3) (hi:=some 63);rw [em];have g1:=au (H:=H2) (a:=p2) (o:= .lst (ms.map V.int));have S3:=S2.same (aK (o:= .lst (ms.map V.int)) hp2);have n3:=aJ (o:= .lst (ms.map V.int)) n2 hp2;have np2:p2≠A.pt:=(aA S2.ht hp2).symm;generalize upd H2 p2 (.lst (ms.map V.int))=H3 at*
   obtain ⟨z1,z2,z3,z4⟩:=ez;refine lK (xs:=ms.map V.int) (cD.of g1) (fun i σ H'=> ∃v5,Lv aa ai ae x A p2 a ms r (20*i) (2*i) v5 σ H') ⟨none,g1,z,0,0,pn,none,S3,J1,Nat.le_refl _,by rw [z4];exact Nat.le_refl _,by rw [z1,z2,z3,z4];exact n3,rfl⟩ (fun i σ H' _ hp=>by obtain ⟨_,h⟩:=hp;exact cD.of h.1) (fun i y σ H4 hy hp=>?_) (fun σ H4 hp=>?_)
   ·
    obtain ⟨v5,hp⟩:=hp;obtain ⟨c,rfl,_⟩:=ft hy;have hi:i<64:=by
     have:=(List.getElem?_eq_some_iff.mp hy).1;rw [List.length_map] at this;lia
    obtain ⟨l4,zz,tn,s,n,v6,S4,J4,hs4,hT4,hn4,rfl⟩:=hp;walk_at "wps";refine ⟨by lia,?_⟩;refine ow (lo:=0) (n:=(c % 3).toNat) (fun j σ H'=>Lv aa ai ae x A p2 a ms r (20*i) (2*i+j) (some (.int c)) σ H') ⟨l4,zz,tn,s,n,_,S4,J4,hs4,hT4,hn4,rfl⟩ (fun j σ H5 hj hp=>?_) (fun σ H5 hp=>?_)
    ·
     obtain ⟨l5,z5,tn5,s5,n5,v65,S5,J5,hs5,hT5,hn5,rfl⟩:=hp;have hj3:j<3:=by lia
     exists S5.hx;rw [tR];obtain ⟨ch,hch⟩: ∃ch,i4 (Str.ofString "ab").cps.toList (0+(j:Int))=some ch:=Am (by lia) (by show 0+(j:Int)<2;lia);refine ⟨ch,by rw [sizeLine_eq];decide,hch,fun pu hpu=>⟨A,z5,S5.same (aK hpu),by lia,fun H6 hB6 S6=>?_⟩⟩;have l6:=hB6 _ _ (aJ l5 hpu) np2;have n6:=hB6 _ _ (aJ hn5 hpu) (a_ hn5 S5.ht (by simp));rw [<-h_v1,ao];exists n6;intro pq hpq;exact ⟨aJ l6 hpq,_,tn5,s5,pq,_,S6.same (aK hpq),J5.put (by lia),hs5,by show (z5.T++ [V.ref pu]).length<=_;rw [List.length_append,List.length_singleton];lia,by rw [au];simp,rfl⟩
    obtain ⟨l5,z5,tn5,s5,n5,v65,S5,J5,hs5,hT5,hn5,rfl⟩:=hp;rw [<-h_v2,ao];generalize h_v3:ao _=v3;generalize h_v4:ao _=v4;refine ⟨fun σ' H'=>Lv aa ai ae x A p2 a ms r (20*i+2) (2*i+2) (some (.int c)) σ' H',?_,?_⟩
    ·
     walk_at "wps";split
     ·
      rw [<-h_v3,ao];generalize h_v5:ao _=v5;walk_at "wps";refine ⟨A,z5,s5+1,S5,J5.turn (by lia) (by lia),by lia,hn5,fun n6 z6 H6 f6 S6 J6 eT n6'=>?_⟩;rw [<-h_v5,ao];walk_at "wps";refine ⟨A,z6,r,_,_,S6,J6,n6',fun H7 sm7=>?_⟩;exact ⟨sm7 _ _ (f6.lst S5 l5 np2),z6,_,_,n6,_,S6.same sm7,J6,by lia,by rw [eT];lia,sm7 _ _ n6',rfl⟩
     ·exact ⟨l5,z5,tn5,s5,n5,_,S5,J5,by lia,by lia,hn5,rfl⟩
    rintro σ6 H6 ⟨l6,z6,tn6,s6,n6,v66,S6,J6,hs6,hT6,hn6,rfl⟩;clear S5 J5 l5 hn5;rw [<-h_v4,ao];generalize h_w1:ao _=w1;generalize h_w2:ao _=w2;walk_at "wps";refine ⟨by lia,?_⟩;refine ow (lo:=0) (n:=(1+c / 3 % 3).toNat) (fun j σ H'=>Lv aa ai ae x A p2 a ms r (20*i+2+2*j) (2*i+2) (some (.int c)) σ H') ⟨l6,z6,tn6,s6,n6,_,S6,J6,by lia,by lia,hn6,rfl⟩ (fun j σ H7 hj hp=>?_) (fun σ H7 hp=>?_)
    ·
     obtain ⟨l7,z7,tn7,s7,n7,v67,S7,J7,hs7,hT7,hn7,rfl⟩:=hp;have hj3:j<3:=by lia
     walk_at "wps";intro pl hpl;obtain ⟨d0,ed0,d00⟩: ∃d0:Int,i4 [V.int 1,V.int 0] (c / 1152 % 4 / 3)=some (.int d0)/\0<=d0/\d0<=1:=by
      have h4:c / 1152 % 4 / 3=0\/c / 1152 % 4 / 3=1:=by lia
      rcases h4 with e|e<;>rw [e]
      ·exact ⟨_,q_,by decide⟩
      ·exact ⟨_,q9,by decide⟩
     have hm:0<=c / 9 % 4*(0+(j:Int))/\c / 9 % 4*(0+(j:Int))<=6:=by
      have h3:(j:Int)=0\/(j:Int)=1\/(j:Int)=2:=by lia
      rcases h3 with e|e|e<;>rw [e]<;>lia
     refine ⟨_,ed0,?_⟩;walk_at "wps";refine ⟨.inl (.inl ⟨by lia,by lia⟩),?_⟩;generalize c / 9 % 4*(0+(j:Int))=d1 at*
     have S8:=S7.same (aK (o:= .lst [V.int 1,V.int 0]) hpl);have l8:=aJ (o:= .lst [V.int 1,V.int 0]) l7 hpl;have n8:=aJ (o:= .lst [V.int 1,V.int 0]) hn7 hpl;generalize upd H7 pl (.lst [V.int 1,V.int 0])=H8 at*
     have J8:Jw z7 r (tn7+d0+d1) (s7+1):=by
      rw [Int.add_assoc];exact J7.turn (by lia) (by lia)
     rw [<-h_w1,ao];generalize h_w3:ao _=w3;walk_at "wps";refine ⟨A,z7,r,s7+1,S8,J8,by lia,n8,fun n9 z9 H9 f9 S9 J9 eT n9'=>?_⟩;rw [<-h_w3,ao];walk_at "wps";refine ⟨A,z9,r,_,_,S9,J9,n9',fun H10 sm10=>?_⟩;exact ⟨sm10 _ _ (f9.lst S8 l8 np2),z9,_,_,n9,_,S9.same sm10,J9,by lia,by rw [eT];lia,sm10 _ _ n9',rfl⟩
    obtain ⟨l7,z7,tn7,s7,n7,v67,S7,J7,hs7,hT7,hn7,rfl⟩:=hp;have hnn:(1+c / 3 % 3).toNat<=3:=by lia
    rw [<-h_w2,ao];generalize h_w3:ao _=w3;walk_at "wps";split
    ·
     refine ⟨A,z7,s7,S7,J7,by lia,hn7,fun n9 z9 H9 f9 S9 J9 eT n9'=>?_⟩;rw [<-h_w3,ao];walk_at "wps";refine ⟨A,z9,r,_,_,S9,J9,n9',fun H10 sm10=>?_⟩;exact ⟨_,sm10 _ _ (f9.lst S7 l7 np2),z9,_,_,n9,_,S9.same sm10,J9,by lia,by rw [eT];lia,sm10 _ _ n9',rfl⟩
    ·exact ⟨_,l7,z7,tn7,s7,n7,_,S7,J7,by lia,by lia,hn7,rfl⟩
   ·
    obtain ⟨v5,hp⟩:=hp;walk_at "wps";exact q _
  ·exact h.elim
end
def fin {P:Program} {w:World} {K:W.Frag} {h:Heap} {mg:Str->Option Value} {fa:Addr} {ae ai aa:Addr} (KX:K.In h) (G:h.Ns mainGlobals mg) (hmg:mg "law" = some (.ref fa)) (T:Txt K mg ae ai aa):
  ∃fd:FuncData,(∀(s:Shared) (u:Value),BindsTo s fd ⟨[u],[]⟩ [("_law_script",u)])/\∀base:Heap,K.In base->base.Ns mainGlobals mg->kL P w K mg base fb 6 fa fd ["_law_script"] (ny K):=
 law_fin hmg T.qW vv fun base=>yD T
end K53
open PySem PySem.W PyProof.Rows
noncomputable def PySem.W.Fast.tw3924424893016346413:PySem.Program:=PySem.Challenge.pw_slowroad_k53_sender_never_falls
theorem PySem.W.Fast.te3924424893016346413:PySem.Challenge.pw_slowroad_k53_sender_never_falls=PySem.W.Fast.tw3924424893016346413:=rfl
set_option maxRecDepth 100000 in
set_option maxHeartbeats 0 in
theorem PySem.Challenge.cw_slowroad_k53_sender_never_falls_holds : PySem.Challenge.rw_slowroad_k53_sender_never_falls.Holds := by
 w_on;o_law
 refine holds_open (q:=K53.gr) (loose:=[]) (Xt:=fun s=>xlAt K53.gr [] s&&recOk (RowW.records (OpenRow.toRowW (OpenLaw.row Challenge.rw_slowroad_k53_sender_never_falls))) s) (XP:=XL K53.gr []) (Yf:=Hook.obs (kHook K53.vF K53.iZ K53.jJ)) (Ya:=Hook.val (kHook K53.vF K53.iZ K53.jJ)) (YP:=Hook.says (kHook K53.vF K53.iZ K53.jJ)) (N:=4098) K53.Dk (Hook.of (kHook K53.vF K53.iZ K53.jJ)) (Hook.keeps (kHook K53.vF K53.iZ K53.jJ)) (fun s e=>xl_of s (Bool.and_eq_true_iff.mp e).1) XL.keeps (by rfl) (by rfl) (by rfl) (fun s e=>recFacts_of (Bool.and_eq_true_iff.mp e).2) (by rfl) (by first|assumption|decide+kernel) (by decide+kernel) ⟨rfl,rfl,rfl,rfl,rfl,by decide+kernel⟩ ?hw ?hc
 case hw=>w_witness2
 k_fill
 refine L2.uE (l:=Challenge.rw_slowroad_k53_sender_never_falls) (k:=6) (x:="_law_script") rfl rfl ⟨rfl,by decide,by decide⟩ (fun w h Y=>W.kIn_of Y) ?F
 case F=>
  intro w mg fa h KX G hmg;refine' K53.fin KX G hmg ?TT
  case TT=>
   refine' K53.Txt.mk ?aQ ?eB ?aR ?bS ?ba ?aO ?cw ?aI ?aY ?bO ?ag ?dR ?bu ?bz ?bU ?aB ?aH ?bw ?bj ?aW ?aV ?bh ?bq ?dM ?fQ ?dJ ?gD ?ek ?en ?oz ?my ?eg ?ed ?cZ ?c4 ?dr ?eY ?du ?gC ?fP ?eZ ?c8 ?c7 ?cy ?bE ?c5 ?cx ?cb ?b_ ?cN ?h_ ?c6 ?dt ?eh ?cc ?gz ?eX ?gA ?fN ?fO ?fM ?h9 ?gB ?qW ?vy ?qj ?vx ?dv ?mK ?qi ?nS ?pC ?eC ?lL ?gE ?dN
   case aQ|aO|ag=>refine' L2.uG KX G ?a ?pg ?hd ?po ?sa ?mk ?kc;(case a=>k_is);(case pg=>k_is);(case hd=>k_is);(case po=>k_is);(case sa=>k_is);(case mk=>k_is);(case kc=>k_is)
   case eB|aR|bS|ba|cw|aI|aY|bO|dR|bu|bz|bU|aB|aH|bw|bj|aW|aV|bh|bq=>refine' L2.se ?a;(case a=>k_is)
   case dM|fQ|dJ|gD|ek|en|eg|ed|cZ|c4|dr|eY|du|gC|fP|eZ|c8|c7|cy|bE|c5|cx|cb|b_|cN|h_|c6|dt|eh|cc=>refine' L2.sj ?a ?i ?l ?c ?k;(case a=>k_is);(case i=>k_is);(case l=>k_is);(case c=>k_is);(case k=>k_is)
   case oz|my|gz|eX|gA|fN|fO|fM|h9|gB|qW=>refine' L2.vj KX G ?a ?l ?c ?k;(case a=>k_is);(case l=>k_is);(case c=>k_is);(case k=>k_is)
   case vy|qj|vx|dv|mK|qi|nS|pC|eC|lL=>refine' W.mg_none_of KX G ?a;(case a=>k_is)
   case gE|dN=>refine' ⟨_,W.mg_of KX G ?a,?r⟩;(case a=>k_is);(case r=>exact ⟨_,rfl⟩)
#print axioms Challenge.cw_slowroad_k53_sender_never_falls_holds
