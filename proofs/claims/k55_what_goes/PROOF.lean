import PyProof.Rows.All
import Wide.All
import OpenK.AllK
import Wide.FinOn
import PyProof.EqAt
import PyProof.EqKinds
import PyProof.TupleCall
import PyProof.NeKinds
import PyProof.Rows.BitMore
import PyProof.FitsBits
import PyProof.Rows.TupAssign
import PyProof.ListRange
import Lean
import PySem.Challenge.RW_slowroad_k55_what_goes
set_option maxRecDepth 100000
set_option maxHeartbeats 4000000
set_option Elab.async false
set_option linter.all false
set_option compiler.extract_closed false
namespace L2
open PySem PySem.Spec PyProof.Rows
noncomputable abbrev Key:=Sum Int Str
noncomputable def pT:Key->Value->Bool
 | .inl k,v=>Value.isInt k v
 | .inr x,v=>Value.isStrOf x v
noncomputable def HH (w:World):Key->Int
 | .inl k=>hashInt k
 | .inr x=>hashStr w x
def bR: ∀{k:Key} {v:Value},pT k v=true->(∃i t,k=Sum.inl i/\v=Value.int i t)\/(∃x t,k=Sum.inr x/\v=Value.str x t)
 | .inl i,v,h=>by
  obtain ⟨t,e⟩:=Value.isInt_shape (k:=i) (v:=v) h;exact .inl ⟨i,t,rfl,e⟩
 | .inr x,v,h=>by
  obtain ⟨t,e⟩:=Value.isStrOf_shape (x:=x) (v:=v) h;exact .inr ⟨x,t,rfl,e⟩
def vh (i:Int) (t:Tok):pT (.inl i) (.int i t)=true:=by simp [pT,Value.isInt]
def vg (x:Str) (t:Tok):pT (.inr x) (.str x t)=true:=by simp [pT,Value.isStrOf]
def BI (a b:Int):decide ((Sum.inl a:Key)=Sum.inl b)=(a == b):=by
 by_cases e:a=b
 ·subst e;simp
 ·
  have h: ¬(Sum.inl a:Key)=Sum.inl b:=fun q=>e (Sum.inl.inj q);rw [decide_eq_false h];exact (beq_eq_false_iff_ne.mpr e).symm
def BF (a b:Str):decide ((Sum.inr a:Key)=Sum.inr b)=decide (a=b):=by
 by_cases e:a=b
 ·subst e;simp
 ·
  have h: ¬(Sum.inr a:Key)=Sum.inr b:=fun q=>e (Sum.inr.inj q);rw [decide_eq_false h,decide_eq_false e]
def BH (a:Int) (b:Str):decide ((Sum.inl a:Key)=Sum.inr b)=false:=decide_eq_false (fun q=>nomatch q)
def BG (a:Str) (b:Int):decide ((Sum.inr a:Key)=Sum.inl b)=false:=decide_eq_false (fun q=>nomatch q)
noncomputable def bQ (prog:Program) (w:World):PySem.KeyKind prog w Key where
 is:=pT
 hash:=HH w
 inj:=fun v a b ha hb=>by
  rcases bR ha with ⟨i,t,rfl,rfl⟩|⟨x,t,rfl,rfl⟩
  ·
   rcases bR hb with ⟨j,u,rfl,e⟩|⟨y,u,rfl,e⟩
   ·injection e with e1 _;rw [e1]
   ·exact nomatch e
  ·
   rcases bR hb with ⟨j,u,rfl,e⟩|⟨y,u,rfl,e⟩
   ·exact nomatch e
   ·injection e with e1 _;rw [e1]
 byValue:=fun k v h=>by
  rcases bR h with ⟨i,t,rfl,rfl⟩|⟨x,t,rfl,rfl⟩<;>rfl
 pyHash:=fun hv h=>by
  rcases bR hv with ⟨i,t,rfl,rfl⟩|⟨x,t,rfl,rfl⟩
  ·exact wpAny_pyHash_int h
  ·exact wpAny_pyHash_str h
 eqBool:=fun hu hv h=>by
  rcases bR hu with ⟨i,t,rfl,rfl⟩|⟨x,t,rfl,rfl⟩
  ·
   rcases bR hv with ⟨j,u,rfl,rfl⟩|⟨y,u,rfl,rfl⟩
   ·rw [BI] at h;exact wpAny_eqBool_int h
   ·rw [BH] at h;exact SeqAt.EqAt.int_str i t y u _ _ _ _ h
  ·
   rcases bR hv with ⟨j,u,rfl,rfl⟩|⟨y,u,rfl,rfl⟩
   ·rw [BG] at h;exact SeqAt.EqAt.str_int x t j u _ _ _ _ h
   ·rw [BF] at h;exact wpAny_eqBool_str h
 «strs» :=fun k x t v h=>by
  rcases bR h with ⟨i,u,rfl,e⟩|⟨y,u,rfl,e⟩
  ·exact nomatch e
  ·
   injection e with e1 _;subst e1;cases v<;>rfl
def rj (prog:Program) (w:World) (i:Int) (t:Tok):(bQ prog w).is (.inl i) (.int i t)=true:=vh i t
def ri (prog:Program) (w:World) (x:Str) (t:Tok):(bQ prog w).is (.inr x) (.str x t)=true:=vg x t
inductive V where
 |non|bl (b:Bool)|int (i:Int)|str (x:Str)|byt (b:Array UInt8)|flt (b:UInt64)|ref (a:Addr)|ty (n:String)
 deriving DecidableEq
def RelV:V->Value->Prop
 | .non,u=>u=Value.none
 | .bl b,u=>u=Value.bool b
 | .int i,u=> ∃t,u=Value.int i t
 | .str x,u=> ∃t,u=Value.str x t
 | .byt b,u=> ∃t,u=Value.bytes b t
 | .flt b,u=> ∃t,u=Value.float b t
 | .ref a,u=>u=Value.ref a
 | .ty n,u=>u=Value.type n
abbrev Vals:List V->List Value->Prop:=Paired RelV
def Vals.length {xs:List V} {us:List Value} (r:Vals xs us):xs.length=us.length:=Paired.length r
def Vals.get: ∀{xs:List V} {us:List Value} {i:Nat} {x:V},Vals xs us->xs[i]?=some x->∃u,us[i]?=some u/\RelV x u
 |_,_,_,_,.nil,e=>by simp at e
 |_,_,0,_,.cons r _,e=>by simp at e;subst e;exact ⟨_,rfl,r⟩
 |_,_,i+1,x,.cons _ t,e=>by
  obtain ⟨u,h1,h2⟩:=Vals.get (i:=i) (x:=x) t (by simpa using e);exact ⟨u,by simpa using h1,h2⟩
def Vals.append: ∀{xs ys:List V} {us ws:List Value},Vals xs us->Vals ys ws->Vals (xs++ys) (us++ws)
 |_,_,_,_,.nil,s=>s
 |_,_,_,_,.cons r t,s=> .cons r (Vals.append t s)
def Vals.take: ∀{xs:List V} {us:List Value} (n:Nat),Vals xs us->Vals (xs.take n) (us.take n)
 |_,_,0,_=> .nil
 |_,_,_+1,.nil=> .nil
 |_,_,n+1,.cons r t=> .cons r (Vals.take n t)
def Vals.drop: ∀{xs:List V} {us:List Value} (n:Nat),Vals xs us->Vals (xs.drop n) (us.drop n)
 |_,_,0,r=>r
 |_,_,_+1,.nil=> .nil
 |_,_,n+1,.cons _ t=>Vals.drop n t
def iQ:Option V->Option Value->Prop
 |some v,some u=>RelV v u
 |none,none=>True
 |_,_=>False
def KV {κ:Type}:List (κ×V)->List (κ×Value)->Prop:=Paired fun (p:κ×V) (q:κ×Value)=>p.1=q.1/\RelV p.2 q.2
noncomputable def kV:Key->V
 | .inl i=> .int i
 | .inr x=> .str x
inductive HO where

 |lst (xs:List V)

 |tup (xs:List V)

 |dK (kvs:List (Key×V))|dT (kvs:List (List Key×V))

 |set (S:Int->Bool) (n:Nat)

 |ins (C dx:Addr) (fs:List (Str×V))

 |own (x:Addr)

 |xd (fs:List (Str×V))

 |met (f x:Addr)

 |rng (lo hi:Int)

 |frz (o:Obj) (u:HO)

 |tbl (ps:Array Value)

 |ext (φ:Heap->Prop)
noncomputable abbrev Hp:=Addr->Option HO
noncomputable def upd (H:Hp) (a:Addr) (o:HO):Hp:=fun b=>if b=a then some o else H b
def ax {H:Hp} {a:Addr} {o:HO}:upd H a o a=some o:=by unfold upd;rw [if_pos rfl]
def af {H:Hp} {a b:Addr} {o:HO} (h:b≠a):upd H a o b=H b:=by unfold upd;rw [if_neg h]
def yz {H:Hp} {a:Addr} {o u:HO}:upd (upd H a o) a u=upd H a u:=by
 funext b;unfold upd;split<;>rfl
def aF {H:Hp} {a b:Addr} {o u:HO} (h:H a=some o) (h':H b=some u) (d:o≠u):a≠b:=by
 intro e;subst e;rw [h] at h';exact d (Option.some.inj h')
def av {H:Hp} {a b:Addr} {o:HO} (h:H a=some o) (h':H b=none):a≠b:=by
 intro e;subst e;rw [h] at h';cases h'
section
variable (P:Program) (w:World)
def bK (H:Hp) (h:Heap) (a:Addr):HO->Prop
 | .lst xs=>xs.length<=sizeLine/\∃(its:List Value) (n:Nat),Vals xs its/\h.get? a=some {cls:= .type "list",data:= .seq its.toArray n}
 | .tup xs=>xs.length<=sizeLine/\∃its:List Value,Vals xs its/\IsTup h a its.toArray
 | .dK kvs=>kvs.length<=sizeLine/\(a == sysModules)=false/\∃vs,KV kvs vs/\h.DictOf (bQ P w) a vs
 |
   .dT kvs=>kvs.length<=sizeLine/\(a == sysModules)=false/\∃xs:List (List Key×Addr×Value),
   Paired (fun (p:List Key×V) (q:List Key×Addr×Value)=>p.1=q.1/\H q.2.1=some (.tup (p.1.map kV))/\RelV p.2 q.2.2) kvs xs/\
   ∃o es ep,h.get? a=some o/\o.ExactDict/\o.data = .dict es ep/\es.toList=xs.map (entryOfKey (tupleKind (bQ P w)))/\(xs.map (·.1)).Nodup
 | .set S n=>h.SetOf (intKind P w) a S n
 |
   .ins C dx fs=>H dx=some (.own a)/\fs.length<=1000/\dx≠a/\h.get? a=some (W.instObj C dx)/\
   ∃mA,h.Ns1 dx mA/\(∀f,iQ (fs.lookup f) (mA f))/\PySem.Within mA (fs.map (·.1))
 | .own _=> ∃o,h.get? a=some o
 | .xd fs=> ∃mA,h.Ns1 a mA/\∀f,iQ (fs.lookup f) (mA f)
 | .rng lo hi=> ∃t u v,h.get? a=some {cls:= .type "range",data:= .fields #[.int lo t,.int hi u,.int 1 v]}
 | .frz o u=>h.get? a=some o/\bK H h a u
 | .tbl ps=>h.get? a=some {cls:= .none,data:= .fields ps}
 | .met f x=>h.get? a=some (W.methodObj (.ref f) (.ref x))
 | .ext φ=>φ h/\(∃o,h.get? a=some o)/\∀h1 h2:Heap,φ h1->(∀o,h1.get? a=some o->h2.get? a=some o)->φ h2
def kI (H:Hp) (h:Heap):Prop:= ∀a o,H a=some o->bK P w H h a o
end
section
variable {P:Program} {w:World} {H H':Hp} {h h':Heap} {a:Addr} {o:HO}
def bK.lt (x:bK P w H h a o):a<h.objs.size:=by
 cases o with
 |lst xs=>obtain ⟨_,_,_,_,e⟩:=x;exact Heap.lt_size e
 |tup xs=>obtain ⟨_,_,_,p⟩:=x;exact p.lt
 |dK kvs=>obtain ⟨_,_,_,_,o,_,_,e,_⟩:=x;exact Heap.lt_size e
 |dT kvs=>obtain ⟨_,_,_,_,o,_,_,e,_⟩:=x;exact Heap.lt_size e
 |set S n=>obtain ⟨o,_,_,_,e,_⟩:=x;exact Heap.lt_size e
 |ins C dx fs=>obtain ⟨_,_,_,e,_⟩:=x;exact Heap.lt_size e
 |own y=>obtain ⟨_,e⟩:=x;exact Heap.lt_size e
 |xd fs=>obtain ⟨_,⟨_,_,_,e,_⟩,_⟩:=x;exact Heap.lt_size e
 |rng lo hi=>obtain ⟨_,_,_,e⟩:=x;exact Heap.lt_size e
 |frz ob u=>obtain ⟨e,_⟩:=x;exact Heap.lt_size e
 |tbl ps=>exact Heap.lt_size (show h.get? a=some _ from x)
 |met f y=>exact Heap.lt_size (show h.get? a=some _ from x)
 |ext φ=>obtain ⟨_,⟨_,e⟩,_⟩:=x;exact Heap.lt_size e
def Paired.Br {α β:Type} {F G:α->β->Prop}: ∀{l₁:List α} {l₂:List β},Paired F l₁ l₂->(∀a b,F a b->G a b)->Paired G l₁ l₂
 |_,_,.nil,_=> .nil
 |_,_,.cons r t,f=> .cons (f _ _ r) (Paired.Br t f)
def bK.stay (x:bK P w H h a o) (k: ∀b u,(b=a\/H b=some (.own a))->h.get? b=some u->h'.get? b=some u)
  (ho: ∀b,H b=some (.own a)->H' b=some (.own a)) (ht: ∀b xs,H b=some (.tup xs)->H' b=some (.tup xs)):bK P w H' h' a o:=by
 induction o with
 |lst xs=>obtain ⟨z,its,n,r,e⟩:=x;exact ⟨z,its,n,r,k _ _ (.inl rfl) e⟩
 |tup xs=>obtain ⟨z,its,r,ob,e,c⟩:=x;exact ⟨z,its,r,ob,k _ _ (.inl rfl) e,c⟩
 |dK kvs=>obtain ⟨z,y,vs,r,ob,es,ep,e,c⟩:=x;exact ⟨z,y,vs,r,ob,es,ep,k _ _ (.inl rfl) e,c⟩
 |dT kvs=>
  obtain ⟨z,y,xs,r,ob,es,ep,e,c⟩:=x;exact ⟨z,y,xs,Paired.Br r fun p q z=>⟨z.1,ht _ _ z.2.1,z.2.2⟩,ob,es,ep,k _ _ (.inl rfl) e,c⟩
 |set S n=>obtain ⟨ob,es,ep,t,e,c⟩:=x;exact ⟨ob,es,ep,t,k _ _ (.inl rfl) e,c⟩
 |ins C dx fs=>
  obtain ⟨d,z,ne,e,mA,⟨od,es,ep,e2,c⟩,r⟩:=x;exact ⟨ho _ d,z,ne,k _ _ (.inl rfl) e,mA,⟨od,es,ep,k _ _ (.inr d) e2,c⟩,r⟩
 |own y=>obtain ⟨ob,e⟩:=x;exact ⟨ob,k _ _ (.inl rfl) e⟩
 |xd fs=>obtain ⟨mA,⟨od,es,ep,e,c⟩,r⟩:=x;exact ⟨mA,⟨od,es,ep,k _ _ (.inl rfl) e,c⟩,r⟩
 |rng lo hi=>obtain ⟨t,u,v,e⟩:=x;exact ⟨t,u,v,k _ _ (.inl rfl) e⟩
 |frz ob u ih=>obtain ⟨e,q⟩:=x;exact ⟨k _ _ (.inl rfl) e,ih q⟩
 |tbl ps=>
  have e:h.get? a=some {cls:= .none,data:= .fields ps}:=x;show h'.get? a=some {cls:= .none,data:= .fields ps};exact k a _ (.inl rfl) e
 |met f y=>
  have e:h.get? a=some (W.methodObj (.ref f) (.ref y)):=x;show h'.get? a=some (W.methodObj (.ref f) (.ref y));exact k a _ (.inl rfl) e
 |ext φ=>obtain ⟨p,⟨o,e⟩,st⟩:=x;exact ⟨st _ _ p fun o q=>k _ _ (.inl rfl) q,⟨o,k _ _ (.inl rfl) e⟩,st⟩
def kI.lt (x:kI P w H h) (e:H a=some o):a<h.objs.size:=(x a o e).lt
def kI.fresh (x:kI P w H h) (e:h.objs.size<=a):H a=none:=by
 cases q:H a with
 |none=>rfl
 |some u=>exact absurd (Nat.lt_of_lt_of_le (x.lt q) e) (Nat.lt_irrefl _)
def kI.kept (x:kI P w H h) (k: ∀b u,h.get? b=some u->h'.get? b=some u):kI P w H h':=fun a o e=>
 (x a o e).stay (fun b u _ q=>k b u q) (fun _ q=>q) fun _ _ q=>q
def kI.laid (x:kI P w H h) (k: ∀b u,h.get? b=some u->h'.get? b=some u) (hp:h.objs.size<=a) (new:bK P w (upd H a o) h' a o):kI P w (upd H a o) h':=fun b u e=>by
 have hn:=x.fresh hp;by_cases hb:b=a
 ·subst hb;rw [ax] at e;cases e;exact new
 ·
  rw [af hb] at e;exact (x b u e).stay (fun c v _ q=>k c v q) (fun c q=>by rw [af (av q hn)];exact q) fun c xs q=>by rw [af (av q hn)];exact q
end
def Rd (H:Hp) (a:Addr) (u:HO):Prop:=H a=some u\/∃o,H a=some (.frz o u)
def Rd.ok {P:Program} {w:World} {H:Hp} {h:Heap} {a:Addr} {u:HO} (r:Rd H a u) (x:kI P w H h):bK P w H h a u:=by
 rcases r with r|⟨o,r⟩
 ·exact x a u r
 ·
  obtain ⟨_,q⟩:=x a _ r;exact q
def Gj:Option HO->Prop
 |some (.lst _)=>True
 |some (.dK _)=>True
 |some (.dT _)=>True
 |some (.set _ _)=>True
 |some (.ins _ _ _)=>True
 |some (.ext _)=>True
 |_=>False
section
variable {P:Program} {w:World} {H:Hp} {h h':Heap} {x e:Addr} {o':HO}
def kI.write (ok:kI P w H h) (mu:Gj (H x)) (he:e=x\/H e=some (.own x)) (k: ∀b u,b≠e->h.get? b=some u->h'.get? b=some u) (heo: ∃u,h'.get? e=some u)
  (new:bK P w (upd H x o') h' x o'):kI P w (upd H x o') h':=fun b u q=>by
 have nown: ∀c y,H c=some (.own y)->c≠x:=fun c y r z=>by subst z;rw [r] at mu;exact mu
 have ntup: ∀c xs,H c=some (.tup xs)->c≠x:=fun c xs r z=>by subst z;rw [r] at mu;exact mu
 by_cases hb:b=x
 ·subst hb;rw [ax] at q;cases q;exact new
 ·
  rw [af hb] at q;by_cases hbe:b=e
  ·have q':H b=some (.own x):=by
    rcases he with z|z
    ·exact absurd (hbe.trans z) hb
    ·rw [hbe];exact z
   rw [q] at q';cases q';obtain ⟨v,hv⟩:=heo;exact ⟨v,by rw [hbe];exact hv⟩
  ·
   refine (ok b u q).stay (fun c v hc r=>k c v ?_ r) (fun c r=>by rw [af (nown c b r)];exact r) fun c xs r=>by rw [af (ntup c xs r)];exact r
   rcases hc with rfl|hc
   ·exact hbe
   ·
    rintro rfl;rcases he with z|z
    ·exact nown c b hc z
    ·rw [hc] at z;cases z;exact hb rfl
end
structure Un (fs ex:List Addr) (H H':Hp) (h h':Heap):Prop where
 keep: ∀b o,h.get? b=some o->H b=none->b ∉ fs->b ∉ ex->h'.get? b=some o
 slot: ∀b o,h.get? b=some o->H b=none->b∈fs->b ∉ ex->∃sl,h'.get? b=some {o with slots:=sl}
 free: ∀b o,h.get? b=some o->H b=none->b ∉ ex->H' b=none
 there: ∀b o,h.get? b=some o->b ∉ ex->∃o',h'.get? b=some o'
 tups: ∀b xs,H b=some (.tup xs)->H' b=some (.tup xs)
 frzs: ∀b o u,H b=some (.frz o u)->H' b=some (.frz o u)
 tbls: ∀b ps,H b=some (.tbl ps)->∃more,H' b=some (.tbl (ps++more))
section
variable {fs fs' ex ex':List Addr} {H H1 H2:Hp} {h h1 h2 h':Heap} {a x e:Addr} {o:HO}
def Un.any (u:Un fs ex H H1 h h1) {b:Addr} {ob:Obj} (q:h.get? b=some ob) (n:H b=none) (hx:b ∉ ex): ∃sl,h1.get? b=some {ob with slots:=sl}:=by
 by_cases hb:b∈fs
 ·exact u.slot b ob q n hb hx
 ·exact ⟨ob.slots,u.keep b ob q n hb hx⟩
def Un.kept (k: ∀b u,h.get? b=some u->h'.get? b=some u):Un fs ex H H h h':=
 ⟨fun b ob q _ _ _=>k b ob q,fun b ob q _ _ _=>⟨ob.slots,k b ob q⟩,fun _ _ _ n _=>n,fun b ob q _=>⟨ob,k b ob q⟩,fun _ _ q=>q,fun _ _ _ q=>q,fun _ ps q=>⟨#[],by rw [q];simp⟩⟩
def Un.refl:Un fs ex H H h h:=Un.kept fun _ _ q=>q
def Un.laid (k: ∀b u,h.get? b=some u->h'.get? b=some u) (hp:h.objs.size<=a) (hn:H a=none):Un fs ex H (upd H a o) h h' where
 keep:=fun b u q _ _ _=>k b u q
 slot:=fun b u q _ _ _=>⟨u.slots,k b u q⟩
 free:=fun b u q n _=>by rw [af (Nat.ne_of_lt (Nat.lt_of_lt_of_le (Heap.lt_size q) hp))];exact n
 there:=fun b u q _=>⟨u,k b u q⟩
 tups:=fun b xs q=>by rw [af (av q hn)];exact q
 frzs:=fun b u xs q=>by rw [af (av q hn)];exact q
 tbls:=fun b ps q=>⟨#[],by rw [af (av q hn),q];simp⟩
def Un.write (mu:Gj (H x)) (he:e=x\/H e=some (.own x)) (k: ∀b u,b≠e->h.get? b=some u->h'.get? b=some u) (heo: ∃u,h'.get? e=some u):Un fs ex H (upd H x o) h h':=by
 have hx: ∀b,H b=none->b≠x:=fun b n z=>by subst z;rw [n] at mu;exact mu
 have hb: ∀b,H b=none->b≠e:=fun b n z=>by
  subst z;rcases he with r|r
  ·exact hx b n r
  ·rw [n] at r;cases r
 have hm: ∀b u,H b=some u->¬Gj (some u)->b≠x:=fun b u q nm z=>by subst z;rw [q] at mu;exact nm mu
 refine ⟨fun b u q n _ _=>k b u (hb b n) q,fun b u q n _ _=>⟨u.slots,k b u (hb b n) q⟩,fun b u q n _=>by rw [af (hx b n)];exact n,fun b u q _=>?_,
  fun b xs q=>by rw [af (hm b _ q fun z=>z)];exact q,fun b u xs q=>by rw [af (hm b _ q fun z=>z)];exact q,fun b ps q=>⟨#[],by rw [af (hm b _ q fun z=>z),q];simp⟩⟩
 by_cases hbe:b=e
 ·subst hbe;exact heo
 ·exact ⟨u,k b u hbe q⟩
end
noncomputable def trk (h:Heap) (H:Hp):List Addr:=(List.range h.objs.size).filter fun a=>(H a).isSome
noncomputable def qC (h:Heap) (H:Hp):Heap:=W.hideAll h (trk h H)
def vn (h:Heap) (H:Hp):(qC h H).objs.size=h.objs.size:=W.hideAll_size _ _
def xM {h:Heap} {H:Hp} {b:Addr} {o:Obj} (e:h.get? b=some o) (n:H b=none):(qC h H).get? b=some o:=
 W.hideAll_get _ e fun hm=>by
  have q:(H b).isSome=true:=(List.mem_filter.mp hm).2;rw [n] at q;simp at q
def zw {h:Heap} {H:Hp} {b:Addr} {o:Obj} (e:(qC h H).get? b=some o):h.get? b=some o/\H b=none:=by
 have e':h.get? b=some o:=W.of_hideAll (trk h H) e;refine ⟨e',?_⟩;cases q:H b with
 |none=>rfl
 |some x=>
  have hm:b∈trk h H:=List.mem_filter.mpr ⟨List.mem_range.mpr (Heap.lt_size e'),by simp [q]⟩;have z:(qC h H).get? b=none:=W.hideAll_none (trk h H) hm;rw [z] at e;cases e
structure Mod (K:W.Frag) (mg:Str->Option Value) (base:Heap):Prop where
 kin:K.In base
 glob:base.Ns mainGlobals mg
 blt: ∃mb,base.Ns builtinsNs mb/\∀x:Str,x≠ "__name__" ->mb x=bootBuiltins x
 nolimit:base.NoLimit
structure Cx where
 prog:Program
 w:World
 K:W.Frag
 mg:Str->Option Value
 base:Heap
 A:Around
 N:List Str
 s₀:Shared
 H₀:Hp
 env:Env
 outer:List Env
 stack:List Env
 ex:List Addr
 fn:Str->Bool
 calm:Bool
 pn:List (Addr×Obj)
 xe:Value->Shared->Prop
noncomputable def frs (l:List Env):List Addr:=l.filterMap (·.frame)
noncomputable abbrev Cx.fs (X:Cx):List Addr:=frs X.outer
def Gz (sc:Scope) (x:Str):Prop:=sc.names.lookup x=some .local\/sc.names.lookup x=some .cell\/sc.names.lookup x=some .free
def Loc (sc:Scope) (x:Str):Prop:=sc.names.lookup x=some .local\/sc.names.lookup x=some .cell
def Look (env:Env) (h:Heap) (m:Str->Option Value) (x:Str) (u:Value):Prop:=
 (env.kindOf x=some .local/\m x=some u)\/((env.kindOf x=some .cell\/env.kindOf x=some .free)/\∃c,env.cells.lookup x=some c/\h.IsCell c (some u))
structure Cx.Ok (X:Cx):Prop where
 mod:Mod X.K X.mg X.base
 kind:X.env.scope.kind = .function
 glob:X.env.globals=mainGlobals
 blt:X.env.builtins=builtinsNs
 above:X.s₀.heap.objs.size<=X.env.locals
 inj: ∀x y c,X.env.cells.lookup x=some c->X.env.cells.lookup y=some c->x=y
 has: ∀x,(X.env.kindOf x=some .cell\/X.env.kindOf x=some .free)->∃c,X.env.cells.lookup x=some c
 cab: ∀x c,X.fn x=true->X.env.cells.lookup x=some c->X.s₀.heap.objs.size<=c
 hd:X.calm=true->X.A.handled=none
 frames:X.A.frames=some X.stack
 stk:X.stack=X.outer\/(X.stack=X.env::X.outer/\X.env.frame=some X.env.locals)
 exf: ∀b∈X.ex,b≠X.env.locals/\∀x c,X.env.cells.lookup x=some c->c≠b
 bs: ∀b o,X.base.get? b=some o->X.s₀.heap.get? b=some o/\X.H₀ b=none
 bsz:X.base.objs.size<=X.s₀.heap.objs.size
 noex: ∀b o,X.base.get? b=some o->b ∉ X.ex
 exfs: ∀b∈X.ex,b ∉ X.fs
 funs:X.s₀.heap.FunFrames X.base X.outer
 frf: ∀b∈X.fs,X.H₀ b=none
structure Inv (X:Cx) (pins:List (Addr×Obj)) (σ:List (Option V)) (H:Hp) (s:Shared):Prop where
 ok:X.Ok
 os:s.os=X.s₀.os
 bare:AllBare s.gens
 base:Un X.fs X.ex X.H₀ H X.s₀.heap s.heap
 loc: ∃m,s.heap.Ns X.env.locals m/\∀(i:Nat) (x:Str) (v:V),X.N[i]?=some x->σ[i]?=some (some v)->Gz X.env.scope x->∃u,RelV v u/\Look X.env s.heap m x u
 cell: ∀x c,X.env.cells.lookup x=some c->∃v,s.heap.IsCell c v
 free:H X.env.locals=none
 j2: ∀x c,X.env.cells.lookup x=some c->H c=none
 pin: ∀p∈X.pn++pins,s.heap.get? p.1=some p.2/\H p.1=none/\p.1≠X.env.locals/\p.1 ∉ X.fs/\∀v,p.2.data≠ .cell v
 hok:kI X.prog X.w H s.heap
 len:σ.length=X.N.length
section
variable {X:Cx} {pins:List (Addr×Obj)} {σ:List (Option V)} {H H':Hp} {s:Shared} {h':Heap}
def Cx.Ok.nofr (ok:X.Ok) {b:Addr} {o:Obj} (e:X.base.get? b=some o):b ∉ X.fs:=fun hb=>by
 have:=(ok.funs.mem hb).1;rw [e] at this;cases this
def Inv.bs (I:Inv X pins σ H s): ∀b o,X.base.get? b=some o->s.heap.get? b=some o/\H b=none:=fun b o e=>
 ⟨I.base.keep b o (I.ok.bs b o e).1 (I.ok.bs b o e).2 (I.ok.nofr e) (I.ok.noex b o e),I.base.free b o (I.ok.bs b o e).1 (I.ok.bs b o e).2 (I.ok.noex b o e)⟩
def Inv.bk (I:Inv X pins σ H s): ∀b o,X.base.get? b=some o->s.heap.get? b=some o:=fun b o e=>(I.bs b o e).1
def Inv.mod (I:Inv X pins σ H s):Mod X.K X.mg X.base:=I.ok.mod
def Inv.mF (I:Inv X pins σ H s):X.K.In s.heap:=I.ok.mod.kin.keeps I.bk
def Inv.lt (I:Inv X pins σ H s):X.env.locals<s.heap.objs.size:=let ⟨_,hn,_⟩:=I.loc;hn.lt
def Inv.sz (I:Inv X pins σ H s):X.s₀.heap.objs.size<=s.heap.objs.size:=Nat.le_trans I.ok.above (Nat.le_of_lt I.lt)
def Inv.nofs (I:Inv X pins σ H s) {a:Addr} (h:s.heap.objs.size<=a):a ∉ X.fs:=fun hb=>by
 obtain ⟨_,o,ho,_⟩:=I.ok.funs.mem hb;exact absurd (Nat.lt_of_lt_of_le (Heap.lt_size ho) (Nat.le_trans I.sz h)) (Nat.lt_irrefl _)
def Inv.cne (I:Inv X pins σ H s): ∀x c,X.env.cells.lookup x=some c->c≠X.env.locals:=fun x c e z=>by
 obtain ⟨v,o,ho,hd⟩:=I.cell x c e;obtain ⟨m,⟨o',es,ep,ho',hd',_⟩,_⟩:=I.loc;rw [z,ho'] at ho;cases ho;rw [hd'] at hd;cases hd
def Inv.funs (I:Inv X pins σ H s):s.heap.FunFrames X.base X.outer:=by
 have all: ∀(l:List Env),(∀b∈frs l,b∈X.fs)->X.s₀.heap.FunFrames X.base l->s.heap.FunFrames X.base l:=by
  intro l
  induction l with
  |nil=>intro _ _;trivial
  |cons env r ih=>
   intro hs hl;obtain ⟨hk,⟨L,o,hf,hn,ho,hd⟩,hr⟩:=hl;have hL:L∈X.fs:=hs L (by unfold frs;rw [List.filterMap_cons,hf];exact List.mem_cons_self);obtain ⟨sl,e⟩:=I.base.slot L o ho (I.ok.frf L hL) hL fun z=>I.ok.exfs L z hL;exact ⟨hk,⟨L,_,hf,hn,e,hd⟩,ih (fun b hb=>hs b (by unfold frs;rw [List.filterMap_cons,hf];exact List.mem_cons_of_mem _ hb)) hr⟩
 exact all X.outer (fun _ hb=>hb) I.ok.funs
def Inv.stack (I:Inv X pins σ H s):s.heap.FunFrames X.base X.stack:=by
 rcases I.ok.stk with e|⟨e,hf⟩
 ·rw [e];exact I.funs
 ·
  rw [e];obtain ⟨m,hn,_⟩:=I.loc;refine .cons (by rw [I.ok.kind];decide) hf hn ?_ I.funs;exact Heap.get?_none_of_le (Nat.le_trans I.ok.bsz I.ok.above)
def Inv.nA (I:Inv X pins σ H s): ∀b∈frs X.stack,b∈X.env.locals::X.fs:=fun b hb=>by
 rcases I.ok.stk with e|⟨e,hf⟩
 ·rw [e] at hb;exact List.mem_cons_of_mem _ hb
 ·
  rw [e] at hb;unfold frs at hb;rw [List.filterMap_cons,hf] at hb;exact hb
def Inv.sU (I:Inv X pins σ H s): ∀b∈frs X.stack,H b=none:=fun b hb=>by
 rcases List.mem_cons.mp (I.nA b hb) with e|hb
 ·rw [e];exact I.free
 ·
  obtain ⟨_,o,ho,_⟩:=I.ok.funs.mem hb;exact I.base.free b o ho (I.ok.frf b hb) fun z=>I.ok.exfs b z hb
def Inv.step {g':Array GenState} {t':Nat} {d':Drawn} {ch:List Addr} (I:Inv X pins σ H s)
  (hch: ∀b∈ch,(b∈X.ex\/X.s₀.heap.objs.size<=b)/\b≠X.env.locals/\(∀x c,X.env.cells.lookup x=some c->c≠b)/\∀p∈X.pn++pins,p.1≠b)
  (keep: ∀b o,b≠X.env.locals->b ∉ X.fs->b ∉ ch->s.heap.get? b=some o->H b=none->h'.get? b=some o)
  (slot: ∀b o,b≠X.env.locals->b∈X.fs->b ∉ ch->s.heap.get? b=some o->H b=none->∃sl,h'.get? b=some {o with slots:=sl}) (free: ∀b o,b ∉ ch->s.heap.get? b=some o->H b=none->H' b=none)
  (there: ∀b o,b ∉ ch->s.heap.get? b=some o->∃o',h'.get? b=some o')
  (tups: ∀b xs,H b=some (.tup xs)->H' b=some (.tup xs)) (frzs: ∀b o u,H b=some (.frz o u)->H' b=some (.frz o u)) (tbls: ∀b ps,H b=some (.tbl ps)->∃more,H' b=some (.tbl (ps++more)))
  (ns: ∀m,s.heap.Ns X.env.locals m->h'.Ns X.env.locals m) (hok:kI X.prog X.w H' h') (hg:AllBare g'):
  Inv X pins σ H' {s with heap:=h',gens:=g',drawn:=d',toks:=t'}:=by
 have neL: ∀b o,X.s₀.heap.get? b=some o->b≠X.env.locals:=fun b o e=>Nat.ne_of_lt (Nat.lt_of_lt_of_le (Heap.lt_size e) I.ok.above);have neC: ∀b o,X.s₀.heap.get? b=some o->b ∉ X.ex->b ∉ ch:=fun b o e hx hb=>by
  rcases (hch b hb).1 with z|z
  ·exact hx z
  ·exact absurd (Nat.lt_of_lt_of_le (Heap.lt_size e) z) (Nat.lt_irrefl _)
 have cellK: ∀x c,X.env.cells.lookup x=some c->∀v,s.heap.IsCell c v->h'.IsCell c v:=fun x c e v ⟨o,ho,hd⟩=>by
  have nch:c ∉ ch:=fun z=>(hch c z).2.2.1 x c e rfl;by_cases hc:c∈X.fs
  ·
   obtain ⟨sl,q⟩:=slot c o (I.cne x c e) hc nch ho (I.j2 x c e);exact ⟨_,q,hd⟩
  ·exact ⟨o,keep c o (I.cne x c e) hc nch ho (I.j2 x c e),hd⟩
 refine ⟨I.ok,I.os,hg,⟨fun b o e n hb hx=>?_,fun b o e n hb hx=>?_,fun b o e n hx=>?_,fun b o e hx=>?_,fun b xs e=>tups b xs (I.base.tups b xs e),fun b o xs e=>frzs b o xs (I.base.frzs b o xs e),fun b ps e=>?_⟩,?_,fun x c e=>?_,?_,fun x c e=>?_,fun p hp=>?_,hok,I.len⟩
 ·exact keep b o (neL b o e) hb (neC b o e hx) (I.base.keep b o e n hb hx) (I.base.free b o e n hx)
 ·
  obtain ⟨sl,e1⟩:=I.base.slot b o e n hb hx;obtain ⟨sl',e2⟩:=slot b _ (neL b o e) hb (neC b o e hx) e1 (I.base.free b o e n hx);exact ⟨sl',e2⟩
 ·
  obtain ⟨o',e1⟩:=I.base.there b o e hx;exact free b o' (neC b o e hx) e1 (I.base.free b o e n hx)
 ·
  obtain ⟨o',e1⟩:=I.base.there b o e hx;exact there b o' (neC b o e hx) e1
 ·
  obtain ⟨m1,e1⟩:=I.base.tbls b ps e;obtain ⟨m2,e2⟩:=tbls b _ e1;exact ⟨m1++m2,by rw [e2,Array.append_assoc]⟩
 ·
  obtain ⟨m,hn,hl⟩:=I.loc;refine ⟨m,ns m hn,fun i x v e1 e2 e3=>?_⟩;obtain ⟨u,r,l⟩:=hl i x v e1 e2 e3;refine ⟨u,r,?_⟩;rcases l with l|⟨k,c,e,z⟩
  ·exact .inl l
  ·exact .inr ⟨k,c,e,cellK x c e _ z⟩
 ·
  obtain ⟨v,z⟩:=I.cell x c e;exact ⟨v,cellK x c e v z⟩
 ·
  obtain ⟨m,⟨o,_,_,ho,_⟩,_⟩:=I.loc;exact free _ o (fun z=>(hch _ z).2.1 rfl) ho I.free
 ·
  obtain ⟨v,o,ho,hd⟩:=I.cell x c e;exact free c o (fun z=>(hch c z).2.2.1 x c e rfl) ho (I.j2 x c e)
 ·
  obtain ⟨e,n,ne,nf,d⟩:=I.pin p hp;have nch:p.1 ∉ ch:=fun z=>(hch p.1 z).2.2.2 p hp rfl;exact ⟨keep p.1 p.2 ne nf nch e n,free p.1 p.2 nch e n,ne,nf,d⟩
def Inv.un {t':Nat} (I:Inv X pins σ H s) (u:Un X.fs [] H H' s.heap h') (hok:kI X.prog X.w H' h'):Inv X pins σ H' {s with heap:=h',toks:=t'}:=by
 obtain ⟨m,⟨o,es,ep,ho,r⟩,_⟩:=id I.loc;obtain ⟨sl,hL⟩:=u.any ho I.free (by simp);exact I.step (g':=s.gens) (d':=s.drawn) (ch:=[]) (fun _ z=>nomatch z) (fun b o _ hb _ e n=>u.keep b o e n hb (by simp)) (fun b o _ hb _ e n=>u.slot b o e n hb (by simp)) (fun b o _ e n=>u.free b o e n (by simp)) (fun b o _ e=>u.there b o e (by simp)) u.tups u.frzs u.tbls (fun m' hm=>by
  obtain ⟨o',es',ep',ho',r'⟩:=hm;rw [ho] at ho';cases ho';exact ⟨_,es',ep',hL,r'⟩) hok I.bare
def Inv.call {g':Array GenState} {t':Nat} {d':Drawn} {ch:List Addr} (I:Inv X pins σ H s) (u:Un (frs X.stack) ch H H' s.heap h') (hok:kI X.prog X.w H' h') (hg:AllBare g')
  (hch: ∀b∈ch,(b∈X.ex\/X.s₀.heap.objs.size<=b)/\b≠X.env.locals/\(∀x c,X.env.cells.lookup x=some c->c≠b)/\∀p∈X.pn++pins,p.1≠b):
  Inv X pins σ H' {s with heap:=h',gens:=g',drawn:=d',toks:=t'}:=by
 obtain ⟨m,⟨o,es,ep,ho,r⟩,_⟩:=id I.loc;obtain ⟨sl,hL⟩:=u.any ho I.free fun z=>(hch _ z).2.1 rfl;exact I.step (ch:=ch) hch (fun b o hL hb hc e n=>u.keep b o e n (fun z=>(List.mem_cons.mp (I.nA b z)).elim hL hb) hc) (fun b o _ _ hc e n=>u.any e n hc) (fun b o hc e n=>u.free b o e n hc) (fun b o hc e=>u.there b o e hc) u.tups u.frzs u.tbls (fun m' hm=>by
  obtain ⟨o',es',ep',ho',r'⟩:=hm;rw [ho] at ho';cases ho';exact ⟨_,es',ep',hL,r'⟩) hok hg
def Inv.turned {t':Nat} {it:Addr} (I:Inv X pins σ H s) (k: ∀b o,b≠it->s.heap.get? b=some o->h'.get? b=some o) (hn:H it=none) (hL:it≠X.env.locals)
  (h1:it∈X.ex\/X.s₀.heap.objs.size<=it) (h2: ∀x c,X.env.cells.lookup x=some c->c≠it) (h3: ∀p∈X.pn++pins,p.1≠it):Inv X pins σ H {s with heap:=h',toks:=t'}:=by
 have nit: ∀b u,H b=some u->b≠it:=fun b u e z=>by rw [z,hn] at e;cases e
 refine I.step (g':=s.gens) (d':=s.drawn) (ch:=[it]) (fun b hb=>?_) (fun b o _ _ hc e _=>k b o (fun z=>hc (by simp [z])) e) (fun b o _ _ hc e _=>⟨o.slots,k b o (fun z=>hc (by simp [z])) e⟩) (fun _ _ _ _ n=>n)
  (fun b o hc e=>⟨o,k b o (fun z=>hc (by simp [z])) e⟩) (fun _ _ e=>e) (fun _ _ _ e=>e) (fun b ps e=>⟨#[],by rw [e];simp⟩) (fun m hm=>?_) (fun b u e=>?_) I.bare
 ·
  have e:b=it:=by simpa using hb
  subst e;exact ⟨h1,hL,h2,h3⟩
 ·
  obtain ⟨o,es,ep,ho,r⟩:=hm;exact ⟨o,es,ep,k _ o (Ne.symm hL) ho,r⟩
 ·
  refine (I.hok b u e).stay (fun c v hc q=>k c v ?_ q) (fun _ q=>q) fun _ _ q=>q;rcases hc with z|z
  ·rw [z];exact nit b u e
  ·exact nit c _ z
def Inv.tok (I:Inv X pins σ H s) (t:Nat):Inv X pins σ H {s with toks:=t}:=I.un (h':=s.heap) (t':=t) Un.refl I.hok
def Inv.kept {t':Nat} (I:Inv X pins σ H s) (k: ∀b u,s.heap.get? b=some u->h'.get? b=some u):Inv X pins σ H {s with heap:=h',toks:=t'}:=I.un (Un.kept k) (I.hok.kept k)
def Inv.laid {a:Addr} {o:HO} {t':Nat} (I:Inv X pins σ H s) (k: ∀b u,s.heap.get? b=some u->h'.get? b=some u) (hp:s.heap.objs.size<=a) (new:bK X.prog X.w (upd H a o) h' a o):
  Inv X pins σ (upd H a o) {s with heap:=h',toks:=t'}:=I.un (Un.laid k hp (I.hok.fresh hp)) (I.hok.laid k hp new)
def Inv.write {x e:Addr} {o:HO} {t':Nat} (I:Inv X pins σ H s) (mu:Gj (H x)) (he:e=x\/H e=some (.own x)) (k: ∀b u,b≠e->s.heap.get? b=some u->h'.get? b=some u) (heo: ∃u,h'.get? e=some u)
  (new:bK X.prog X.w (upd H x o) h' x o):Inv X pins σ (upd H x o) {s with heap:=h',toks:=t'}:=I.un (Un.write mu he k heo) (I.hok.write mu he k heo new)
def Inv.nc {pins':List (Addr×Obj)} (I:Inv X pins σ H s) (h: ∀p∈pins',s.heap.get? p.1=some p.2/\H p.1=none/\p.1≠X.env.locals/\p.1 ∉ X.fs/\∀v,p.2.data≠ .cell v):Inv X pins' σ H s:=
 ⟨I.ok,I.os,I.bare,I.base,I.loc,I.cell,I.free,I.j2,fun p hp=>(List.mem_append.mp hp).elim (fun z=>I.pin p (List.mem_append_left _ z)) (h p),I.hok,I.len⟩
def rg {N:List Str} (hN:N.Nodup) {i j:Nat} {x:Str} (a:N[i]?=some x) (b:N[j]?=some x):i=j:=by
 obtain ⟨h1,e1⟩:=List.getElem?_eq_some_iff.mp a;obtain ⟨h2,e2⟩:=List.getElem?_eq_some_iff.mp b;exact (List.getElem_inj hN).mp (e1.trans e2.symm)
def pH {M:Model} {A:Around} {E:Value->Shared->Prop} {i:Nat} {x:Str} {v:V} {u:Value} {Q:Unit->Shared->Prop} (I:Inv X pins σ H s) (hN:X.N.Nodup) (hi:X.N[i]?=some x) (hx:Loc X.env.scope x) (r:RelV v u)
  (h: ∀s',Inv X pins (σ.set i (some v)) H s'->(∃a,Heap.SameBut a s.heap s'.heap/\(a=X.env.locals\/X.env.cells.lookup x=some a))->Q () s') (hf:X.fn x=true\/X.env.scope.names.lookup x=some .local:=by first|exact .inl rfl|exact .inr rfl|assumption):wpAny M A (storeName X.env x u) Q E s:=by
 obtain ⟨m,hn,hl⟩:=id I.loc;have hcls:(X.env.scope.kind == .class||(X.env.scope.kind == .module&&X.env.locals != X.env.globals))=false:=by rw [I.ok.kind];rfl
 have hiσ:i<σ.length:=by rw [I.len];exact (List.getElem?_eq_some_iff.mp hi).1
 have cne:=I.cne;have tracked: ∀{a:Addr} {h':Heap},(∃o,s.heap.get? a=some o/\H a=none)->Heap.SameBut a s.heap h'->kI X.prog X.w H h':=fun {a h'} ha hs b ob e=>by
  obtain ⟨_,_,hfree⟩:=ha;refine (I.hok b ob e).stay (fun c w' hc q=>(hs.2 c ?_).trans q) (fun _ q=>q) fun _ _ q=>q;rintro rfl;rcases hc with rfl|hc
  ·rw [hfree] at e;cases e
  ·rw [hfree] at hc;cases hc
 rcases hx with hk|hk
 ·
  refine wpAny_storeName_local hk hn (fun h' hn' hs=>?_) hcls;obtain ⟨oL,_,_,hoL,_⟩:=id hn;refine h _ ⟨I.ok,I.os,I.bare,⟨fun b o e n hb hx=>?_,fun b o e n hb hx=>?_,I.base.free,fun b o e hx=>?_,I.base.tups,I.base.frzs,I.base.tbls⟩,⟨_,hn',fun j y v' e1 e2 e3=>?_⟩,fun y c e=>?_,I.free,I.j2,fun p hp=>?_,tracked ⟨oL,hoL,I.free⟩ hs,by simpa using I.len⟩ ⟨_,hs,.inl rfl⟩
  ·exact (hs.2 b (Nat.ne_of_lt (Nat.lt_of_lt_of_le (Heap.lt_size e) I.ok.above))).trans (I.base.keep b o e n hb hx)
  ·
   obtain ⟨sl,e1⟩:=I.base.slot b o e n hb hx;exact ⟨sl,(hs.2 b (Nat.ne_of_lt (Nat.lt_of_lt_of_le (Heap.lt_size e) I.ok.above))).trans e1⟩
  ·
   obtain ⟨o',e1⟩:=I.base.there b o e hx;exact ⟨o',(hs.2 b (Nat.ne_of_lt (Nat.lt_of_lt_of_le (Heap.lt_size e) I.ok.above))).trans e1⟩
  ·
   by_cases hj:j=i
   ·
    subst hj;rw [hi] at e1;cases e1;rw [List.getElem?_set_self hiσ] at e2;cases e2;exact ⟨u,r,.inl ⟨hk,by simp⟩⟩
   ·
    rw [List.getElem?_set_ne (Ne.symm hj)] at e2;obtain ⟨u',r',q⟩:=hl j y v' e1 e2 e3;refine ⟨u',r',?_⟩;rcases q with ⟨k,e⟩|⟨k,c,e,z⟩
    ·
     refine .inl ⟨k,?_⟩;have:y≠x:=fun e=>hj (rg hN e1 (e▸hi));simp [this,e]
    ·exact .inr ⟨k,c,e,z.sameBut hs (cne y c e)⟩
  ·
   obtain ⟨w',z⟩:=I.cell y c e;exact ⟨w',z.sameBut hs (cne y c e)⟩
  ·
   obtain ⟨e,n,ne,nf,d⟩:=I.pin p hp;exact ⟨(hs.2 p.1 ne).trans e,n,ne,nf,d⟩
 ·have hfn:X.fn x=true:=by
   rcases hf with z|z
   ·exact z
   ·rw [z] at hk;cases hk
  obtain ⟨c,hc⟩:=I.ok.has x (.inl hk);obtain ⟨w',z⟩:=I.cell x c hc;refine wpAny_storeName_cell I.ok.kind hk hc z (fun h' hc' hs=>?_);obtain ⟨oc,hoc,hocd⟩:=id z;refine h {s with heap:=h'} ⟨I.ok,I.os,I.bare,⟨fun b o e n hb hx=>?_,fun b o e n hb hx=>?_,I.base.free,fun b o e hx=>?_,I.base.tups,I.base.frzs,I.base.tbls⟩,⟨m,hn.sameBut hs (Ne.symm (cne x c hc)),fun j y v' e1 e2 e3=>?_⟩,fun y c' e=>?_,I.free,I.j2,fun p hp=>?_,tracked ⟨oc,hoc,I.j2 x c hc⟩ hs,by simpa using I.len⟩ ⟨c,hs,.inr hc⟩
  ·exact (hs.2 b (Nat.ne_of_lt (Nat.lt_of_lt_of_le (Heap.lt_size e) (I.ok.cab x c hfn hc)))).trans (I.base.keep b o e n hb hx)
  ·
   obtain ⟨sl,e1⟩:=I.base.slot b o e n hb hx;exact ⟨sl,(hs.2 b (Nat.ne_of_lt (Nat.lt_of_lt_of_le (Heap.lt_size e) (I.ok.cab x c hfn hc)))).trans e1⟩
  ·
   obtain ⟨o',e1⟩:=I.base.there b o e hx;exact ⟨o',(hs.2 b (Nat.ne_of_lt (Nat.lt_of_lt_of_le (Heap.lt_size e) (I.ok.cab x c hfn hc)))).trans e1⟩
  ·
   by_cases hj:j=i
   ·
    subst hj;rw [hi] at e1;cases e1;rw [List.getElem?_set_self hiσ] at e2;cases e2;exact ⟨u,r,.inr ⟨.inl hk,c,hc,hc'⟩⟩
   ·
    rw [List.getElem?_set_ne (Ne.symm hj)] at e2;obtain ⟨u',r',q⟩:=hl j y v' e1 e2 e3;refine ⟨u',r',?_⟩;rcases q with q|⟨k,c',e,z'⟩
    ·exact .inl q
    ·
     refine .inr ⟨k,c',e,z'.sameBut hs ?_⟩;rintro rfl;exact hj (rg hN e1 (I.ok.inj _ _ _ e hc▸hi))
  ·
   by_cases hcc:c'=c
   ·subst hcc;exact ⟨_,hc'⟩
   ·
    obtain ⟨w2,z2⟩:=I.cell y c' e;exact ⟨w2,z2.sameBut hs hcc⟩
  ·
   obtain ⟨e,n,ne,nf,d⟩:=I.pin p hp;refine ⟨(hs.2 p.1 ?_).trans e,n,ne,nf,d⟩;intro q;rw [q,hoc] at e;have q':oc=p.2:=Option.some.inj e;exact d w' (by rw [<-q'];exact hocd)
def qX {M:Model} {A:Around} {E:Value->Shared->Prop} {i:Nat} {x:Str} {v:V} {u:Value} {Q:Unit->Shared->Prop} (I:Inv X pins σ H s) (hN:X.N.Nodup) (hi:X.N[i]?=some x) (hx:Loc X.env.scope x) (r:RelV v u)
  (h: ∀s',Inv X pins (σ.set i (some v)) H s'->Q () s') (hf:X.fn x=true\/X.env.scope.names.lookup x=some .local:=by first|exact .inl rfl|exact .inr rfl|assumption):wpAny M A (storeName X.env x u) Q E s:=
 pH I hN hi hx r (fun s' I' _=>h s' I') hf
def Inv.call' {s':Shared} {ch:List Addr} (I:Inv X pins σ H s) (ho:s'.os=s.os) (u:Un (frs X.stack) ch H H' s.heap s'.heap) (hok:kI X.prog X.w H' s'.heap) (hg:AllBare s'.gens)
  (hch: ∀b∈ch,(b∈X.ex\/X.s₀.heap.objs.size<=b)/\b≠X.env.locals/\(∀x c,X.env.cells.lookup x=some c->c≠b)/\∀p∈X.pn++pins,p.1≠b):Inv X pins σ H' s':=by
 obtain ⟨h',g',d',t',o'⟩:=s';have e:o'=s.os:=ho;subst e;exact I.call (g':=g') (t':=t') (d':=d') u hok hg hch
end
noncomputable abbrev XK:=Value->Option Addr->Hp->Prop
noncomputable abbrev St:=List (Option V)
noncomputable abbrev VK:=V->Hp->Prop
noncomputable abbrev TE:=St->Hp->VK->Prop
noncomputable abbrev TT:=St->Hp->(Bool->Hp->Prop)->Prop
noncomputable abbrev TA:=St->Hp->(List V->Hp->Prop)->Prop
structure Ends where
 nx:St->Hp->Prop
 rt:VK
 bk:St->Hp->Prop:=fun _ _=>False
 ct:St->Hp->Prop:=fun _ _=>False
noncomputable abbrev TS:=Ends->St->Hp->Prop
def EP (X:Cx) (pins:List (Addr×Obj)) (σ:St) (Q:VK) (u:Value) (s':Shared):Prop:= ∃v H',Inv X pins σ H' s'/\RelV v u/\Q v H'
def TP (X:Cx) (pins:List (Addr×Obj)) (σ:St) (Q:Bool->Hp->Prop) (b:Bool) (s':Shared):Prop:= ∃H',Inv X pins σ H' s'/\Q b H'
def AP (X:Cx) (pins:List (Addr×Obj)) (σ:St) (Q:List V->Hp->Prop) (us:List Value) (s':Shared):Prop:= ∃vs H',Inv X pins σ H' s'/\Vals vs us/\Q vs H'
def SP (X:Cx) (pins:List (Addr×Obj)) (D:Ends) (f:Flow) (s':Shared):Prop:=
 match f with
 | .next=> ∃σ' H',Inv X pins σ' H' s'/\D.nx σ' H'
 | .brk=> ∃σ' H',Inv X pins σ' H' s'/\D.bk σ' H'
 | .cont=> ∃σ' H',Inv X pins σ' H' s'/\D.ct σ' H'
 | .ret u=> ∃v σ' H',Inv X pins σ' H' s'/\RelV v u/\D.rt v H'
def PE (X:Cx) (e:Expr) (t:TE):Prop:=
 ∀(pins:List (Addr×Obj)) (s:Shared) (σ:St) (H:Hp) (Q:VK),Inv X pins σ H s->t σ H Q->wpAny (model X.prog X.w) X.A (eval e X.env) (EP X pins σ Q) X.xe s
def PT (X:Cx) (e:Expr) (t:TT):Prop:=
 ∀(pins:List (Addr×Obj)) (s:Shared) (σ:St) (H:Hp) (Q:Bool->Hp->Prop),Inv X pins σ H s->t σ H Q->wpAny (model X.prog X.w) X.A (isTrue e X.env (eval e X.env)) (TP X pins σ Q) X.xe s
def PW (X:Cx) (e:Expr) (t:TT):Prop:=
 ∀(whole:Sem Value) (pins:List (Addr×Obj)) (s:Shared) (σ:St) (H:Hp) (Q:Bool->Hp->Prop),Inv X pins σ H s->t σ H Q->wpAny (model X.prog X.w) X.A (isTrue e X.env whole) (TP X pins σ Q) X.xe s
def PW.pt {X:Cx} {e:Expr} {t:TT} (h:PW X e t):PT X e t:=h _
def PA (X:Cx) (es:List Expr) (t:TA):Prop:=
 ∀(pos:Pos) (pins:List (Addr×Obj)) (s:Shared) (σ:St) (H:Hp) (Q:List V->Hp->Prop),Inv X pins σ H s->t σ H Q->wpAny (model X.prog X.w) X.A (spliced (backTo pos (starEach es X.env))) (AP X pins σ Q) X.xe s
def PS (X:Cx) (st:Stmt) (t:TS):Prop:=
 ∀(pins:List (Addr×Obj)) (s:Shared) (σ:St) (H:Hp) (D:Ends),Inv X pins σ H s->t D σ H->wpAny (model X.prog X.w) X.A (exec st X.env) (SP X pins D) X.xe s
def qT (X:Cx) (st:List Stmt) (t:TS):Prop:=
 ∀(pins:List (Addr×Obj)) (s:Shared) (σ:St) (H:Hp) (D:Ends),Inv X pins σ H s->t D σ H->wpAny (model X.prog X.w) X.A (execs st X.env) (SP X pins D) X.xe s
def thn {α:Type} {t:Sem α} {Q Q':α->Shared->Prop} {M:Model} {A:Around} {E:Value->Shared->Prop} {s:Shared} (h:wpAny M A t Q E s) (hQ: ∀a s,Q a s->Q' a s):wpAny M A t Q' E s:=wpAny_mono h hQ fun _ _ x=>x
section
variable {X:Cx}
def AQ (i:Nat):TE:=fun σ H Q=> ∃v,σ[i]?=some (some v)/\Q v H
def tC (v:V):TE:=fun _ H Q=>Q v H
def Bb {i:Nat} {x:Str} {pos:Pos} (hN:X.N[i]?=some x) (hv:Gz X.env.scope x) (hd:(x == ("__debug__" : Str))=false:=by decide) (hcd:(x == ("__classdict__" : Str))=false:=by decide):PE X (.Name x pos) (AQ i):=by
 intro pins s σ H Q I h;obtain ⟨v,e,h⟩:=h;obtain ⟨m,hn,hl⟩:=I.loc;obtain ⟨u,r,l⟩:=hl i x v hN e hv;have fin:EP X pins σ Q u s:=⟨v,H,I,r,h⟩;rcases l with ⟨hk,hm⟩|⟨hk,c,hc,hcell⟩
 ·exact wpAny_Name (wpAny_loadName_local I.ok.kind hk hn hm fin) hd
 ·
  rcases hk with hk|hk
  ·exact wpAny_Name (wpAny_loadName_cell I.ok.kind hk hc hcell fin) hd
  ·exact wpAny_Name (wpAny_loadName_free I.ok.kind hk hc hcell fin hcd) hd
def ar {i j pos}:PE X (.Constant (.int i) j pos) (tC (.int i)):=fun _ _ _ H _ I h=>wpAny_Constant_int ⟨.int i,H,I.tok _,⟨_,rfl⟩,h⟩
def gc {b j pos}:PE X (.Constant (.bool b) j pos) (tC (.bl b)):=fun _ _ _ H _ I h=>Constant_bool ⟨.bl b,H,I,rfl,h⟩
def bU {j pos}:PE X (.Constant .none j pos) (tC .non):=fun _ _ _ H _ I h=>Constant_none ⟨.non,H,I,rfl,h⟩
def aG {x j pos}:PE X (.Constant (.str x) j pos) (tC (.str x)):=fun _ _ _ H _ I h=>Calls.Constant_str ⟨.str x,H,I.tok _,⟨_,rfl⟩,h⟩
def Gl (X:Cx) (x:Str):Prop:=X.env.kindOf x=some .globalImplicit
def qz {E:Value->Shared->Prop} {pins:List (Addr×Obj)} {s:Shared} {σ:St} {H:Hp} {x:Str} {u:Value} {pos:Pos} {Q:Value->Shared->Prop} (I:Inv X pins σ H s) (hg:Gl X x) (hm:X.mg x=some u) (h:Q u s)
  (hd:(x == ("__debug__" : Str))=false:=by decide):wpAny (model X.prog X.w) X.A (eval (.Name x pos) X.env) Q E s:=
 Calls.Name_function_global I.ok.kind hg (Calls.loadGlobal_global (by rw [I.ok.glob];exact I.mod.glob.keeps I.bk) hm h) hd
def lN {E:Value->Shared->Prop} {pins:List (Addr×Obj)} {s:Shared} {σ:St} {H:Hp} {x:Str} {u:Value} {pos:Pos} {Q:Value->Shared->Prop} (I:Inv X pins σ H s) (hg:Gl X x) (hm:X.mg x=none) (hv:bootBuiltins x=some u) (h:Q u s)
  (hn:x≠ "__name__" :=by decide) (hd:(x == ("__debug__" : Str))=false:=by decide):wpAny (model X.prog X.w) X.A (eval (.Name x pos) X.env) Q E s:=by
 obtain ⟨mb,h1,h2⟩:=I.mod.blt;exact Calls.Name_function_global I.ok.kind hg (Calls.loadGlobal_builtin (by rw [I.ok.glob];exact I.mod.glob.keeps I.bk) hm (by rw [I.ok.blt];exact h1.keeps I.bk) ((h2 x hn).trans hv) h) hd
def zc {x:Str} {v:V} {u:Value} {pos:Pos} (hg:Gl X x) (hm:X.mg x=some u) (r:RelV v u) (hd:(x == ("__debug__" : Str))=false:=by decide):PE X (.Name x pos) (tC v):=
 fun _ _ _ H _ I h=>qz I hg hm ⟨v,H,I,r,h⟩ hd
def zk {x:Str} {v:V} {u:Value} {pos:Pos} (hg:Gl X x) (hm:X.mg x=none) (hv:bootBuiltins x=some u) (r:RelV v u) (hn:x≠ "__name__" :=by decide) (hd:(x == ("__debug__" : Str))=false:=by decide):PE X (.Name x pos) (tC v):=
 fun _ _ _ H _ I h=>lN I hg hm hv ⟨v,H,I,r,h⟩ hn hd
variable {a b:Expr} {ta tb:TE} {pos:Pos}
def PC (X:Cx) (op:CmpOp) (a b:Expr) (t:TE):Prop:=
 ∀(pins:List (Addr×Obj)) (s:Shared) (σ:St) (H:Hp) (Q:VK),Inv X pins σ H s->t σ H Q->
  wpAny (model X.prog X.w) X.A (eval a X.env) (fun v s₁=>wpAny (model X.prog X.w) X.A (eval b X.env) (fun u s₂=>wpAny (model X.prog X.w) X.A (compareOp op v u) (EP X pins σ Q) X.xe s₂) X.xe s₁) X.xe s
def tB (t:TE):TT:=fun σ H Q=>t σ H fun x H1=> ∃c,x = .bl c/\Q c H1
def lG {op:CmpOp} {t:TE} (h:PC X op a b t) (h1:behindInMarks op b=false:=by first|exact nobehind _ (by decide) (by decide)|rfl):PT X (.Compare a [op] [b] pos) (tB t):=by
 intro pins s σ H Q I hw;refine wpAny_isTrue_Compare1 (thn (h pins s σ H _ I hw) fun v s1 h1=>thn h1 fun u s2 h2=>thn h2 fun c s3 ⟨x,H1,I1,r1,q1⟩=>?_) h1;obtain ⟨d,rfl,q⟩:=q1;cases r1;exact wpAny_truthy_bool ⟨H1,I1,q⟩
def A8 {e:Expr} {t:TE} (h:PE X e t) (he: ∀whole,isTrue e X.env whole=(do let v<-whole;standAt e.pos;holding [v] (truthy v)):=by intro _;rfl):PT X e (tB t):=by
 intro pins s σ H Q I hw;refine isTrue_plain (thn (h pins s σ H _ I hw) fun v s1 ⟨x,H1,I1,r1,q1⟩=>?_) (he _);obtain ⟨d,rfl,q⟩:=q1;cases r1;exact wpAny_truthy_bool ⟨H1,I1,q⟩
variable {tA tB':TT} {rest:List Expr}
def De (t u:TT):TT:=fun σ H Q=>t σ H fun c H1=>if c=true then u σ H1 Q else Q false H1
def Ig (t u:TT):TT:=fun σ H Q=>t σ H fun c H1=>if c=true then Q true H1 else u σ H1 Q
def C8 (t:TT):TT:=fun σ H Q=>t σ H fun c H1=>Q (!c) H1
def pw_and1 (ha:PT X a tA):PW X (.BoolOp .And [a] pos) tA:=by
 intro wh pins s σ H Q I h;refine isTrue_and (thn (ha pins s σ H Q I h) fun c s1 e=>?_);cases c with
 |true=>exact isTrue_and_nil e
 |false=>exact e
def pw_or1 (ha:PT X a tA):PW X (.BoolOp .Or [a] pos) tA:=by
 intro wh pins s σ H Q I h;refine isTrue_or (thn (ha pins s σ H Q I h) fun c s1 e=>?_);cases c with
 |false=>exact isTrue_or_nil e
 |true=>exact e
def pw_and (ha:PT X a tA) (hb:PW X (.BoolOp .And (b::rest) pos) tB'):PW X (.BoolOp .And (a::b::rest) pos) (De tA tB'):=by
 intro wh pins s σ H Q I h;refine isTrue_and (thn (ha pins s σ H _ I h) fun c s1 ⟨H1,I1,q1⟩=>?_);cases c with
 |true=>exact hb wh pins s1 σ H1 Q I1 q1
 |false=>exact ⟨H1,I1,q1⟩
def pw_or (ha:PT X a tA) (hb:PW X (.BoolOp .Or (b::rest) pos) tB'):PW X (.BoolOp .Or (a::b::rest) pos) (Ig tA tB'):=by
 intro wh pins s σ H Q I h;refine isTrue_or (thn (ha pins s σ H _ I h) fun c s1 ⟨H1,I1,q1⟩=>?_);cases c with
 |true=>exact ⟨H1,I1,q1⟩
 |false=>exact hb wh pins s1 σ H1 Q I1 q1
def lF (ha:PT X a tA):PT X (.UnaryOp .Not a pos) (C8 tA):=by
 intro pins s σ H Q I h;exact isTrue_not (ha pins s σ H (fun c H1=>Q (!c) H1) I h)
def Al (ta tb:TE):TE:=fun σ H Q=>ta σ H fun x H1=> ∃c,x = .bl c/\if c=true then tb σ H1 Q else Q (.bl false) H1
def GB (ta tb:TE):TE:=fun σ H Q=>ta σ H fun x H1=> ∃c,x = .bl c/\if c=true then Q (.bl true) H1 else tb σ H1 Q
def Ai (ta:TE):TE:=fun σ H Q=>ta σ H fun x H1=> ∃c,x = .bl c/\Q (.bl (!c)) H1
def qu {op} {t:TE} (h:PE X a t):PE X (.BoolOp op [a] pos) t:=fun pins s σ H Q I hw=>BoolOp_one (h pins s σ H Q I hw)
def lI (ha:PE X a ta) (hb:PE X (.BoolOp .And (b::rest) pos) tb):PE X (.BoolOp .And (a::b::rest) pos) (Al ta tb):=by
 intro pins s σ H Q I h;refine BoolOp_and (thn (ha pins s σ H _ I h) fun v s1 ⟨x,H1,I1,r1,q1⟩=>?_);obtain ⟨c,rfl,q1⟩:=q1;cases r1;refine wpAny_truthy_bool ?_;cases c with
 |true=>exact hb pins s1 σ H1 Q I1 q1
 |false=>exact ⟨.bl false,H1,I1,rfl,q1⟩
def Bc (ha:PE X a ta):PE X (.UnaryOp .Not a pos) (Ai ta):=by
 intro pins s σ H Q I h;refine UnaryOp_ (thn (ha pins s σ H _ I h) fun v s1 ⟨x,H1,I1,r1,q1⟩=>?_);obtain ⟨c,rfl,q1⟩:=q1;cases r1;exact not_of (wpAny_truthy_bool ⟨.bl (!c),H1,I1,rfl,q1⟩)
def Ih (t:TT) (ta tb:TE):TE:=fun σ H Q=>t σ H fun c H1=>if c=true then ta σ H1 Q else tb σ H1 Q
def wZ {c:Expr} (hc:PT X c tA) (ha:PE X a ta) (hb:PE X b tb):PE X (.IfExp c a b pos) (Ih tA ta tb):=by
 intro pins s σ H Q I h;refine wpAny_IfExp (thn (hc pins s σ H _ I h) fun d s1 ⟨H1,I1,q1⟩=>?_);cases d with
 |true=>exact ha pins s1 σ H1 Q I1 q1
 |false=>exact hb pins s1 σ H1 Q I1 q1
end
def cQ (K:W.Frag) (H:Hp) (a:Addr) (xs:List V):Prop:=
 Rd H a (.lst xs)\/
  ∃(o:Obj) (its:Array Value) (n:Nat),K.lookup a=some o/\o.cls = .type "list" /\o.dict=none/\o.data = .seq its n/\its.size<=sizeLine/\Vals xs its.toList
def fx (K:W.Frag) (H:Hp) (a:Addr) (xs:List V):Prop:=
 Rd H a (.tup xs)\/
  ∃(o:Obj) (its:Array Value) (n:Nat),K.lookup a=some o/\o.cls = .type "tuple" /\o.data = .seq its n/\its.size<=sizeLine/\Vals xs its.toList
noncomputable def HZ:Value->Option V
 | .none=>some .non
 | .bool b=>some (.bl b)
 | .int i _=>some (.int i)
 | .str x _=>some (.str x)
 | .bytes b _=>some (.byt b)
 | .float b _=>some (.flt b)
 | .ref a=>some (.ref a)
 | .type n=>some (.ty n)
 |_=>none
def RelV.abs {x:V} {u:Value} (r:RelV x u):HZ u=some x:=by
 cases x with
 |non=>cases r;rfl
 |bl _=>cases r;rfl
 |int _=>obtain ⟨t,rfl⟩:=r;rfl
 |str _=>obtain ⟨t,rfl⟩:=r;rfl
 |byt _=>obtain ⟨t,rfl⟩:=r;rfl
 |flt _=>obtain ⟨t,rfl⟩:=r;rfl
 |ref _=>cases r;rfl
 |ty _=>cases r;rfl
def RelV.inj {x y:V} {u:Value} (r:RelV x u) (q:RelV y u):x=y:=Option.some.inj (r.abs.symm.trans q.abs)
def Vals.inj: ∀{xs ys:List V} {us:List Value},Vals xs us->Vals ys us->xs=ys
 |_,_,_,.nil,.nil=>rfl
 |_,_,_,.cons r t,.cons r' t'=>by rw [r.inj r',Vals.inj t t']
section
variable {X:Cx} {pins:List (Addr×Obj)} {σ:St} {H:Hp} {s:Shared} {a:Addr} {xs ys:List V}
def cQ.of {K:W.Frag} (h:H a=some (.lst xs)):cQ K H a xs:= .inl (.inl h)
def fx.of {K:W.Frag} (h:H a=some (.tup xs)):fx K H a xs:= .inl (.inl h)
def Inv.list (I:Inv X pins σ H s) (h:cQ X.K H a xs): ∃its:List Value,Vals xs its/\PlainL s.heap a its.toArray/\xs.length<=sizeLine:=by
 rcases h with h|⟨o,its,n,hk,hc,hd,hs,hz,r⟩
 ·
  obtain ⟨z,its,n,r,e⟩:=h.ok I.hok;exact ⟨its,r,⟨_,n,e,rfl,rfl,rfl⟩,z⟩
 ·
  refine ⟨its.toList,r,⟨o,n,I.mF a o hk,hc,hd,by simpa using hs⟩,?_⟩;have e:=r.length;simp only [Array.length_toList] at e;lia
def Inv.tuple (I:Inv X pins σ H s) (h:fx X.K H a xs): ∃its:List Value,Vals xs its/\IsTup s.heap a its.toArray/\xs.length<=sizeLine:=by
 rcases h with h|⟨o,its,n,hk,hc,hs,hz,r⟩
 ·
  obtain ⟨z,its,r,p⟩:=h.ok I.hok;exact ⟨its,r,p,z⟩
 ·
  refine ⟨its.toList,r,⟨o,I.mF a o hk,hc,n,by simpa using hs⟩,?_⟩;have e:=r.length;simp only [Array.length_toList] at e;lia
def Inv.rl (I:Inv X pins σ H s) (h:cQ X.K H a xs) (h':cQ X.K H a ys):xs=ys:=by
 obtain ⟨its,r,⟨o,n,e,_,_,d⟩,_⟩:=I.list h;obtain ⟨its',r',⟨o',n',e',_,_,d'⟩,_⟩:=I.list h';rw [e] at e';cases e';rw [d] at d';injection d' with d1 _;have:its=its':=by simpa using congrArg Array.toList d1
 subst this;exact r.inj r'
def Inv.pF (I:Inv X pins σ H s) (h:fx X.K H a xs) (h':fx X.K H a ys):xs=ys:=by
 obtain ⟨its,r,⟨o,e,_,n,d⟩,_⟩:=I.tuple h;obtain ⟨its',r',⟨o',e',_,n',d'⟩,_⟩:=I.tuple h';rw [e] at e';cases e';rw [d] at d';injection d' with d1 _;have:its=its':=by simpa using congrArg Array.toList d1
 subst this;exact r.inj r'
end
noncomputable abbrev Cx.wish (X:Cx) (E:Value->Shared->Prop):Cx:={X with xe:=E}
noncomputable abbrev Cx.nox (X:Cx):Cx:=X.wish fun _ _=>False
def Cx.Ok.wish {X:Cx} (ok:X.Ok) (E:Value->Shared->Prop):(X.wish E).Ok:=
 ⟨ok.mod,ok.kind,ok.glob,ok.blt,ok.above,ok.inj,ok.has,ok.cab,ok.hd,ok.frames,ok.stk,ok.exf,ok.bs,ok.bsz,ok.noex,ok.exfs,ok.funs,ok.frf⟩
def Cx.Ok.unwish {X:Cx} {E:Value->Shared->Prop} (ok:(X.wish E).Ok):X.Ok:=
 ⟨ok.mod,ok.kind,ok.glob,ok.blt,ok.above,ok.inj,ok.has,ok.cab,ok.hd,ok.frames,ok.stk,ok.exf,ok.bs,ok.bsz,ok.noex,ok.exfs,ok.funs,ok.frf⟩
section
variable {X:Cx} {pins:List (Addr×Obj)} {σ:St} {H:Hp} {s:Shared} {E:Value->Shared->Prop}
def Inv.wish (I:Inv X pins σ H s) (E:Value->Shared->Prop):Inv (X.wish E) pins σ H s:=⟨I.ok.wish E,I.os,I.bare,I.base,I.loc,I.cell,I.free,I.j2,I.pin,I.hok,I.len⟩
def Inv.unwish (I:Inv (X.wish E) pins σ H s):Inv X pins σ H s:=⟨I.ok.unwish,I.os,I.bare,I.base,I.loc,I.cell,I.free,I.j2,I.pin,I.hok,I.len⟩
def SP.unwish {D:Ends} {f:Flow} {s':Shared} (h:SP (X.wish E) pins D f s'):SP X pins D f s':=by
 cases f with
 |next=>obtain ⟨σ',H',I,q⟩:=h;exact ⟨σ',H',I.unwish,q⟩
 |brk=>obtain ⟨σ',H',I,q⟩:=h;exact ⟨σ',H',I.unwish,q⟩
 |cont=>obtain ⟨σ',H',I,q⟩:=h;exact ⟨σ',H',I.unwish,q⟩
 |ret u=>obtain ⟨v,σ',H',I,r,q⟩:=h;exact ⟨v,σ',H',I.unwish,r,q⟩
def qT.nox {st:List Stmt} {t:TS} (h:qT X.nox st t):qT X st t:=fun pins s σ H D I hw=>
 wpAny_mono (h pins s σ H D (I.wish _) hw) (fun _ _ q=>q.unwish) fun _ _ z=>False.elim z
end
section
variable {X:Cx} {st:Stmt} {rest:List Stmt} {t u:TS} {e:Expr} {te:TE} {pos:Pos}
def Aj:TS:=fun D σ H=>D.nx σ H
def AR (t u:TS):TS:=fun D σ H=>t {D with nx:=u D} σ H
def aO:qT X [] Aj:=fun _ _ σ H _ I h=>wpAny_execs_nil ⟨σ,H,I,h⟩
def ah (h1:PS X st t) (h2:qT X rest u):qT X (st::rest) (AR t u):=by
 intro pins s σ H D I h;refine wpAny_execs_cons (thn (h1 pins s σ H {D with nx:=u D} I h) fun f s1 q=>?_);cases f with
 |next=>
  obtain ⟨σ',H',I',q⟩:=q;exact h2 pins s1 σ' H' D I' q
 |ret v=>exact q
 |brk=>exact q
 |cont=>exact q
def aw (h1:PS X st t):qT X [st] t:=by
 intro pins s σ H D I h;refine wpAny_execs_cons (thn (h1 pins s σ H D I h) fun f s1 q=>?_);cases f with
 |next=>exact wpAny_execs_nil q
 |ret v=>exact q
 |brk=>exact q
 |cont=>exact q
def AV:TS:=fun D σ H=>D.bk σ H
def Dc:TS:=fun D σ H=>D.ct σ H
def Inv.quiet {pins:List (Addr×Obj)} {σ:St} {H:Hp} {s:Shared} (I:Inv X pins σ H s):interactive X.env=false:=by simp [interactive,I.ok.kind]
def sR (te:TE):TS:=fun D σ H=>te σ H fun _ H1=>D.nx σ H1
def y8 (he:PE X e te) (hs:swapsWith e none pos.line X.env=pure false:=by rfl):PS X (.Expr e pos) (sR te):=by
 intro pins s σ H D I h;exact wpAny_Expr_any (thn (he pins s σ H _ I h) fun v s1 ⟨x,H1,I1,r1,q1⟩=>⟨σ,H1,I1,q1⟩) I.quiet hs
def AS (te:TE):TS:=fun D σ H=>te σ H D.rt
def aQ (he:PE X e te):PS X (.Return (some e) pos) (AS te):=by
 intro pins s σ H D I h;exact wpAny_Return_some (thn (he pins s σ H _ I h) fun v s1 ⟨x,H1,I1,r1,q1⟩=>⟨x,σ,H1,I1,r1,q1⟩)
def Af:TS:=fun D _ H=>D.rt .non H
def qr:PS X (.Return none pos) Af:=fun _ _ σ H _ I h=>wpAny_Return_none ⟨.non,σ,H,I,rfl,h⟩
def C_ (c:TT) (t u:TS):TS:=fun D σ H=>c σ H fun b H1=>if b=true then t D σ H1 else u D σ H1
def bp {c:Expr} {a b:List Stmt} {tc:TT} (hc:PT X c tc) (ha:qT X a t) (hb:qT X b u):PS X (.If c a b pos) (C_ tc t u):=by
 intro pins s σ H D I h;refine wpAny_If (thn (hc pins s σ H _ I h) fun d s1 ⟨H1,I1,q1⟩=>?_);cases d with
 |true=>exact ha pins s1 σ H1 D I1 q1
 |false=>exact hb pins s1 σ H1 D I1 q1
end
noncomputable abbrev TG:=V->St->Hp->(St->Hp->Prop)->Prop
noncomputable abbrev yw:=List V->St->Hp->(St->Hp->Prop)->Prop
def PG (X:Cx) (target:Expr) (t:TG):Prop:=
 ∀(pins:List (Addr×Obj)) (s:Shared) (σ:St) (H:Hp) (v:V) (u:Value) (Q:St->Hp->Prop),Inv X pins σ H s->RelV v u->t v σ H Q->
  wpAny (model X.prog X.w) X.A (assign target X.env u) (fun _ s'=> ∃σ' H',Inv X pins σ' H' s'/\Q σ' H') X.xe s
noncomputable abbrev Ib:=V->V->V->Hp->(Hp->Prop)->Prop
noncomputable abbrev JH:=V->V->Hp->VK->Prop
section
variable {X:Cx} {pos:Pos}
def j1 (i:Nat):TG:=fun v σ H Q=>Q (σ.set i (some v)) H
def cg {i:Nat} {x:Str} (hN:X.N.Nodup) (hi:X.N[i]?=some x) (hx:Loc X.env.scope x) (hf:X.fn x=true\/X.env.scope.names.lookup x=some .local:=by first|exact .inl rfl|exact .inr rfl|assumption):PG X (.Name x pos) (j1 i):=by
 intro pins s σ H v u Q I r h;exact wpAny_assign_Name (qX I hN hi hx r (fun s' I'=>⟨_,H,I',h⟩) hf)
def HX:yw:=fun vs σ H Q=>vs= []/\Q σ H
def F2 (t:TG) (u:yw):yw:=fun vs σ H Q=> ∃v r,vs=v::r/\t v σ H fun σ' H'=>u r σ' H' Q
def HV (K:W.Frag) (n:Nat) (t:yw):TG:=fun v σ H Q=> ∃a xs,v = .ref a/\fx K H a xs/\xs.length=n/\t xs σ H Q
def HW (to ti:TE) (t:Ib):TG:=fun v σ H Q=>to σ H fun o H1=>ti σ H1 fun i H2=>t o i v H2 fun H3=>Q σ H3
def vU (te:TE) (g:TG):TS:=fun D σ H=>te σ H fun x H1=>g x σ H1 D.nx
def A9 {i:Nat} {x:Str} {e:Expr} {te:TE} {pos':Pos} (hN:X.N.Nodup) (hi:X.N[i]?=some x) (hx:Loc X.env.scope x) (he:PE X e te) (hs:swapsWith e (some (.Name x pos')) pos.line X.env=pure false:=by rfl) (hf:X.fn x=true\/X.env.scope.names.lookup x=some .local:=by first|exact .inl rfl|exact .inr rfl|assumption):
  PS X (.Assign [.Name x pos'] e pos) (vU te (j1 i)):=by
 intro pins s σ H D I h;refine wpAny_Assign_Name (thn (he pins s σ H _ I h) fun v s1 ⟨y,H1,I1,r1,q1⟩=>?_) hs;exact qX I1 hN hi hx r1 (fun s2 I2=>⟨_,H1,I2,q1⟩) hf
def GF (i:Nat) (te:TE) (ti:JH):TS:=fun D σ H=> ∃x,σ[i]?=some (some x)/\te σ H fun y H1=>ti x y H1 fun z H2=>D.nx (σ.set i (some z)) H2
end
section
variable {X:Cx} {pos:Pos}
end
structure It where
 go:Nat->Hp->Prop
 yld:Nat->Hp->V->Hp->Prop
 stop:Nat->Hp->Prop
def oC (X:Cx) (pins:List (Addr×Obj)) (H:Hp) (b:Addr):Prop:=
 H b=none/\b≠X.env.locals/\b ∉ X.fs/\(b∈X.ex\/X.s₀.heap.objs.size<=b)/\(∀x c,X.env.cells.lookup x=some c->c≠b)/\∀p∈X.pn++pins,p.1≠b
def Inv.vr {X:Cx} {pins:List (Addr×Obj)} {σ:St} {H H':Hp} {s:Shared} {b:Addr} (I:Inv X pins σ H s) (hb:s.heap.objs.size<=b) (hn:H' b=none):oC X pins H' b:=by
 refine ⟨hn,Nat.ne_of_gt (Nat.lt_of_lt_of_le I.lt hb),I.nofs hb,.inr (Nat.le_trans I.sz hb),fun x c e z=>?_,fun p hp z=>?_⟩
 ·
  obtain ⟨v,q⟩:=I.cell x c e;exact absurd (Nat.lt_of_lt_of_le q.lt (by rw [z];exact hb)) (Nat.lt_irrefl _)
 ·exact absurd (Nat.lt_of_lt_of_le (Heap.lt_size (I.pin p hp).1) (by rw [z];exact hb)) (Nat.lt_irrefl _)
structure Turn (P:Program) (w:World) (K:W.Frag) (tg:Expr) (J:It) (fp:List Addr) (it:Addr) (tn:Nat->Heap->Prop):Prop where
 mem:it∈fp
 obj: ∀i h,tn i h->∀b∈fp,∃o,h.get? b=some o/\∀v,o.data≠ .cell v
 keep: ∀i h h',tn i h->(∀b∈fp,∀o,h.get? b=some o->h'.get? b=some o)->tn i h'
 item: ∀(X:Cx),X.prog=P->X.w=w->X.K=K->X.calm=true->∀(i:Nat) (pins:List (Addr×Obj)) (s:Shared) (σ:St) (H:Hp) (E:Value->Shared->Prop),Inv X pins σ H s->(∀b∈fp,oC X pins H b)->tn i s.heap->J.go i H->
  wpAny (model P w) X.A (pyNext (.ref it)) (fun r s1=> ∃u,r=some u/\
   wpAny (model P w) X.A (letOwnedTupleGo tg (.ref it) u) (fun _ s2=> ∃x H',Inv X pins σ H' s2/\RelV x u/\J.yld i H x H'/\tn (i+1) s2.heap/\∀b∈fp,H' b=none) E s1) E s
 done: ∀(X:Cx),X.prog=P->X.w=w->X.K=K->X.calm=true->∀(i:Nat) (pins:List (Addr×Obj)) (s:Shared) (σ:St) (H:Hp) (E:Value->Shared->Prop),Inv X pins σ H s->(∀b∈fp,oC X pins H b)->tn i s.heap->J.stop i H->
  wpAny (model P w) X.A (pyNext (.ref it)) (fun r s1=>r=none/\Inv X pins σ H s1) E s
 self: ∀(A:Around) (i:Nat) (s:Shared) (Q:Value->Shared->Prop) (E:Value->Shared->Prop),tn i s.heap->Q (.ref it) s->wpAny (model P w) A (pyIter (.ref it)) Q E s
noncomputable abbrev TI:=St->Hp->(It->Hp->Prop)->Prop
def IY (X:Cx) (pins:List (Addr×Obj)) (σ:St) (tg:Expr) (R:It->Hp->Prop) (itv:Value) (s2:Shared):Prop:=
 ∃(it:Addr) (fp:List Addr) (tn:Nat->Heap->Prop) (J:It) (H':Hp),itv = .ref it/\Inv X pins σ H' s2/\Turn X.prog X.w X.K tg J fp it tn/\tn 0 s2.heap/\(∀b∈fp,oC X pins H' b)/\R J H'
def PI (X:Cx) (tg iter:Expr) (wi:TI):Prop:=
 ∀(pins:List (Addr×Obj)) (s:Shared) (σ:St) (H:Hp) (R:It->Hp->Prop),Inv X pins σ H s->wi σ H R->
  wpAny (model X.prog X.w) X.A (eval iter X.env) (fun v s1=>wpAny (model X.prog X.w) X.A (pyIter v) (IY X pins σ tg R) X.xe s1) X.xe s
def tM {M:Model} {A:Around} {E:Value->Shared->Prop} {s:Shared} {tg:Expr} {it:Addr} {u:Value} {o:Obj} {n:String} {vs:Array Value} {Q:Unit->Shared->Prop} (ho:s.heap.get? it=some o) (hc:o.cls = .type n) (hd:o.data = .fields vs)
    (hn: ["enumerate","zip","dict_itemiterator","dict_reverseitemiterator","odict_iterator","itertools.zip_longest","itertools.pairwise"].contains n=false) (hQ:Q () s):wpAny M A (letOwnedTupleGo tg (.ref it) u) Q E s:=by
  unfold letOwnedTupleGo;cases tg<;>first
    |exact wpAny_pure hQ
    |(cases u<;>first
        |exact wpAny_pure hQ
        |(
           refine wpAny_bind (wpAny_load ho ?_);rw [hc,hd];show wpAny M A (if (["enumerate","zip","dict_itemiterator","dict_reverseitemiterator","odict_iterator","itertools.zip_longest","itertools.pairwise"].contains n&&vs[0]? == some (rawInt _))=true then _ else _) Q E s;rw [if_neg (by intro h;rw [hn,Bool.false_and] at h;cases h)];exact wpAny_pure hQ))
noncomputable def Gn (K:W.Frag) (a:Addr):It:=
 ⟨fun i H=> ∃xs x,cQ K H a xs/\xs[i]?=some x,fun i H x H'=>H'=H/\∀xs,cQ K H a xs->xs[i]?=some x,fun i H=> ∃xs,cQ K H a xs/\xs.length<=i⟩
noncomputable def I0 (K:W.Frag) (a:Addr):It:=
 ⟨fun i H=> ∃xs x,fx K H a xs/\xs[i]?=some x,fun i H x H'=>H'=H/\∀xs,fx K H a xs->xs[i]?=some x,fun i H=> ∃xs,fx K H a xs/\xs.length<=i⟩
noncomputable def yo (lo:Int) (n:Nat):It:=⟨fun i _=>i<n,fun i H x H'=>H'=H/\x = .int (lo+i),fun i _=>n<=i⟩
def t7 {P:Program} {w:World} {K:W.Frag} {tg:Expr} (a it:Addr):Turn P w K tg (Gn K a) [it] it (fun i h=>h.IsListIter it a i) where
 mem:=by simp
 obj:=fun i h st b hb=>by
  have e:b=it:=by simpa using hb
  subst e;obtain ⟨o,e,c,d⟩:=st;exact ⟨o,e,fun v z=>by rw [d] at z;cases z⟩
 keep:=fun i h h' st k=>st.at fun o e=>k it (by simp) o e
 item:=by
  intro X hP hw hK hc i pins s σ H E I hf st hg;subst hP hw hK;obtain ⟨xs,x,hq,hx⟩:=hg;obtain ⟨its,rv,p,hz⟩:=I.list hq;obtain ⟨u,hu,ru⟩:=rv.get hx;obtain ⟨f0,f1,f2,f3,f4,f5⟩:=hf it (by simp);refine wpAny_pyNext_list_item st p.isList (x:=u) (by simpa using hu) fun h' st' sb=>?_;have I1:Inv X pins σ H {s with heap:=h'}:=I.turned (t':=s.toks) (fun b o hb e=>(sb.2 b hb).trans e) f0 f1 f3 f4 f5;obtain ⟨o,e,c,d⟩:=id st';exact ⟨u,rfl,tM (s:={s with heap:=h'}) e c d (by decide) ⟨x,H,I1,ru,⟨rfl,fun ys hy=>by rw [I.rl hy hq];exact hx⟩,st',fun b hb=>(hf b hb).1⟩⟩
 done:=by
  intro X hP hw hK hc i pins s σ H E I hf st hg;subst hP hw hK;obtain ⟨xs,hq,hx⟩:=hg;obtain ⟨its,rv,p,hz⟩:=I.list hq;obtain ⟨f0,f1,f2,f3,f4,f5⟩:=hf it (by simp);have hl:=rv.length;exact wpAny_pyNext_list_end (I.ok.hd hc) st p.isList (by simp;lia) fun h' eb=>⟨rfl,I.turned (t':=s.toks) (fun b o hb e=>eb b o hb e) f0 f1 f3 f4 f5⟩
 self:=fun _ _ _ _ _ st h=>wpAny_pyIter_listiter st h
def rP {P:Program} {w:World} {K:W.Frag} {tg:Expr} (a it:Addr):Turn P w K tg (I0 K a) [it] it (fun i h=>h.IsTupleIter it a i) where
 mem:=by simp
 obj:=fun i h st b hb=>by
  have e:b=it:=by simpa using hb
  subst e;obtain ⟨o,e,c,d⟩:=st;exact ⟨o,e,fun v z=>by rw [d] at z;cases z⟩
 keep:=fun i h h' st k=>st.at fun o e=>k it (by simp) o e
 item:=by
  intro X hP hw hK hc i pins s σ H E I hf st hg;subst hP hw hK;obtain ⟨xs,x,hq,hx⟩:=hg;obtain ⟨its,rv,p,hz⟩:=I.tuple hq;obtain ⟨u,hu,ru⟩:=rv.get hx;obtain ⟨f0,f1,f2,f3,f4,f5⟩:=hf it (by simp);refine wpAny_pyNext_tuple_item st (show s.heap.IsTuple a its.toArray from p) (x:=u) (by simpa using hu) fun h' st' sb=>?_;have I1:Inv X pins σ H {s with heap:=h'}:=I.turned (t':=s.toks) (fun b o hb e=>(sb.2 b hb).trans e) f0 f1 f3 f4 f5;obtain ⟨o,e,c,d⟩:=id st';exact ⟨u,rfl,tM (s:={s with heap:=h'}) e c d (by decide) ⟨x,H,I1,ru,⟨rfl,fun ys hy=>by rw [I.pF hy hq];exact hx⟩,st',fun b hb=>(hf b hb).1⟩⟩
 done:=by
  intro X hP hw hK hc i pins s σ H E I hf st hg;subst hP hw hK;obtain ⟨xs,hq,hx⟩:=hg;obtain ⟨its,rv,p,hz⟩:=I.tuple hq;obtain ⟨f0,f1,f2,f3,f4,f5⟩:=hf it (by simp);have hl:=rv.length;exact wpAny_pyNext_tuple_end (I.ok.hd hc) st (show s.heap.IsTuple a its.toArray from p) (by simp;lia) fun h' eb=>⟨rfl,I.turned (t':=s.toks) (fun b o hb e=>eb b o hb e) f0 f1 f3 f4 f5⟩
 self:=fun _ _ _ _ _ st h=>wpAny_pyIter_tupleiter st h
def rQ {P:Program} {w:World} {K:W.Frag} {tg:Expr} (it:Addr) (lo:Int) (n:Nat):Turn P w K tg (yo lo n) [it] it (fun i h=>IsRangeIter h it (lo+(i:Nat)*1) ((n:Int) - (i:Nat)) 1) where
 mem:=by simp
 obj:=fun i h st b hb=>by
  have e:b=it:=by simpa using hb
  subst e;exact ⟨_,st,fun v z=>by
   have z':Data.fields _=Data.cell v:=z;cases z'⟩
 keep:=fun i h h' st k=>k it (by simp) _ st
 item:=by
  intro X hP hw hK hc i pins s σ H E I hf st hg;subst hP hw hK;obtain ⟨f0,f1,f2,f3,f4,f5⟩:=hf it (by simp);have W:=Walks.range (prog:=X.prog) (w:=X.w) (I.ok.hd hc) it lo 1 n;refine W.item i s _ _ hg st fun v h' tk hv st' kk=>?_;obtain ⟨t,rfl⟩:=hv;have I1:Inv X pins σ H {s with heap:=h',toks:=tk}:=I.turned (fun b o hb e=>kk b o (by simpa using hb) e) f0 f1 f3 f4 f5;refine ⟨_,rfl,tM (s:={s with heap:=h',toks:=tk}) (n:="range_iterator") st' rfl rfl (by decide) ⟨.int (lo+i),H,I1,⟨t,?_⟩,⟨rfl,rfl⟩,st',fun b hb=>(hf b hb).1⟩⟩;rw [Int.mul_one]
 done:=by
  intro X hP hw hK hc i pins s σ H E I hf st hg;subst hP hw hK;obtain ⟨f0,f1,f2,f3,f4,f5⟩:=hf it (by simp);exact wpAny_pyNext_range_end (I.ok.hd hc) st (by have:n<=i:=hg;lia) fun h' eb=>⟨rfl,I.turned (t':=s.toks) (fun b o hb e=>eb b o hb e) f0 f1 f3 f4 f5⟩
 self:=fun _ _ _ _ _ st h=>wpAny_pyIter_rangeiter st h
section
variable {X:Cx} {tg:Expr}
def qY {pins:List (Addr×Obj)} {σ:St} {H:Hp} {s:Shared} {R:It->Hp->Prop} {E:Value->Shared->Prop} {lo hi:Int} {t u v:Tok} {tk:Nat} (I:Inv X pins σ H s) (h1 : -(2 ^ 62)<=lo) (h2:lo<2 ^ 62) (h3 : -(2 ^ 62)<=hi) (h4:hi<2 ^ 62)
  (q:R (yo lo (hi - lo).toNat) H):wpAny (model X.prog X.w) X.A (pyIter (.ref s.heap.objs.size)) (IY X pins σ tg R) E {s with heap:=s.heap.push {cls:= .type "range",data:= .fields #[.int lo t,.int hi u,.int 1 v]},toks:=tk}:=by
 refine wpAny_pyIter_range (IsRange.new ..) (small_one h1 h2 h3 h4) ?_;have I1:Inv X pins σ H {s with heap:=s.heap.push {cls:= .type "range",data:= .fields #[.int lo t,.int hi u,.int 1 v]},toks:=tk}:=I.kept fun b o e=>Heap.get?_push_of_some _ e;refine ⟨(s.heap.push {cls:= .type "range",data:= .fields #[.int lo t,.int hi u,.int 1 v]}).objs.size,[(s.heap.push {cls:= .type "range",data:= .fields #[.int lo t,.int hi u,.int 1 v]}).objs.size],_,_,H,rfl,
  I1.kept (t':=tk) fun b o e=>Heap.get?_push_of_some _ e,rQ _ lo (hi - lo).toNat,?_,fun b hb=>?_,q⟩
 ·
  have e1:lo+((0:Nat):Int)*1=lo:=by simp
  have e2:(((hi - lo).toNat:Nat):Int) - ((0:Nat):Int)=Builtin.Range.rangeSize lo hi 1:=by rw [rangeSize_one];split<;>lia
  show IsRangeIter _ _ (lo+((0:Nat):Int)*1) ((((hi - lo).toNat:Nat):Int) - ((0:Nat):Int)) 1;rw [e1,e2];exact Heap.get?_push_size _ rfl
 ·
  have e:b=(s.heap.push {cls:= .type "range",data:= .fields #[.int lo t,.int hi u,.int 1 v]}).objs.size:=by simpa using hb
  subst e;exact I1.vr (Nat.le_refl _) (I1.hok.fresh (Nat.le_refl _))
def vO (wi:TI) (g:TG) (tb:TS):TS:=fun D σ H=>wi σ H fun J H1=> ∃W:Nat->Nat->St->Hp->Prop,(∃m,W 0 m σ H1)/\∀i m σ H,W i m σ H->
 (J.stop i H/\D.nx σ H)\/(J.go i H/\∃N:St->Hp->Prop,(∀σ' H',N σ' H'->∃m',m'<m/\W (i+1) m' σ' H')/\∀x H',J.yld i H x H'->g x σ H' fun σ2 H2=>tb {D with nx:=N,ct:=N,bk:=D.nx} σ2 H2)
noncomputable def nK (fp:List Addr) (h:Heap):List (Addr×Obj):=fp.filterMap fun b=>(h.get? b).map fun o=>(b,o)
def ig {fp:List Addr} {h:Heap} {b:Addr} {o:Obj} (hb:b∈fp) (e:h.get? b=some o):(b,o)∈nK fp h:=List.mem_filterMap.mpr ⟨b,hb,by rw [e];rfl⟩
def va {fp:List Addr} {h:Heap} {p:Addr×Obj} (hp:p∈nK fp h):p.1∈fp/\h.get? p.1=some p.2:=by
 obtain ⟨b,hb,e⟩:=List.mem_filterMap.mp hp;cases q:h.get? b with
 |none=>rw [q] at e;cases e
 |some o=>
  rw [q] at e;have e':(b,o)=p:=Option.some.inj e;subst e';exact ⟨hb,q⟩
def Inv.pinned {pins:List (Addr×Obj)} {σ:St} {H:Hp} {s:Shared} {fp:List Addr} (I:Inv X pins σ H s) (hf: ∀b∈fp,oC X pins H b) (ho: ∀b∈fp,∃o,s.heap.get? b=some o/\∀v,o.data≠ .cell v):Inv X (pins++nK fp s.heap) σ H s:=
 I.nc fun p hp=>(List.mem_append.mp hp).elim (fun z=>I.pin p (List.mem_append_right _ z)) fun z=>by
  obtain ⟨hb,e⟩:=va z;obtain ⟨f0,f1,f2,_⟩:=hf p.1 hb;obtain ⟨o,e',d⟩:=ho p.1 hb;rw [e] at e';cases e';exact ⟨e,f0,f1,f2,d⟩
def Inv.unpinned {pins pl:List (Addr×Obj)} {σ:St} {H:Hp} {s:Shared} (I:Inv X (pins++pl) σ H s):Inv X pins σ H s:=I.nc fun p hp=>I.pin p (List.mem_append_right _ (List.mem_append_left _ hp))
def h_ {iter:Expr} {body:List Stmt} {wi:TI} {g:TG} {tb:TS} {pos:Pos} (hp:PassesOwn (model X.prog X.w) X.A X.env X.xe) (hc:X.calm=true) (hi:PI X tg iter wi) (hg:PG X tg g) (hb:qT X body tb)
  (hs: ∀x,foldedSetIterable iter X.env x=pure x:=by intro _;rfl):PS X (.For tg iter body [] pos) (vO wi g tb):=by
 intro pins s σ H D I h;refine wpAny_For (thn (hi pins s σ H _ I h) fun v s1 h1=>thn h1 fun itv s2 h2=>?_) hs;obtain ⟨it,fp,tn,J,H2,e,I2,T,st2,f2,W,⟨m0,w0⟩,turn⟩:=h2;subst e

 have stat: ∀{H':Hp},(∀b∈fp,H' b=none)->∀b∈fp,oC X pins H' b:=fun hn b hb=>⟨hn b hb,(f2 b hb).2⟩;refine codeAny_forLoop_any (fun n s'=> ∃i σ' H',Inv X pins σ' H' s'/\tn i s'.heap/\(∀b∈fp,H' b=none)/\W i n σ' H') ?_ m0 ⟨0,σ,H2,I2,st2,fun b hb=>(f2 b hb).1,w0⟩;rintro n s3 ⟨i,σ3,H3,I3,st3,fr3,w3⟩;rcases turn i n σ3 H3 w3 with ⟨stop,qn⟩|⟨go,N,hN,step⟩
 ·
  refine wpAny_passesOwn hp (thn (T.done X rfl rfl rfl hc i pins s3 σ3 H3 X.xe I3 (stat fr3) st3 stop) fun r s4 ⟨hr,I4⟩=>?_);subst hr;exact wpAny_execs_nil ⟨σ3,H3,I4,qn⟩
 ·
  refine wpAny_passesOwn hp (thn (T.item X rfl rfl rfl hc i pins s3 σ3 H3 X.xe I3 (stat fr3) st3 go) fun r s4 ⟨u,hr,h4⟩=>?_);subst hr;refine wpAny_passesOwn hp (thn h4 fun _ s5 ⟨x,H5,I5,r5,y5,st5,fr5⟩=>?_);have I5':=I5.pinned (stat fr5) (T.obj _ _ st5);refine wpAny_passesOwn hp (thn (hg _ s5 σ3 H5 x u _ I5' r5 (step x H5 y5)) fun _ s6 ⟨σ6,H6,I6,q6⟩=>?_);refine wpAny_passesOwn hp (thn (hb _ s6 σ6 H6 _ I6 q6) fun f s7 q7=>?_);have again: ∀{σ7:St} {H7:Hp},Inv X (pins++nK fp s5.heap) σ7 H7 s7->N σ7 H7->∃m,m<n/\∃i σ' H',Inv X pins σ' H' s7/\tn i s7.heap/\(∀b∈fp,H' b=none)/\W i m σ' H':=fun {σ7 H7} I7 n7=>by
   obtain ⟨m',hm,w7⟩:=hN σ7 H7 n7;refine ⟨m',hm,i+1,σ7,H7,I7.unpinned,T.keep _ _ _ st5 fun b hb o e=>(I7.pin (b,o) (List.mem_append_right _ (List.mem_append_right _ (ig hb e)))).1,fun b hb=>?_,w7⟩;obtain ⟨o,e,d⟩:=T.obj _ _ st5 b hb;exact (I7.pin (b,o) (List.mem_append_right _ (List.mem_append_right _ (ig hb e)))).2.1
  cases f with
  |next=>obtain ⟨σ7,H7,I7,n7⟩:=q7;exact again I7 n7
  |cont=>obtain ⟨σ7,H7,I7,n7⟩:=q7;exact again I7 n7
  |brk=>obtain ⟨σ7,H7,I7,q7⟩:=q7;exact ⟨σ7,H7,I7.unpinned,q7⟩
  |ret v=>obtain ⟨x7,σ7,H7,I7,r7,q7⟩:=q7;exact ⟨x7,σ7,H7,I7.unpinned,r7,q7⟩
end
def xT {K:W.Frag} {a:Addr} {xs:List V} {g:TG} {tb:TS} {D:Ends} {σ:St} {H:Hp} (Pv:Nat->St->Hp->Prop) (h0:Pv 0 σ H) (hl: ∀i σ H,i<=xs.length->Pv i σ H->cQ K H a xs)
  (hs: ∀i x σ H,xs[i]?=some x->Pv i σ H->g x σ H fun σ2 H2=>tb {D with nx:=Pv (i+1),ct:=Pv (i+1),bk:=D.nx} σ2 H2) (hd: ∀σ H,Pv xs.length σ H->D.nx σ H):
  ∃W:Nat->Nat->St->Hp->Prop,(∃m,W 0 m σ H)/\∀i m σ H,W i m σ H->
   ((Gn K a).stop i H/\D.nx σ H)\/((Gn K a).go i H/\∃N:St->Hp->Prop,(∀σ' H',N σ' H'->∃m',m'<m/\W (i+1) m' σ' H')/\∀x H',(Gn K a).yld i H x H'->g x σ H' fun σ2 H2=>tb {D with nx:=N,ct:=N,bk:=D.nx} σ2 H2):=by
 refine ⟨fun i m σ H=>m=xs.length - i/\i<=xs.length/\Pv i σ H,⟨xs.length,by simp,Nat.zero_le _,h0⟩,?_⟩;rintro i m σ H ⟨rfl,hi,p⟩;have q:=hl i σ H hi p;by_cases hlt:i<xs.length
 ·
  refine .inr ⟨⟨xs,xs[i],q,by simp [hlt]⟩,Pv (i+1),fun σ' H' p'=>⟨xs.length - (i+1),by lia,rfl,hlt,p'⟩,fun x H' y=>?_⟩;obtain ⟨e,y⟩:=y;subst e;exact hs i x σ _ (y xs q) p
 ·
  have e:i=xs.length:=by lia
  subst e;exact .inl ⟨⟨xs,q,Nat.le_refl _⟩,hd σ H p⟩
def vt {lo:Int} {n:Nat} {g:TG} {tb:TS} {D:Ends} {σ:St} {H:Hp} (Pv:Nat->St->Hp->Prop) (h0:Pv 0 σ H)
  (hs: ∀i σ H,i<n->Pv i σ H->g (.int (lo+i)) σ H fun σ2 H2=>tb {D with nx:=Pv (i+1),ct:=Pv (i+1),bk:=D.nx} σ2 H2) (hd: ∀σ H,Pv n σ H->D.nx σ H):
  ∃W:Nat->Nat->St->Hp->Prop,(∃m,W 0 m σ H)/\∀i m σ H,W i m σ H->
   ((yo lo n).stop i H/\D.nx σ H)\/((yo lo n).go i H/\∃N:St->Hp->Prop,(∀σ' H',N σ' H'->∃m',m'<m/\W (i+1) m' σ' H')/\∀x H',(yo lo n).yld i H x H'->g x σ H' fun σ2 H2=>tb {D with nx:=N,ct:=N,bk:=D.nx} σ2 H2):=by
 refine ⟨fun i m σ H=>m=n - i/\i<=n/\Pv i σ H,⟨n,by simp,Nat.zero_le _,h0⟩,?_⟩;rintro i m σ H ⟨rfl,hi,p⟩;by_cases hlt:i<n
 ·
  refine .inr ⟨hlt,Pv (i+1),fun σ' H' p'=>⟨n - (i+1),by lia,rfl,hlt,p'⟩,fun x H' y=>?_⟩;obtain ⟨e,y⟩:=y;subst e y;exact hs i σ _ hlt p
 ·
  have e:i=n:=by lia
  subst e;exact .inl ⟨Nat.le_refl _,hd σ H p⟩
noncomputable abbrev R2:=V->V->Hp->VK->Prop
def ft (X:Cx) (f:Value->Value->Sem Value) (r:R2):Prop:=
 ∀(pins:List (Addr×Obj)) (s:Shared) (σ:St) (H:Hp) (x y:V) (v u:Value) (Q:VK),Inv X pins σ H s->RelV x v->RelV y u->r x y H Q->
  wpAny (model X.prog X.w) X.A (f v u) (EP X pins σ Q) X.xe s
def Ia (X:Cx) (f:Value->Sem Value) (r:V->Hp->VK->Prop):Prop:=
 ∀(pins:List (Addr×Obj)) (s:Shared) (σ:St) (H:Hp) (x:V) (v:Value) (Q:VK),Inv X pins σ H s->RelV x v->r x H Q->
  wpAny (model X.prog X.w) X.A (f v) (EP X pins σ Q) X.xe s
def bw (X:Cx) (f:Value) (r:List V->Hp->VK->Prop):Prop:=
 ∀(pins:List (Addr×Obj)) (s:Shared) (σ:St) (H:Hp) (xs:List V) (us:List Value) (Q:VK),Inv X pins σ H s->Vals xs us->r xs H Q->
  wpAny (model X.prog X.w) X.A (call f us) (EP X pins σ Q) X.xe s
def yC (r:R2) (ta tb:TE):TE:=fun σ H Q=>ta σ H fun x H1=>tb σ H1 fun y H2=>r x y H2 Q
def Ic (r:V->Hp->VK->Prop) (ta:TE):TE:=fun σ H Q=>ta σ H fun x H1=>r x H1 Q
def rI (C:Int->Int->Prop) (g:Int->Int->V):R2:=fun x y H Q=> ∃i j,x = .int i/\y = .int j/\C i j/\Q (g i j) H
def wH (g:Int->Int->V):R2:=fun x y H Q=> ∃i j,x = .int i/\y = .int j/\Q (g i j) H
def rU (g:Int->V):V->Hp->VK->Prop:=fun x H Q=> ∃i,x = .int i/\Q (g i) H
section
variable {X:Cx} {a b c:Expr} {ta tb tc:TE} {pos:Pos}
def CY (ha:PE X a ta) (hb:PE X b tb) {pins:List (Addr×Obj)} {s:Shared} {σ:St} {H:Hp} {R:V->V->Hp->Prop} (I:Inv X pins σ H s)
  (h:ta σ H fun x H1=>tb σ H1 fun y H2=>R x y H2) {Q:Value->Shared->Prop} {f:Value->Value->Sem Value}
  (hf: ∀v u s2 x y H2,Inv X pins σ H2 s2->RelV x v->RelV y u->R x y H2->wpAny (model X.prog X.w) X.A (f v u) Q X.xe s2):
  wpAny (model X.prog X.w) X.A (eval a X.env) (fun v s₁=>wpAny (model X.prog X.w) X.A (eval b X.env) (fun u s₂=>wpAny (model X.prog X.w) X.A (f v u) Q X.xe s₂) X.xe s₁) X.xe s:=by
 refine thn (ha pins s σ H _ I h) fun v s1 ⟨x,H1,I1,r1,q1⟩=>?_;refine thn (hb pins s1 σ H1 _ I1 q1) fun u s2 ⟨y,H2,I2,r2,q2⟩=>?_;exact hf v u s2 x y H2 I2 r1 r2 q2
def az {op:Operator} {r:R2} (ho:ft X (binaryOp op) r) (ha:PE X a ta) (hb:PE X b tb):PE X (.BinOp a op b pos) (yC r ta tb):=by
 intro pins s σ H Q I h;exact wpAny_BinOp (CY ha hb I h fun v u s2 x y H2 I2 rx ry q=>ho pins s2 σ H2 x y v u Q I2 rx ry q)
def wY {op:UnaryOp} {r:V->Hp->VK->Prop} (ho:Ia X (unaryOp op) r) (ha:PE X a ta):PE X (.UnaryOp op a pos) (Ic r ta):=by
 intro pins s σ H Q I h;exact UnaryOp_ (thn (ha pins s σ H _ I h) fun v s1 ⟨x,H1,I1,r1,q1⟩=>ho pins s1 σ H1 x v Q I1 r1 q1)
def As {f:Value->Value->Sem Value} {C:Int->Int->Prop} {g:Int->Int->Int}
  (rule: ∀(i j:Int) (t u:Tok) (s:Shared) (Q:Value->Shared->Prop) (E:Value->Shared->Prop),C i j->Q (.int (g i j) s.toks) {s with toks:=s.toks+1}->wpAny (model X.prog X.w) X.A (f (.int i t) (.int j u)) Q E s):
  ft X f (rI C fun i j=> .int (g i j)):=by
 intro pins s σ H x y v u Q I rx ry h;obtain ⟨i,j,rfl,rfl,hc,q⟩:=h;obtain ⟨t,rfl⟩:=rx;obtain ⟨t',rfl⟩:=ry;exact rule i j t t' s _ _ hc ⟨.int (g i j),H,I.tok _,⟨_,rfl⟩,q⟩
def xb {f:Value->Value->Sem Value} {g:Int->Int->Int}
  (rule: ∀(i j:Int) (t u:Tok) (s:Shared) (Q:Value->Shared->Prop) (E:Value->Shared->Prop),Q (.int (g i j) s.toks) {s with toks:=s.toks+1}->wpAny (model X.prog X.w) X.A (f (.int i t) (.int j u)) Q E s):
  ft X f (wH fun i j=> .int (g i j)):=by
 intro pins s σ H x y v u Q I rx ry h;obtain ⟨i,j,rfl,rfl,q⟩:=h;obtain ⟨t,rfl⟩:=rx;obtain ⟨t',rfl⟩:=ry;exact rule i j t t' s _ _ ⟨.int (g i j),H,I.tok _,⟨_,rfl⟩,q⟩
def Bp {f:Value->Value->Sem Value} {g:Int->Int->Bool}
  (rule: ∀(i j:Int) (t u:Tok) (s:Shared) (Q:Value->Shared->Prop) (E:Value->Shared->Prop),Q (.bool (g i j)) s->wpAny (model X.prog X.w) X.A (f (.int i t) (.int j u)) Q E s):
  ft X f (wH fun i j=> .bl (g i j)):=by
 intro pins s σ H x y v u Q I rx ry h;obtain ⟨i,j,rfl,rfl,q⟩:=h;obtain ⟨t,rfl⟩:=rx;obtain ⟨t',rfl⟩:=ry;exact rule i j t t' s _ _ ⟨.bl (g i j),H,I,rfl,q⟩
def Ab (i j:Int):Prop:=0<j/\j<1073741824
def yt (i j:Int):Prop:=(-(2 ^ 64)<i/\i<2 ^ 64)\/(-(2 ^ 64)<j/\j<2 ^ 64)
def yt.ok {i j:Int} (h:yt i j):IntMulOk i j:=by
 rcases h with ⟨h1,h2⟩|⟨h1,h2⟩
 ·exact .of_left (intBits_le_64 h1 h2)
 ·exact .of_right (intBits_le_64 h1 h2)
def rO (k:Nat):(0:Int)<=2 ^ k:=by
 rw [two_pow_cast];exact Int.natCast_nonneg _
def Bo:ft X (binaryOp .Add) (wH fun i j=> .int (i+j)):=xb fun _ _ _ _ _ _ _ q=>add_int q
def dR:ft X (binaryOp .Sub) (wH fun i j=> .int (i - j)):=xb fun _ _ _ _ _ _ _ q=>sub_int q
def gw:ft X (binaryOp .Mult) (rI yt fun i j=> .int (i*j)):=As fun _ _ _ _ _ _ _ hc q=>mul_int q hc.ok
def bP:ft X (binaryOp .FloorDiv) (rI Ab fun i j=> .int (i / j)):=As fun i j _ _ _ _ _ hc q=>by
 have h1:(0:Int)<j:=hc.1;have h2:j<1073741824:=hc.2;exact floordiv_int (by lia) (by rw [Int.fdiv_eq_ediv_of_nonneg i (by lia)];exact q) (.inl (PyProof.noPylong_small (by lia)))
def bu:ft X (binaryOp .Mod) (rI (fun _ j=>0<j) fun i j=> .int (i % j)):=As fun i j _ _ _ _ _ hc q=>by
 have h1:(0:Int)<j:=hc;exact mod_int' (by lia) (by rw [Int.fmod_eq_emod_of_nonneg i (by lia)];exact q)
def w_:ft X (binaryOp .RShift) (rI (fun _ j=>0<=j) fun i j=> .int (i / 2 ^ j.toNat)):=As fun i j _ _ _ _ _ hc q=>
 rshift_int hc (by rw [Int.fdiv_eq_ediv_of_nonneg i (rO _)];exact q)
def Bn:ft X (binaryOp .BitAnd) (wH fun i j=> .int (Builtin.bitAnd i j)):=xb fun _ _ _ _ _ _ _ q=>and_int q
def Ar:ft X (binaryOp .BitOr) (wH fun i j=> .int (Builtin.bitOr i j)):=xb fun _ _ _ _ _ _ _ q=>or_int q
def kU:ft X (inplaceOp .Add) (wH fun i j=> .int (i+j)):=xb fun _ _ _ _ _ _ _ q=>iadd_int q
def Jd {f:Value->Sem Value} {g:Int->Int}
  (rule: ∀(i:Int) (t:Tok) (s:Shared) (Q:Value->Shared->Prop) (E:Value->Shared->Prop),Q (.int (g i) s.toks) {s with toks:=s.toks+1}->wpAny (model X.prog X.w) X.A (f (.int i t)) Q E s):
  Ia X f (rU fun i=> .int (g i)):=by
 intro pins s σ H x v Q I rx h;obtain ⟨i,rfl,q⟩:=h;obtain ⟨t,rfl⟩:=rx;exact rule i t s _ _ ⟨.int (g i),H,I.tok _,⟨_,rfl⟩,q⟩
def rN:Ia X (unaryOp .USub) (rU fun i=> .int (-i)):=Jd fun _ _ _ _ _ q=>neg_int q
end
noncomputable def scal:V->V->Bool
 | .non,.non=>true | .non,.int _=>true | .int _,.non=>true | .non,.bl _=>true | .bl _,.non=>true | .non,.str _=>true | .str _,.non=>true
 | .int _,.int _=>true | .bl _,.bl _=>true | .str _,.str _=>true | .byt _,.byt _=>true
 | .int _,.str _=>true | .str _,.int _=>true | .bl _,.str _=>true | .str _,.bl _=>true
 |_,_=>false
def A7:R2:=fun x y H Q=>scal x y=true/\Q (.bl (decide (x=y))) H
def A2:R2:=fun x y H Q=>scal x y=true/\Q (.bl (!decide (x=y))) H
def tS {i j:Int}:decide (V.int i=V.int j)=(i == j):=by
 rw [Bool.eq_iff_iff];simp
def x3 {i j:Bool}:decide (V.bl i=V.bl j)=(i == j):=by
 rw [Bool.eq_iff_iff];simp
def tR {i j:Str}:decide (V.str i=V.str j)=(i == j):=by
 rw [Bool.eq_iff_iff];simp
def tT {i j:Array UInt8}:decide (V.byt i=V.byt j)=(i.toList == j.toList):=by
 rw [Bool.eq_iff_iff];cases i;cases j;simp
section
variable {X:Cx} {a b c:Expr} {ta tb tc:TE} {pos:Pos}
def bo {pins:List (Addr×Obj)} {σ:St} {H:Hp} {s:Shared} {Q:VK} {k k':Bool} (I:Inv X pins σ H s) (q:Q (.bl k) H) (e:k=k'):EP X pins σ Q (.bool k') s:=by
 subst e;exact ⟨.bl k,H,I,rfl,q⟩
def DC:ft X (compareOp .Eq) A7:=by
 intro pins s σ H x y v u Q I rx ry h;obtain ⟨hs,q⟩:=h;cases x with
 |non=>
  cases rx;cases y with
  |non=>cases ry;exact PySem.EqNone.eq_none_none (bo I q (by simp))
  |bl j=>cases ry;exact PySem.EqNone.eq_none_bool (bo I q (by simp))
  |int j=>obtain ⟨t',rfl⟩:=ry;exact PySem.EqNone.eq_none_int (bo I q (by simp))
  |str j=>obtain ⟨t',rfl⟩:=ry;exact PySem.EqNone.eq_none_str (bo I q (by simp))
  |_=>exact absurd (show false=true from hs) Bool.false_ne_true
 |bl i=>
  cases rx;cases y with
  |non=>cases ry;exact PySem.EqNone.eq_bool_none (bo I q (by simp))
  |bl j=>cases ry;exact eq_bool (bo I q x3)
  |str j=>obtain ⟨t',rfl⟩:=ry;exact PySem.EqMixed.eq_bool_str (bo I q (by simp))
  |_=>exact absurd (show false=true from hs) Bool.false_ne_true
 |int i=>
  obtain ⟨t,rfl⟩:=rx;cases y with
  |non=>cases ry;exact PySem.EqNone.eq_int_none (bo I q (by simp))
  |int j=>obtain ⟨t',rfl⟩:=ry;exact eq_int (bo I q tS)
  |str j=>obtain ⟨t',rfl⟩:=ry;exact PySem.EqMixed.eq_int_str (bo I q (by simp))
  |_=>exact absurd (show false=true from hs) Bool.false_ne_true
 |str i=>
  obtain ⟨t,rfl⟩:=rx;cases y with
  |non=>cases ry;exact PySem.EqNone.eq_str_none (bo I q (by simp))
  |bl j=>cases ry;exact PySem.EqMixed.eq_str_bool (bo I q (by simp))
  |int j=>obtain ⟨t',rfl⟩:=ry;exact PySem.EqMixed.eq_str_int (bo I q (by simp))
  |str j=>obtain ⟨t',rfl⟩:=ry;exact eq_str (bo I q tR)
  |_=>exact absurd (show false=true from hs) Bool.false_ne_true
 |byt i=>
  obtain ⟨t,rfl⟩:=rx;cases y with
  |byt j=>obtain ⟨t',rfl⟩:=ry;exact W.eq_bytes (bo I q tT)
  |_=>exact absurd (show false=true from hs) Bool.false_ne_true
 |_=>cases y<;>exact absurd (show false=true from hs) Bool.false_ne_true
def DB:ft X (compareOp .NotEq) A2:=by
 intro pins s σ H x y v u Q I rx ry h;obtain ⟨hs,q⟩:=h;cases x with
 |non=>
  cases rx;cases y with
  |non=>cases ry;exact PySem.EqNone.ne_none_none (bo I q (by simp))
  |bl j=>cases ry;exact PySem.EqNone.ne_none_bool (bo I q (by simp))
  |int j=>obtain ⟨t',rfl⟩:=ry;exact PySem.EqNone.ne_none_int (bo I q (by simp))
  |str j=>obtain ⟨t',rfl⟩:=ry;exact PySem.EqNone.ne_none_str (bo I q (by simp))
  |_=>exact absurd (show false=true from hs) Bool.false_ne_true
 |bl i=>
  cases rx;cases y with
  |non=>cases ry;exact PySem.EqNone.ne_bool_none (bo I q (by simp))
  |bl j=>cases ry;exact ne_bool (bo I q (congrArg not x3))
  |str j=>obtain ⟨t',rfl⟩:=ry;exact PySem.EqMixed.ne_bool_str (bo I q (by simp))
  |_=>exact absurd (show false=true from hs) Bool.false_ne_true
 |int i=>
  obtain ⟨t,rfl⟩:=rx;cases y with
  |non=>cases ry;exact PySem.EqNone.ne_int_none (bo I q (by simp))
  |int j=>obtain ⟨t',rfl⟩:=ry;exact ne_int (bo I q (congrArg not tS))
  |str j=>obtain ⟨t',rfl⟩:=ry;exact PySem.EqMixed.ne_int_str (bo I q (by simp))
  |_=>exact absurd (show false=true from hs) Bool.false_ne_true
 |str i=>
  obtain ⟨t,rfl⟩:=rx;cases y with
  |non=>cases ry;exact PySem.EqNone.ne_str_none (bo I q (by simp))
  |bl j=>cases ry;exact PySem.EqMixed.ne_str_bool (bo I q (by simp))
  |int j=>obtain ⟨t',rfl⟩:=ry;exact PySem.EqMixed.ne_str_int (bo I q (by simp))
  |str j=>obtain ⟨t',rfl⟩:=ry;exact ne_str (bo I q (congrArg not tR))
  |_=>exact absurd (show false=true from hs) Bool.false_ne_true
 |byt i=>
  obtain ⟨t,rfl⟩:=rx;cases y with
  |byt j=>obtain ⟨t',rfl⟩:=ry;exact W.ne_bytes (bo I q (congrArg not tT))
  |_=>exact absurd (show false=true from hs) Bool.false_ne_true
 |_=>cases y<;>exact absurd (show false=true from hs) Bool.false_ne_true
def d6:ft X (compareOp .Lt) (wH fun i j=> .bl (decide (i<j))):=Bp fun _ _ _ _ _ _ _ q=>lt_int q
def pP:ft X (compareOp .Gt) (wH fun i j=> .bl (decide (j<i))):=Bp fun _ _ _ _ _ _ _ q=>gt_int q
def pQ:ft X (compareOp .GtE) (wH fun i j=> .bl (decide (j<=i))):=Bp fun _ _ _ _ _ _ _ q=>ge_int q
def Bk:ft X (compareOp .Is) (fun x y H Q=>y = .non/\Q (.bl (decide (x = .non))) H):=by
 intro pins s σ H x y v u Q I rx ry h;obtain ⟨rfl,q⟩:=h;cases ry;refine is_none_gen (bo I q ?_);cases x<;>first
  |(cases rx;rfl)
  |(obtain ⟨t,rfl⟩:=rx;rfl)
def zp:ft X (compareOp .IsNot) (fun x y H Q=>y = .non/\Q (.bl (!decide (x = .non))) H):=by
 intro pins s σ H x y v u Q I rx ry h;obtain ⟨rfl,q⟩:=h;cases ry;refine isnot_none_gen (bo I q ?_);cases x<;>first
  |(cases rx;rfl)
  |(obtain ⟨t,rfl⟩:=rx;rfl)
def ft.or {f:Value->Value->Sem Value} {r r':R2} (h:ft X f r) (h':ft X f r'):ft X f (fun x y H Q=>r x y H Q\/r' x y H Q):=by
 intro pins s σ H x y v u Q I rx ry q;rcases q with q|q
 ·exact h pins s σ H x y v u Q I rx ry q
 ·exact h' pins s σ H x y v u Q I rx ry q
def nomark (b:Expr) {op:CmpOp} (h:op≠ .In:=by decide) (h2:op≠ .NotIn:=by decide):behindInMarks op b=false:=by
 have e1:(op == CmpOp.In)=false:=by cases op<;>first|rfl|exact absurd rfl h
 have e2:(op == CmpOp.NotIn)=false:=by cases op<;>first|rfl|exact absurd rfl h2
 cases b<;>simp [behindInMarks,e1,e2]
def dQ {op:CmpOp} {r:R2} (ho:ft X (compareOp op) r) (ha:PE X a ta) (hb:PE X b tb) (hm:behindInMarks op b=false):PE X (.Compare a [op] [b] pos) (yC r ta tb):=by
 intro pins s σ H Q I h;exact wpAny_Compare1 (CY ha hb I h fun v u s2 x y H2 I2 rx ry q=>ho pins s2 σ H2 x y v u Q I2 rx ry q) hm
def vK (t:TE):TT:=fun σ H Q=>t σ H fun x H'=> ∃k,x = .bl k/\Q k H'
def aI {op:CmpOp} {r:R2} (ho:ft X (compareOp op) r) (ha:PE X a ta) (hb:PE X b tb) (hm:behindInMarks op b=false):PT X (.Compare a [op] [b] pos) (vK (yC r ta tb)):=by
 intro pins s σ H Q I h;refine wpAny_isTrue_Compare1 (thn (ha pins s σ H _ I h) fun v s1 ⟨x,H1,I1,r1,q1⟩=>thn (hb pins s1 σ H1 _ I1 q1) fun u s2 ⟨y,H2,I2,r2,q2⟩=>
  thn (ho pins s2 σ H2 x y v u _ I2 r1 r2 q2) fun c s3 ⟨z,H3,I3,r3,k,e,q3⟩=>?_) hm
 subst e;cases r3;exact wpAny_truthy_bool ⟨H3,I3,q3⟩
def vT (r r':R2) (ta tb tc:TE):TE:=fun σ H Q=>ta σ H fun x H1=>tb σ H1 fun y H2=>r x y H2 fun z H3=> ∃k,z = .bl k/\
 (if k=true then tc σ H3 fun w' H4=>r' y w' H4 Q else Q (.bl false) H3)
def wW {op op':CmpOp} {r r':R2} (ho:ft X (compareOp op) r) (ho':ft X (compareOp op') r') (ha:PE X a ta) (hb:PE X b tb) (hc:PE X c tc)
  (hm:lastMarks [op,op'] [b,c]=false:=by with_unfolding_all rfl):PT X (.Compare a [op,op'] [b,c] pos) (vK (vT r r' ta tb tc)):=by
 intro pins s σ H Q I h;refine isTrue_chain (thn (ha pins s σ H _ I h) fun v s1 ⟨x,H1,I1,r1,q1⟩=>test_link (thn (hb pins s1 σ H1 _ I1 q1) fun u s2 ⟨y,H2,I2,r2,q2⟩=>
  thn (ho pins s2 σ H2 x y v u _ I2 r1 r2 q2) fun d s3 ⟨z,H3,I3,r3,k,e,q3⟩=>?_)) hm
 subst e;cases r3;refine wpAny_truthy_bool ?_;cases k with
 |false=>
  obtain ⟨k',e',q'⟩:=q3;cases e';exact ite_ff ⟨H3,I3,q'⟩
 |true=>
  refine ite_tt (test_last (thn (hc pins s3 σ H3 _ I3 q3) fun w' s4 ⟨z',H4,I4,r4,q4⟩=>thn (ho' pins s4 σ H4 y z' u w' _ I4 r2 r4 q4) fun d' s5 ⟨z2,H5,I5,r5,k2,e2,q5⟩=>?_));subst e2;cases r5;exact wpAny_truthy_bool ⟨H5,I5,q5⟩
def nR:(sizeLine:Nat)<2 ^ 63:=by rw [sizeLine_eq];decide
def sf:ft X (binaryOp .Add) (fun x y H Q=> ∃i j,x = .str i/\y = .str j/\i.length+j.length<=sizeLine/\Q (.str (i++j)) H):=by
 intro pins s σ H x y v u Q I rx ry h;obtain ⟨i,j,rfl,rfl,hz,q⟩:=h;obtain ⟨t,rfl⟩:=rx;obtain ⟨t',rfl⟩:=ry;exact add_str (fun t' tk=>⟨.str (i++j),H,I.tok _,⟨_,rfl⟩,q⟩) hz
def vals1 {x:V} {us:List Value} (r:Vals [x] us): ∃u,us= [u]/\RelV x u:=by
 cases r with
 |cons r1 r2=>cases r2;exact ⟨_,rfl,r1⟩
def vals2 {x y:V} {us:List Value} (r:Vals [x,y] us): ∃u w',us= [u,w']/\RelV x u/\RelV y w':=by
 cases r with
 |cons r1 r2=>
  cases r2 with
  |cons r3 r4=>cases r4;exact ⟨_,_,rfl,r1,r3⟩
def yf:bw X (.builtin "abs") (fun xs H Q=> ∃i,xs= [.int i]/\Q (.int (if i<0 then -i else i)) H):=by
 intro pins s σ H xs us Q I r h;obtain ⟨i,rfl,q⟩:=h;obtain ⟨u,rfl,t,rfl⟩:=vals1 r;exact call_abs_int fun u tk=>⟨.int (if i<0 then -i else i),H,I.tok _,⟨_,rfl⟩,q⟩
def vA (hc:X.calm=true):bw X (.builtin "max") (fun xs H Q=> ∃i j,xs= [.int i,.int j]/\Q (.int (if j > i then j else i)) H):=by
 intro pins s σ H xs us Q I r h;obtain ⟨i,j,rfl,q⟩:=h;obtain ⟨u,w',rfl,⟨t,rfl⟩,⟨t',rfl⟩⟩:=vals2 r;refine max_two_ints (I.ok.hd hc) fun h' tk k=>⟨_,H,I.kept k,?_,q⟩;by_cases hj:j > i
 ·rw [if_pos hj,if_pos hj];exact ⟨_,rfl⟩
 ·rw [if_neg hj,if_neg hj];exact ⟨_,rfl⟩
def vz (hc:X.calm=true):bw X (.builtin "min") (fun xs H Q=> ∃i j,xs= [.int i,.int j]/\Q (.int (if j<i then j else i)) H):=by
 intro pins s σ H xs us Q I r h;obtain ⟨i,j,rfl,q⟩:=h;obtain ⟨u,w',rfl,⟨t,rfl⟩,⟨t',rfl⟩⟩:=vals2 r;refine min_two_ints (I.ok.hd hc) fun h' tk k=>⟨_,H,I.kept k,?_,q⟩;by_cases hj:j<i
 ·rw [if_pos hj,if_pos hj];exact ⟨_,rfl⟩
 ·rw [if_neg hj,if_neg hj];exact ⟨_,rfl⟩
def vE:bw X (.type "int") (fun xs H Q=>(∃i,xs= [.int i]/\Q (.int i) H)\/∃k,xs= [.bl k]/\Q (.int (if k then 1 else 0)) H):=by
 intro pins s σ H xs us Q I r h;rcases h with ⟨i,rfl,q⟩|⟨k,rfl,q⟩
 ·
  obtain ⟨u,rfl,t,rfl⟩:=vals1 r;exact call_int_int ⟨.int i,H,I,⟨_,rfl⟩,q⟩
 ·
  obtain ⟨u,rfl,r1⟩:=vals1 r;cases r1;exact call_int_bool ⟨.int (if k then 1 else 0),H,I.tok _,⟨_,rfl⟩,q⟩
end
structure sM (h:Heap) (x dx C:Addr) (mA:Str->Option Value):Prop where
 obj:h.get? x=some (W.instObj C dx)
 ns:h.Ns1 dx mA
 ne:dx≠x
def ve {h:Heap} {dx:Addr} {mA:Str->Option Value} (n:h.Ns1 dx mA): ∃od,h.get? dx=some od/\∀name,W.lookIn name od=some (mA name):=by
 obtain ⟨o,es,ep,ho,hd,hk,_,hm⟩:=n;refine ⟨o,ho,fun name=>?_⟩;have e:=hm name;unfold nsFind findBy at e;rw [<-Array.find?_toList] at e;unfold W.lookIn;rw [hd];dsimp only;split
 ·
  rename_i y q;rw [q] at e;exact congrArg some e
 ·
  rename_i q;rw [q] at e;have a:es.toList.any (·.refKey)=false:=by
   rw [List.any_eq_false];intro y hy;obtain ⟨z,t,hkey⟩:=hk y (Array.mem_toList_iff.mp hy);simp [DictEntry.refKey,hkey]
  have a': ¬es.toList.any (·.refKey)=true:=by rw [a];exact Bool.false_ne_true
  rw [if_neg a'];exact congrArg some e
def sM.look {h:Heap} {x dx C:Addr} {mA:Str->Option Value} (I:sM h x dx C mA): ∃od,W.InstAt h x (W.instObj C dx) C (some od)/\∀name,W.lookIn name od=some (mA name):=
 let ⟨od,ho,hl⟩:=ve I.ns
 ⟨od,⟨I.obj,rfl,rfl,ho⟩,hl⟩
section
variable {prog:Program} {w:World} {A:Around} {E:Value->Shared->Prop} {s:Shared} {K:W.Frag} {x dx C f:Addr} {mA:Str->Option Value} {name:Str} {v:Value}
def get_map {expr:Bool} {Q:Value->Shared->Prop} (X:K.In s.heap) (I:sM s.heap x dx C mA) (hg:W.plainGet K C name=true) (hh:W.hasDictIn K C=true)
  (ha:W.findIn K (.ref C) name=some none) (hv:mA name=some v) (hv':W.handedIn v=true) (h:Q v {s with toks:=s.toks+1}):
  wpAny (model prog w) A (getAttr (.ref x) name expr) Q E s:=by
 obtain ⟨od,J,hl⟩:=I.look;exact W.get_value X J (W.plainGet_of hg).1 (W.findObj_own hh ha rfl (by rw [hl,hv])) hv' h
def xN {pl:Sem Bool} {Q:Value×List Value->Shared->Prop} (X:K.In s.heap) (I:sM s.heap x dx C mA) (hg:W.plainGet K C name=true)
  (hf:W.findIn K (.ref C) name=some (some (.ref f))) (ht:W.isFn K (.ref f)=true) (hv:mA name=none) (h:Q (.ref f,[.ref x]) s):
  wpAny (model prog w) A (getMethod (.ref x) name pl) Q E s:=by
 obtain ⟨od,J,hl⟩:=I.look;exact W.method_fn X J (W.plainGet_of hg).1 (W.plainGet_of hg).2 hf (beq_iff_eq.mp ht) (by show (W.lookIn name od).map (·.isSome)=some false;rw [hl,hv];rfl) h
def yG {ns:List Str} {Q:Unit->Shared->Prop} (X:K.In s.heap) (I:sM s.heap x dx C mA)
  (hs:W.findIn K (.ref C) "__setattr__" = some (some (.builtin "object.__setattr__"))) (hp:W.plainOver K C=true) (ht:W.takerIn K C name=some none) (hh:W.hasDictIn K C=true)
  (hw:PySem.Within mA ns) (hsz:ns.length<=sizeLine)
  (h: ∀h',sM h' x dx C (fun y=>if y=name then some v else mA y)->Heap.SameBut dx s.heap h'->Q () {s with heap:=h',toks:=s.toks+2}):
  wpAny (model prog w) A (setAttr (.ref x) name v) Q E s:=by
 obtain ⟨od,J,hl⟩:=I.look;refine W.set_plain X J hs (W.osa_open (s:={s with toks:=s.toks+1}) (r:=none) X J hp ht fun b=>?_);obtain ⟨cd,hc,hd'⟩:=W.any_some hh;have hx:s.heap.get? x=some ⟨.ref C,some dx,.plain,#[]⟩:=I.obj;refine wpAny_bind (wpAny_pure (wpAny_bind (wpAny_bind (wpAny_loadPart hx (wpAny_bind (W.Looks.here (s:={s with toks:=s.toks+1}) (W.looks_clsIn X hc) ?_))))));rw [hd'];refine wpAny_pure (a:=some dx) (wpAny_bind (wpAny_pure (wpAny_bind ?_)));refine wpAny_nsSet1 (s:={s with toks:=s.toks+1}) I.ns fun h' hn2 hs2=>?_;obtain ⟨oD,esD,epD,hoD,hdD,hcD⟩:=hn2.count (PySem.Within.cons name v hw);refine wpAny_bind (wpAny_lookBehind hoD (by rw [hdD];exact pastItsLine_dict (Nat.le_trans hcD (by rw [List.length_cons];lia))) ?_);exact wpAny_pure (h _ ⟨(hs2.2 _ (Ne.symm I.ne)).trans I.obj,hn2,I.ne⟩ hs2)
def xh {R:Result->Shared->Prop} {vs:List Value} {kw:List (Str×Value)} (X:K.In s.heap) (hm:W.makesIn K C=true)
  (hi:W.findIn K (.ref C) "__init__" = some (some (.ref f))) (hf:W.typeIn K (.ref f)=some (.type "function"))
  (
   h:codeAny (model prog w) (A.under (.builtin "type.__call__" ⟨.ref C::vs,kw⟩)) (.call (.ref f) ⟨.ref (s.heap.objs.size+1)::vs,kw⟩) (W.InitBack (s.heap.objs.size+1) R)
   {s with heap:=(s.heap.push W.emptyDict).push (W.instObj C s.heap.objs.size)}):
  codeAny (model prog w) A (.call (.ref C) ⟨vs,kw⟩) R s:=by
 obtain ⟨hh,g,d,t,os⟩:=s;exact W.make_core (W.makes_of X hm) (W.looks_findIn X hi) (fun self=>W.bind_fn X self hf) (.inl rfl) h
end
noncomputable def bD (f:Str) (v:V):List (Str×V)->List (Str×V)
 | []=>[(f,v)]
 |(g,x)::r=>if g=f then (g,v)::r else (g,x)::bD f v r
def mr (f g:Str) (v:V): ∀fs:List (Str×V),(bD f v fs).lookup g=if g=f then some v else fs.lookup g
 | []=>by
  show List.lookup g [(f,v)]=_;by_cases h:g=f
  ·
   have hb:(g == f)=true:=beq_iff_eq.mpr h;simp only [List.lookup,hb,if_pos h]
  ·
   have hb:(g == f)=false:=beq_eq_false_iff_ne.mpr h;simp only [List.lookup,hb,if_neg h]
 |(k,x)::r=>by
  have ih:=mr f g v r;rw [show bD f v ((k,x)::r)=(if k=f then (k,v)::r else (k,x)::bD f v r) from rfl];by_cases hk:k=f
  ·
   rw [if_pos hk];by_cases h:g=k
   ·
    have hb:(g == k)=true:=beq_iff_eq.mpr h;simp only [List.lookup,hb,if_pos (h.trans hk)]
   ·
    have hb:(g == k)=false:=beq_eq_false_iff_ne.mpr h;simp only [List.lookup,hb,if_neg (fun e:g=f=>h (e.trans hk.symm))]
  ·
   rw [if_neg hk];by_cases h:g=k
   ·
    have hb:(g == k)=true:=beq_iff_eq.mpr h;simp only [List.lookup,hb,if_neg (fun e:g=f=>hk (h.symm.trans e))]
   ·
    have hb:(g == k)=false:=beq_eq_false_iff_ne.mpr h;simp only [List.lookup,hb];exact ih
def lP (f:Str) (v:V): ∀fs:List (Str×V),f∈(bD f v fs).map (·.1)/\∀g,g∈fs.map (·.1)->g∈(bD f v fs).map (·.1)
 | []=>⟨by simp [bD],fun g h=>by simp at h⟩
 |(k,x)::r=>by
  obtain ⟨i1,i2⟩:=lP f v r;rw [show bD f v ((k,x)::r)=(if k=f then (k,v)::r else (k,x)::bD f v r) from rfl];by_cases hk:k=f
  ·
   rw [if_pos hk];subst hk;exact ⟨by simp,fun g h=>by simpa using h⟩
  ·
   rw [if_neg hk];refine ⟨?_,fun g h=>?_⟩
   ·
    rw [List.map_cons];exact List.mem_cons_of_mem _ i1
   ·
    rw [List.map_cons] at h⊢;rcases List.mem_cons.mp h with e|e
    ·exact List.mem_cons.mpr (.inl e)
    ·exact List.mem_cons_of_mem _ (i2 g e)
def mv (f:Str) (v:V): ∀fs:List (Str×V),(bD f v fs).length<=fs.length+1
 | []=>by simp [bD]
 |(k,x)::r=>by
  have ih:=mv f v r;rw [show bD f v ((k,x)::r)=(if k=f then (k,v)::r else (k,x)::bD f v r) from rfl];by_cases hk:k=f
  ·rw [if_pos hk,List.length_cons,List.length_cons];lia
  ·rw [if_neg hk,List.length_cons,List.length_cons];lia
def iQ.some_of {v:V} {o:Option Value} (r:iQ (some v) o): ∃u,o=some u/\RelV v u:=by
 cases o with
 |none=>exact (show False from r).elim
 |some u=>exact ⟨u,rfl,r⟩
def iQ.none_of {o:Option Value} (r:iQ none o):o=none:=by
 cases o with
 |none=>rfl
 |some u=>exact (show False from r).elim
def vo {v:V} {u:Value} (r:RelV v u):W.handedIn u=true:=by
 cases v with
 |non=>cases (show u=Value.none from r);rfl
 |bl b=>cases (show u=Value.bool b from r);rfl
 |int i=>obtain ⟨t,e⟩:=(show∃t,u=Value.int i t from r);cases e;rfl
 |str x=>obtain ⟨t,e⟩:=(show∃t,u=Value.str x t from r);cases e;rfl
 |byt b=>obtain ⟨t,e⟩:=(show∃t,u=Value.bytes b t from r);cases e;rfl
 |flt b=>obtain ⟨t,e⟩:=(show∃t,u=Value.float b t from r);cases e;rfl
 |ref a=>cases (show u=Value.ref a from r);rfl
 |ty n=>cases (show u=Value.type n from r);rfl
section
variable {P:Program} {w:World} {H H':Hp} {h h':Heap} {a C dx:Addr} {fs fs':List (Str×V)}
def nh (hok:kI P w H h) (e:H a=some (.ins C dx fs)): ∃mA,sM h a dx C mA/\(∀f,iQ (fs.lookup f) (mA f))/\PySem.Within mA (fs.map (·.1))/\fs.length<=1000/\H dx=some (.own a):=by
 obtain ⟨d,z,ne,ob,mA,n,r,q⟩:=(show bK P w H h a (.ins C dx fs) from hok a _ e);exact ⟨mA,⟨ob,n,ne⟩,r,q,z,d⟩
end
structure C2 (K:W.Frag) (C:Addr):Prop where
 pg:W.plainGet K C Str.empty=true
 hd:W.hasDictIn K C=true
 po:W.plainOver K C=true
 sa:W.findIn K (.ref C) "__setattr__" = some (some (.builtin "object.__setattr__"))
def C2.get {K:W.Frag} {C:Addr} (c:C2 K C) (f:Str):W.plainGet K C f=true:=c.pg
def bx (K:W.Frag) (C:Addr) (f:Str):Prop:=W.findIn K (.ref C) f=some none
def bx.taker {K:W.Frag} {C:Addr} {f:Str} (n:bx K C f):W.takerIn K C f=some none:=by
 unfold W.takerIn;rw [show W.findIn K (.ref C) f=some none from n];rfl
structure Meth (K:W.Frag) (C:Addr) (m:Str) (f:Addr):Prop where
 at_:W.findIn K (.ref C) m=some (some (.ref f))
 fn:W.isFn K (.ref f)=true
 kp:W.keepIn K (.ref f)=true
section
variable {X:Cx} {pins:List (Addr×Obj)} {σ:St} {H:Hp} {s:Shared} {a C dx:Addr} {fs:List (Str×V)} {f:Str} {v:V} {A:Around} {E:Value->Shared->Prop}
def nX {b:Bool} {Q:Value->Shared->Prop} (I:Inv X pins σ H s) (e:H a=some (.ins C dx fs)) (c:C2 X.K C) (n:bx X.K C f) (l:fs.lookup f=some v)
  (h: ∀u s',Inv X pins σ H s'->RelV v u->Q u s'):wpAny (model X.prog X.w) A (getAttr (.ref a) f b) Q E s:=by
 obtain ⟨mA,O,r,_,_,_⟩:=nh I.hok e;obtain ⟨u,hu,ru⟩:=iQ.some_of (v:=v) (o:=mA f) (by rw [<-l];exact r f);exact get_map I.mF O (c.get f) c.hd n hu (vo ru) (h u _ (I.tok _) ru)
def nW {m:Str} {g:Addr} {pl:Sem Bool} {Q:Value×List Value->Shared->Prop} (I:Inv X pins σ H s) (e:H a=some (.ins C dx fs)) (c:C2 X.K C) (k:Meth X.K C m g) (l:fs.lookup m=none)
  (h:Q (.ref g,[.ref a]) s):wpAny (model X.prog X.w) A (getMethod (.ref a) m pl) Q E s:=by
 obtain ⟨mA,O,r,_,_,_⟩:=nh I.hok e;have hn:mA m=none:=iQ.none_of (by rw [<-l];exact r m);exact xN I.mF O (c.get m) k.at_ k.fn hn h
def nE {y:V} {u:Value} {Q:Unit->Shared->Prop} (I:Inv X pins σ H s) (e:H a=some (.ins C dx fs)) (c:C2 X.K C) (n:bx X.K C f) (hl:fs.length<1000) (ry:RelV y u)
  (h: ∀s',Inv X pins σ (upd H a (.ins C dx (bD f y fs))) s'->Q () s'):wpAny (model X.prog X.w) A (setAttr (.ref a) f u) Q E s:=by
 obtain ⟨mA,O,r,wi,_,ho⟩:=nh I.hok e;have hz:(fs.map (·.1)).length<=sizeLine:=by rw [List.length_map,sizeLine_eq];lia
 refine yG I.mF O c.sa c.po n.taker c.hd wi hz fun h' O' sb=>h _ ?_;have hd: ∃o,h'.get? dx=some o:=let ⟨o,_,_,e',_⟩:=O'.ns;⟨o,e'⟩;refine I.write (x:=a) (e:=dx) (by rw [e];exact True.intro) (.inr ho) (fun b q hb z=>(sb.2 b hb).trans z) hd ?_;refine ⟨by rw [af O.ne];exact ho,?_,O.ne,O'.obj,_,O'.ns,fun g=>?_,fun g hg=>?_⟩
 ·have:=mv f y fs;lia
 ·
  show iQ ((bD f y fs).lookup g) (if g=f then some u else mA g);rw [mr];by_cases q:g=f
  ·rw [if_pos q,if_pos q];exact ry
  ·rw [if_neg q,if_neg q];exact r g
 ·
  by_cases q:g=f
  ·rw [q];exact (lP f y fs).1
  ·
   refine (lP f y fs).2 g (wi g fun z=>hg ?_);show (if g=f then some u else mA g)=none;rw [if_neg q];exact z
def Inv.made (I:Inv X pins σ H s):Inv X pins σ (upd (upd H s.heap.objs.size (.own (s.heap.objs.size+1))) (s.heap.objs.size+1) (.ins C s.heap.objs.size []))
  {s with heap:=(s.heap.push W.emptyDict).push (W.instObj C s.heap.objs.size)}:=by
 have e1:(s.heap.push W.emptyDict).get? s.heap.objs.size=some W.emptyDict:=Heap.get?_push_size s.heap rfl;have e2:((s.heap.push W.emptyDict).push (W.instObj C s.heap.objs.size)).get? (s.heap.objs.size+1)=some (W.instObj C s.heap.objs.size):=by
  have:=Heap.get?_push_size (s.heap.push W.emptyDict) (o:=W.instObj C s.heap.objs.size) rfl;rwa [Heap.size_push] at this
 have e3:(s.heap.push W.emptyDict).Ns s.heap.objs.size (fun _=>none):=⟨W.emptyDict,#[],_,e1,rfl,(fun e he=>absurd he (by simp)),fun _=>rfl⟩;have I1:=I.laid (a:=s.heap.objs.size) (o:= .own (s.heap.objs.size+1)) (h':=s.heap.push W.emptyDict) (t':=s.toks) (fun b u q=>Heap.get?_push_of_some _ q) (Nat.le_refl _) ⟨_,e1⟩;refine I1.laid (a:=s.heap.objs.size+1) (o:= .ins C s.heap.objs.size []) (t':=s.toks) (fun b u q=>Heap.get?_push_of_some _ q) (Nat.le_of_eq (Heap.size_push _ _)) ?_;have ne:s.heap.objs.size≠s.heap.objs.size+1:=Nat.ne_of_lt (Nat.lt_succ_self _);refine ⟨by rw [af ne,ax],Nat.zero_le _,ne,e2,fun _=>none,(Heap.Ns1.of_empty e3).at fun o q=>Heap.get?_push_of_some _ q,fun _=>True.intro,fun y hy=>absurd rfl hy⟩
def z6 {prog:Program} {w:World} {env:Env} {e:Expr} {f:Str} {pos:Pos} {s:Shared} {Q:Value->Shared->Prop} (hb:attributeBase e f env (eval e env)=eval e env)
  (h:wpAny (model prog w) A (eval e env) (fun o s₁=>wpAny (model prog w) A (getAttr o f true) Q E s₁) E s):wpAny (model prog w) A (eval (.Attribute e f pos) env) Q E s:=
 Attribute_any_ h (by rw [arm_eval_Attribute,hb])
end
section
variable {X:Cx} {o e value:Expr} {f:Str} {pos pos' tpos:Pos} {ta tv:TE}
end
section
variable {X:Cx} {pins:List (Addr×Obj)} {σ:St} {H:Hp} {s:Shared} {A:Around} {E:Value->Shared->Prop} {Q:Value->Shared->Prop} {c:Value} {b:Bool}
inductive lu (K:W.Frag) (H:Hp):V->Value->Prop where
 |non:lu K H .non (.type "NoneType")
 |bl (x:Bool):lu K H (.bl x) (.type "bool")
 |int (i:Int):lu K H (.int i) (.type "int")
 |str (x:Str):lu K H (.str x) (.type "str")
 |flt (x:UInt64):lu K H (.flt x) (.type "float")
 |lst {a:Addr} {xs:List V} (e:H a=some (.lst xs)):lu K H (.ref a) (.type "list")
 |frz {a:Addr} {o:Obj} {xs:List V} (e:H a=some (.frz o (.lst xs))):lu K H (.ref a) (.type "list")
 |tup {a:Addr} {xs:List V} (e:H a=some (.tup xs)):lu K H (.ref a) (.type "tuple")
 |dK {a:Addr} {kvs:List (Key×V)} (e:H a=some (.dK kvs)):lu K H (.ref a) (.type "dict")
 |dT {a:Addr} {kvs:List (List Key×V)} (e:H a=some (.dT kvs)):lu K H (.ref a) (.type "dict")
 |
   ins {a C dx:Addr} {fs:List (Str×V)} (e:H a=some (.ins C dx fs)) (cl:C2 K C) (ha:W.findIn K (.ref C) "__class__" = some (some (.builtin "object.__class__")))
   (hn:W.specialIn K (.builtin "object.__class__") "__get__" = some (some (.builtin "getset_descriptor.__get__"))) (htk:W.takesIn K (.builtin "object.__class__")=some true)
   (hm:W.mroIn K C (.type "object")=some true):lu K H (.ref a) (.ref C)
def vj {x:V} {u t:Value} (I:Inv X pins σ H s) (rx:RelV x u) (ty:lu X.K H x t) (e:W.kitOne X.K t c=some b) (h: ∀tk,Q (.bool b) {s with toks:=tk}):
  wpAny (model X.prog X.w) A (call (.builtin "isinstance") [u,c]) Q E s:=by
 cases ty with
 |non=>cases (show u=Value.none from rx);exact W.kia_one W.kitx_none I.mF True.intro e (fun z=>nomatch z) h
 |bl y=>cases (show u=Value.bool y from rx);exact W.kia_one W.kitx_bool I.mF True.intro e (fun z=>nomatch z) h
 |int i=>obtain ⟨t,q⟩:=(show∃t,u=Value.int i t from rx);cases q;exact W.kia_one W.kitx_int I.mF True.intro e (fun z=>nomatch z) h
 |str y=>obtain ⟨t,q⟩:=(show∃t,u=Value.str y t from rx);cases q;exact W.kia_one W.kitx_str I.mF True.intro e (fun z=>nomatch z) h
 |flt y=>obtain ⟨t,q⟩:=(show∃t,u=Value.float y t from rx);cases q;exact W.kia_one W.kitx_float I.mF True.intro e (fun z=>nomatch z) h
 | @lst a xs ea=>
  cases (show u=Value.ref a from rx);obtain ⟨_,_,n,_,h1⟩:=(show bK X.prog X.w H s.heap a (.lst xs) from I.hok a _ ea);exact W.kia_one W.kitx_list I.mF ⟨_,h1,rfl⟩ e (fun z=>nomatch z) h
 | @frz a ob xs ea=>
  cases (show u=Value.ref a from rx);obtain ⟨_,_,_,n,_,h1⟩:=(show bK X.prog X.w H s.heap a (.frz ob (.lst xs)) from I.hok a _ ea);exact W.kia_one W.kitx_list I.mF ⟨_,h1,rfl⟩ e (fun z=>nomatch z) h
 | @tup a xs ea=>
  cases (show u=Value.ref a from rx);obtain ⟨_,_,_,p⟩:=(show bK X.prog X.w H s.heap a (.tup xs) from I.hok a _ ea);obtain ⟨o,h1,h2,_⟩:=p;exact W.kia_one W.kitx_tuple I.mF ⟨o,h1,h2⟩ e (fun z=>nomatch z) h
 | @dK a kvs ea=>
  cases (show u=Value.ref a from rx);obtain ⟨_,_,vs,_,p⟩:=(show bK X.prog X.w H s.heap a (.dK kvs) from I.hok a _ ea);obtain ⟨o,es,ep,h1,h2,_⟩:=p;exact W.kia_one W.kitx_dict I.mF ⟨o,h1,h2.1⟩ e (fun z=>nomatch z) h
 | @dT a kvs ea=>
  cases (show u=Value.ref a from rx);obtain ⟨_,_,xs,_,o,es,ep,h1,h2,_⟩:=(show bK X.prog X.w H s.heap a (.dT kvs) from I.hok a _ ea);exact W.kia_one W.kitx_dict I.mF ⟨o,h1,h2.1⟩ e (fun z=>nomatch z) h
 | @ins a C dx fs ea cl ha hn htk hm=>
  cases (show u=Value.ref a from rx);obtain ⟨mA,O,_⟩:=nh I.hok ea;obtain ⟨od,J,_⟩:=O.look;exact W.kia_one (W.kitx_own (cl.get _) cl.hd ha hn htk hm) I.mF J e (fun z=>nomatch z) h
end
structure dH (k:Nat) (A:Around):Prop where
 hd:A.handled=none
 dp:A.depth+3*k+5<recursionLimit
 un:A.units+16*k+200<cLine
def dH.mono {j k:Nat} {A:Around} (r:dH k A) (h:j<=k):dH j A:=⟨r.hd,by have:=r.dp;lia,by have:=r.un;lia⟩
def dH.deeper {k:Nat} {A:Around} (r:dH (k+1) A) (env:Env):dH k (A.deeper env):=
 ⟨r.hd,by have:=r.dp;show A.depth+1+3*k+5<_;lia,by have:=r.un;show A.units+3+16*k+200<_;lia⟩
def so {A:Around} {C:Addr} {us:List Value} {kw:List (Str×Value)}:(A.under (.builtin "type.__call__" ⟨.ref C::us,kw⟩)).depth=A.depth+1:=by
 first|rfl|simp [Around.under,Code.weight,Code.isCreation,Code.isGuard,Code.isCaller,Code.frames,Code.isFrame,guardIds]
def sj {A:Around} {C:Addr} {us:List Value} {kw:List (Str×Value)}:(A.under (.builtin "type.__call__" ⟨.ref C::us,kw⟩)).units=A.units+1:=by
 first|rfl|simp [Around.under,Code.cUnits,Code.frames,Code.isFrame]
def dH.make {k:Nat} {A:Around} (r:dH (k+1) A) (C:Addr) (us:List Value) (kw:List (Str×Value)):dH k (A.under (.builtin "type.__call__" ⟨.ref C::us,kw⟩)):=
 ⟨r.hd,by have:=r.dp;rw [so];lia,by have:=r.un;rw [sj];lia⟩
def dH.depth {k:Nat} {A:Around} (r:dH k A):A.depth<recursionLimit:=by have:=r.dp;lia
def dH.units {k:Nat} {A:Around} (r:dH k A):A.units+64<cLine:=by have:=r.un;lia
def vL:TA:=fun _ H Q=>Q [] H
def qW (ta:TE) (tr:TA):TA:=fun σ H Q=>ta σ H fun x H1=>tr σ H1 fun xs H2=>Q (x::xs) H2
section
variable {X:Cx} {e:Expr} {es:List Expr} {te:TE} {t:TA} {pos:Pos}
def aA:PA X [] vL:=fun _ _ _ _ H Q I h=>Calls.spliced_nil ⟨[],H,I,.nil,h⟩
def tG (ha:PE X e te) (hr:PA X es t) (hs:starEach (e::es) X.env=(false,eval e X.env)::starEach es X.env:=by rfl):PA X (e::es) (qW te t):=by
 intro pos pins s σ H Q I h;rw [hs];show wpAny _ _ (spliced ((false,eval e X.env)::backTo pos (starEach es X.env))) _ _ s;refine Calls.spliced_cons (thn (ha pins s σ H _ I h) fun u s1 ⟨x,H1,I1,r1,q1⟩=>?_);exact thn (hr pos pins s1 σ H1 _ I1 q1) fun us s2 ⟨xs,H2,I2,r2,q2⟩=>⟨x::xs,H2,I2,.cons r1 r2,q2⟩
def C7 (t:TA):TE:=fun σ H Q=>t σ H fun xs H1=>xs.length<=sizeLine/\∀p,H1 p=none->Q (.ref p) (upd H1 p (.tup xs))
def C9 (t:TA):TE:=fun σ H Q=>t σ H fun xs H1=>xs.length<=sizeLine/\∀p,H1 p=none->Q (.ref p) (upd H1 p (.lst xs))
def dt {x1} (h:PA X es t):PE X (.Tuple es x1 pos) (C7 t):=by
 intro pins s σ H Q I hq;refine wpAny_Tuple_spliced (thn (h pos pins s σ H _ I hq) fun us s1 ⟨xs,H1,I1,r,z,q⟩=>⟨by rw [<-r.length];exact z,?_⟩);have hf:H1 s1.heap.objs.size=none:=I1.hok.fresh (Nat.le_refl _);refine ⟨.ref s1.heap.objs.size,upd H1 s1.heap.objs.size (.tup xs),I1.laid (t':=s1.toks) (fun b u e=>Heap.get?_push_of_some _ e) (Nat.le_refl _) ?_,rfl,q _ hf⟩;exact ⟨z,us,r,⟨_,Heap.get?_push_size _ rfl,rfl,_,rfl⟩⟩
def nM (h:PA X es t):PE X (.List es pos) (C9 t):=by
 intro pins s σ H Q I hq;refine wpAny_List_spliced (thn (h pos pins s σ H _ I hq) fun us s1 ⟨xs,H1,I1,r,z,q⟩=>⟨by rw [<-r.length];exact z,?_⟩);have hf:H1 s1.heap.objs.size=none:=I1.hok.fresh (Nat.le_refl _);refine ⟨.ref s1.heap.objs.size,upd H1 s1.heap.objs.size (.lst xs),I1.laid (t':=s1.toks) (fun b u e=>Heap.get?_push_of_some _ e) (Nat.le_refl _) ?_,rfl,q _ hf⟩;exact ⟨z,us,0,r,Heap.get?_push_size _ rfl⟩
end
noncomputable abbrev Sp:=List V->Hp->VK->XK->Prop
noncomputable abbrev nz:=List Env->Hp->Shared->XK->Value->Shared->Prop
structure sN (P:Program) (w:World) (K:W.Frag) (mg:Str->Option Value) (base:Heap) (A:Around) (outer:List Env) (s:Shared) (H:Hp):Prop where
 frames:A.frames=some outer
 mod:Mod K mg base
 bs: ∀b o,base.get? b=some o->s.heap.get? b=some o/\H b=none
 bsz:base.objs.size<=s.heap.objs.size
 funs:s.heap.FunFrames base outer
 frf: ∀b∈frs outer,H b=none
 hok:kI P w H s.heap
 bare:AllBare s.gens
def CE (outer:List Env) (P:Program) (w:World) (H:Hp) (s:Shared) (Q:VK) (u:Value) (s':Shared):Prop:=
 ∃v H',s'.os=s.os/\AllBare s'.gens/\Un (frs outer) [] H H' s.heap s'.heap/\kI P w H' s'.heap/\RelV v u/\Q v H'
def CR (CX:nz) (outer:List Env) (P:Program) (w:World) (H:Hp) (s:Shared) (Q:VK) (E:XK) (r:Result) (s':Shared):Prop:=
 match r with
 | .ok (.ret u)=>CE outer P w H s Q u s'
 | .ok _=>False
 | .error e=>CX outer H s E e s'
structure ml (P:Program) (w:World) (K:W.Frag) (mg:Str->Option Value) (base:Heap) (CX:nz) (k:Nat) (f:Addr) (fd:FuncData) (ps:List Str) (sp:Sp):Prop where
 len: ∀vs H Q E,sp vs H Q E->vs.length=ps.length
 run: ∀(A:Around) (outer:List Env) (s:Shared) (H:Hp) (args:Args) (us:List Value) (vs:List V) (Q:VK) (E:XK),dH k A->sN P w K mg base A outer s H->BindsTo s fd args (ps.zip us)->Vals vs us->sp vs H Q E->
  codeAny (model P w) A (.call (.ref f) args) (CR CX outer P w H s Q E) s
def sN.make {P:Program} {w:World} {K:W.Frag} {mg:Str->Option Value} {base:Heap} {A:Around} {outer:List Env} {s:Shared} {H:Hp} (e:sN P w K mg base A outer s H) (C:Addr) (us:List Value) (kw:List (Str×Value)):
  sN P w K mg base (A.under (.builtin "type.__call__" ⟨.ref C::us,kw⟩)) outer s H:=⟨by first|exact e.frames|(simpa [Around.under,Code.envs,Code.isFrame,pushEnvs] using e.frames),e.mod,e.bs,e.bsz,e.funs,e.frf,e.hok,e.bare⟩
section
variable {X:Cx} {pins:List (Addr×Obj)} {σ:St} {H:Hp} {s s':Shared}
def Inv.F7 (I:Inv X pins σ H s):sN X.prog X.w X.K X.mg X.base X.A X.stack s H:=
 ⟨I.ok.frames,I.ok.mod,I.bs,Nat.le_trans I.ok.bsz I.sz,I.stack,I.sU,I.hok,I.bare⟩
def Inv.after {Q:VK} {u:Value} (I:Inv X pins σ H s) (h:CE X.stack X.prog X.w H s Q u s'):EP X pins σ Q u s':=by
 obtain ⟨v,H',os,bare,un,hok,r,q⟩:=h;obtain ⟨hh,g,d,t,os'⟩:=s';obtain rfl:os'=s.os:=os;exact ⟨v,H',I.call (h':=hh) (g':=g) (d':=d) (t':=t) (ch:=[]) un hok bare (fun b z=>absurd z (by simp)),r,q⟩
end
def sS (sp:Sp) (dvs:List V) (E:XK) (t:TA):TE:=fun σ H Q=>t σ H fun vs H1=>sp (vs++dvs) H1 Q E
def vM (C:Addr) (sp:Sp) (dvs:List V) (E:XK) (t:TA):TE:=fun σ H Q=>t σ H fun vs H1=> ∀x dx,H1 x=none->H1 dx=none->dx≠x->
 sp (.ref x::(vs++dvs)) (upd (upd H1 dx (.own x)) x (.ins C dx [])) (fun v H2=>v = .non/\Q (.ref x) H2) E
def Binds (K:W.Frag) (fd:FuncData) (ps:List Str) (ds:List Value):Prop:=
 ∀(s:Shared) (us:List Value),K.In s.heap->(us++ds).length=ps.length->BindsTo s fd ⟨us,[]⟩ (ps.zip (us++ds))
def Binds.all {K:W.Frag} {fd:FuncData} {ps:List Str} (h: ∀us:List Value,us.length=ps.length->bindArgs fd ⟨us,[]⟩=pure (ps.zip us)):Binds K fd ps []:=fun s us _ hl=>by
 rw [List.append_nil] at hl⊢;exact .of_eq (h us hl)
def Passes (CX:nz) (X:Cx) (E:XK):Prop:= ∀(pins:List (Addr×Obj)) (σ:St) (H:Hp) (s:Shared) (e:Value) (s':Shared),Inv X pins σ H s->CX X.stack H s E e s'->X.xe e s'
section
variable {X:Cx} {CX:nz} {k:Nat} {f C:Addr} {fd:FuncData} {ps:List Str} {sp:Sp} {dvs:List V} {ds:List Value} {E:XK} {x m:Str} {p pos apos:Pos} {e o:Expr} {es:List Expr} {ta:TE} {t:TA}
def rW {pins:List (Addr×Obj)} {σ:St} {H:Hp} {s:Shared} {Q:VK} {us:List Value} {vs:List V} (F:ml X.prog X.w X.K X.mg X.base CX k f fd ps sp) (hr:dH k X.A) (hb:Binds X.K fd ps ds) (hd:Vals dvs ds) (hx:Passes CX X E)
  (I:Inv X pins σ H s) (r:Vals vs us) (h:sp (vs++dvs) H Q E):wpAny (model X.prog X.w) X.A (call (.ref f) us) (EP X pins σ Q) X.xe s:=by
 have r2:Vals (vs++dvs) (us++ds):=r.append hd;have hl:(us++ds).length=ps.length:=by rw [<-r2.length];exact F.len _ _ _ _ h
 refine wpAny_call (codeAny_mono (F.run X.A X.stack s H ⟨us,[]⟩ (us++ds) (vs++dvs) Q E hr I.F7 (hb s us I.mF hl) r2 h) fun r s' hq=>?_);cases r with
 |error e=>exact hx pins σ H s e s' I hq
 |ok fl=>
  cases fl with
  |ret u=>exact I.after hq
  |next=>exact False.elim hq
  |brk=>exact False.elim hq
  |cont=>exact False.elim hq
def zj (F:ml X.prog X.w X.K X.mg X.base CX k f fd ps sp) (hr:dH k X.A) (hg:Gl X x) (hm:X.mg x=some (.ref f)) (hk:W.keepIn X.K (.ref f)=true) (hb:Binds X.K fd ps ds) (hd:Vals dvs ds) (hx:Passes CX X E)
  (ha:PA X (e::es) t) (hdb:(x == ("__debug__" : Str))=false:=by decide) (he:starEach (e::es) X.env=(false,eval e X.env)::starEach es X.env:=by rfl) (hpl:(backTo pos (starEach es X.env)).any (·.1)=false:=by rfl):
  PE X (.Call (.Name x p) (e::es) [] pos) (sS sp dvs E t):=by
 intro pins s σ H Q I h;refine wpAny_Call_Name_kw (qz I hg hm ?_ hdb);refine W.callWith_K (h₀:=X.base) I.ok.mod.kin hk (thn (ha pos pins s σ H _ I h) fun us s1 ⟨vs,H1,I1,r,q⟩=>⟨I1.mF,?_⟩) he hpl;exact rW F hr hb hd hx I1 r q
structure Mk (K:W.Frag) (C f:Addr):Prop where
 makes:W.makesIn K C=true
 init:W.findIn K (.ref C) "__init__" = some (some (.ref f))
 fn:W.isFn K (.ref f)=true
 kp:W.keepIn K (.ref C)=true
def wd {pins:List (Addr×Obj)} {σ:St} {H:Hp} {s:Shared} {Q:VK} {us:List Value} {vs:List V} (M:Mk X.K C f) (F:ml X.prog X.w X.K X.mg X.base CX k f fd ps sp) (hr:dH (k+1) X.A) (hb:Binds X.K fd ps ds) (hd:Vals dvs ds)
  (hx:Passes CX X E) (I:Inv X pins σ H s) (r:Vals vs us)
  (h: ∀x dx,H x=none->H dx=none->dx≠x->sp (.ref x::(vs++dvs)) (upd (upd H dx (.own x)) x (.ins C dx [])) (fun v H2=>v = .non/\Q (.ref x) H2) E):
  wpAny (model X.prog X.w) X.A (call (.ref C) us) (EP X pins σ Q) X.xe s:=by
 have hq:=h (s.heap.objs.size+1) s.heap.objs.size (I.hok.fresh (Nat.le_succ _)) (I.hok.fresh (Nat.le_refl _)) (Nat.ne_of_lt (Nat.lt_succ_self _));have I2:=Inv.made (C:=C) I;have r2:Vals (V.ref (s.heap.objs.size+1)::(vs++dvs)) (Value.ref (s.heap.objs.size+1)::(us++ds)):= .cons rfl (r.append hd);have hl:(Value.ref (s.heap.objs.size+1)::us++ds).length=ps.length:=by
  have e:=r2.length;rw [F.len _ _ _ _ hq] at e;exact e.symm
 refine wpAny_call (xh (f:=f) I.mF M.makes M.init (beq_iff_eq.mp M.fn) (codeAny_mono (F.run _ X.stack _ _ ⟨Value.ref (s.heap.objs.size+1)::us,[]⟩ (Value.ref (s.heap.objs.size+1)::(us++ds)) _ _ E (hr.make C us [])
  (I2.F7.make C us []) (hb _ (Value.ref (s.heap.objs.size+1)::us) I2.mF hl) r2 hq) fun r s' hq'=>?_))
 cases r with
 |error e=>exact hx pins σ _ _ e s' I2 hq'
 |ok fl=>
  cases fl with
  |ret u=>
   obtain ⟨v,H',I3,rv,ev,q3⟩:=I2.after hq';subst ev;exact ⟨rv,⟨V.ref (s.heap.objs.size+1),H',I3,rfl,q3⟩⟩
  |next=>exact False.elim hq'
  |brk=>exact False.elim hq'
  |cont=>exact False.elim hq'
def zb (M:Mk X.K C f) (F:ml X.prog X.w X.K X.mg X.base CX k f fd ps sp) (hr:dH (k+1) X.A) (hg:Gl X x) (hm:X.mg x=some (.ref C)) (hb:Binds X.K fd ps ds) (hd:Vals dvs ds) (hx:Passes CX X E)
  (ha:PA X (e::es) t) (hdb:(x == ("__debug__" : Str))=false:=by decide) (he:starEach (e::es) X.env=(false,eval e X.env)::starEach es X.env:=by rfl) (hpl:(backTo pos (starEach es X.env)).any (·.1)=false:=by rfl):
  PE X (.Call (.Name x p) (e::es) [] pos) (vM C sp dvs E t):=by
 intro pins s σ H Q I h;refine wpAny_Call_Name_kw (qz I hg hm ?_ hdb);refine W.callWith_K (h₀:=X.base) I.ok.mod.kin M.kp (thn (ha pos pins s σ H _ I h) fun us s1 ⟨vs,H1,I1,r,q⟩=>⟨I1.mF,?_⟩) he hpl;exact wd M F hr hb hd hx I1 r q
end
section
variable {X:Cx} {CX:nz} {k:Nat} {f C:Addr} {fd:FuncData} {ps ks:List Str} {sp:Sp} {E:XK} {x m:Str} {p pos apos kpos:Pos} {e o:Expr} {es:List Expr} {kws:List Keyword} {te ta:TE} {t tk:TA} {nm:Option Str}
variable {g:List Value->List Value->List Value} {gV:List V->List V->List V}
end
structure aH (N P:List Str) (sc:Scope):Prop where
 kind:sc.kind = .function
 co:sc.isCoroutine=false
 gen:sc.isGenerator=false
 nd:N.Nodup
 pre:N.take P.length=P
 par: ∀x∈P,sc.names.lookup x=some .local\/sc.names.lookup x=some .cell
 nofree: ∀y∈sc.names,y.2≠ .free
def qc {kindOf:Str->Option NameKind} {x:Str}: ∀{binds:List (Str×Value)} {m:Str->Option Value},(∀v,(x,v) ∉ binds)->bindL kindOf binds m x=m x
 | [],_,_=>rfl
 |(n,v)::r,m,h=>by
  unfold bindL;rw [qc fun w hw=>h w (List.mem_cons_of_mem _ hw)];split
  ·
   have:x≠n:=by rintro rfl;exact h v List.mem_cons_self
   simp [this]
  ·rfl
def qe {kindOf:Str->Option NameKind} {x:Str}: ∀{binds:List (Str×Value)} {m:Str->Option Value},(∀v,(x,v) ∉ binds)->bindC kindOf binds m x=m x
 | [],_,_=>rfl
 |(n,v)::r,m,h=>by
  unfold bindC;rw [qe fun w hw=>h w (List.mem_cons_of_mem _ hw)];split
  ·rfl
  ·
   have:x≠n:=by rintro rfl;exact h v List.mem_cons_self
   simp [this]
def qd {kindOf:Str->Option NameKind} {x:Str} {v:Value}: ∀{P:List Str} {vs:List Value} {i:Nat} {m:Str->Option Value},P.Nodup->P[i]?=some x->vs[i]?=some v->kindOf x=some .local->
  bindL kindOf (P.zip vs) m x=some v
 | [],_,_,_,_,h,_,_=>by simp at h
 |_::_,[],_,_,_,_,h,_=>by simp at h
 |p::P,w::vs,0,m,nd,h1,h2,hk=>by
  simp at h1 h2;subst h1;subst h2;show bindL kindOf ((p,w)::P.zip vs) m p=_;unfold bindL;rw [qc fun v hv=>(List.nodup_cons.mp nd).1 (List.of_mem_zip hv).1,if_pos hk];simp
 |p::P,w::vs,i+1,m,nd,h1,h2,hk=>by
  show bindL kindOf ((p,w)::P.zip vs) m x=_;unfold bindL;exact qd (i:=i) (List.nodup_cons.mp nd).2 (by simpa using h1) (by simpa using h2) hk
def qf {kindOf:Str->Option NameKind} {x:Str} {v:Value}: ∀{P:List Str} {vs:List Value} {i:Nat} {m:Str->Option Value},P.Nodup->P[i]?=some x->vs[i]?=some v->kindOf x≠some .local->
  bindC kindOf (P.zip vs) m x=some v
 | [],_,_,_,_,h,_,_=>by simp at h
 |_::_,[],_,_,_,_,h,_=>by simp at h
 |p::P,w::vs,0,m,nd,h1,h2,hk=>by
  simp at h1 h2;subst h1;subst h2;show bindC kindOf ((p,w)::P.zip vs) m p=_;unfold bindC;rw [qe fun v hv=>(List.nodup_cons.mp nd).1 (List.of_mem_zip hv).1,if_neg hk];simp
 |p::P,w::vs,i+1,m,nd,h1,h2,hk=>by
  show bindC kindOf ((p,w)::P.zip vs) m x=_;unfold bindC;exact qf (i:=i) (List.nodup_cons.mp nd).2 (by simpa using h1) (by simpa using h2) hk
noncomputable def start (N:List Str) (vs:List V):St:=vs.map some++List.replicate (N.length - vs.length) none
noncomputable def rD (CX:nz) (P:Program) (w:World) (K:W.Frag) (mg:Str->Option Value) (base:Heap) (N:List Str) (qual:Str) (scope:Scope) (f:Addr) (cd:Value) (A:Around) (outer:List Env) (s:Shared) (H:Hp) (E:XK):Cx where
 prog:=P
 w:=w
 K:=K
 mg:=mg
 base:=base
 A:=A.deeper (envOfC qual scope s.heap.objs.size f cd)
 N:=N
 s₀:=s
 H₀:=H
 env:=envOfC qual scope s.heap.objs.size f cd
 outer:=outer
 stack:=envOfC qual scope s.heap.objs.size f cd::outer
 ex:=[]
 calm:=true
 fn:=fun _=>true
 pn:=[]
 xe:=fun e s'=>wpAny (model P w) (A.deeper (envOfC qual scope s.heap.objs.size f cd)) (leaving (envOfC qual scope s.heap.objs.size f cd) e) (fun _ s''=>CX outer H s E e s'') (fun e' s''=>CX outer H s E e' s'') s'
def rE {sc:Scope} {n:Nat} {x:Str} (h:sc.names.lookup x=some .cell): ∃c,(cellsFrom n sc.names []).lookup x=some c:=by
 have q:=W.cellsFrom_some sc.names n [] (.inl h);exact Option.isSome_iff_exists.mp q
def vm {CX:nz} {P:Program} {w:World} {K:W.Frag} {mg:Str->Option Value} {base:Heap} {N ps:List Str} {qual:Str} {scope:Scope} {f:Addr} {cd:Value} {A:Around} {outer:List Env} {s s1:Shared} {H:Hp} {E:XK} {us:List Value} {vs:List V}
  (S:aH N ps scope) (hd:A.handled=none) (e0:sN P w K mg base A outer s H) (hl:vs.length=ps.length) (r:Vals vs us)
  (x:InCallC s s.heap.objs.size (bindL (envOfC qual scope s.heap.objs.size f cd).kindOf (ps.zip us) fun _=>none) (cellsFrom (s.heap.objs.size+1) scope.names []) (bindC (envOfC qual scope s.heap.objs.size f cd).kindOf (ps.zip us) fun _=>none) s1):
  Inv (rD CX P w K mg base N qual scope f cd A outer s H E) [] (start N vs) H s1:=by
 have hpl:ps.length<=N.length:=by have:=congrArg List.length S.pre;rw [List.length_take] at this;lia
 obtain ⟨h1,tk,rfl,hk⟩:=x.done;have noA: ∀b:Addr,b ∉ (rD CX P w K mg base N qual scope f cd A outer s H E).ex:=fun b z=>absurd (show b∈([]:List Addr) from z) (by simp);refine ⟨⟨e0.mod,S.kind,rfl,rfl,Nat.le_refl _,fun y z c h1 h2=>?_,fun y hy=>?_,fun y c _ h=>?_,fun _=>hd,Around.frames_deeper e0.frames,.inr ⟨rfl,rfl⟩,fun b z=>absurd z (noA b),e0.bs,e0.bsz,fun b _ _=>noA b,fun b z=>absurd z (noA b),e0.funs,e0.frf⟩,
  rfl,e0.bare,Un.kept hk,⟨_,x.toInCall.ns,fun i y v h1 h2 h3=>?_⟩,fun y c h=>⟨_,x.cell y c h⟩,e0.hok.fresh (Nat.le_refl _),fun y c h=>?_,fun p hp=>absurd (show p∈([]:List (Addr×Obj)) from hp) (by simp),e0.hok.kept hk,?_⟩
 ·exact name_of_addr x.apart (PySem.mem_of_lookup h1) (PySem.mem_of_lookup h2)
 ·
  have hy:scope.names.lookup y=some .cell\/scope.names.lookup y=some .free:=hy;rcases hy with hy|hy
  ·exact rE hy
  ·exact absurd rfl (S.nofree _ (PySem.mem_of_lookup hy))
 ·exact Nat.le_of_lt (x.above y c (PySem.mem_of_lookup h))
 ·have hi:i<vs.length:=by
   unfold start at h2;by_cases hi:i<vs.length
   ·exact hi
   ·
    rw [List.getElem?_append_right (by simpa using hi)] at h2;rw [List.getElem?_replicate] at h2;split at h2<;>cases h2
  have ha:vs[i]?=some v:=by
   unfold start at h2;rw [List.getElem?_append_left (by simpa using hi),List.getElem?_map] at h2;cases e:vs[i]? with
   |none=>rw [e] at h2;cases h2
   |some a=>rw [e] at h2;cases h2;rfl
  obtain ⟨u,hu,rv⟩:=r.get ha;have hp:ps[i]?=some y:=by
   rw [<-S.pre,List.getElem?_take_of_lt (by lia)];exact h1
  have ndP:ps.Nodup:=by rw [<-S.pre];exact S.nd.sublist (List.take_sublist _ _)
  refine ⟨u,rv,?_⟩;rcases S.par y (List.mem_of_getElem? hp) with k|k
  ·exact .inl ⟨k,qd ndP hp hu k⟩
  ·
   obtain ⟨c,e⟩:=rE (n:=s.heap.objs.size+1) k;refine .inr ⟨.inl k,c,e,?_⟩;have q:=x.cell y c e;rw [qf ndP hp hu (by show scope.names.lookup y≠_;rw [k];decide)] at q;exact q
 ·exact e0.hok.fresh (Nat.le_of_lt (x.above y c (PySem.mem_of_lookup h)))
 ·
  unfold start;show _=N.length;rw [List.length_append,List.length_map,List.length_replicate];lia
def AG {CX:nz} {P:Program} {w:World} {K:W.Frag} {mg:Str->Option Value} {base:Heap} {k:Nat} {f:Addr} {name qual:Str} {params:Arguments} {body:List Stmt} {scope:Scope} {dV kV doc pm cdv ct oc:Value} {an od:Option Addr}
  {osl:Array (Option Value)} {N ps:List Str} {sp:Sp} (lk:K.lookup f=some ⟨oc,od,.func (W.fnOf name qual params body scope dV kV doc pm an cdv ct),osl⟩) (hcd:W.codeIn K cdv qual=true) (S:aH N ps scope)
  (len: ∀vs H Q E,sp vs H Q E->vs.length=ps.length)
  (
   hbody: ∀(A:Around) (outer:List Env) (s:Shared) (H:Hp) (vs:List V) (Q:VK) (E:XK),dH k (A.deeper (envOfC qual scope s.heap.objs.size f cdv))->sp vs H Q E->
   ∃t,qT (rD CX P w K mg base N qual scope f cdv A outer s H E) body t/\t {nx:=fun _ H'=>Q .non H',rt:=Q} (start N vs) H):
  ml P w K mg base CX (k+1) f (W.fnOf name qual params body scope dV kV doc pm an cdv ct) ps sp:=by
 refine ⟨len,fun A outer s H args us vs Q E hr e0 hb r hsp=>?_⟩;have hl:=len _ _ _ _ hsp;have KX:K.In s.heap:=e0.mod.kin.keeps fun b o e=>(e0.bs b o e).1;have lim:s.heap.NoLimit:=e0.mod.nolimit.keeps fun b o e=>(e0.bs b o e).1;have hkind: ∀y∈ps.zip us,scope.names.lookup y.1=some .local\/(scope.names.lookup y.1=some .cell/\((cellsFrom (s.heap.objs.size+1) scope.names []).lookup y.1).isSome=true):=fun ⟨n,v⟩ hy=>by
  rcases S.par n (List.of_mem_zip hy).1 with q|q
  ·exact .inl q
  ·exact .inr ⟨q,W.cellsFrom_some _ _ _ (.inl q)⟩
 refine codeAny_call_function hr.depth (KX _ _ lk) rfl S.co S.gen rfl (W.codeRec_of KX hcd) (hb _ _ _ _ ?_);refine wpAny_newFunctionEnv_cells S.kind hkind fun env he s1 x=>?_;subst he;refine ⟨lim.keeps x.toInCall.keep,codeAny_func ?_⟩;obtain ⟨t,ht,hq⟩:=hbody A outer s H vs Q E (hr.deeper _) hsp;have I:Inv (rD CX P w K mg base N qual scope f cdv A outer s H E) [] (start N vs) H s1:=vm S hr.hd e0 hl r x;refine wpAny_mono (ht [] s1 (start N vs) H _ I hq) (fun fl s' hs=>?_) fun e s' hs=>hs;have fin: ∀{σ':St} {H':Hp} {v:V} {u:Value},Inv (rD CX P w K mg base N qual scope f cdv A outer s H E) [] σ' H' s'->RelV v u->Q v H'->CE outer P w H s Q u s':=
  fun {σ' H' v u} J rv q=>⟨v,H',J.os,J.bare,J.base,J.hok,rv,q⟩
 cases fl with
 |ret u=>
  obtain ⟨v,σ',H',J,rv,q⟩:=hs;exact fin J rv q
 |next=>
  obtain ⟨σ',H',J,q⟩:=hs;exact fin (v:=V.non) (u:=Value.none) J rfl q
 |brk=>
  obtain ⟨_,_,_,q⟩:=hs;exact False.elim q
 |cont=>
  obtain ⟨_,_,_,q⟩:=hs;exact False.elim q
section
variable {X:Cx} {x:Str} {p pos:Pos} {e:Expr} {es:List Expr} {t:TA} {id T:String} {r:List V->Hp->VK->Prop}
def Dd (r:List V->Hp->VK->Prop) (t:TA):TE:=fun σ H Q=>t σ H fun vs H1=>r vs H1 Q
def w6 (hc:bw X (.builtin id) r) (hg:Gl X x) (hm:X.mg x=none) (hv:bootBuiltins x=some (.builtin id)) (ha:PA X (e::es) t) (hn:x≠ "__name__" :=by decide) (hdb:(x == ("__debug__" : Str))=false:=by decide)
  (he:starEach (e::es) X.env=(false,eval e X.env)::starEach es X.env:=by rfl) (hpl:(backTo pos (starEach es X.env)).any (·.1)=false:=by rfl):PE X (.Call (.Name x p) (e::es) [] pos) (Dd r t):=by
 intro pins s σ H Q I h;refine wpAny_Call_Name_kw (lN I hg hm hv ?_ hn hdb);exact PyProof.Rows.callWith_builtin1 (thn (ha pos pins s σ H _ I h) fun us s1 ⟨vs,H1,I1,r1,q1⟩=>hc pins s1 σ H1 vs us Q I1 r1 q1) he hpl
def uZ (hc:bw X (.type T) r) (hg:Gl X x) (hm:X.mg x=none) (hv:bootBuiltins x=some (.type T)) (ha:PA X (e::es) t) (hn:x≠ "__name__" :=by decide) (hdb:(x == ("__debug__" : Str))=false:=by decide)
  (he:starEach (e::es) X.env=(false,eval e X.env)::starEach es X.env:=by rfl) (hpl:(backTo pos (starEach es X.env)).any (·.1)=false:=by rfl):PE X (.Call (.Name x p) (e::es) [] pos) (Dd r t):=by
 intro pins s σ H Q I h;refine wpAny_Call_Name_kw (lN I hg hm hv ?_ hn hdb);exact PyProof.Rows.callWith_type1 (thn (ha pos pins s σ H _ I h) fun us s1 ⟨vs,H1,I1,r1,q1⟩=>hc pins s1 σ H1 vs us Q I1 r1 q1) he hpl
end
end L2
namespace HT
open PySem PyProof.Rows
section
open PySem.SeqAt
open PySem.AutoSeq1 (wpAny_loadPart')
open PySem.MeetsSeq PySem.MeetsSeq2 PySem.MeetsSeq3
end
section
variable {prog:Program} {w:World} {A:Around} {E:Value->Shared->Prop} {s:Shared}
def z5 {t b:Addr} {vs ws:List Value} {Q:Value->Shared->Prop} (ht:IsTup s.heap t vs.toArray) (hb:IsTup s.heap b ws.toArray) (hv:vs≠[])
  (h1:ws= []->Q (.ref t) s) (h2:ws≠[]->Q (.ref s.heap.objs.size) {s with heap:=s.heap.push {cls:= .type "tuple",data:= .seq (vs++ws).toArray}})
  (hsz:vs.length+ws.length<=sizeLine):wpAny (model prog w) A (binaryOp .Add (.ref t) (.ref b)) Q E s:=by
 obtain ⟨⟨cls,dd,data,sl⟩,ho,hc,n,hd⟩:=id ht;obtain ⟨⟨cls2,dd2,data2,sl2⟩,ho2,hc2,n2,hd2⟩:=id hb;simp only at hc hd hc2 hd2;subst hc hd hc2 hd2;have e:vs.toArray++ws.toArray=(vs++ws).toArray:=by simp
 by_cases hw:ws= []
 ·exact concat_meets ⟨_,ho,rfl⟩ ⟨_,ho2,rfl⟩ noFill_tuple_add seq_tuple_add PySem.F.slot_tuple_add PySem.F.entry_tuple_add (PySem.F.args_tuple_add_2 _ _)
   (tuple_addW1 t b vs.toArray ws.toArray n n2 dd dd2 sl sl2 (by simpa using hv) (by simp [hw])) ⟨ho,ho2,h1 hw⟩
 ·refine concat_meets ⟨_,ho,rfl⟩ ⟨_,ho2,rfl⟩ noFill_tuple_add seq_tuple_add PySem.F.slot_tuple_add PySem.F.entry_tuple_add (PySem.F.args_tuple_add_2 _ _)
   (tuple_addW2 t b vs.toArray ws.toArray n n2 dd dd2 sl sl2 (by simpa using hv) (by simpa using hw) (by rw [List.size_toArray,List.size_toArray];exact hsz)) ⟨ho,ho2,?_⟩
  rw [e];exact h2 hw
noncomputable def dP (n d:Nat):Option Int->Nat
 |none=>d
 |some v=>if v<0 then (v+(n:Int)).toNat else min v.toNat n
def yH (n d k:Nat):dP n d (some (k:Int))=min k n:=by
 show (if (k:Int)<0 then ((k:Int)+(n:Int)).toNat else min (k:Int).toNat n)=min k n;rw [if_neg (by lia),Int.toNat_natCast]
def AY (n d:Nat) (hd:d<=n) (o:Option Int):dP n d o<=n:=by
 cases o with
 |none=>exact hd
 |some v=>
  show (if v<0 then (v+(n:Int)).toNat else min v.toNat n)<=n;by_cases hv:v<0
  ·rw [if_pos hv];lia
  ·rw [if_neg hv];exact Nat.min_le_right _ _
def tW (v:Int) (n d:Nat):(if v<0 then max (v+(n:Int)) 0 else min v (n:Int))=((dP n d (some v):Nat):Int):=by
 show (if v<0 then max (v+(n:Int)) 0 else min v (n:Int))=(((if v<0 then (v+(n:Int)).toNat else min v.toNat n):Nat):Int);by_cases hv:v<0
 ·simp only [if_pos hv];lia
 ·simp only [if_neg hv];lia
def sL (lo hi:Option Int) (n:Nat):Builtin.Slice.sliceAdjust lo hi 1 (n:Int)=(((dP n 0 lo:Nat):Int),((dP n n hi:Nat):Int)):=by
 have h1: ¬((1:Int)<0):=by lia
 unfold Builtin.Slice.sliceAdjust;simp only [h1,if_false];refine Prod.ext ?_ ?_
 ·
  cases lo with
  |none=>rfl
  |some v=>exact tW v n 0
 ·
  cases hi with
  |none=>rfl
  |some v=>exact tW v n n
def r_ (i j:Nat):Builtin.Slice.slicePlaces (i:Int) (j:Int) 1=j - i:=by
 unfold Builtin.Slice.slicePlaces;have h1:(1:Int) > 0:=by lia
 simp only [h1,if_true,Int.ediv_one];split<;>lia
def nC {v:Value} {o:Option Int} {Q:Option Int->Shared->Prop} (p:IsPart v o) (h:Q o s):wpAny (model prog w) A (Builtin.Slice.slicePartIndex v) Q E s:=by
 cases p with
 |none=>exact slicePart_none h
 |int i t=>exact slicePart_int h
def ly {sl:Addr} {vl vu:Value} {lo hi:Option Int} {n:Nat} {Q:Int×Int×Nat->Shared->Prop} (hs:s.heap.IsSliceOf sl vl vu .none) (pl:IsPart vl lo) (pu:IsPart vu hi)
  (h:Q (((dP n 0 lo:Nat):Int),1,dP n n hi - dP n 0 lo) s):wpAny (model prog w) A (Builtin.Slice.sliceApplied (.ref sl) (pure (n:Int))) Q E s:=by
 obtain ⟨os,hos,hcs,hds⟩:=id hs;unfold Builtin.Slice.sliceApplied Builtin.Slice.sliceFields;refine wpAny_bind (wpAny_bind (wpAny_field hos hds (x:=vl) rfl (wpAny_bind (wpAny_field hos hds (x:=vu) rfl (wpAny_bind (wpAny_field hos hds (x:= .none) rfl (wpAny_pure ?_)))))));refine wpAny_bind (slicePart_none ?_);show wpAny _ _ (if ((1:Int) == 0)=true then _ else _) _ _ s;rw [if_neg (by decide)];refine wpAny_bind (nC pl (wpAny_bind (nC pu (wpAny_bind (wpAny_pure ?_)))));show wpAny _ _ (match Builtin.Slice.sliceAdjust lo hi 1 (n:Int) with|(lo,hi)=>pure (lo,(1:Int),Builtin.Slice.slicePlaces lo hi 1)) _ _ s
 rw [sL lo hi n];show wpAny _ _ (pure (((dP n 0 lo:Nat):Int),(1:Int),Builtin.Slice.slicePlaces ((dP n 0 lo:Nat):Int) ((dP n n hi:Nat):Int) 1)) _ _ s;rw [r_];exact wpAny_pure h
def wX (xs:Array Value) (i k:Nat):((List.range k).filterMap fun (m:Nat)=>xs[((i:Int)+(m:Int)*1).toNat]?).toArray=((xs.toList.drop i).take k).toArray:=by
 have e:(fun (m:Nat)=>xs[((i:Int)+(m:Int)*1).toNat]?)=fun m=>xs[i+m]?:=by
  funext m;have:((i:Int)+(m:Int)*1).toNat=i+m:=by lia
  rw [this]
 rw [e];have:=pick_run xs i k;rw [List.filterMap_map] at this;have e2:((fun x=>xs[x]?)∘fun x=>i+x)=fun m=>xs[i+m]?:=rfl;rw [e2] at this;rw [this]
def kY {t sl:Addr} {items:Array Value} {vl vu:Value} {lo hi:Option Int} {Q:Value->Shared->Prop} (ht:IsTup s.heap t items) (hs:s.heap.IsSliceOf sl vl vu .none) (pl:IsPart vl lo) (pu:IsPart vu hi)
  (hw: ¬(dP items.size 0 lo=0/\dP items.size items.size hi=items.size))
  (h:Q (.ref s.heap.objs.size) {s with heap:=s.heap.push {cls:= .type "tuple",data:= .seq ((items.toList.drop (dP items.size 0 lo)).take (dP items.size items.size hi - dP items.size 0 lo)).toArray}})
  (hsz:items.size<=sizeLine):wpAny (model prog w) A (getItem (.ref t) (.ref sl)) Q E s:=by
 have htake:sizeOk (.seq ((items.toList.drop (dP items.size 0 lo)).take (dP items.size items.size hi - dP items.size 0 lo)).toArray):=by
  show ((items.toList.drop (dP items.size 0 lo)).take (dP items.size items.size hi - dP items.size 0 lo)).toArray.size<=sizeLine;rw [List.size_toArray,List.length_take,List.length_drop,Array.length_toList];lia
 have hj:dP items.size items.size hi<=items.size:=AY _ _ (Nat.le_refl _) hi;obtain ⟨os,hos,hcs,hds⟩:=id hs;have hTs:s.TypeIs (.ref sl) "slice" :=⟨os,hos,hcs⟩;unfold getItem
 try with_reducible refine wpAny_holding ?_
 first|refine wpAny_bind (wpAny_pure ?_)|skip
 refine wpAny_bind (wpAny_sequenceKey ht.typeIs (by decide) ?_);refine wpAny_bind (wpAny_callSpecial?_slot (name:=Str.ofString "__getitem__") ht.typeIs PyProof.Rows.slot_tuple_getitem
  (wpAny_call_entry PyProof.Rows.slot_tuple_getitem ht.typeIs entry_tuple_getitem ?_ (args_tuple_getitem _ _)))
 show wpAny _ _ (Builtin.Tuple.tupleItemsOf (.ref t) >>= _) _ _ s;refine wpAny_bind (tupleItemsOf_ ht ?_);refine wpAny_bind (wpAny_typeOf hTs ?_);rw [if_pos (by decide)];refine wpAny_bind (ly hs pl pu ?_);have hno: ¬((((dP items.size 0 lo:Nat):Int) == 0&&(1:Int) == 1&&(dP items.size items.size hi - dP items.size 0 lo) == items.size)=true):=by
  intro q;rw [Bool.and_eq_true,Bool.and_eq_true] at q;have q1:((dP items.size 0 lo:Nat):Int)=0:=eq_of_beq q.1.1;have q2:dP items.size items.size hi - dP items.size 0 lo=items.size:=eq_of_beq q.2;exact hw ⟨by lia,by lia⟩
 show wpAny _ _ (if (((dP items.size 0 lo:Nat):Int) == 0&&(1:Int) == 1&&(dP items.size items.size hi - dP items.size 0 lo) == items.size)=true then _ else _) _ _ s;rw [if_neg hno,wX]
 first
  |exact wpAny_bind (m:=Builtin.Tuple.tupleExact _) (wpAny_newObj_type (wpAny_pure ⟨_,rfl,wpAny_pure h⟩) htake)
  |exact wpAny_bind (m:=Builtin.Tuple.tupleExact _) (wpAny_newObj_type (wpAny_bind (wpAny_pure (wpAny_pure ⟨_,rfl,wpAny_pure h⟩))) htake)
  |exact wpAny_bind (wpAny_bind (m:=Builtin.Tuple.tupleExact _) (wpAny_newObj_type (wpAny_pure (wpAny_pure ⟨_,rfl,wpAny_pure h⟩)) htake))
  |exact wpAny_bind (wpAny_bind (m:=Builtin.Tuple.tupleExact _) (wpAny_newObj_type (wpAny_pure ⟨_,rfl,wpAny_pure h⟩) htake))
end
end HT
namespace L2
open PySem PySem.Spec PyProof.Rows
noncomputable abbrev TO:=St->Hp->(Option Int->Hp->Prop)->Prop
def PO (X:Cx) (e:Option Expr) (t:TO):Prop:=
 ∀(pins:List (Addr×Obj)) (s:Shared) (σ:St) (H:Hp) (Q:Option Int->Hp->Prop),Inv X pins σ H s->t σ H Q->
  wpAny (model X.prog X.w) X.A (evalPart e X.env) (fun u s'=> ∃o H',Inv X pins σ H' s'/\IsPart u o/\Q o H') X.xe s
def sQ:TO:=fun _ H Q=>Q none H
def Ah (t:TE):TO:=fun σ H Q=>t σ H fun x H1=> ∃i,x = .int i/\Q (some i) H1
section
variable {X:Cx} {e:Expr} {te:TE} {lo hi:Option Expr} {tl th:TO} {pos p2:Pos}
def y_:PO X none sQ:=by
 intro pins s σ H Q I h;rw [evalPart_none];exact wpAny_pure ⟨none,H,I,.none,h⟩
def qt (h:PE X e te):PO X (some e) (Ah te):=by
 intro pins s σ H Q I hw;rw [evalPart_some];refine thn (h pins s σ H _ I hw) fun u s1 ⟨x,H1,I1,r1,q1⟩=>?_;obtain ⟨i,rfl,q⟩:=q1;obtain ⟨t,rfl⟩:=r1;exact ⟨some i,H1,I1,.int i t,q⟩
def t5 (X:Cx) (r:V->Option Int->Option Int->Hp->VK->Prop):Prop:=
 ∀(pins:List (Addr×Obj)) (s:Shared) (σ:St) (H:Hp) (x:V) (v vl vu:Value) (lo hi:Option Int) (sl:Addr) (Q:VK),Inv X pins σ H s->RelV x v->s.heap.IsSliceOf sl vl vu .none->IsPart vl lo->IsPart vu hi->r x lo hi H Q->
  ∃T id,typeLookup (.type T) "__getitem__" = pure (some (.builtin id))/\s.TypeIs v T/\wpAny (model X.prog X.w) X.A (getItem v (.ref sl)) (EP X pins σ Q) X.xe s
def t5.or {r r':V->Option Int->Option Int->Hp->VK->Prop} (h:t5 X r) (h':t5 X r'):t5 X (fun x lo hi H Q=>r x lo hi H Q\/r' x lo hi H Q):=by
 intro pins s σ H x v vl vu lo hi sl Q I rx hs pl pu q;rcases q with q|q
 ·exact h pins s σ H x v vl vu lo hi sl Q I rx hs pl pu q
 ·exact h' pins s σ H x v vl vu lo hi sl Q I rx hs pl pu q
def Ie (r:V->Option Int->Option Int->Hp->VK->Prop) (te:TE) (tl th:TO):TE:=fun σ H Q=>te σ H fun x H1=>tl σ H1 fun l H2=>th σ H2 fun u H3=>r x l u H3 Q
def q_ {r:V->Option Int->Option Int->Hp->VK->Prop} (hr:t5 X r) (he:PE X e te) (hl:PO X lo tl) (hu:PO X hi th):PE X (.Subscript e (.Slice lo hi none p2) pos) (Ie r te tl th):=by
 intro pins s σ H Q I h;refine Subscript_ (thn (he pins s σ H _ I h) fun v s1 ⟨x,H1,I1,r1,q1⟩=>?_);refine wpAny_Slice (thn (hl pins s1 σ H1 _ I1 q1) fun vl s2 ⟨l,H2,I2,pl,q2⟩=>thn (hu pins s2 σ H2 _ I2 q2) fun vu s3 ⟨u,H3,I3,pu,q3⟩=>?_);rw [evalPart_none];refine wpAny_pure ?_;have I4:Inv X pins σ H3 {s3 with heap:=s3.heap.push {cls:= .type "slice",data:= .fields #[vl,vu,.none]}}:=I3.kept (t':=s3.toks) fun b ob q=>Heap.get?_push_of_some _ q;obtain ⟨T,id,hT,ht,hg⟩:=hr pins {s3 with heap:=s3.heap.push {cls:= .type "slice",data:= .fields #[vl,vu,.none]}} σ H3 x v vl vu l u s3.heap.objs.size Q I4 r1 (Heap.IsSliceOf.new ..) pl pu q3;show wpAny (model X.prog X.w) X.A (subscriptTail e (.Slice lo hi none p2) v (.ref s3.heap.objs.size)) (EP X pins σ Q) X.xe {s3 with heap:=s3.heap.push {cls:= .type "slice",data:= .fields #[vl,vu,.none]}};exact tail_any (ops:=[.ref s3.heap.objs.size,v]) ht hT hg (by with_unfolding_all rfl)
noncomputable def l8 (xs:List V) (lo hi:Option Int):List V:=(xs.drop (HT.dP xs.length 0 lo)).take (HT.dP xs.length xs.length hi - HT.dP xs.length 0 lo)
def my (xs:List V) (lo hi:Option Int):(l8 xs lo hi).length<=xs.length:=by
 unfold l8;rw [List.length_take,List.length_drop];lia
def Di (K:W.Frag):V->Option Int->Option Int->Hp->VK->Prop:=fun x lo hi H Q=> ∃a xs,x = .ref a/\fx K H a xs/\
 ¬(HT.dP xs.length 0 lo=0/\HT.dP xs.length xs.length hi=xs.length)/\∀p,H p=none->Q (.ref p) (upd H p (.tup (l8 xs lo hi)))
def AW:t5 X (Di X.K):=by
 intro pins s σ H x v vl vu lo hi sl Q I rx hs pl pu h;obtain ⟨a,xs,rfl,hx,hw,q⟩:=h;cases rx;obtain ⟨its,r,ht,hz⟩:=I.tuple hx;have hlen:its.toArray.size=xs.length:=by rw [List.size_toArray];exact r.length.symm
 refine ⟨"tuple",_,PyProof.Rows.slot_tuple_getitem.lookup,ht.typeIs,?_⟩;refine HT.kY ht hs pl pu (by rw [hlen];exact hw) ?_ (by rw [hlen];exact hz);rw [hlen];refine ⟨.ref s.heap.objs.size,_,I.laid (t':=s.toks) (o:= .tup (l8 xs lo hi)) (fun b ob q=>Heap.get?_push_of_some _ q) (Nat.le_refl _) ?_,rfl,q _ (I.hok.fresh (Nat.le_refl _))⟩;exact ⟨Nat.le_trans (my xs lo hi) hz,_,(r.drop (HT.dP xs.length 0 lo)).take (HT.dP xs.length xs.length hi - HT.dP xs.length 0 lo),IsTup.new _ _⟩
def Aq (K:W.Frag):R2:=fun x y H Q=> ∃a b xs ys,x = .ref a/\y = .ref b/\fx K H a xs/\fx K H b ys/\xs≠[]/\xs.length+ys.length<=sizeLine/\
 (ys= []->Q (.ref a) H)/\(ys≠[]->∀p,H p=none->Q (.ref p) (upd H p (.tup (xs++ys))))
def Vals.qy {xs:List V} {us:List Value} (r:Vals xs us):us= []↔xs= []:=by
 cases r with
 |nil=>simp
 |cons _ _=>simp
def zq:ft X (binaryOp .Add) (Aq X.K):=by
 intro pins s σ H x y v u Q I rx ry h;obtain ⟨a,b,xs,ys,rfl,rfl,ha,hb,hx,hz,q1,q2⟩:=h;cases rx;cases ry;obtain ⟨its,r1,p1,_⟩:=I.tuple ha;obtain ⟨its2,r2,p2,_⟩:=I.tuple hb;refine HT.z5 p1 p2 (fun z=>hx (r1.qy.mp z)) (fun z=>⟨.ref a,H,I,rfl,q1 (r2.qy.mp z)⟩) (fun z=>?_) (by rw [<-r1.length,<-r2.length];exact hz);refine ⟨.ref s.heap.objs.size,_,I.laid (t':=s.toks) (o:= .tup (xs++ys)) (fun b ob q=>Heap.get?_push_of_some _ q) (Nat.le_refl _) ?_,rfl,q2 (fun w=>z (r2.qy.mpr w)) _ (I.hok.fresh (Nat.le_refl _))⟩;exact ⟨by rw [List.length_append];exact hz,_,r1.append r2,IsTup.new _ _⟩
end
noncomputable def vi (n:Nat) (i:Int):Option Nat:=if 0<=i then (if i<n then some i.toNat else none) else if -(n:Int)<=i then some (i+n).toNat else none
noncomputable def j4 {α:Type} (xs:List α) (i:Int):Option α:=(vi xs.length i).bind fun j=>xs[j]?
def zF {n:Nat} {i:Int} {j:Nat} (h:vi n i=some j):seqIndex? i n=some j/\j<n/\-(n:Int)<=i/\i<n:=by
 unfold vi at h;by_cases h0:0<=i
 ·
  rw [if_pos h0] at h;by_cases h1:i<n
  ·
   rw [if_pos h1] at h;have e:i.toNat=j:=Option.some.inj h;exact ⟨by rw [seqIndex_of h0 h1,e],by lia,by lia,h1⟩
  ·rw [if_neg h1] at h;cases h
 ·
  rw [if_neg h0] at h;by_cases h1 : -(n:Int)<=i
  ·
   rw [if_pos h1] at h;have e:(i+n).toNat=j:=Option.some.inj h;exact ⟨by rw [seqIndex_neg (by lia) h1,e],by lia,h1,by lia⟩
  ·rw [if_neg h1] at h;cases h
def qQ {α:Type} {xs:List α} {i:Int} {v:α} (h:j4 xs i=some v): ∃j,seqIndex? i xs.length=some j/\xs[j]?=some v/\j<xs.length/\-(xs.length:Int)<=i/\i<xs.length:=by
 unfold j4 at h;cases e:vi xs.length i with
 |none=>rw [e] at h;cases h
 |some j=>
  rw [e] at h;obtain ⟨h1,h2,h3,h4⟩:=zF e;exact ⟨j,h1,h,h2,h3,h4⟩
def z7 {α:Type} {xs:List α} {j:Nat} {v:α} (h:xs[j]?=some v):j4 xs (j:Int)=some v:=by
 have hj:j<xs.length:=(List.getElem?_eq_some_iff.mp h).1;have e:vi xs.length (j:Int)=some j:=by
  unfold vi;rw [if_pos (by lia),if_pos (by lia)];simp
 unfold j4;rw [e];exact h
def yk {α:Type} (xs:List α) (v:α):j4 (xs++ [v]) (-1)=some v:=by
 have hl:(xs++ [v]).length=xs.length+1:=by simp
 have e:vi (xs++ [v]).length (-1)=some xs.length:=by
  unfold vi;rw [hl,if_neg (by decide),if_pos (by lia)];congr 1;lia
 unfold j4;rw [e];show (xs++ [v])[xs.length]?=some v;simp
def z_ (b:Expr):Prop:= ∀o i,subscripted b false o i=operate [o,i] (getItem o i)
def rM (X:Cx) (r:R2):Prop:=
 ∀(value slice:Expr) (pins:List (Addr×Obj)) (s:Shared) (σ:St) (H:Hp) (x y:V) (v u:Value) (Q:VK),Inv X pins σ H s->RelV x v->RelV y u->r x y H Q->
  subscripted slice false v u=operate [v,u] (getItem v u)->wpAny (model X.prog X.w) X.A (subscriptTail value slice v u) (EP X pins σ Q) X.xe s
def IZ (X:Cx) (id:String) (r:V->List V->Hp->VK->Prop):Prop:=
 ∀(pins:List (Addr×Obj)) (s:Shared) (σ:St) (H:Hp) (x:V) (xs:List V) (v:Value) (us:List Value) (Q:VK),Inv X pins σ H s->RelV x v->Vals xs us->r x xs H Q->
  wpAny (model X.prog X.w) X.A (call (.builtin id) (v::us)) (EP X pins σ Q) X.xe s
section
variable {X:Cx} {a b:Expr} {ta tb:TE} {pos:Pos}
def rM.or {r r':R2} (h:rM X r) (h':rM X r'):rM X (fun x y H Q=>r x y H Q\/r' x y H Q):=by
 intro value slice pins s σ H x y v u Q I rx ry q hs;rcases q with q|q
 ·exact h value slice pins s σ H x y v u Q I rx ry q hs
 ·exact h' value slice pins s σ H x y v u Q I rx ry q hs
def bV {r:R2} (hr:rM X r) (ha:PE X a ta) (hb:PE X b tb) (hs:z_ b):PE X (.Subscript a b pos) (yC r ta tb):=by
 intro pins s σ H Q I h;exact Subscript_ (CY ha hb I h fun v u s2 x y H2 I2 rx ry q=>hr a b pins s2 σ H2 x y v u Q I2 rx ry q (hs _ _))
def Dq (K:W.Frag):R2:=fun x y H Q=> ∃p xs i v,x = .ref p/\y = .int i/\cQ K H p xs/\j4 xs i=some v/\Q v H
def Dn (K:W.Frag):R2:=fun x y H Q=> ∃p xs i v,x = .ref p/\y = .int i/\fx K H p xs/\j4 xs i=some v/\Q v H
def Dp:R2:=fun x y H Q=> ∃z i c,x = .str z/\y = .int i/\z.length<=sizeLine/\j4 z.cps.toList i=some c/\Q (.str ⟨#[c]⟩) H
def zB:rM X (Dq X.K):=by
 intro value slice pins s σ H x y v u Q I rx ry h hs;obtain ⟨p,xs,i,z,rfl,rfl,hq,he,q⟩:=h;cases rx;obtain ⟨t,rfl⟩:=ry;obtain ⟨its,r,pl,hz⟩:=I.list hq;obtain ⟨j,h1,h2,h3,h4,h5⟩:=qQ he;obtain ⟨w,ew,rw'⟩:=r.get h2;have hl:=r.length;have hn:=nR;have fin:EP X pins σ Q w s:=⟨z,H,I,rw',q⟩;by_cases h0:0<=i
 ·have hj:i.toNat=j:=by
   rw [seqIndex_of h0 h5] at h1;exact Option.some.inj h1
  exact item_listR pl.isList h0 (by lia) (by rw [hj];simpa using ew) fin hs
 ·have hj:(i+(its.toArray.size:Int)).toNat=j:=by
   rw [seqIndex_neg (by lia) h4] at h1;rw [List.size_toArray,<-hl];exact Option.some.inj h1
  exact subscriptTail_builtinR (x:=w) pl.isList.typeIs slot_list_getitem.lookup
   (wpAny_getItem_list_neg (Q:=fun r s'=>r=w/\EP X pins σ Q r s') pl.isList (by lia) (by rw [List.size_toArray]<;>lia) (by lia) (by rw [hj];simpa using ew) ⟨rfl,fin⟩) hs
def Ci:rM X (Dn X.K):=by
 intro value slice pins s σ H x y v u Q I rx ry h hs;obtain ⟨p,xs,i,z,rfl,rfl,hq,he,q⟩:=h;cases rx;obtain ⟨t,rfl⟩:=ry;obtain ⟨its,r,pl,hz⟩:=I.tuple hq;obtain ⟨j,h1,h2,h3,h4,h5⟩:=qQ he;obtain ⟨w,ew,rw'⟩:=r.get h2;have hl:=r.length;have hn:=nR;have fin:EP X pins σ Q w s:=⟨z,H,I,rw',q⟩;exact subscriptTail_builtinR (x:=w) pl.typeIs slot_tuple_getitem.lookup
  (getItem_tuple (j:=j) (Q:=fun r s'=>r=w/\EP X pins σ Q r s') pl (by lia) (by lia) (by rw [List.size_toArray,<-hl];exact h1) (by simpa using ew) ⟨rfl,fin⟩) hs
def Cj:rM X Dp:=by
 intro value slice pins s σ H x y v u Q I rx ry h hs;obtain ⟨z,i,c,rfl,rfl,hz,he,q⟩:=h;obtain ⟨t,rfl⟩:=rx;obtain ⟨t',rfl⟩:=ry;obtain ⟨j,h1,h2,h3,h4,h5⟩:=qQ he;have hl:z.cps.toList.length=z.length:=by simp [Str.length]
 rw [hl] at h1 h4 h5;have hn:=nR;exact tail_any (typeIs_str s z t) slot_str_getitem.lookup (getItem_str (c:=c) (by
  have e1:decide (i < -(2 ^ 63:Int))=false:=decide_eq_false (by lia);have e2:decide (i≥2 ^ 63)=false:=decide_eq_false (by lia);rw [e1,e2,Bool.or_false]) (by rw [h1];simpa using h2) ⟨.str ⟨#[c]⟩,H,I.tok _,⟨_,rfl⟩,q⟩) hs
def Jh (K:W.Frag):R2:=fun x y H Q=>Dq K x y H Q\/Dn K x y H Q\/Dp x y H Q
def Ck:rM X (Jh X.K):=zB.or (Ci.or Cj)
def qj (lo hi:Option Int) (n:Nat):(sliceBounds lo hi none n).1=((HT.dP n 0 lo:Nat):Int)/\(sliceBounds lo hi none n).2.1=((HT.dP n n hi:Nat):Int)/\(sliceBounds lo hi none n).2.2=1:=by
 refine ⟨?_,?_,rfl⟩
 ·
  cases lo with
  |none=>simp [sliceBounds,HT.dP]
  |some i=>
   simp only [sliceBounds,HT.dP,Option.getD_none,show (1:Int) > 0 by decide,if_true];by_cases h:i<0
   ·simp only [h,if_true]<;>lia
   ·simp only [h,if_false]<;>lia
 ·
  cases hi with
  |none=>simp [sliceBounds,HT.dP]
  |some i=>
   simp only [sliceBounds,HT.dP,Option.getD_none,show (1:Int) > 0 by decide,if_true];by_cases h:i<0
   ·simp only [h,if_true]<;>lia
   ·simp only [h,if_false]<;>lia
def oG (its:List Value) (lo hi:Option Int):slicePick its.toArray lo hi none=((its.drop (HT.dP its.length 0 lo)).take (HT.dP its.length its.length hi - HT.dP its.length 0 lo)).toArray:=by
 obtain ⟨h1,h2,h3⟩:=qj lo hi its.toArray.size;unfold slicePick;rw [h1,h2,h3];simp only [sliceRange_one,pick_run,List.size_toArray]<;>rfl
def GL (K:W.Frag):V->Option Int->Option Int->Hp->VK->Prop:=fun x lo hi H Q=> ∃a xs,x = .ref a/\cQ K H a xs/\∀p,H p=none->Q (.ref p) (upd H p (.lst (l8 xs lo hi)))
def yF:t5 X (GL X.K):=by
 intro pins s σ H x v vl vu lo hi sl Q I rx hs pl pu h;obtain ⟨a,xs,rfl,hx,q⟩:=h;cases rx;obtain ⟨its,r,ht,hz⟩:=I.list hx;have hlen:=r.length;refine ⟨"list",_,slot_list_getitem.lookup,ht.isList.typeIs,?_⟩;refine wpAny_getItem_list_slice ht.isList hs pl pu .none (by simp) ?_ (by rw [List.size_toArray]<;>lia)
 rw [oG,<-hlen];refine ⟨.ref s.heap.objs.size,_,I.laid (t':=s.toks) (o:= .lst (l8 xs lo hi)) (fun b ob q=>Heap.get?_push_of_some _ q) (Nat.le_refl _) ?_,rfl,q _ (I.hok.fresh (Nat.le_refl _))⟩;exact ⟨Nat.le_trans (my xs lo hi) hz,_,0,(r.drop (HT.dP xs.length 0 lo)).take (HT.dP xs.length xs.length hi - HT.dP xs.length 0 lo),Heap.get?_push_size _ rfl⟩
noncomputable def tP:V->Bool
 | .non=>true
 | .bl _=>true
 | .int _=>true
 | .str _=>true
 |_=>false
noncomputable def JG:V->V->Bool
 | .non,.non=>true
 | .bl a,.bl b=>a == b
 | .bl a,.int b=>(if a then 1 else 0) == b
 | .int a,.bl b=>a == (if b then 1 else 0)
 | .int a,.int b=>a == b
 | .str a,.str b=>a == b
 |_,_=>false
noncomputable def Gw (x:V) (xs:List V):Bool:=xs.any fun y=>JG y x
def qJ:bw X (.builtin "len") (fun xs H Q=> ∃p ys,xs= [.ref p]/\(cQ X.K H p ys\/fx X.K H p ys)/\Q (.int ys.length) H):=by
 intro pins s σ H xs us Q I r h;obtain ⟨p,ys,rfl,hq,q⟩:=h;obtain ⟨u,rfl,rx⟩:=vals1 r;cases rx;have hn:=nR;rcases hq with hq|hq
 ·
  obtain ⟨its,r',pl,hz⟩:=I.list hq;have hlen:=r'.length;exact Calls.call_len_list pl.isList (by simp only [List.size_toArray]<;>lia) ⟨.int ys.length,H,I.tok _,⟨s.toks+1,by rw [List.size_toArray,hlen]⟩,q⟩
 ·
  obtain ⟨its,r',pl,hz⟩:=I.tuple hq;have hlen:=r'.length;exact len_tuple pl (by simp only [List.size_toArray]<;>lia) ⟨.int ys.length,H,I.tok _,⟨s.toks+1,by rw [List.size_toArray,hlen]⟩,q⟩
def qI:bw X (.builtin "len") (fun xs H Q=> ∃z,xs= [.str z]/\z.length<=sizeLine/\Q (.int z.length) H):=by
 intro pins s σ H xs us Q I r h;obtain ⟨z,rfl,hz,q⟩:=h;obtain ⟨u,rfl,t,rfl⟩:=vals1 r;have hn:=nR;exact len_str (by lia) ⟨.int z.length,H,I.tok _,⟨_,rfl⟩,q⟩
def bw.or {f:Value} {r r':List V->Hp->VK->Prop} (h:bw X f r) (h':bw X f r'):bw X f (fun xs H Q=>r xs H Q\/r' xs H Q):=by
 intro pins s σ H xs us Q I rs q;rcases q with q|q
 ·exact h pins s σ H xs us Q I rs q
 ·exact h' pins s σ H xs us Q I rs q
def qH:bw X (.type "list") (fun xs H Q=> ∃p ys,xs= [.ref p]/\(cQ X.K H p ys\/fx X.K H p ys)/\∀l,H l=none->Q (.ref l) (upd H l (.lst ys))):=by
 intro pins s σ H xs us Q I r h;obtain ⟨p,ys,rfl,hq,q⟩:=h;obtain ⟨u,rfl,rx⟩:=vals1 r;cases rx;have fin: ∀(its:List Value),Vals ys its->ys.length<=sizeLine->∀(h':Heap) (c':Nat),(∀b o',s.heap.get? b=some o'->h'.get? b=some o')->
   h'.get? s.heap.objs.size=some {cls:= .type "list",dict:=none,data:= .seq its.toArray c',slots:=#[]}->EP X pins σ Q (.ref s.heap.objs.size) {s with heap:=h'}:=fun its r' hz h' c' kp e=>
  ⟨.ref s.heap.objs.size,_,I.laid (t':=s.toks) kp (Nat.le_refl _) (show bK X.prog X.w _ h' _ (.lst ys) from ⟨hz,its,c',r',e⟩),rfl,q _ (I.hok.fresh (Nat.le_refl _))⟩
 rcases hq with hq|hq
 ·
  obtain ⟨its,r',pl,hz⟩:=I.list hq;have hlen:=r'.length;obtain ⟨o,ho,hc,n,hd⟩:=pl.isList;exact call_list_seq p (.inl rfl) ho hc hd (fun h' c' kp e=>fin its r' hz h' c' kp e) (by simp only [List.size_toArray]<;>lia)
 ·
  obtain ⟨its,r',pl,hz⟩:=I.tuple hq;have hlen:=r'.length;obtain ⟨o,ho,hc,n,hd⟩:=pl;exact call_list_seq p (.inr rfl) ho hc hd (fun h' c' kp e=>fin its r' hz h' c' kp e) (by simp only [List.size_toArray]<;>lia)
def oY:bw X (.type "tuple") (fun xs H Q=> ∃p ys,xs= [.ref p]/\((cQ X.K H p ys/\∀l,H l=none->Q (.ref l) (upd H l (.tup ys)))\/(fx X.K H p ys/\Q (.ref p) H))):=by
 intro pins s σ H xs us Q I r h;obtain ⟨p,ys,rfl,h⟩:=h;obtain ⟨u,rfl,rx⟩:=vals1 r;cases rx;rcases h with ⟨hq,q⟩|⟨hq,q⟩
 ·
  obtain ⟨its,r',pl,hz⟩:=I.list hq;have hlen:=r'.length;refine call_tuple_list pl.isList (fun h' kp=>?_) (by simp only [List.size_toArray]<;>lia)
  have I1:Inv X pins σ H {s with heap:=h'}:=I.kept (t':=s.toks) kp;have I2:Inv X pins σ (upd H h'.objs.size (.tup ys)) {s with heap:=h'.push {cls:= .type "tuple",data:= .seq its.toArray}}:=
   I1.laid (t':=s.toks) (fun b o e=>Heap.get?_push_of_some _ e) (Nat.le_refl _) (show bK X.prog X.w _ _ _ (.tup ys) from ⟨hz,its,r',IsTup.new _ _⟩)
  exact ⟨.ref h'.objs.size,_,I2,rfl,q _ (I1.hok.fresh (Nat.le_refl _))⟩
 ·
  obtain ⟨its,r',pl,hz⟩:=I.tuple hq;exact call_tuple_same pl ⟨.ref p,H,I,rfl,q⟩
def AN (K:W.Frag) (T:String) (x:V) (H:Hp):Prop:=match x with
 | .str _=>T = "str"
 | .int _=>T = "int"
 |
   .ref p=>(T = "list" /\∃xs,cQ K H p xs)\/(T = "tuple" /\∃o,K.lookup p=some o/\o.cls = .type "tuple" /\o.dict=none)\/
   (T = "dict" /\((∃kvs,H p=some (.dK kvs))\/∃kvs,H p=some (.dT kvs)))\/(T = "set" /\∃S n,H p=some (.set S n))
 |_=>False
def AM {pins:List (Addr×Obj)} {σ:St} {H:Hp} {s:Shared} {T:String} {x:V} {v:Value} (I:Inv X pins σ H s) (r:RelV x v) (ty:AN X.K T x H):
  s.TypeIs v T/\∀a,v = .ref a->∃ob,s.heap.get? a=some ob/\ob.dict=none:=by
 cases x with
 |str z=>
  obtain ⟨t,rfl⟩:=r;cases (show T = "str" from ty);exact ⟨typeIs_str s z t,fun _ e=>nomatch e⟩
 |int i=>
  obtain ⟨t,rfl⟩:=r;cases (show T = "int" from ty);exact ⟨typeIs_int s i t,fun _ e=>nomatch e⟩
 |ref p=>
  cases r;rcases ty with ⟨rfl,xs,hq⟩|⟨rfl,o,hk,hc,hd⟩|⟨rfl,hk⟩|⟨rfl,S,n,hk⟩
  ·
   obtain ⟨its,_,pl,_⟩:=I.list hq;refine ⟨pl.isList.typeIs,fun a e=>?_⟩;cases e;obtain ⟨o,n,e,c,hd,_⟩:=pl;exact ⟨o,e,hd⟩
  ·
   refine ⟨⟨o,I.mF p o hk,hc⟩,fun a e=>?_⟩;cases e;exact ⟨o,I.mF _ o hk,hd⟩
  ·have z: ∃o,s.heap.get? p=some o/\o.ExactDict:=by
    rcases hk with ⟨kvs,hk⟩|⟨kvs,hk⟩
    ·
     obtain ⟨_,_,_,_,o,_,_,e,ex,_⟩:=I.hok p _ hk;exact ⟨o,e,ex⟩
    ·
     obtain ⟨_,_,_,_,o,_,_,e,ex,_⟩:=I.hok p _ hk;exact ⟨o,e,ex⟩
   obtain ⟨o,e,ex⟩:=z;refine ⟨⟨o,e,ex.1⟩,fun a e2=>?_⟩;cases e2;exact ⟨o,e,ex.2.1⟩
  ·
   obtain ⟨o,_,_,_,e,ex,_⟩:=I.hok p _ hk;refine ⟨⟨o,e,ex.1⟩,fun a e2=>?_⟩;cases e2;exact ⟨o,e,ex.2.1⟩
 |_=>exact False.elim ty
def GD (K:W.Frag) (T:String) (r:V->List V->Hp->VK->Prop) (to:TE):TE:=fun σ H Q=>to σ H fun x H1=>AN K T x H1/\r x [] H1 Q
def Gs (K:W.Frag) (T:String) (r:V->List V->Hp->VK->Prop) (to:TE) (t:TA):TE:=fun σ H Q=>to σ H fun x H1=>AN K T x H1/\t σ H1 fun xs H2=>r x xs H2 Q
variable {o e:Expr} {es:List Expr} {to:TE} {t:TA} {name:Str} {apos cpos:Pos} {T id:String} {r:V->List V->Hp->VK->Prop}
def Dz (pa:PlainAttrs T) (slot:Slot T name id) (hty:typeOf (.builtin id)=pure (.type "method_descriptor")) (hm:IZ X id r) (ho:PE X o to) (ha:PA X (e::es) t)
  (hbase:attributeBase o name X.env (eval o X.env)=eval o X.env:=by rfl)
  (
   hfew:((backTo cpos (starEach (e::es) X.env)).all (fun x=>!x.1)&&(backToKw cpos (keywordEach [] X.env)).all (fun x=>x.1.isSome)
   &&decide ((e::es).length+([]:List Keyword).length+(if ([]:List Keyword).isEmpty then 0 else 1)<30))=true:=by rfl)
  (hline:(apos.endLine == cpos.line)=true:=by rfl) (hs:starEach (e::es) X.env=(false,eval e X.env)::starEach es X.env:=by rfl) (hplain:(backTo cpos (starEach es X.env)).any (·.1)=false:=by rfl):
  PE X (.Call (.Attribute o name apos) (e::es) [] cpos) (Gs X.K T r to t):=by
 intro pins s σ H Q I h;refine wpAny_Call_method_late hbase hfew hline rfl (thn (ho pins s σ H _ I h) fun v s1 ⟨x,H1,I1,r1,ty,q1⟩=>?_);obtain ⟨h1,h2⟩:=AM I1 r1 ty;refine ⟨T,id,pa,slot,hty,h1,h2,?_⟩;have hA:=ha cpos pins s1 σ H1 _ I1 q1;rw [hs] at hA⊢;refine Calls.callWith_builtin (by show (false||(backTo cpos (starEach es X.env)).any (·.1))=false;rw [hplain]<;>rfl) (Calls.evalArgs_plain ?_)
 exact thn hA fun us s2 ⟨vs,H2,I2,r2,q2⟩=>hm pins s2 σ H2 x vs v us Q I2 r1 r2 q2
end
def JI (X:Cx) (id:String) (r:V->List V->Hp->VK->Prop):Prop:=
 ∀(pins:List (Addr×Obj)) (s:Shared) (σ:St) (H:Hp) (x:V) (xs:List V) (v:Value) (us:List Value) (Q:VK),Inv X pins σ H s->RelV x v->Vals xs us->r x xs H Q->
  wpAny (model X.prog X.w) X.A (call (.builtin id) (v::us)) (EP X pins σ Q) X.xe s
def Vals.one: ∀{x:V} {us:List Value},Vals [x] us->∃u,us= [u]/\RelV x u
 |_,_,.cons r .nil=>⟨_,rfl,r⟩
section
variable {X:Cx} {pins:List (Addr×Obj)} {σ:St} {H:Hp} {s:Shared} {l b:Addr} {xs ys zs:List V}
def Inv.lset {its its':List Value} {n:Nat} {f:Array Value->Array Value} {t':Nat} (I:Inv X pins σ H s) (hH:H l=some (.lst xs))
  (e:s.heap.get? l=some {cls:= .type "list",data:= .seq its.toArray n}) (hf:f its.toArray=its'.toArray) (hv:Vals ys its') (hz:ys.length<=sizeLine):
  Inv X pins σ (upd H l (.lst ys)) {s with heap:=s.heap.update l (Obj.mapSeq f),toks:=t'}:=by
 have q:=PySem.IsL.update e f;rw [hf] at q;refine I.write (x:=l) (e:=l) (by rw [hH];exact trivial) (.inl rfl) (fun b' u hb hu=>(Heap.get?_update_other s.heap (Obj.mapSeq f) (Ne.symm hb)).trans hu) ⟨_,q⟩ ?_;exact ⟨hz,its',_,hv,q⟩
def Inv.lnew {its:List Value} {t':Nat} (I:Inv X pins σ H s) (hv:Vals ys its) (hz:ys.length<=sizeLine):
  Inv X pins σ (upd H s.heap.objs.size (.lst ys)) {s with heap:=s.heap.push {cls:= .type "list",data:= .seq its.toArray},toks:=t'}:=
 I.laid (fun _ _ q=>Heap.get?_push_of_some _ q) (Nat.le_refl _) ⟨hz,its,0,hv,Heap.get?_push_size _ rfl⟩
def Inv.fresh (I:Inv X pins σ H s):H s.heap.objs.size=none:=I.hok.fresh (Nat.le_refl _)
def Inv.Bs (I:Inv X pins σ H s) (hH:H l=some (.lst xs)):xs.length<=sizeLine/\∃(its:List Value) (n:Nat),Vals xs its/\xs.length=its.length/\s.heap.get? l=some {cls:= .type "list",data:= .seq its.toArray n}:=by
 obtain ⟨z,its,n,r,e⟩:=I.hok l _ hH;exact ⟨z,its,n,r,r.length,e⟩
end
section
variable {X:Cx}
def yZ:V->List V->Hp->VK->Prop:=fun x vs H Q=> ∃l xs y,x = .ref l/\vs= [y]/\H l=some (.lst xs)/\xs.length<sizeLine/\Q .non (upd H l (.lst (xs++ [y])))
def vc:JI X "list.append" yZ:=by
 intro pins s σ H x vs v us Q I rx rv h;obtain ⟨l,xs,y,rfl,rfl,hH,hz,q⟩:=h;cases rx;obtain ⟨u,rfl,ru⟩:=rv.one;obtain ⟨z,its,n,r,hl,e⟩:=I.Bs hH;refine call_meets F.slot_list_append ⟨_,e,rfl⟩ F.entry_list_append (F.args_list_append_2 _ _) (PySem.list_append l its.toArray n u (by rw [List.size_toArray];lia)) ⟨e,?_⟩;refine ⟨.non,_,I.lset (its':=its++ [u]) hH e (by simp) (r.append (.cons ru .nil)) ?_,rfl,q⟩;rw [List.length_append,List.length_singleton];lia
def Du:R2:=fun x y H Q=> ∃l b xs zs,x = .ref l/\y = .ref b/\H l=some (.lst xs)/\H b=some (.lst zs)/\xs.length+zs.length<=sizeLine/\∀p,H p=none->Q (.ref p) (upd H p (.lst (xs++zs)))
def Bm:ft X (binaryOp .Add) Du:=by
 intro pins s σ H x y v u Q I rx ry h;obtain ⟨l,b,xs,zs,rfl,rfl,hH,hB,hz,q⟩:=h;cases rx;cases ry;obtain ⟨z,its,n,r,hl,e⟩:=I.Bs hH;obtain ⟨z2,its2,n2,r2,hl2,e2⟩:=I.Bs hB;refine PySem.P.add_list e e2 ?_ (by rw [List.size_toArray,List.size_toArray];lia);have ea:its.toArray++its2.toArray=(its++its2).toArray:=by simp
 rw [ea];exact ⟨.ref _,_,I.lnew (t':=s.toks) (r.append r2) (by rw [List.length_append];lia),rfl,q _ I.fresh⟩
end
section
variable {prog:Program} {w:World} {A:Around} {E:Value->Shared->Prop} {s:Shared}
end
section
variable {X:Cx}
end
end L2
namespace Att
open PySem PySem.W PySem.Calls PyProof.Rows
def mG {P:Params} {h:Heap}: ∀(ns:List Int) (vs:List Value),WellAll P h vs (ns.map WData.int)->IntsAre vs ns:=by
 intro ns
 induction ns with
 |nil=>
  intro vs w;rw [List.map_nil] at w;cases w;exact .nil
 |cons n ns ih=>
  intro vs w;rw [List.map_cons] at w;cases w with
  |cons a b=>
   cases a;exact .cons _ _ (ih _ b)
def uv {l:OpenLaw} {n:Nat} (hn:l.most=some n) {P:Params} {h:Heap} {args:List WData} {vals:List Value}
  (hpre:l.row.toRowW.claim.pre args=true) (hwl:WellAll P h vals args):
  ∃a vs ns,vals= [Value.ref a]/\args= [WData.list (ns.map WData.int)]/\h.get? a=some {cls:= .type "list",data:= .seq vs.toArray}/\IntsAre vs ns/\ns.length<=n:=by
 have hsh:WShape.hasAll [] args [.list .int]=true:=(pre_splitW hpre).1;have hc:l.pre.holds [] {args:=args}=true:=(pre_splitW hpre).2;obtain ⟨d,r,rfl,h1,h2⟩:=hasAllW_cons hsh;obtain rfl:=hasAllW_nil h2;obtain ⟨xs,rfl,h3⟩:=hasW_list h1;obtain ⟨ns,rfl⟩:=items_int h3;have hlen:ns.length<=n:=by
  unfold OpenLaw.pre at hc;have h4:(WTm.not (.lt (.lit (.int (n:Int))) (.len (.arg 0)))).holds [] {args:=[.list (ns.map .int)]}=true:=by
   have h4:=(holds_andW hc).1;rw [hn] at h4;exact h4
  have h5:=condW_of h4 (w_not (w_lt w_lit (w_len_list (w_arg rfl))));rw [List.length_map] at h5;refine Nat.le_of_not_lt fun q=>?_;have q':(n:Int)<((ns.length:Nat):Int):=by lia
  first
   |(rw [decide_eq_true q'] at h5;exact absurd h5 (by decide))
   |(simp at h5;lia)
 cases hwl with
 |cons w1 w2=>
  cases w2;cases w1 with
  |list ho hall=>exact ⟨_,_,ns,rfl,rfl,ho,mG ns _ hall,hlen⟩
def uY (l:OpenLaw) (args:List WData):l.row.toRowW.claim.post args (.bool true) args=true:=
 postW_of (r:=l.row.toRowW) (X:=(true == true))
  (show WShape.has [] (.bool true) .bool=true by first|rfl|decide|simp [WShape.has,WShape.arms,WShape.armsAll])
  (show (WTm.eq .res (.lit (.bool true))).value [] {args:=args,res:=some (.bool true),after:=args}=some (.bool (true == true)) from w_eq_bool (w_res rfl) w_lit) rfl
def rL {l:OpenLaw} {n:Nat} {q:Program} {loose:List Str} {XP:(Str->Option Value)->Heap->Prop} {YP:World->Heap->Prop} {d:DefRec}
  (hn:l.most=some n) (hdf:d.params.defaults= [])
  (
   call: ∀(w:World) (s₀ s₁:Shared) (mg mb:Str->Option Value) (fa:Addr) (o:Obj) (pm cd doc:Value) (a:Addr) (vs:List Value) (ns:List Int),
   Ground q loose [] XP w s₀ mg mb s₁.heap->YP w s₁.heap->
   s₁.heap.get? fa=some o->o.data = .func (docDef d.name d.params d.body d.scope pm cd doc)->s₁.heap.CodeRec cd d.name->mg d.name=some (.ref fa)->
   s₁.heap.get? a=some {cls:= .type "list",data:= .seq vs.toArray}->IntsAre vs ns->ns.length<=n->s₁.gens = #[]->
   codeAny (model l.prog w) callerA (.call (.ref fa) ⟨[.ref a],[]⟩) (fun r s'=>r = .ok (.ret (.bool true))/\OldK s₁.heap s'.heap/\s'.os=s₁.os/\AllBare s'.gens) s₁):
  WalkO q loose XP YP l.row.toRowW d [] (fun f vs=>PySem.call f vs):=by
 intro w s₀ s₁ mg mb G Y fa o pm cd doc dV kV ho hd hcd hD hmg hg args vals as hpre hlay hrd hwl hlo;obtain rfl:dV = .none:=Dflts.none hD hdf;obtain rfl:kV = .none:=Dflts.noKw hD;obtain ⟨a,vs,ns,rfl,rfl,hobj,hints,hlen⟩:=uv hn hpre hwl;refine enter_call (codeAny_mono (call w s₀ s₁ mg mb fa o pm cd doc a vs ns G Y ho (fd_plain hd) hcd hmg hobj hints hlen hg) fun r s' hq=>?_);obtain ⟨rfl,h2,h3,h4⟩:=hq;exact ⟨.inl ⟨.bool true,.bool true,[],rfl,fun _=>rfl,.bool true,uY l _,fun _=>⟨List.Pairwise.nil,fun _ hm=>(nomatch hm)⟩⟩,h2,h3,h4⟩
section
variable {prog:Program} {w:World} {A:Around} {E:Value->Shared->Prop} {s:Shared} {K:Frag}
end
end Att
namespace L2
open PySem PySem.Spec PyProof.Rows
def pC: ∀{vs:List Value} {ns:List Int},IntsAre vs ns->Vals (ns.map V.int) vs
 |_,_,.nil=> .nil
 |_,_,.cons n t h=> .cons ⟨t,rfl⟩ (pC h)
def yn (H:Hp):Prop:= ∀b,H b=none\/∃o xs,H b=some (.frz o (.lst xs))
def xo {P:Program} {w:World} {K:W.Frag} {mg mb:Str->Option Value} {CX:nz} {k:Nat} {fa a:Addr} {fd:FuncData} {x:Str} {sp:Sp} {s₁:Shared} {vs:List Value} {ns:List Int}
  (KX:K.In s₁.heap) (hns:s₁.heap.Ns mainGlobals mg) (hb:s₁.heap.Ns builtinsNs mb) (hbb: ∀x:Str,x≠ "__name__" ->mb x=bootBuiltins x) (hlim:s₁.heap.NoLimit) (hg:s₁.gens = #[])
  (ha:s₁.heap.get? a=some {cls:= .type "list",data:= .seq vs.toArray}) (hi:IntsAre vs ns) (hl:ns.length<=sizeLine) (hr:dH k callerA)
  (F: ∀base:Heap,K.In base->base.Ns mainGlobals mg->ml P w K mg base CX k fa fd [x] sp) (hbind: ∀(s:Shared) (u:Value),BindsTo s fd ⟨[u],[]⟩ [(x,u)])
  (hsp: ∀H:Hp,yn H->cQ K H a (ns.map V.int)->sp [.ref a] H (fun v _=>v = .bl true) fun _ _ _=>False)
  (hCX: ∀H e s',CX [] H s₁ (fun _ _ _=>False) e s'->False):
  codeAny (model P w) callerA (.call (.ref fa) ⟨[.ref a],[]⟩) (fun r s'=>r = .ok (.ret (.bool true))/\OldK s₁.heap s'.heap/\s'.os=s₁.os/\AllBare s'.gens) s₁:=by
 have rv:=pC hi;have lenV:=hi.length

 have core: ∀H:Hp,yn H->cQ K H a (ns.map V.int)->kI P w H s₁.heap->(∀b,H b≠none->b=a)->(H a≠none->K.lookup a=none)->
   codeAny (model P w) callerA (.call (.ref fa) ⟨[.ref a],[]⟩) (fun r s'=>r = .ok (.ret (.bool true))/\OldK s₁.heap s'.heap/\s'.os=s₁.os/\AllBare s'.gens) s₁:=by
  intro H hO hS hok hA hK;have base_of: ∀{b:Addr} {o:Obj},s₁.heap.get? b=some o->H b=none->(qC s₁.heap H).get? b=some o:=fun e n=>xM e n;have noA: ∀{b:Addr} {o:Obj} {es:Array DictEntry} {ep:Nat},s₁.heap.get? b=some o->o.data = .dict es ep->H b=none:=fun {b o es ep} e d=>by
   cases q:H b with
   |none=>rfl
   |some u=>
    have e':b=a:=hA b (by rw [q];simp);subst e';rw [ha] at e;cases e;have d':Data.seq vs.toArray _=Data.dict es ep:=d;cases d'
  have nsK: ∀{b:Addr} {m:Str->Option Value},s₁.heap.Ns b m->(qC s₁.heap H).Ns b m:=fun {b m} ⟨o,es,ep,e,d,r⟩=>⟨o,es,ep,base_of e (noA e d),d,r⟩;have hKb:K.In (qC s₁.heap H):=fun b o e=>base_of (KX b o e) (by
   cases q:H b with
   |none=>rfl
   |some u=>
    have e':b=a:=hA b (by rw [q];simp);subst e';rw [hK (by rw [q];simp)] at e;cases e)
  have hM:Mod K mg (qC s₁.heap H):=⟨hKb,nsK hns,⟨mb,nsK hb,hbb⟩,let ⟨mc,h1,h2⟩:=hlim;⟨mc,nsK h1,h2⟩⟩;have e0:sN P w K mg (qC s₁.heap H) callerA [] s₁ H:=⟨rfl,hM,fun b o e=>zw e,Nat.le_of_eq (vn _ _),trivial,fun b hb=>absurd (show b∈([]:List Addr) from hb) (by simp),hok,.of_eq hg⟩;refine codeAny_mono ((F _ hKb (nsK hns)).run callerA [] s₁ H ⟨[.ref a],[]⟩ [.ref a] [.ref a] _ _ hr e0 (hbind s₁ (.ref a)) (.cons rfl .nil) (hsp H hO hS)) fun r s' h=>?_;cases r with
  |error e=>exact (hCX H e s' h).elim
  |ok fl=>
   cases fl with
   |next=>exact False.elim h
   |brk=>exact False.elim h
   |cont=>exact False.elim h
   |ret u=>
    obtain ⟨v,H',os,bare,un,hok',r',q⟩:=h;have q':v = .bl true:=q;subst q';obtain rfl:u=Value.bool true:=r';refine ⟨rfl,OldK.of_keep fun b o e=>?_,os,bare⟩;cases q:H b with
    |none=>exact un.keep b o e q (by intro z;exact absurd (show b∈([]:List Addr) from z) (by simp)) (by simp)
    |some u=>
     rcases hO b with z|⟨ob,xs,z⟩
     ·rw [q] at z;cases z
     ·
      have z2:=un.frzs b ob _ z;obtain ⟨e1,_⟩:=hok b _ z;obtain ⟨e2,_⟩:=hok' b _ z2;rw [e] at e1;cases e1;exact e2
 cases hk:K.lookup a with
 |some o=>

  have e:=KX a o hk;rw [ha] at e;cases e;refine core (fun _=>none) (fun _=> .inl rfl) (.inr ⟨_,vs.toArray,_,hk,rfl,rfl,rfl,by rw [List.size_toArray,lenV];exact hl,by simpa using rv⟩) (fun b u z=>by have z':(none:Option HO)=some u:=z;cases z') (fun b z=>absurd rfl z) fun z=>absurd rfl z
 |none=>
  refine core (fun b=>if b=a then some (.frz {cls:= .type "list",data:= .seq vs.toArray} (.lst (ns.map V.int))) else none) (fun b=>?_) (.inl (.inr ⟨{cls:= .type "list",data:= .seq vs.toArray},if_pos rfl⟩)) (fun b u z=>?_) (fun b z=>?_) fun _=>hk
  ·
   by_cases hb:b=a
   ·exact .inr ⟨_,_,if_pos hb⟩
   ·exact .inl (if_neg hb)
  ·
   by_cases hb:b=a
   ·
    have z':=(if_pos hb).symm.trans z;cases z';subst hb;exact ⟨ha,by rw [List.length_map];exact hl,vs,_,rv,ha⟩
   ·
    have z':=(if_neg hb).symm.trans z;cases z'
  ·
   by_cases hb:b=a
   ·exact hb
   ·exact absurd (if_neg hb) z
def yx {l:W.OpenLaw} {n k:Nat} {q:Program} {loose:List Str} {XP:(Str->Option Value)->Heap->Prop} {YP:World->Heap->Prop} {d:DefRec} {K:Params->W.Frag} {CX:World->nz} {sp:World->Sp} {x:Str}
  (hn:l.most=some n) (hn2:n<=sizeLine) (hdf:d.params.defaults= []) (hr:dH k callerA)
  (hY: ∀(w:World) (h:Heap),YP w h->(K w.params).In h)
  (
   F: ∀(w:World) (mg:Str->Option Value) (fa:Addr) (h:Heap),(K w.params).In h->h.Ns mainGlobals mg->mg d.name=some (.ref fa)->
   ∃fd:FuncData,(∀(s:Shared) (u:Value),BindsTo s fd ⟨[u],[]⟩ [(x,u)])/\
    ∀base:Heap,(K w.params).In base->base.Ns mainGlobals mg->ml l.prog w (K w.params) mg base (CX w) k fa fd [x] (sp w))
  (hsp: ∀(w:World) (H:Hp) (a:Addr) (ns:List Int),ns.length<=n->yn H->cQ (K w.params) H a (ns.map V.int)->sp w [.ref a] H (fun v _=>v = .bl true) fun _ _ _=>False)
  (hCX: ∀(w:World) (H:Hp) (s:Shared) (e:Value) (s':Shared),CX w [] H s (fun _ _ _=>False) e s'->False):
  W.WalkO q loose XP YP l.row.toRowW d [] (fun f vs=>PySem.call f vs):=by
 refine Att.rL hn hdf fun w s₀ s₁ mg mb fa o pm cd doc a vs ns G Y ho hd hcd hmg hobj hints hlen hg=>?_;have KX:=hY w _ Y;obtain ⟨fd,hb,hF⟩:=F w mg fa _ KX G.T.g hmg;exact xo KX G.T.g G.T.b G.T.builtins G.T.nolimit hg hobj hints (Nat.le_trans hlen hn2) hr hF hb (fun H hO hS=>hsp w H a ns hlen hO hS) fun H e s'=>hCX w H s₁ e s'
def vG {l:W.OpenLaw} {n k:Nat} {q:Program} {loose:List Str} {XP:(Str->Option Value)->Heap->Prop} {YP:World->Heap->Prop} {d:DefRec} {K:Params->W.Frag} {CX:nz} {sp:W.Frag->Sp} {x:Str}
  (hn:l.most=some n) (hn2:n<=sizeLine) (hdf:d.params.defaults= []) (hr:dH k callerA)
  (hY: ∀(w:World) (h:Heap),YP w h->(K w.params).In h)
  (
   F: ∀(w:World) (mg:Str->Option Value) (fa:Addr) (h:Heap),(K w.params).In h->h.Ns mainGlobals mg->mg d.name=some (.ref fa)->
   ∃fd:FuncData,(∀(s:Shared) (u:Value),BindsTo s fd ⟨[u],[]⟩ [(x,u)])/\
    ∀base:Heap,(K w.params).In base->base.Ns mainGlobals mg->ml l.prog w (K w.params) mg base CX k fa fd [x] (sp (K w.params)))
  (hsp: ∀(K:W.Frag) (H:Hp) (a:Addr) (ns:List Int),ns.length<=n->yn H->cQ K H a (ns.map V.int)->sp K [.ref a] H (fun v _=>v = .bl true) fun _ _ _=>False)
  (hCX: ∀(H:Hp) (s:Shared) (e:Value) (s':Shared),CX [] H s (fun _ _ _=>False) e s'->False):
  W.WalkO q loose XP YP l.row.toRowW d [] (fun f vs=>PySem.call f vs):=
 yx (K:=K) (CX:=fun _=>CX) (sp:=fun w=>sp (K w.params)) hn hn2 hdf hr hY F (fun w H a ns h1 h2 h3=>hsp (K w.params) H a ns h1 h2 h3) fun _ H s e s'=>hCX H s e s'
end L2
namespace L2
open PySem PySem.Spec PyProof.Rows
noncomputable def inClass (s:Stmt) (j:Nat):Stmt:=match s with
 | .ClassDef _ _ _ body _ _ _ _ _ _ _=>body.getD j (.Pass ⟨0,0,0,0⟩)
 |_=> .Pass ⟨0,0,0,0⟩
noncomputable def dX (s:Stmt):Arguments:=match s with
 | .FunctionDef _ a _ _ _ _ _ _ _ _=>a
 |_=>{posonlyargs:=[],args:=[],vararg:=none,kwonlyargs:=[],kw_defaults:=[],kwarg:=none,defaults:=[]}
noncomputable def cP (s:Stmt):List Stmt:=match s with
 | .FunctionDef _ _ b _ _ _ _ _ _ _=>b
 |_=>[]
noncomputable def aD (s:Stmt):Scope:=match s with
 | .FunctionDef _ _ _ _ _ _ sc _ _ _=>sc
 |_=>{kind:= .function,names:=[],isGenerator:=false,isCoroutine:=false}
abbrev fz:nz:=fun _ _ _ _ _ _=>False
abbrev E0:XK:=fun _ _ _=>False
def DA {X:Cx}:Passes fz X E0:=fun _ _ _ _ _ _ _ h=>h.elim
structure Gq (K:W.Frag) (x qual:Str) (st:Stmt) (f:Addr) (fd:FuncData):Prop where
 ex: ∃(oc:Value) (od:Option Addr) (kV doc pm:Value) (an:Option Addr) (cdv ct:Value) (osl:Array (Option Value)),
  fd=W.fnOf x qual (dX st) (cP st) (aD st) .none kV doc pm an cdv ct/\K.lookup f=some ⟨oc,od,.func fd,osl⟩/\W.codeIn K cdv qual=true
 kp:W.keepIn K (.ref f)=true
section
variable {P:Program} {w:World} {K:W.Frag} {mg:Str->Option Value} {base:Heap}
def Gq.binds {x qual:Str} {st:Stmt} {f:Addr} {fd:FuncData} {ps:List Str} (F:Gq K x qual st f fd)
  (h: ∀(kV doc pm:Value) (an:Option Addr) (cdv ct:Value) (us:List Value),us.length=ps.length->bindArgs (W.fnOf x qual (dX st) (cP st) (aD st) .none kV doc pm an cdv ct) ⟨us,[]⟩=pure (ps.zip us)):Binds K fd ps []:=by
 obtain ⟨oc,od,kV,doc,pm,an,cdv,ct,osl,rfl,lk,hcd⟩:=F.ex;exact .all (h kV doc pm an cdv ct)
def xQ {x qual:Str} {st:Stmt} {f:Addr} {oc:Value} {od an:Option Addr} {osl:Array (Option Value)} {kV doc pm cdv ct:Value} (l:K.lookup f=some ⟨oc,od,.func (W.fnOf x qual (dX st) (cP st) (aD st) .none kV doc pm an cdv ct),osl⟩)
  (c:W.codeIn K cdv qual=true) (k:W.keepIn K (.ref f)=true):Gq K x qual st f (W.fnOf x qual (dX st) (cP st) (aD st) .none kV doc pm an cdv ct):=⟨⟨oc,od,kV,doc,pm,an,cdv,ct,osl,rfl,l,c⟩,k⟩
end
section
variable {X:Cx}
def pv (i:Nat) {x:Str} {pos:Pos} (hN:X.N[i]?=some x:=by rfl) (hv:Gz X.env.scope x:=by first|exact Or.inl rfl|exact Or.inr (Or.inl rfl)|exact Or.inr (Or.inr rfl)) (hd:(x == ("__debug__" : Str))=false:=by decide)
  (hcd:(x == ("__classdict__" : Str))=false:=by decide):PE X (.Name x pos) (AQ i):=Bb hN hv hd hcd
end
def cC (H H':Hp):Prop:= ∀b o,H b=some o->H' b=some o
def cC.refl (H:Hp):cC H H:=fun _ _ h=>h
def cC.seq {K:W.Frag} {H H':Hp} {a:Addr} {xs:List V} (e:cC H H') (h:cQ K H a xs):cQ K H' a xs:=by
 rcases h with (h|⟨o,h⟩)|h
 ·exact .inl (.inl (e _ _ h))
 ·exact .inl (.inr ⟨o,e _ _ h⟩)
 ·exact .inr h
section
variable {κ:Type} [DecidableEq κ]
noncomputable def aX (kvs:List (κ×V)) (k:κ):Option V:=(kvs.find? fun kv=>decide (kv.1=k)).map (·.2)
noncomputable def putK (kvs:List (κ×V)) (k:κ) (v:V):List (κ×V):=
 if (kvs.any fun kv=>decide (kv.1=k))=true then kvs.map (fun kv=>if kv.1=k then (kv.1,v) else kv) else kvs++ [(k,v)]
noncomputable def cS (kvs:List (κ×V)) (k:κ):List (κ×V):=kvs.filter fun kv=>decide (kv.1≠k)
def bT {p:κ×V} {r:List (κ×V)} {k:κ} (e:p.1=k):aX (p::r) k=some p.2:=by simp [aX,List.find?_cons,e]
def bN {p:κ×V} {r:List (κ×V)} {k:κ} (e: ¬p.1=k):aX (p::r) k=aX r k:=by simp [aX,List.find?_cons,e]
def kJ (k:κ): ∀kvs:List (κ×V),(kvs.any fun kv=>decide (kv.1=k))=(aX kvs k).isSome
 | []=>rfl
 |p::r=>by
  rw [List.any_cons];by_cases e:p.1=k
  ·simp only [bT e,decide_eq_true e,Bool.true_or,Option.isSome_some]
  ·rw [bN e,decide_eq_false e,Bool.false_or];exact kJ k r
def qU (k j:κ) (y:V): ∀kvs:List (κ×V),aX (kvs.map fun kv=>if kv.1=k then (kv.1,y) else kv) j=(aX kvs j).map fun x=>if j=k then y else x
 | []=>rfl
 |p::r=>by
  have ih:=qU k j y r;rw [List.map_cons];by_cases h:p.1=k
  ·
   rw [if_pos h];by_cases e:p.1=j
   ·rw [bT (p:=(p.1,y)) e,bT e,Option.map_some,if_pos (e.symm.trans h)]
   ·rw [bN (p:=(p.1,y)) e,bN e,ih]
  ·
   rw [if_neg h];by_cases e:p.1=j
   ·rw [bT (p:=p) e,bT e,Option.map_some,if_neg (fun z=>h (e.trans z))]
   ·rw [bN (p:=p) e,bN e,ih]
def pD (k j:κ) (y:V): ∀kvs:List (κ×V),aX kvs k=none->aX (kvs++ [(k,y)]) j=if j=k then some y else aX kvs j
 | [],_=>by
  by_cases e:k=j
  ·rw [if_pos e.symm];exact bT (p:=(k,y)) e
  ·rw [if_neg (fun z=>e z.symm)];exact bN (p:=(k,y)) e
 |p::r,hn=>by
  rw [List.cons_append];have hk: ¬p.1=k:=fun z=>by rw [bT z] at hn;cases hn
  rw [bN hk] at hn;have ih:=pD k j y r hn;by_cases e:p.1=j
  ·rw [bT e,bT e,if_neg (fun z=>hk (e.trans z))]
  ·rw [bN e,bN e,ih]
def iR (kvs:List (κ×V)) (k j:κ) (y:V):aX (putK kvs k y) j=if j=k then some y else aX kvs j:=by
 unfold putK;by_cases a:(kvs.any fun kv=>decide (kv.1=k))=true
 ·
  rw [if_pos a,qU];rw [kJ] at a;by_cases e:j=k
  ·
   obtain ⟨x,hx⟩:=Option.isSome_iff_exists.mp a;rw [if_pos e,e,hx,Option.map_some,if_pos rfl]
  ·
   rw [if_neg e];cases aX kvs j with
   |none=>rfl
   |some x=>rw [Option.map_some,if_neg e]
 ·
  rw [if_neg a];refine pD k j y kvs ?_;rw [kJ] at a;cases q:aX kvs k with
  |none=>rfl
  |some x=>rw [q] at a;exact (a rfl).elim
def bY (kvs:List (κ×V)) (k:κ) (v:V):(putK kvs k v).length<=kvs.length+1:=by
 unfold putK;split
 ·rw [List.length_map];lia
 ·rw [List.length_append,List.length_cons,List.length_nil];lia
def iQ.gM {o:Option V} {u:Option Value} (r:iQ o u):o.isSome=u.isSome:=by
 cases o with
 |none=>cases u with
  |none=>rfl
  |some _=>exact (show False from r).elim
 |some _=>cases u with
  |none=>exact (show False from r).elim
  |some _=>rfl
def KV.val {kvs:List (κ×V)} {vs:List (κ×Value)} (r:KV kvs vs) (k:κ):iQ (aX kvs k) (valueAt vs k):=by
 unfold KV at r
 induction r with
 |nil=>exact True.intro
 | @cons p q ps qs h t ih=>
  obtain ⟨h1,h2⟩:=h;by_cases e:p.1=k
  ·
   have e':q.1=k:=h1.symm.trans e;have b:valueAt (q::qs) k=some q.2:=by simp [valueAt,List.find?_cons,e']
   rw [bT e,b];exact h2
  ·
   have e': ¬q.1=k:=fun z=>e (h1.trans z);have b:valueAt (q::qs) k=valueAt qs k:=by simp [valueAt,List.find?_cons,e']
   rw [bN e,b];exact ih
def KV.any {kvs:List (κ×V)} {vs:List (κ×Value)} (r:KV kvs vs) (k:κ):(kvs.any fun kv=>decide (kv.1=k))=vs.any fun kv=>decide (kv.1=k):=by
 unfold KV at r
 induction r with
 |nil=>rfl
 |cons h t ih=>rw [List.any_cons,List.any_cons,ih,h.1]
def KV.repl {kvs:List (κ×V)} {vs:List (κ×Value)} (r:KV kvs vs) (k:κ) {y:V} {u:Value} (ry:RelV y u):
  KV (kvs.map fun kv=>if kv.1=k then (kv.1,y) else kv) (vs.map fun kv=>if kv.1=k then (kv.1,u) else kv):=by
 unfold KV at r⊢
 induction r with
 |nil=>exact .nil
 | @cons p q ps qs h t ih=>
  rw [List.map_cons,List.map_cons];refine .cons ?_ ih;obtain ⟨h1,h2⟩:=h;by_cases e:p.1=k
  ·rw [if_pos e,if_pos (h1.symm.trans e)];exact ⟨h1,ry⟩
  ·rw [if_neg e,if_neg (fun z=>e (h1.trans z))];exact ⟨h1,h2⟩
def KV.put {kvs:List (κ×V)} {vs:List (κ×Value)} (r:KV kvs vs) (k:κ) {y:V} {u:Value} (ry:RelV y u):KV (putK kvs k y) (stored vs k u):=by
 unfold putK stored;rw [r.any k];by_cases e:(vs.any fun kv=>decide (kv.1=k))=true
 ·rw [if_pos e,if_pos e];exact r.repl k ry
 ·rw [if_neg e,if_neg e];exact Paired.snoc r ⟨rfl,ry⟩
def KV.drop {kvs:List (κ×V)} {vs:List (κ×Value)} (r:KV kvs vs) (k:κ):KV (cS kvs k) (without vs k):=by
 unfold KV at r⊢;unfold cS without
 induction r with
 |nil=>exact .nil
 | @cons p q ps qs h t ih=>
  obtain ⟨h1,h2⟩:=h;rw [List.filter_cons,List.filter_cons];by_cases e:p.1=k
  ·
   have a: ¬decide (p.1≠k)=true:=by simp [e]
   have b: ¬decide (q.1≠k)=true:=by simp [h1.symm.trans e]
   rw [if_neg a,if_neg b];exact ih
  ·
   have e': ¬q.1=k:=fun z=>e (h1.trans z);have a:decide (p.1≠k)=true:=by simp [e]
   have b:decide (q.1≠k)=true:=by simp [e']
   rw [if_pos a,if_pos b];exact .cons ⟨h1,h2⟩ ih
def KV.length {kvs:List (κ×V)} {vs:List (κ×Value)} (r:KV kvs vs):kvs.length=vs.length:=Paired.length r
def xV (kvs:List (κ×V)) (k:κ):(cS kvs k).length<=kvs.length:=List.length_filter_le _ _
end
def mw {P:Program} {w:World} {k:Key} {u:Value} (r:RelV (kV k) u):(bQ P w).is k u=true:=by
 cases k with
 |inl i=>obtain ⟨t,e⟩:=(show∃t,u=Value.int i t from r);subst e;exact rj P w i t
 |inr x=>obtain ⟨t,e⟩:=(show∃t,u=Value.str x t from r);subst e;exact ri P w x t
def pU {P:Program} {w:World}: ∀{ks:List Key} {us:List Value},Vals (ks.map kV) us->ItemsAre (bQ P w) ks us
 | [],_,r=>by rw [List.map_nil] at r;cases r;exact .nil
 |k::ks,_,r=>by
  rw [List.map_cons] at r;cases r with
  |cons h t=>exact .cons (mw h) (pU t)
abbrev KT (H:Hp):List (List Key×V)->List (List Key×Addr×Value)->Prop:=Paired fun p q=>p.1=q.1/\H q.2.1=some (.tup (p.1.map kV))/\RelV p.2 q.2.2
def KT.val {H:Hp} {kvs:List (List Key×V)} {xs:List (List Key×Addr×Value)} (r:KT H kvs xs) (k:List Key):iQ (aX kvs k) ((atKey xs k).map (·.2)):=by
 induction r with
 |nil=>exact True.intro
 | @cons p q ps qs h t ih=>
  obtain ⟨h1,_,h2⟩:=h;by_cases e:p.1=k
  ·
   have e':q.1=k:=h1.symm.trans e;have b:atKey (q::qs) k=some q.2:=by simp [atKey,List.find?_cons,e']
   rw [bT e,b];exact h2
  ·
   have e': ¬q.1=k:=fun z=>e (h1.trans z);have b:atKey (q::qs) k=atKey qs k:=by simp [atKey,List.find?_cons,e']
   rw [bN e,b];exact ih
def KT.repl {H:Hp} {kvs:List (List Key×V)} {xs:List (List Key×Addr×Value)} (r:KT H kvs xs) (k:List Key) {y:V} {u:Value} (ry:RelV y u):
  KT H (kvs.map fun kv=>if kv.1=k then (kv.1,y) else kv) (xs.map (putAt k u)):=by
 induction r with
 |nil=>exact .nil
 | @cons p q ps qs h t ih=>
  rw [List.map_cons,List.map_cons];refine .cons ?_ ih;obtain ⟨h1,h2,h3⟩:=h;unfold putAt;by_cases e:p.1=k
  ·rw [if_pos e,if_pos (h1.symm.trans e)];exact ⟨h1,h2,ry⟩
  ·rw [if_neg e,if_neg (fun z=>e (h1.trans z))];exact ⟨h1,h2,h3⟩
def KT.put {H:Hp} {kvs:List (List Key×V)} {xs:List (List Key×Addr×Value)} (r:KT H kvs xs) (k:List Key) {b:Addr} {y:V} {u:Value} (hb:H b=some (.tup (k.map kV))) (ry:RelV y u):
  KT H (putK kvs k y) (storedH xs k b u):=by
 have e:(kvs.any fun kv=>decide (kv.1=k))=(atKey xs k).isSome:=by
  rw [kJ,(r.val k).gM,Option.isSome_map]
 unfold putK storedH;rw [e];by_cases q:(atKey xs k).isSome=true
 ·rw [if_pos q,if_pos q];exact r.repl k ry
 ·rw [if_neg q,if_neg q];exact Paired.snoc r ⟨rfl,hb,ry⟩
def KT.keeps {H H':Hp} {kvs:List (List Key×V)} {xs:List (List Key×Addr×Value)} (r:KT H kvs xs) (ht: ∀b ys,H b=some (.tup ys)->H' b=some (.tup ys)):KT H' kvs xs:=
 Paired.Br r fun _ _ z=>⟨z.1,ht _ _ z.2.1,z.2.2⟩
section
variable {P:Program} {w:World} {H:Hp} {h:Heap} {a:Addr}
def Ao {u:HO} (ok:kI P w H h) (e:Rd H a u):bK P w H h a u:=e.ok ok
def pW {kvs:List (Key×V)} (ok:kI P w H h) (e:Rd H a (.dK kvs)):kvs.length<=sizeLine/\(a == sysModules)=false/\∃vs,KV kvs vs/\h.DictOf (bQ P w) a vs:=
 show bK P w H h a (.dK kvs) from Ao ok e
def tQ {kvs:List (Key×V)} (ok:kI P w H h) (e:H a=some (.dK kvs)):kvs.length<=sizeLine/\(a == sysModules)=false/\∃vs,KV kvs vs/\h.DictOf (bQ P w) a vs:=pW ok (.inl e)
def nS {ks:List Key} (ok:kI P w H h) (e:H a=some (.tup (ks.map kV))):(tupleKind (bQ P w)).is h ks a:=by
 obtain ⟨_,its,r,o,h1,h2,n,h3⟩:=(show bK P w H h a (.tup (ks.map kV)) from ok a _ e);exact ⟨o,its.toArray,n,h1,h2,h3,by simpa using pU r⟩
def pV {kvs:List (List Key×V)} (ok:kI P w H h) (e:Rd H a (.dT kvs)):kvs.length<=sizeLine/\(a == sysModules)=false/\
  ∃xs,KT H kvs xs/\h.DictOfH (tupleKind (bQ P w)) a xs:=by
 obtain ⟨z,y,xs,r,o,es,ep,h1,h2,h3,h4,h5⟩:=(show bK P w H h a (.dT kvs) from Ao ok e);refine ⟨z,y,xs,r,o,es,ep,h1,h2,h3,h4,fun x hx=>?_,h5⟩;have all: ∀{l:List (List Key×V)} {m:List (List Key×Addr×Value)},KT H l m->∀x∈m,(tupleKind (bQ P w)).is h x.1 x.2.1:=by
  intro l m q
  induction q with
  |nil=>intro x hx;exact nomatch hx
  | @cons p q ps qs hq t ih=>
   intro x hx;rcases List.mem_cons.mp hx with e|hx
   ·
    subst e;exact nS ok (by rw [<-hq.1];exact hq.2.1)
   ·exact ih x hx
 exact all r x hx
def F8 {kvs:List (List Key×V)} (ok:kI P w H h) (e:H a=some (.dT kvs)):kvs.length<=sizeLine/\(a == sysModules)=false/\
  ∃xs,KT H kvs xs/\h.DictOfH (tupleKind (bQ P w)) a xs:=pV ok (.inl e)
end
def m9 (H:Hp) (a:Addr) (y:V) (r:Option V):Prop:=
 (∃kvs k,Rd H a (.dK kvs)/\y=kV k/\r=aX kvs k)\/∃kvs k b,Rd H a (.dT kvs)/\y = .ref b/\H b=some (.tup (k.map kV))/\r=aX kvs k
def yp (H:Hp) (a:Addr) (y v:V) (H':Hp):Prop:=
 (∃kvs k,H a=some (.dK kvs)/\y=kV k/\kvs.length<sizeLine/\H'=upd H a (.dK (putK kvs k v)))\/
 ∃kvs k b,H a=some (.dT kvs)/\y = .ref b/\H b=some (.tup (k.map kV))/\kvs.length<sizeLine/\H'=upd H a (.dT (putK kvs k v))
def m9.k {H:Hp} {a:Addr} {kvs:List (Key×V)} {k:Key} (e:H a=some (.dK kvs)):m9 H a (kV k) (aX kvs k):= .inl ⟨kvs,k,.inl e,rfl,rfl⟩
def yp.k {H:Hp} {a:Addr} {kvs:List (Key×V)} {k:Key} {v:V} (e:H a=some (.dK kvs)) (hl:kvs.length<sizeLine):yp H a (kV k) v (upd H a (.dK (putK kvs k v))):= .inl ⟨kvs,k,e,rfl,hl,rfl⟩
section
variable {X:Cx} {pins:List (Addr×Obj)} {σ:St} {H:Hp} {s:Shared} {a:Addr} {y v:V} {u r:Value} {o:Option V} {A:Around} {E:Value->Shared->Prop}
def Inv.big (I:Inv X pins σ H s):sysModules<s.heap.objs.size:=by
 have h:mainGlobals<s.heap.objs.size:=(I.mod.glob.keeps I.bk).lt;exact Nat.lt_trans (by decide) h
def pZ {Q:Value->Shared->Prop} (hu:A.units+1<cLine) (I:Inv X pins σ H s) (g:m9 H a y (some v)) (ry:RelV y u) (h: ∀w' s',Inv X pins σ H s'->RelV v w'->Q w' s'):
  wpAny (model X.prog X.w) A (getItem (.ref a) u) Q E s:=by
 rcases g with ⟨kvs,k,e,ey,l⟩|⟨kvs,k,b,e,ey,eb,l⟩
 ·
  subst ey;obtain ⟨z,hd,vs,rel,dd⟩:=pW I.hok e;obtain ⟨w',hw,rw'⟩:=iQ.some_of (v:=v) (o:=valueAt vs k) (by rw [l];exact rel.val k);exact wpAny_getItem_of (mw ry) dd.mapOf hw (h w' _ (I.tok _) rw')
 ·
  subst ey;cases (show u=Value.ref b from ry);obtain ⟨z,hd,xs,rel,dd⟩:=pV I.hok e;obtain ⟨w',hw,rw'⟩:=iQ.some_of (v:=v) (o:=(atKey xs k).map (·.2)) (by rw [l];exact rel.val k);obtain ⟨p,hp,hp2⟩:=Option.map_eq_some_iff.mp hw;refine wpAny_getItem_heap (tupleKind_room_in1 hu) (nS I.hok eb) dd hp ?_;rw [hp2];exact h w' _ (I.tok _) rw'
def HY {Q:Value->Shared->Prop} (hu:A.units+1<cLine) (I:Inv X pins σ H s) (g:m9 H a y o) (ry:RelV y u) (h: ∀s',Inv X pins σ H s'->Q (.bool o.isSome) s'):
  wpAny (model X.prog X.w) A (compareOp .In u (.ref a)) Q E s:=by
 rcases g with ⟨kvs,k,e,ey,l⟩|⟨kvs,k,b,e,ey,eb,l⟩
 ·
  subst ey;obtain ⟨z,hd,vs,rel,dd⟩:=pW I.hok e;refine wpAny_in_of (mw ry) hd dd.mapOf ?_;rw [<-(rel.val k).gM,<-l];exact h _ (I.tok _)
 ·
  subst ey;cases (show u=Value.ref b from ry);obtain ⟨z,hd,xs,rel,dd⟩:=pV I.hok e;refine wpAny_in_heap (tupleKind_room_in1 hu) (nS I.hok eb) hd dd ?_;have q:=(rel.val k).gM;rw [Option.isSome_map] at q;rw [<-q,<-l];exact h _ (I.tok _)
def zV {Q:Value->Shared->Prop} (hu:A.units+1<cLine) (I:Inv X pins σ H s) (g:m9 H a y o) (ry:RelV y u) (h: ∀s',Inv X pins σ H s'->Q (.bool (!o.isSome)) s'):
  wpAny (model X.prog X.w) A (compareOp .NotIn u (.ref a)) Q E s:=by
 rcases g with ⟨kvs,k,e,ey,l⟩|⟨kvs,k,b,e,ey,eb,l⟩
 ·
  subst ey;obtain ⟨z,hd,vs,rel,dd⟩:=pW I.hok e;refine wpAny_notIn_of (mw ry) hd dd.mapOf ?_;rw [<-(rel.val k).gM,<-l];exact h _ (I.tok _)
 ·
  subst ey;cases (show u=Value.ref b from ry);obtain ⟨z,hd,xs,rel,dd⟩:=pV I.hok e;refine wpAny_notIn_heap (tupleKind_room_in1 hu) (nS I.hok eb) hd dd ?_;have q:=(rel.val k).gM;rw [Option.isSome_map] at q;rw [<-q,<-l];exact h _ (I.tok _)
def nq {h':Heap} {t':Nat} {ob:HO} (I:Inv X pins σ H s) (mu:Gj (H a)) (hs:Heap.SameBut a s.heap h') (he: ∃q,h'.get? a=some q) (new:bK X.prog X.w (upd H a ob) h' a ob):
  Inv X pins σ (upd H a ob) {s with heap:=h',toks:=t'}:=
 I.write (x:=a) (e:=a) mu (.inl rfl) (fun b q hb z=>(hs.2 b hb).trans z) he new
def sA {P:Program} {w:World} {H':Hp} {h':Heap} {kvs:List (Key×V)} {vs:List (Key×Value)} (z:kvs.length<=sizeLine) (hd:(a == sysModules)=false) (rel:KV kvs vs) (dd:h'.DictOf (bQ P w) a vs):
  bK P w H' h' a (.dK kvs):=⟨z,hd,vs,rel,dd⟩
def pY {H':Hp} {Q:Unit->Shared->Prop} (hu:A.units+1<cLine) (I:Inv X pins σ H s) (g:yp H a y v H') (ry:RelV y u) (rv:RelV v r) (h: ∀s',Inv X pins σ H' s'->Q () s'):
  wpAny (model X.prog X.w) A (setItem (.ref a) u r) Q E s:=by
 rcases g with ⟨kvs,k,e,ey,l,eH⟩|⟨kvs,k,b,e,ey,eb,l,eH⟩
 ·
  subst ey eH;obtain ⟨z,hd,vs,rel,dd⟩:=tQ I.hok e;have hz:vs.length<=sizeLine:=by rw [<-rel.length];exact z
  have hl:(putK kvs k v).length<=sizeLine:=by have:=bY kvs k v;lia
  refine wpAny_setItem_pairs (hsz:=hz) (mw ry) dd fun h' dd' hs=>h _ ?_;have he: ∃q,h'.get? a=some q:=let ⟨q,_,_,hq,_⟩:=dd';⟨q,hq⟩;exact nq I (by rw [e];exact True.intro) hs he (sA hl hd (rel.put k rv) dd')
 ·
  subst ey eH;cases (show u=Value.ref b from ry);obtain ⟨z,hd,xs,rel,dd⟩:=F8 I.hok e;have hz:xs.length<=sizeLine:=by rw [<-Paired.length rel];exact z
  have hl:(putK kvs k v).length<=sizeLine:=by have:=bY kvs k v;lia
  refine wpAny_setItem_heap (hsz:=hz) (tupleKind_room_in1 hu) (nS I.hok eb) dd fun h' dd' hs=>h _ ?_;obtain ⟨q,es,ep,hq,h2,h3,h4,_,h5⟩:=dd';refine nq I (by rw [e];exact True.intro) hs ⟨q,hq⟩ ⟨hl,hd,_,(rel.put k eb rv).keeps fun c ys ec=>?_,q,es,ep,hq,h2,h3,h4,h5⟩;rw [af (aF ec e (fun z=>nomatch z))];exact ec
end
section
variable {X:Cx} {pins:List (Addr×Obj)} {σ:St} {H:Hp} {s:Shared} {a:Addr} {kvs:List (Key×V)} {k:Key} {u:Value} {A:Around} {E:Value->Shared->Prop}
def AH {v:V} {more:List Value} {Q:Value->Shared->Prop} (I:Inv X pins σ H s) (e:H a=some (.dK kvs)) (ry:RelV (kV k) u) (l:aX kvs k=some v) (hm:more= []\/∃x,more= [x])
  (h: ∀w' s',Inv X pins σ (upd H a (.dK (cS kvs k))) s'->RelV v w'->Q w' s'):wpAny (model X.prog X.w) A (call (.builtin "dict.pop") (.ref a::u::more)) Q E s:=by
 obtain ⟨z,hd,vs,rel,dd⟩:=tQ I.hok e;obtain ⟨w',hw,rw'⟩:=iQ.some_of (v:=v) (o:=valueAt vs k) (by rw [<-l];exact rel.val k);have hp:(keyPart u).isSome=true:=by
  cases k with
  |inl i=>obtain ⟨t,q⟩:=(show∃t,u=Value.int i t from ry);subst q;rfl
  |inr x=>obtain ⟨t,q⟩:=(show∃t,u=Value.str x t from ry);subst q;rfl
 have ha:argsOk "dict.pop" ⟨.ref a::u::more,[]⟩:=by
  rcases hm with q|⟨x,q⟩
  ·subst q;exact PySem.F.args_dict_pop_2 _ _
  ·subst q;exact PySem.F.args_dict_pop_3 _ _ _
 refine call_meetsIn PySem.F.slot_dict_pop dd.typeIs PySem.F.entry_dict_pop ha (meets_dict_pop_there (bQ X.prog X.w) a (mw ry) more hm hp)
  ⟨vs,w',dd,by rw [<-rel.length];exact z,hw,fun h' dd' hs=>h w' _ ?_ rw'⟩
 have he: ∃q,h'.get? a=some q:=let ⟨q,_,_,hq,_⟩:=dd';⟨q,hq⟩;exact nq I (by rw [e];exact True.intro) hs he (sA (Nat.le_trans (xV kvs k) z) hd (rel.drop k) dd')
def CO {r:Value} {Q:Value->Shared->Prop} (I:Inv X pins σ H s) (e:H a=some (.dK kvs)) (ry:RelV (kV k) u) (l:aX kvs k=none) (h: ∀s',Inv X pins σ H s'->Q r s'):
  wpAny (model X.prog X.w) A (call (.builtin "dict.pop") [.ref a,u,r]) Q E s:=by
 obtain ⟨z,hd,vs,rel,dd⟩:=tQ I.hok e;have hn:valueAt vs k=none:=iQ.none_of (by rw [<-l];exact rel.val k);have hp:(keyPart u).isSome=true:=by
  cases k with
  |inl i=>obtain ⟨t,q⟩:=(show∃t,u=Value.int i t from ry);subst q;rfl
  |inr x=>obtain ⟨t,q⟩:=(show∃t,u=Value.str x t from ry);subst q;rfl
 exact call_meetsIn PySem.F.slot_dict_pop dd.typeIs PySem.F.entry_dict_pop (PySem.F.args_dict_pop_3 _ _ _) (meets_dict_pop_default (bQ X.prog X.w) a (mw ry) hd hp r) ⟨vs,dd,hn,h _ (I.tok _)⟩
end
def C0 (i:Expr):Prop:= ∀ov iv,subscripted i false ov iv=operate [ov,iv] (getItem ov iv)
def sT {prog:Program} {w:World} {A:Around} {E:Value->Shared->Prop} {s:Shared} {env:Env} {value slice:Expr} {pos:Pos} {T id:String} {Q:Value->Shared->Prop}
  (hl:typeLookup (.type T) "__getitem__" = pure (some (.builtin id))) (hs:C0 slice)
  (h:wpAny (model prog w) A (eval value env) (fun o s₁=>wpAny (model prog w) A (eval slice env) (fun i s₂=>s₂.TypeIs o T/\wpAny (model prog w) A (getItem o i) Q E s₂) E s₁) E s):
  wpAny (model prog w) A (eval (.Subscript value slice pos) env) Q E s:=by
 refine Subscript_ (wpAny_mono h (fun o s₁ h₁=>wpAny_mono h₁ (fun i s₂ h₂=>?_) fun _ _ x=>x) fun _ _ x=>x);obtain ⟨hT,h₂⟩:=h₂;unfold subscriptTail;refine wpAny_bind ?_;rw [getitemInPython_of_ne hT.not_modules];refine wpAny_bind (wpAny_specialOf hT hl ?_);have fin:wpAny (model prog w) A (subscripted slice false o i) (fun r s₃=>wpAny (model prog w) A (letTemporaryGo value o r >>= fun _=>pure r) Q E s₃) E s₂:=by
  rw [hs o i];exact wpAny_operating (wpAny_mono h₂ (fun r s₃ h₃=>wpAny_bind (wpAny_letTemporaryGo (wpAny_pure h₃))) fun _ _ x=>x)
 first
  |exact wpAny_pure (wpAny_bind fin)
  |exact wpAny_bind (wpAny_pure (wpAny_bind fin))
  |exact wpAny_bind fin
def mx {X:Cx} {pins:List (Addr×Obj)} {σ:St} {H:Hp} {s:Shared} {a:Addr} {y:V} {o:Option V} (I:Inv X pins σ H s) (g:m9 H a y o):s.TypeIs (.ref a) "dict" :=by
 rcases g with ⟨kvs,k,e,_,_⟩|⟨kvs,k,b,e,_,_,_⟩
 ·
  obtain ⟨_,_,vs,_,dd⟩:=pW I.hok e;exact dd.typeIs
 ·
  obtain ⟨_,_,xs,_,dd⟩:=pV I.hok e;exact dd.typeIs
section
variable {X:Cx} {o i e value:Expr} {pos pos' tpos:Pos} {td ty tv:TE}
end
def rA {P:Program} {w:World} {H:Hp} (h:Heap) (hb:sysModules<h.objs.size):bK P w H (h.push {cls:= .type "dict",data:= .dict #[]}) h.objs.size (.dK []):=
 ⟨Nat.zero_le _,beq_eq_false_iff_ne.mpr (Ne.symm (Nat.ne_of_lt hb)),[],.nil,Heap.DictOf.new h⟩
def vS:TE:=fun _ H Q=> ∀p,H p=none->Q (.ref p) (upd H p (.dK []))
section
variable {X:Cx} {pos:Pos}
def i5:PE X (.Dict [] [] pos) vS:=fun pins s σ H Q I h=>
 wpAny_Dict_empty ⟨.ref s.heap.objs.size,_,I.laid (a:=s.heap.objs.size) (o:= .dK []) (t':=s.toks) (fun _ _ q=>Heap.get?_push_of_some _ q) (Nat.le_refl _) (rA s.heap I.big),rfl,h _ (I.hok.fresh (Nat.le_refl _))⟩
end
def qi:List (TE×TE)->St->Hp->(List (V×V)->Hp->Prop)->Prop
 | [],_,H,Q=>Q [] H
 |(tk,tv)::r,σ,H,Q=>tk σ H fun x H1=>tv σ H1 fun y H2=>qi r σ H2 fun ps H3=>Q ((x,y)::ps) H3
abbrev VV:List (V×V)->List (Value×Value)->Prop:=Paired fun p q=>RelV p.1 q.1/\RelV p.2 q.2
def GA (X:Cx) (pos:Pos) (keys:List (Option Expr)) (values:List Expr) (trs:List (TE×TE)):Prop:=
 ∀(pins:List (Addr×Obj)) (s:Shared) (σ:St) (H:Hp) (Q:List (V×V)->Hp->Prop),Inv X pins σ H s->qi trs σ H Q->
  wpAny (model X.prog X.w) X.A (evalPairs (pairTrees keys values X.env pos)) (fun vs s'=> ∃ps H',Inv X pins σ H' s'/\VV ps vs/\Q ps H') X.xe s
def y9 {X:Cx} {pos:Pos}:GA X pos [] [] []:=fun pins s σ H Q I h=>pairTrees_nil_walk ⟨[],H,I,.nil,h⟩
def eM {X:Cx} {pos:Pos} {k v:Expr} {ks:List (Option Expr)} {vs:List Expr} {tk tv:TE} {trs:List (TE×TE)} (hk:PE X k tk) (hv:PE X v tv) (hr:GA X pos ks vs trs):
  GA X pos (some k::ks) (v::vs) ((tk,tv)::trs):=fun pins s σ H Q I h=>
 pairTrees_cons_walk (thn (hk pins s σ H _ I h) fun u s1 ⟨x,H1,I1,rx,q1⟩=>thn (hv pins s1 σ H1 _ I1 q1) fun w2 s2 ⟨y,H2,I2,ry,q2⟩=>
  thn (hr pins s2 σ H2 _ I2 q2) fun ws s3 ⟨ps,H3,I3,rel,q3⟩=>⟨(x,y)::ps,H3,I3,.cons ⟨rx,ry⟩ rel,q3⟩)
noncomputable def lM (kvs more:List (Key×V)):List (Key×V):=more.foldl (fun acc kv=>putK acc kv.1 kv.2) kvs
def KV.merge: ∀{more:List (Key×V)} {rs:List (Key×Value)} {kvs:List (Key×V)} {vs:List (Key×Value)},KV more rs->KV kvs vs->KV (lM kvs more) (merged vs rs):=by
 intro more rs kvs vs r;unfold KV at r
 induction r generalizing kvs vs with
 |nil=>intro q;exact q
 | @cons p q ps qs h t ih=>
  intro r0;have e:KV (putK kvs p.1 p.2) (stored vs q.1 q.2):=by
   have:=r0.put p.1 h.2;rw [<-h.1];exact this
  exact ih e
def jZ: ∀(more kvs:List (Key×V)),(lM kvs more).length<=kvs.length+more.length
 | [],kvs=>by show kvs.length<=kvs.length+0;lia
 |p::r,kvs=>by
  have h1:=jZ r (putK kvs p.1 p.2);have h2:=bY kvs p.1 p.2;show (lM (putK kvs p.1 p.2) r).length<=_;rw [List.length_cons];lia
def om {P:Program} {w:World}: ∀{kvs:List (Key×V)} {ws:List (Value×Value)},VV (kvs.map fun kv=>(kV kv.1,kv.2)) ws->∃rs,Carries (bQ P w) ws rs/\KV kvs rs
 | [],_,r=>by rw [List.map_nil] at r;cases r;exact ⟨[],True.intro,.nil⟩
 |p::kvs,_,r=>by
  rw [List.map_cons] at r;cases r with
  | @cons a b as bs h t=>
   obtain ⟨rs,c,q⟩:=om (P:=P) (w:=w) t;obtain ⟨b1,b2⟩:=b;exact ⟨(p.1,b2)::rs,⟨mw h.1,rfl,c⟩,.cons ⟨rfl,h.2⟩ q⟩
def vP (trs:List (TE×TE)):TE:=fun σ H Q=> ∀p,H p=none->qi trs σ (upd H p (.dK [])) fun ps H2=>H2 p=some (.dK [])/\∃kvs:List (Key×V),ps=kvs.map (fun kv=>(kV kv.1,kv.2))/\kvs.length<=15/\Q (.ref p) (upd H2 p (.dK (lM [] kvs)))
def zh {X:Cx} {pos:Pos} {keys:List (Option Expr)} {values:List Expr} {trs:List (TE×TE)} (h:GA X pos keys values trs) (hall:keys.all (·.isSome)=true) (hl:keys.length=values.length) (h0:keys≠[])
  (h15:keys.length<=15):PE X (.Dict keys values pos) (vP trs):=by
 intro pins s σ H Q I q;have hn:=I.hok.fresh (Nat.le_refl s.heap.objs.size);have I1:=I.laid (a:=s.heap.objs.size) (o:= .dK []) (h':=s.heap.push {cls:= .type "dict",data:= .dict #[]}) (t':=s.toks) (fun _ _ q=>Heap.get?_push_of_some _ q) (Nat.le_refl _) (rA s.heap I.big);refine wpAny_Dict_walk (knd:=bQ X.prog X.w) hall hl h0 h15 (thn (h pins _ σ _ _ I1 (q _ hn)) fun ws s2 ⟨ps,H2,I2,rel,e,kvs,ep,lk,q2⟩=>?_);subst ep;obtain ⟨rs,c,rk⟩:=om (P:=X.prog) (w:=X.w) rel;obtain ⟨z,hd,vs0,r0,dd⟩:=tQ I2.hok e;cases r0;refine ⟨rs,c,dd,fun h' dd' hs=>⟨.ref s.heap.objs.size,_,?_,rfl,q2⟩⟩;have hz:(lM [] kvs).length<=sizeLine:=by
  have h1:=jZ kvs [];rw [List.length_nil] at h1;rw [sizeLine_eq];lia
 have he: ∃q,h'.get? s.heap.objs.size=some q:=let ⟨q,_,_,hq,_⟩:=dd';⟨q,hq⟩;exact nq I2 (by rw [e];exact True.intro) hs he (sA hz hd (rk.merge .nil) dd')
def JJ (H:Hp) (a:Addr):Prop:=(∃kvs,Rd H a (.dK kvs))\/∃kvs,Rd H a (.dT kvs)
def xA {X:Cx} {pins:List (Addr×Obj)} {σ:St} {H:Hp} {s:Shared} {a:Addr} (I:Inv X pins σ H s) (d:JJ H a):
  s.TypeIs (.ref a) "dict" /\(∀b,Value.ref a = .ref b->∃ob,s.heap.get? b=some ob/\ob.dict=none)/\(a == sysModules)=false:=by
 rcases d with ⟨kvs,e⟩|⟨kvs,e⟩
 ·
  obtain ⟨_,hd,vs,_,dd⟩:=pW I.hok e;refine ⟨dd.typeIs,fun b q=>?_,hd⟩;cases q;obtain ⟨ob,_,_,h1,h2,_⟩:=dd;exact ⟨ob,h1,h2.2.1⟩
 ·
  obtain ⟨_,hd,xs,_,dd⟩:=pV I.hok e;refine ⟨dd.typeIs,fun b q=>?_,hd⟩;cases q;obtain ⟨ob,_,_,h1,h2,_⟩:=dd;exact ⟨ob,h1,h2.2.1⟩
section
variable {X:Cx} {pins:List (Addr×Obj)} {σ:St} {H:Hp} {s:Shared} {a:Addr} {y d:V} {u r:Value} {o:Option V} {A:Around} {E:Value->Shared->Prop}
end
section
variable {X:Cx} {o e f:Expr} {apos cpos:Pos} {td ty tx:TE}
end
section
variable {X:Cx} {pins:List (Addr×Obj)} {σ:St} {H:Hp} {s:Shared} {a:Addr} {kvs:List (Key×V)} {A:Around} {E:Value->Shared->Prop}
end
section
variable {X:Cx} {pins:List (Addr×Obj)} {σ:St} {H:Hp} {s:Shared} {a:Addr} {y:V} {u:Value} {A:Around} {E:Value->Shared->Prop}
end
section
variable {X:Cx}
end
section
variable {κ:Type} [DecidableEq κ]
end
def FnAt (P:Program) (w:World) (K:W.Frag) (mg:Str->Option Value) (base:Heap) (CX:nz) (x:Str) (k:Nat) (ps:List Str) (sp:Sp):Prop:=
 ∃f fd,ml P w K mg base CX k f fd ps sp/\mg x=some (.ref f)/\W.keepIn K (.ref f)=true/\Binds K fd ps []/\∃oc od osl,K.lookup f=some ⟨oc,od,.func fd,osl⟩
def eV (K:W.Frag) (mg:Str->Option Value) (x:Str) (st:Stmt):Prop:= ∃f fd,Gq K x x st f fd/\mg x=some (.ref f)
class Quiet (CX:nz):Prop where
 pass: ∀(X:Cx),Passes CX X E0
noncomputable instance:Quiet fz:=⟨fun _=>DA⟩
def x2 {K:W.Frag} {h:Heap} {mg:Str->Option Value} {x:Str} {st:Stmt} {f:Addr} {oc:Value} {od an:Option Addr} {osl:Array (Option Value)} {kV doc pm cdv ct:Value} (X:K.In h) (G:h.Ns mainGlobals mg)
  (a:W.nsIn K mainGlobals x=some (some (.ref f)))
  (l:K.lookup f=some ⟨oc,od,.func (W.fnOf x x (dX st) (cP st) (aD st) .none kV doc pm an cdv ct),osl⟩) (c:W.codeIn K cdv x=true) (k:W.keepIn K (.ref f)=true):eV K mg x st:=
 ⟨f,_,xQ l c k,W.mg_of X G a⟩
section
variable {P:Program} {w:World} {K:W.Frag} {mg:Str->Option Value} {base:Heap} {CX:nz}
def eV.fn {x:Str} {st:Stmt} {N ps:List Str} {k:Nat} {sp:Sp} (F:eV K mg x st) (S:aH N ps (aD st))
  (hb: ∀(kV doc pm:Value) (an:Option Addr) (cdv ct:Value) (us:List Value),us.length=ps.length->bindArgs (W.fnOf x x (dX st) (cP st) (aD st) .none kV doc pm an cdv ct) ⟨us,[]⟩=pure (ps.zip us))
  (len: ∀vs H Q E,sp vs H Q E->vs.length=ps.length)
  (
   hbody: ∀(f:Addr) (cdv:Value) (A:Around) (outer:List Env) (s:Shared) (H:Hp) (vs:List V) (Q:VK) (E:XK),dH k (A.deeper (envOfC x (aD st) s.heap.objs.size f cdv))->sp vs H Q E->
   ∃t,qT (rD CX P w K mg base N x (aD st) f cdv A outer s H E).nox (cP st) t/\t {nx:=fun _ H'=>Q .non H',rt:=Q} (start N vs) H):FnAt P w K mg base CX x (k+1) ps sp:=by
 obtain ⟨f,fd,F,hm⟩:=F;have bd:=F.binds hb;have kp:=F.kp;obtain ⟨oc,od,kV,doc,pm,an,cdv,ct,osl,rfl,lk,hcd⟩:=F.ex;refine ⟨f,_,AG lk hcd S len fun A outer s H vs Q E hr hsp=>?_,hm,kp,bd,oc,od,osl,lk⟩;obtain ⟨t,h,q⟩:=hbody f cdv A outer s H vs Q E hr hsp;exact ⟨t,h.nox,q⟩
end
section
variable {X:Cx} {CX:nz} {k n:Nat} {ps:List Str} {sp:Sp} {x:Str} {p pos:Pos} {e:Expr} {es:List Expr} {t:TA}
def Dy [Quiet CX] (G:FnAt X.prog X.w X.K X.mg X.base CX x k ps sp) (hr:dH n X.A) (hk:k<=n) (hg:Gl X x) (ha:PA X (e::es) t)
  (hdb:(x == ("__debug__" : Str))=false:=by decide) (he:starEach (e::es) X.env=(false,eval e X.env)::starEach es X.env:=by rfl) (hpl:(backTo pos (starEach es X.env)).any (·.1)=false:=by rfl):
  PE X (.Call (.Name x p) (e::es) [] pos) (sS sp [] E0 t):=by
 obtain ⟨f,fd,F,hm,kp,b,_⟩:=G;exact zj F (hr.mono hk) hg hm kp b .nil (Quiet.pass X) ha hdb he hpl
def yq (mg:Str->Option Value) (x:Str) (v:V):Prop:= ∃u,mg x=some u/\RelV v u
def w5 {v:V} (hg:Gl X x) (h:yq X.mg x v) (hd:(x == ("__debug__" : Str))=false:=by decide):PE X (.Name x pos) (tC v):=by
 obtain ⟨u,hm,r⟩:=h;exact zc hg hm r hd
end
noncomputable def Gm (lo c:Int) (n:Nat):It:=⟨fun i _=>i<n,fun i H x H'=>H'=H/\x = .int (lo+i*c),fun i _=>n<=i⟩
noncomputable def rcount (lo hi c:Int):Nat:=(Builtin.Range.rangeSize lo hi c).toNat
section
variable {X:Cx} {tg:Expr}
end
section
variable {g:Int->Int->V} {C:Int->Int->Prop} {i j:Int} {H:Hp} {Q:VK}
def yW:wH g (.int i) (.int j) H Q=Q (g i j) H:=by
 apply propext;constructor
 ·
  rintro ⟨a,b,e1,e2,q⟩;cases e1;cases e2;exact q
 ·intro q;exact ⟨i,j,rfl,rfl,q⟩
def A5:rI C g (.int i) (.int j) H Q=(C i j/\Q (g i j) H):=by
 apply propext;constructor
 ·
  rintro ⟨a,b,e1,e2,q⟩;cases e1;cases e2;exact q
 ·intro q;exact ⟨i,j,rfl,rfl,q⟩
def AZ {f:Int->V}:rU f (.int i) H Q=Q (f i) H:=by
 apply propext;constructor
 ·
  rintro ⟨a,e1,q⟩;cases e1;exact q
 ·intro q;exact ⟨i,rfl,q⟩
def F6 {b:Bool} {P:Bool->Prop}:(∃k,V.bl b = .bl k/\P k)=P b:=by
 apply propext;constructor
 ·
  rintro ⟨k,e,q⟩;cases e;exact q
 ·intro q;exact ⟨b,rfl,q⟩
def F5 {v:V} {P:V->Prop}:(∃u,some (some v)=some (some u)/\P u)=P v:=by
 apply propext;constructor
 ·
  rintro ⟨k,e,q⟩;cases e;exact q
 ·intro q;exact ⟨v,rfl,q⟩
def tu:A7 (.int i) (.int j) H Q=Q (.bl (decide (i=j))) H:=by
 have e:decide (V.int i=V.int j)=decide (i=j):=by
  by_cases h:i=j
  ·subst h;simp
  ·rw [decide_eq_false h,decide_eq_false (fun q=>h (V.int.inj q))]
 unfold A7;rw [e];apply propext;exact ⟨fun h=>h.2,fun h=>⟨rfl,h⟩⟩
def tj:A2 (.int i) (.int j) H Q=Q (.bl (!decide (i=j))) H:=by
 have e:decide (V.int i=V.int j)=decide (i=j):=by
  by_cases h:i=j
  ·subst h;simp
  ·rw [decide_eq_false h,decide_eq_false (fun q=>h (V.int.inj q))]
 unfold A2;rw [e];apply propext;exact ⟨fun h=>h.2,fun h=>⟨rfl,h⟩⟩
def ts {a b:Str}:A7 (.str a) (.str b) H Q=Q (.bl (decide (a=b))) H:=by
 have e:decide (V.str a=V.str b)=decide (a=b):=by
  by_cases h:a=b
  ·subst h;simp
  ·rw [decide_eq_false h,decide_eq_false (fun q=>h (V.str.inj q))]
 unfold A7;rw [e];apply propext;exact ⟨fun h=>h.2,fun h=>⟨rfl,h⟩⟩
def s_ {a b:Str}:A2 (.str a) (.str b) H Q=Q (.bl (!decide (a=b))) H:=by
 have e:decide (V.str a=V.str b)=decide (a=b):=by
  by_cases h:a=b
  ·subst h;simp
  ·rw [decide_eq_false h,decide_eq_false (fun q=>h (V.str.inj q))]
 unfold A2;rw [e];apply propext;exact ⟨fun h=>h.2,fun h=>⟨rfl,h⟩⟩
def wJ {a b:Bool}:A7 (.bl a) (.bl b) H Q=Q (.bl (decide (a=b))) H:=by
 have e:decide (V.bl a=V.bl b)=decide (a=b):=by
  by_cases h:a=b
  ·subst h;simp
  ·rw [decide_eq_false h,decide_eq_false (fun q=>h (V.bl.inj q))]
 unfold A7;rw [e];apply propext;exact ⟨fun h=>h.2,fun h=>⟨rfl,h⟩⟩
def wo {a b:Bool}:A2 (.bl a) (.bl b) H Q=Q (.bl (!decide (a=b))) H:=by
 have e:decide (V.bl a=V.bl b)=decide (a=b):=by
  by_cases h:a=b
  ·subst h;simp
  ·rw [decide_eq_false h,decide_eq_false (fun q=>h (V.bl.inj q))]
 unfold A2;rw [e];apply propext;exact ⟨fun h=>h.2,fun h=>⟨rfl,h⟩⟩
end
def ft.imp {X:Cx} {f:Value->Value->Sem Value} {r r':R2} (h:ft X f r) (i: ∀x y H Q,r' x y H Q->r x y H Q):ft X f r':=
 fun pins s σ H x y v u Q I rx ry q=>h pins s σ H x y v u Q I rx ry (i _ _ _ _ q)
def bw.imp {X:Cx} {f:Value} {r r':List V->Hp->VK->Prop} (h:bw X f r) (i: ∀xs H Q,r' xs H Q->r xs H Q):bw X f r':=
 fun pins s σ H xs us Q I rs q=>h pins s σ H xs us Q I rs (i _ _ _ q)
def pO (K:W.Frag):R2:=fun x y H Q=>match x,y with
 | .int i,.int j=>Q (.int (i+j)) H
 | .str a,.str b=>a.length+b.length<=sizeLine/\Q (.str (a++b)) H
 | .ref l,.ref b=>Du (.ref l) (.ref b) H Q\/Aq K (.ref l) (.ref b) H Q
 |_,_=>False
section
variable {X:Cx}
def zr:ft X (binaryOp .Add) (pO X.K):=by
 refine ft.imp (Bo.or (sf.or (Bm.or zq))) fun x y H Q h=>?_;unfold pO at h;split at h
 ·exact .inl ⟨_,_,rfl,rfl,h⟩
 ·exact .inr (.inl ⟨_,_,rfl,rfl,h⟩)
 ·exact .inr (.inr h)
 ·exact h.elim
def Aa (i j:Int):Prop:=(0<=j/\j<=1000000)/\-(2 ^ 512)<i/\i<2 ^ 512
def Aa.bits {i j:Int} (h:Aa i j):(Builtin.Int.intBits i:Int)+j<=2 ^ 27:=by
 have hb:Builtin.Int.intBits i<=512:=by
  unfold Builtin.Int.intBits;split
  ·lia
  ·
   rename_i hz;have hz':i≠0:=fun q=>hz (by rw [q];rfl);have:i.natAbs.log2<512:=(Nat.log2_lt (by lia)).mpr (by have:=h.2;lia);lia
 have:=h.1.2;lia
def tH:ft X (binaryOp .LShift) (rI Aa fun i j=> .int (i*2 ^ j.toNat)):=As fun _ _ _ _ _ _ _ hc q=>lshift_int hc.1.1 hc.bits q
end
def AL (i j:Int):Prop:=(0<=j/\j<=1000000)/\-(2 ^ 64)<i/\i<2 ^ 64
def tI {X:Cx}:ft X (binaryOp .Pow) (rI AL fun i j=> .int (i ^ j.toNat)):=As fun _ _ _ _ _ _ _ hc q=>pow_int_small hc.1.1 hc.1.2 (by have:=hc.2;lia) q
def mq (K:W.Frag):List V->Hp->VK->Prop:=fun xs H Q=>match xs with
 | [.str z]=>z.length<=sizeLine/\Q (.int z.length) H
 | [.ref p]=> ∃ys,(cQ K H p ys\/fx K H p ys)/\Q (.int ys.length) H
 |_=>False
section
variable {X:Cx}
def vB:bw X (.builtin "len") (mq X.K):=by
 refine bw.imp (qJ.or qI) fun xs H Q h=>?_;unfold mq at h;split at h
 ·exact .inr ⟨_,rfl,h.1,h.2⟩
 ·
  obtain ⟨ys,h1,h2⟩:=h;exact .inl ⟨_,ys,rfl,h1,h2⟩
 ·exact h.elim
def wx:List V->Hp->VK->Prop:=fun xs H Q=>match xs with
 | [.int i,.int j]=>Q (.int (if j<i then j else i)) H
 |_=>False
def wy:List V->Hp->VK->Prop:=fun xs H Q=>match xs with
 | [.int i,.int j]=>Q (.int (if i<j then j else i)) H
 |_=>False
def l_ (hc:X.calm=true):bw X (.builtin "min") wx:=by
 refine bw.imp (vz hc) fun xs H Q h=>?_;unfold wx at h;split at h
 ·exact ⟨_,_,rfl,h⟩
 ·exact h.elim
def jt (hc:X.calm=true):bw X (.builtin "max") wy:=by
 refine bw.imp (vA hc) fun xs H Q h=>?_;unfold wy at h;split at h
 ·exact ⟨_,_,rfl,h⟩
 ·exact h.elim
noncomputable def FN:V->String->Option Bool
 | .int _,"int" =>some true
 | .int _,"bool" =>some false
 | .int _,"str" =>some false
 | .bl _,"int" =>some true
 | .bl _,"bool" =>some true
 | .str _,"str" =>some true
 | .str _,"int" =>some false
 |_,_=>none
def hZ (K:W.Frag):List V->Hp->VK->Prop:=fun xs H Q=>match xs with
 | [x,.ty T]=>(match FN x T with
  |some b=>Q (.bl b) H
  |none=> ∃t b,lu K H x t/\W.kitOne K t (.type T)=some b/\Q (.bl b) H)
 |_=>False
def BB (K:W.Frag):W.kitOne K (.type "int") (.type "int")=some true:=by first|rfl|kernel_rfl
def BC (K:W.Frag):W.kitOne K (.type "int") (.type "bool")=some false:=by first|rfl|kernel_rfl
def kit_is (K:W.Frag):W.kitOne K (.type "int") (.type "str")=some false:=by first|rfl|kernel_rfl
def BD (K:W.Frag):W.kitOne K (.type "bool") (.type "int")=some true:=by first|rfl|kernel_rfl
def BE (K:W.Frag):W.kitOne K (.type "bool") (.type "bool")=some true:=by first|rfl|kernel_rfl
def Bx (K:W.Frag):W.kitOne K (.type "str") (.type "str")=some true:=by first|rfl|kernel_rfl
def By (K:W.Frag):W.kitOne K (.type "str") (.type "int")=some false:=by first|rfl|kernel_rfl
def BA (K:W.Frag):W.kitOne K (.type "list") (.type "list")=some true:=by first|rfl|kernel_rfl
def Bw (K:W.Frag):W.kitOne K (.type "tuple") (.type "tuple")=some true:=by first|rfl|kernel_rfl
def ye:bw X (.builtin "isinstance") (hZ X.K):=by
 intro pins s σ H xs us Q I rs q;unfold hZ at q;split at q
 ·
  rename_i x T;obtain ⟨u,c,rfl,ru,rc⟩:=vals2 rs;obtain rfl:c=Value.type T:=rc;have key: ∀{t b},lu X.K H x t->W.kitOne X.K t (.type T)=some b->Q (.bl b) H->wpAny (model X.prog X.w) X.A (call (.builtin "isinstance") [u,.type T]) (EP X pins σ Q) X.xe s:=fun {t b} ty e h=>
   vj I ru ty e fun tk=>⟨.bl b,H,I.tok tk,rfl,h⟩
  split at q
  ·
   rename_i b e;have h:=q;unfold FN at e;split at e<;>cases e
   ·exact key (.int _) (BB _) h
   ·exact key (.int _) (BC _) h
   ·exact key (.int _) (kit_is _) h
   ·exact key (.bl _) (BD _) h
   ·exact key (.bl _) (BE _) h
   ·exact key (.str _) (Bx _) h
   ·exact key (.str _) (By _) h
  ·
   obtain ⟨t,b,ty,e,h⟩:=q;exact key ty e h
 ·exact q.elim
def Dx {x:Str} {T:String} {pos:Pos} (hg:Gl X x) (hm:X.mg x=none) (hv:bootBuiltins x=some (.type T)) (hn:x≠ "__name__" :=by decide) (hd:(x == ("__debug__" : Str))=false:=by decide):PE X (.Name x pos) (tC (.ty T)):=
 zk hg hm hv rfl hn hd
end
def ot:bootBuiltins "len" = some (.builtin "len"):=by decide+kernel
def sJ:bootBuiltins "min" = some (.builtin "min"):=by decide+kernel
def qK:bootBuiltins "max" = some (.builtin "max"):=by decide+kernel
def CV:bootBuiltins "abs" = some (.builtin "abs"):=by decide+kernel
def oZ:bootBuiltins "isinstance" = some (.builtin "isinstance"):=by decide+kernel
def CU:bootBuiltins "int" = some (.type "int"):=by decide+kernel
def tX:bootBuiltins "list" = some (.type "list"):=by decide+kernel
def rH:bootBuiltins "tuple" = some (.type "tuple"):=by decide+kernel
section
variable {K:W.Frag} {H:Hp} {Q:VK}
def uX {i j:Int}:pO K (.int i) (.int j) H Q=Q (.int (i+j)) H:=rfl
def uW {i j:Str}:pO K (.str i) (.str j) H Q=(i.length+j.length<=sizeLine/\Q (.str (i++j)) H):=rfl
def uO {z:Str}:mq K [.str z] H Q=(z.length<=sizeLine/\Q (.int z.length) H):=rfl
def uP {p:Addr}:mq K [.ref p] H Q=(∃ys,(cQ K H p ys\/fx K H p ys)/\Q (.int ys.length) H):=rfl
def yO {i:Int}:hZ K [.int i,.ty "int"] H Q=Q (.bl true) H:=rfl
def yP {i:Int}:hZ K [.int i,.ty "bool"] H Q=Q (.bl false) H:=rfl
def yN {i:Int}:hZ K [.int i,.ty "str"] H Q=Q (.bl false) H:=rfl
def yQ {i:Bool}:hZ K [.bl i,.ty "int"] H Q=Q (.bl true) H:=rfl
def yR {i:Bool}:hZ K [.bl i,.ty "bool"] H Q=Q (.bl true) H:=rfl
def yL {i:Str}:hZ K [.str i,.ty "str"] H Q=Q (.bl true) H:=rfl
def yM {i:Str}:hZ K [.str i,.ty "int"] H Q=Q (.bl false) H:=rfl
def uI {i j:Int}:wx [.int i,.int j] H Q=Q (.int (if j<i then j else i)) H:=rfl
def uK {i j:Int}:wy [.int i,.int j] H Q=Q (.int (if i<j then j else i)) H:=rfl
end
def CT {CX:nz} {P:Program} {w:World} {K:W.Frag} {mg:Str->Option Value} {base:Heap} {N:List Str} {qual:Str} {scope:Scope} {f:Addr} {cd:Value} {A:Around} {outer:List Env} {s:Shared} {H:Hp} {E:XK}:
  (rD CX P w K mg base N qual scope f cd A outer s H E).K=K:=rfl
section
variable {ta:TA} {tl:TE} {K:W.Frag} {g:TG} {tb:TS} {D:Ends} {σ:St} {H:Hp}
end
def law_fin {P:Program} {w:World} {K:W.Frag} {mg:Str->Option Value} {CX:nz} {k:Nat} {fa:Addr} {x nm:Str} {st:Stmt} {sp:Sp} (hmg:mg nm=some (.ref fa)) (D:eV K mg nm st)
  (hb: ∀(kV doc pm:Value) (an:Option Addr) (cdv ct:Value) (us:List Value),us.length=([x]:List Str).length->bindArgs (W.fnOf nm nm (dX st) (cP st) (aD st) .none kV doc pm an cdv ct) ⟨us,[]⟩=pure (([x]:List Str).zip us))
  (ok: ∀base:Heap,FnAt P w K mg base CX nm k [x] sp):
  ∃fd:FuncData,(∀(s:Shared) (u:Value),BindsTo s fd ⟨[u],[]⟩ [(x,u)])/\∀base:Heap,K.In base->base.Ns mainGlobals mg->ml P w K mg base CX k fa fd [x] sp:=by
 obtain ⟨f,fd,F,hm⟩:=D;rw [hmg] at hm;cases hm;obtain ⟨oc,od,kV,doc,pm,an,cdv,ct,osl,e,lk,hcd⟩:=F.ex;refine ⟨fd,fun s u=>?_,fun base _ _=>?_⟩
 ·
  rw [e];exact .of_eq (hb kV doc pm an cdv ct [u] rfl)
 ·
  obtain ⟨f',fd',h,hm',_,_,oc',od',osl',lk'⟩:=ok base;rw [hmg] at hm';cases hm';rw [lk] at lk';cases lk';exact h
def pI (K:W.Frag):Sp:=fun vs H Q _=>match vs with
 | [.ref a]=> ∃ns:List Int,cQ K H a (ns.map V.int)/\ns.length<=63/\yn H/\∀H',Q (.bl true) H'
 |_=>False
def xn {l:W.OpenLaw} {k:Nat} {q:Program} {loose:List Str} {XP:(Str->Option Value)->Heap->Prop} {YP:World->Heap->Prop} {d:DefRec} {K:Params->W.Frag} {x:Str} (hn:l.most=some 63) (hdf:d.params.defaults= [])
  (hr:dH k callerA) (hY: ∀(w:World) (h:Heap),YP w h->(K w.params).In h)
  (
   F: ∀(w:World) (mg:Str->Option Value) (fa:Addr) (h:Heap),(K w.params).In h->h.Ns mainGlobals mg->mg d.name=some (.ref fa)->
   ∃fd:FuncData,(∀(s:Shared) (u:Value),BindsTo s fd ⟨[u],[]⟩ [(x,u)])/\∀base:Heap,(K w.params).In base->base.Ns mainGlobals mg->ml l.prog w (K w.params) mg base fz k fa fd [x] (pI (K w.params))):
  W.WalkO q loose XP YP l.row.toRowW d [] (fun f vs=>PySem.call f vs):=
 L2.vG (n:=63) (CX:=fz) (sp:=pI) hn (by decide) hdf hr hY F (fun K H a ns hl hO hS=>⟨ns,hS,hl,hO,fun _=>rfl⟩) fun _ _ _ _ z=>z
noncomputable def Cx.comp (X:Cx) (scope:Scope) (cl:List (Str×Addr)) (C:Addr) (N:List Str) (s:Shared) (H:Hp) (ex:List Addr):Cx:=
 {prog:=X.prog,w:=X.w,K:=X.K,mg:=X.mg,base:=X.base,A:=X.A,N:=N,s₀:=s,H₀:=H,env:=compEnvC scope cl C X.env,outer:=X.stack,stack:=X.stack,ex:=ex,fn:=fun _=>false,calm:=X.calm,pn:=[],xe:=fun _ _=>False}
def sH {env:Env} {scope:Scope} (h: ∀y∈scope.names,y.2 = .free->∃c,env.cells.lookup y.1=some c):
  ∃cl,closureFor scope env=pure cl/\(∀y c,cl.lookup y=some c->env.cells.lookup y=some c)/\∀y∈scope.names,y.2 = .free->∃c,cl.lookup y.1=some c:=by
 have key: ∀(l:List (Str×NameKind)) (acc:List (Str×Addr)),(∀y∈l,y.2 = .free->∃c,env.cells.lookup y.1=some c)->(∀y c,acc.lookup y=some c->env.cells.lookup y=some c)->
   ∃cl,(forIn l acc fun (x:Str×NameKind) (cs:List (Str×Addr))=>if (x.2 == NameKind.free)=true then do let a<-cellOf env x.1;pure (ForInStep.yield ((x.1,a)::cs)) else pure (ForInStep.yield cs))=(pure cl:Sem (List (Str×Addr)))/\
    (∀y c,cl.lookup y=some c->env.cells.lookup y=some c)/\(∀y c,acc.lookup y=some c->∃c,cl.lookup y=some c)/\∀y∈l,y.2 = .free->∃c,cl.lookup y.1=some c:=by
  intro l
  induction l with
  |nil=>intro acc _ ha;exact ⟨acc,rfl,ha,fun y c e=>⟨c,e⟩,fun y hy=>nomatch hy⟩
  |cons x r ih=>
   intro acc hl ha;obtain ⟨n,k⟩:=x;by_cases hk:k = .free
   ·
    subst hk;obtain ⟨c,hc⟩:=hl (n,.free) List.mem_cons_self rfl;have ha': ∀y d,((n,c)::acc).lookup y=some d->env.cells.lookup y=some d:=fun y d e=>by
     simp only [List.lookup_cons] at e;cases q:y == n with
     |true=>rw [q] at e;cases e;rw [beq_iff_eq.mp q];exact hc
     |false=>rw [q] at e;exact ha y d e
    obtain ⟨cl,e,h1,h2,h3⟩:=ih ((n,c)::acc) (fun y hy=>hl y (List.mem_cons_of_mem _ hy)) ha';have top: ∃d,cl.lookup n=some d:=h2 n c (by simp [List.lookup_cons]);refine ⟨cl,?_,h1,fun y d q=>?_,fun y hy hf=>?_⟩
    ·
     rw [List.forIn_cons];have ec:cellOf env n=pure c:=by unfold cellOf;rw [hc]
     show ((if (NameKind.free == NameKind.free)=true then (do let a<-cellOf env n;pure (ForInStep.yield ((n,a)::acc))) else _) >>= _)=_;rw [if_pos (by decide),ec];exact e
    ·
     cases z:y == n with
     |true=>rw [beq_iff_eq.mp z];exact top
     |false=>exact h2 y d (by simp only [List.lookup_cons,z];exact q)
    ·
     rcases List.mem_cons.mp hy with rfl|hy
     ·exact top
     ·exact h3 y hy hf
   ·
    have hb:(k == NameKind.free)=false:=by simpa using hk
    obtain ⟨cl,e,h1,h2,h3⟩:=ih acc (fun y hy=>hl y (List.mem_cons_of_mem _ hy)) ha;refine ⟨cl,?_,h1,h2,fun y hy hf=>?_⟩
    ·
     rw [List.forIn_cons];show ((if (k == NameKind.free)=true then _ else pure (ForInStep.yield acc)) >>= _)=_;rw [hb,if_neg Bool.false_ne_true];exact e
    ·
     rcases List.mem_cons.mp hy with rfl|hy
     ·exact absurd hf hk
     ·exact h3 y hy hf
 obtain ⟨cl,e,h1,_,h3⟩:=key scope.names [] h (fun y c q=>by simp at q);refine ⟨cl,?_,h1,h3⟩;unfold closureFor;exact (bind_congr (fun _=>rfl)).trans (by rw [e];rfl)
def hX {scope:Scope} {env:Env} {x:Str} {k:NameKind} (h:(relabel scope env).names.lookup x=some k):scope.names.lookup x=some k\/(scope.names.lookup x=some .free/\k = .cell):=by
 unfold relabel at h;have key: ∀l:List (Str×NameKind),(l.map fun (n,k)=>if (k == NameKind.free&&env.scope.kind == .function&&env.kindOf n == some .cell) then (n,NameKind.cell) else (n,k)).lookup x=some k->l.lookup x=some k\/(l.lookup x=some .free/\k = .cell):=by
  intro l
  induction l with
  |nil=>intro h;simp at h
  |cons y r ih=>
   obtain ⟨n,j⟩:=y;intro h;rw [List.map_cons] at h;simp only [List.lookup_cons];cases q:x == n with
   |true=>
    by_cases hc:(j == NameKind.free&&env.scope.kind == .function&&env.kindOf n == some .cell)=true
    ·
     simp only [hc,if_true,List.lookup_cons,q] at h;cases h;have:j = .free:=by
      simp only [Bool.and_eq_true,beq_iff_eq] at hc;exact hc.1.1
     subst this;exact .inr ⟨rfl,rfl⟩
    ·
     have hc':(j == NameKind.free&&env.scope.kind == .function&&env.kindOf n == some .cell)=false:=by simpa using hc
     simp only [hc',Bool.false_eq_true,if_false,List.lookup_cons,q] at h;exact .inl h
   |false=>
    by_cases hc:(j == NameKind.free&&env.scope.kind == .function&&env.kindOf n == some .cell)=true
    ·
     simp only [hc,if_true,List.lookup_cons,q] at h;exact ih h
    ·
     have hc':(j == NameKind.free&&env.scope.kind == .function&&env.kindOf n == some .cell)=false:=by simpa using hc
     simp only [hc',Bool.false_eq_true,if_false,List.lookup_cons,q] at h;exact ih h
 exact key _ h
def xi {h:Heap} {b n:Addr} {o:Obj} (e:h.get? b=some o) (hn:h.objs.size<=n):b≠n:=Nat.ne_of_lt (Nat.lt_of_lt_of_le (Heap.lt_size e) hn)
structure oE (X:Cx) (scope:Scope) (N:List Str) (nv:Nat) (ix:List Nat):Prop where
 kind:scope.kind = .function
 nocell: ∀y∈scope.names,y.2≠ .cell
 names: ∀y∈scope.names,y.2 = .local->scope.names.lookup y.1=some .local
 fre: ∀y∈scope.names,y.2 = .free->X.env.kindOf y.1=some .cell\/X.env.kindOf y.1=some .free
 len:N.length=nv+ix.length
 at_: ∀j y,N[nv+j]?=some y->∃i,ix[j]?=some i/\X.N[i]?=some y/\(X.env.kindOf y=some .cell\/X.env.kindOf y=some .free)/\scope.names.lookup y=some .free
noncomputable def dG (nv:Nat) (ix:List Nat) (σ:St):St:=List.replicate nv none++ix.map fun i=>(σ[i]?).join
section
variable {X:Cx} {pins:List (Addr×Obj)} {σ:St} {H:Hp} {s:Shared} {scope:Scope} {N:List Str} {nv:Nat} {ix:List Nat}
def sE {h1:Heap} {tk:Nat} {cl:List (Str×Addr)} {fp:List Addr} {C D:Addr} {oD:Obj} (S:oE X scope N nv ix) (I:Inv X pins σ H s) (hcl: ∀y c,cl.lookup y=some c->X.env.cells.lookup y=some c)
  (hcl2: ∀y∈scope.names,y.2 = .free->∃c,cl.lookup y.1=some c) (hfp: ∀b∈fp,oC X pins H b) (hob: ∀b∈fp,b<s.heap.objs.size)
  (hC:s.heap.objs.size<=C) (hD:s.heap.objs.size<=D) (hDC:D≠C) (old: ∀b o,s.heap.get? b=some o->h1.get? b=some o) {m:Str->Option Value} (hm:h1.Ns C m) (hoD:h1.get? D=some oD) (hdat: ∀v,oD.data≠ .cell v):
  Inv (X.comp scope cl C N s H fp) [(D,oD)] (dG nv ix σ) H {s with heap:=h1,toks:=tk}:=by
 refine ⟨⟨I.ok.mod,S.kind,I.ok.glob,I.ok.blt,hC,fun x y c e1 e2=>I.ok.inj x y c (hcl x c e1) (hcl y c e2),fun x hx=>?_,fun _ _ z=>absurd z Bool.false_ne_true,I.ok.hd,I.ok.frames,.inl rfl,fun b hb=>⟨fun z=>?_,fun x c e=>(hfp b hb).2.2.2.2.1 x c (hcl x c e)⟩,I.bs,
  Nat.le_trans I.ok.bsz I.sz,fun b o e hb=>?_,fun b hb z=>?_,I.stack,I.sU⟩,rfl,I.bare,Un.kept old,⟨m,hm,fun i x v e1 e2 e3=>?_⟩,fun x c e=>?_,I.hok.fresh hC,fun x c e=>I.j2 x c (hcl x c e),fun p hp=>?_,I.hok.kept old,?_⟩
 ·
  have hx':(relabel scope X.env).names.lookup x=some .cell\/(relabel scope X.env).names.lookup x=some .free:=hx;have fr:scope.names.lookup x=some .free:=by
   rcases hx' with z|z
   ·
    rcases hX z with q|q
    ·exact absurd rfl (S.nocell _ (PySem.mem_of_lookup q))
    ·exact q.1
   ·
    rcases hX z with q|q
    ·exact q
    ·cases q.2
  exact hcl2 (x,.free) (PySem.mem_of_lookup fr) rfl
 ·exact Nat.ne_of_lt (Nat.lt_of_lt_of_le (hob b hb) hC) z
 ·
  rcases (hfp b hb).2.2.2.1 with z|z
  ·exact I.ok.noex b o e z
  ·exact xi e (Nat.le_trans I.ok.bsz z) rfl
 ·
  rcases List.mem_cons.mp (I.nA b z) with q|q
  ·exact (hfp b hb).2.1 q
  ·exact (hfp b hb).2.2.1 q
 ·
  have e1':N[i]?=some x:=e1;by_cases hi:i<nv
  ·
   have e2':(dG nv ix σ)[i]?=some (some v):=e2;unfold dG at e2';rw [List.getElem?_append_left (by simpa using hi),List.getElem?_replicate,if_pos hi] at e2';cases e2'
  ·
   obtain ⟨j,rfl⟩: ∃j,i=nv+j:=⟨i - nv,by lia⟩;obtain ⟨k,hk,hN,hkd,hsc⟩:=S.at_ j x e1';have e2':(dG nv ix σ)[nv+j]?=some (some v):=e2;unfold dG at e2';rw [List.getElem?_append_right (by simp),List.length_replicate,Nat.add_sub_cancel_left,List.getElem?_map,hk] at e2';have e4:σ[k]?=some (some v):=by
    have e5:(σ[k]?).join=some v:=by simpa using e2'
    cases q:σ[k]? with
    |none=>rw [q] at e5;cases e5
    |some z=>rw [q] at e5;have:z=some v:=e5;rw [this]
   obtain ⟨m0,_,hl⟩:=I.loc;have vis:Gz X.env.scope x:=by
    rcases hkd with z|z
    ·exact .inr (.inl z)
    ·exact .inr (.inr z)
   obtain ⟨u,r,l⟩:=hl k x v hN e4 vis;refine ⟨u,r,?_⟩;rcases l with ⟨z,_⟩|⟨_,c,hc,hcell⟩
   ·rcases hkd with q|q<;>rw [q] at z<;>cases z
   ·
    obtain ⟨c',hc'⟩:=hcl2 (x,.free) (PySem.mem_of_lookup hsc) rfl;have:=hcl x c' hc';rw [hc] at this;cases this;refine .inr ⟨?_,c,hc',hcell.keeps old⟩;rcases e3 with z|z|z
    ·
     rcases hX z with q|q
     ·rw [hsc] at q;cases q
     ·cases q.2
    ·exact .inl z
    ·exact .inr z
 ·
  obtain ⟨v,q⟩:=I.cell x c (hcl x c e);exact ⟨v,q.keeps old⟩
 ·
  have hp':p∈[(D,oD)]:=hp;have e:p=(D,oD):=by simpa using hp'
  subst e;refine ⟨hoD,I.hok.fresh hD,hDC,fun z=>?_,hdat⟩;rcases List.mem_cons.mp (I.nA D z) with q|q
  ·exact Nat.ne_of_gt (Nat.lt_of_lt_of_le I.lt hD) q
  ·exact I.nofs hD q
 ·
  show (dG nv ix σ).length=N.length;unfold dG;rw [List.length_append,List.length_replicate,List.length_map,S.len]
def ya {cl:List (Str×Addr)} {fp:List Addr} {C D:Addr} {its:List Value} {ys:List V} {n:Nat} {σ':St} {H':Hp} {s':Shared} (I:Inv X pins σ H s) (hfp: ∀b∈fp,oC X pins H b) (hD:s.heap.objs.size<=D)
  (J:Inv (X.comp scope cl C N s H fp) [(D,{cls:= .type "list",data:= .seq its.toArray n})] σ' H' s') (r:Vals ys its) (hl:ys.length<=sizeLine):Inv X pins σ (upd H' D (.lst ys)) s':=by
 obtain ⟨eD,fD,_⟩:=J.pin (D,{cls:= .type "list",data:= .seq its.toArray n}) (by simp [Cx.comp]);have U:Un (frs X.stack) fp H H' s.heap s'.heap:=J.base;have neD: ∀b o,s.heap.get? b=some o->b≠D:=fun b o e=>xi e hD;refine I.call' (ch:=fp) J.os ⟨U.keep,U.slot,fun b o e n hx=>?_,U.there,fun b xs e=>?_,fun b o xs e=>?_,fun b ps e=>?_⟩ (fun b u e=>?_) J.bare fun b hb=>(hfp b hb).2.2.2 |> fun z=>⟨z.1,(hfp b hb).2.1,z.2.1,z.2.2⟩
 ·rw [af (neD b o e)];exact U.free b o e n hx
 ·
  have q:=U.tups b xs e;rw [af (av q fD)];exact q
 ·
  have q:=U.frzs b o xs e;rw [af (av q fD)];exact q
 ·
  obtain ⟨more,q⟩:=U.tbls b ps e;exact ⟨more,by rw [af (av q fD)];exact q⟩
 ·
  by_cases hb:b=D
  ·
   subst hb;rw [ax] at e;cases e;exact ⟨hl,its,n,r,eD⟩
  ·
   rw [af hb] at e;exact (J.hok b u e).stay (fun c v _ q=>q) (fun c q=>by rw [af (av q fD)];exact q) fun c xs q=>by rw [af (av q fD)];exact q
end
section
variable {prog:Program} {w:World} {A:Around} {E:Value->Shared->Prop} {R:Result->Shared->Prop} {s:Shared}
def qG {elt target iter:Expr} {ifs:List Expr} {scope:Scope} {pos:Pos} {it acc:Value} {env:Env} (I:Nat->Shared->Prop)
  (
   turn: ∀n s,I n s->wpAny (model prog w) A (pyNext it) (fun r s₁=>match r with
   |none=>R (.ok .next) s₁
   |
     some v=>wpAny (model prog w) A (letOwnedTupleGo target it v) (fun _ s₀=>wpAny (model prog w) A (assign target env v) (fun _ s₂=>
     wpAny (model prog w) A (forIn ifs true fun c r=>if r=true then do let ok<-isTrue c env (eval c env);pure (ForInStep.yield ok) else pure (ForInStep.yield r)) (fun ok s₃=>
      if ok=true then wpAny (model prog w) A (eval elt env) (fun x s₄=>
       wpAny (model prog w) A (call (.builtin "list.append") [acc,x]) (fun _ s₅=> ∃m,m<n/\I m s₅) (fun _ _=>False) s₄) (fun _ _=>False) s₃
      else∃m,m<n/\I m s₃) (fun _ _=>False) s₂) (fun _ _=>False) s₀) (fun _ _=>False) s₁) (fun _ _=>False) s)
  (n:Nat) (h:I n s):
  codeAny (model prog w) A (.compLoop (.ListComp elt [⟨target,iter,ifs,0⟩] scope pos) 0 it acc env) R s:=by
 refine codeAny_loop rfl I (fun n s hI=>?_) n h;show wpAny _ A ((compTurn (.ListComp elt [⟨target,iter,ifs,0⟩] scope pos) 0 it acc env).onRaise (fun x=>do noteFrame x env;theTreesLotGoes x)) _ _ s;refine wpAny_noted ?_;rw [compTurn_list];refine wpAny_bind (wpAny_standAt (wpAny_bind (wpAny_mono (turn n s hI) (fun r s₁ h₁=>?_) fun _ _ h'=>h'.elim)));cases r with
 |none=>exact wpAny_pure h₁
 |some v=>
  refine wpAny_bind (wpAny_mono h₁ (fun _ s₀ h₀=>?_) fun _ _ h'=>h'.elim);refine wpAny_bind (wpAny_mono h₀ (fun _ s₂ h₂=>wpAny_bind (wpAny_mono h₂ (fun ok s₃ h₃=>?_) fun _ _ h'=>h'.elim)) fun _ _ h'=>h'.elim);cases ok with
  |false=>exact wpAny_pure ⟨rfl,h₃⟩
  |true=>
   exact wpAny_bind (wpAny_bind (wpAny_mono h₃ (fun x s₄ h₄=>wpAny_bind (wpAny_mono h₄ (fun _ s₅ h₅=>wpAny_pure (wpAny_pure ⟨rfl,h₅⟩)) fun _ _ h'=>h'.elim)) fun _ _ h'=>h'.elim))
end
def C6:TT:=fun _ H Q=>Q true H
def j3 (J:It) (g:TG) (tt:TT) (te:TE) (σ₀:St) (H1:Hp) (Q:List V->Hp->Prop):Prop:=
 ∃W:Nat->Nat->List V->St->Hp->Prop,(∃m,W 0 m [] σ₀ H1)/\∀i m ys σ' H',W i m ys σ' H'->
  (
   J.stop i H'/\Q ys H')\/(J.go i H'/\ys.length<sizeLine/\∃N:List V->St->Hp->Prop,(∀ys' σ'' H'',N ys' σ'' H''->∃m',m'<m/\W (i+1) m' ys' σ'' H'')/\
   ∀x H'',J.yld i H' x H''->g x σ' H'' fun σ2 H2=>tt σ2 H2 fun b H3=>if b=true then te σ2 H3 fun y H4=>N (ys++ [y]) σ2 H4 else N ys σ2 H3)
def pG (nv:Nat) (ix:List Nat) (wi:TI) (g:TG) (tt:TT) (te:TE):TE:=fun σ H Q=>wi σ H fun J H1=>j3 J g tt te (dG nv ix σ) H1 fun ys H'=>ys.length<=sizeLine/\∀D,H' D=none->Q (.ref D) (upd H' D (.lst ys))
section
variable {X:Cx} {tg elt iter:Expr} {ifs:List Expr} {scope:Scope} {N:List Str} {nv:Nat} {ix:List Nat} {pos spos:Pos} {wi:TI} {g:TG} {tt:TT} {te:TE}
def Gi (X:Cx) (ifs:List Expr) (tt:TT):Prop:=
 ∀(pins:List (Addr×Obj)) (s:Shared) (σ:St) (H:Hp) (Q:Bool->Hp->Prop),Inv X pins σ H s->tt σ H Q->
  wpAny (model X.prog X.w) X.A (forIn ifs true fun c r=>if r=true then do let ok<-isTrue c X.env (eval c X.env);pure (ForInStep.yield ok) else pure (ForInStep.yield r)) (TP X pins σ Q) X.xe s
def y6:Gi X [] C6:=fun _ _ _ H _ I h=>wpAny_tests_nil ⟨H,I,h⟩
def kN {c:Expr} (h:PT X c tt):Gi X [c] tt:=fun pins s σ H Q I hw=>wpAny_tests_one (h pins s σ H Q I hw)
def qa {use:Option (Value->Sem Unit)} {Qv:Value->Shared->Prop} {pins:List (Addr×Obj)} {s:Shared} {σ:St} {H:Hp} {Q:List V->Hp->Prop} (hc:X.calm=true) (S:oE X scope N nv ix) (hi:PI X tg iter wi)
  (hg: ∀cl C s H ex,PG (X.comp scope cl C N s H ex) tg g) (ht: ∀cl C s H ex,Gi (X.comp scope cl C N s H ex) ifs tt) (he: ∀cl C s H ex,PE (X.comp scope cl C N s H ex) elt te) (I:Inv X pins σ H s)
  (h:wi σ H fun J H1=>j3 J g tt te (dG nv ix σ) H1 fun ys H'=>ys.length<=sizeLine/\Q ys H')
  (fin: ∀ys D C H' s' (s2:Shared) (σ2:St),Q ys H'->H' D=none->D≠C->Inv X pins σ (upd H' D (.lst ys)) s'->(∃m,s'.heap.Ns C m)->(∀H'',H'' C=none->oC X pins H'' C)->H' C=none->compPost (model X.prog X.w) X.A X.xe use Qv (.ref D) C (.ok .next) s')
  (hs: ∀x,foldedSetIterable iter X.env x=pure x):
  wpAny (model X.prog X.w) X.A (comprehension (.ListComp elt [⟨tg,iter,ifs,0⟩] scope pos) scope X.env (firstIterPos [⟨tg,iter,ifs,0⟩] pos) (newList []) false (eval iter X.env) use) Qv X.xe s:=by
 obtain ⟨cl,hclos,hcl,hcl2⟩:=sH (env:=X.env) (scope:=scope) fun y hy hf=>I.ok.has y.1 (S.fre y hy hf);refine wpAny_comprehension_free (use:=use) rfl hs hclos S.kind S.names (thn (hi pins s σ H _ I h) fun v s1 h1=>thn h1 fun itv s2 h2=>?_);obtain ⟨it,fp,tn,J,H2,e,I2,T,st2,f2,W,⟨m0,w0⟩,turn⟩:=h2;subst e;refine wpAny_newObj_type (wpAny_newFunctionEnv S.nocell (by intro y hy;simp at hy) (fun h₁ hns₁ hsb₁=>?_) S.kind);dsimp only at hns₁ hsb₁⊢;generalize hH2:s2.heap.push {cls:= .type "list",dict:=none,data:= .seq ([]:List Value).toArray}=G2 at hns₁ hsb₁⊢;have hC:G2.objs.size=s2.heap.objs.size+1:=by rw [<-hH2,Heap.size_push]
 have hDC:s2.heap.objs.size≠G2.objs.size:=by rw [hC];exact Nat.ne_of_lt (Nat.lt_succ_self _)
 have old: ∀b o,s2.heap.get? b=some o->h₁.get? b=some o:=fun b o e=>hsb₁.extBut b o (xi e (by rw [hC];exact Nat.le_succ _)) (Heap.get?_push_of_some _ (hH2▸Heap.get?_push_of_some _ e));have hacc:h₁.get? s2.heap.objs.size=some {cls:= .type "list",data:= .seq ([]:List Value).toArray 0}:=hsb₁.extBut _ _ hDC (Heap.get?_push_of_some _ (hH2▸Heap.get?_push_size _ rfl));have hob: ∀b∈fp,b<s2.heap.objs.size:=fun b hb=>by
  obtain ⟨o,e,_⟩:=T.obj _ _ st2 b hb;exact Heap.lt_size e
 have hCle:s2.heap.objs.size<=G2.objs.size:=by rw [hC];exact Nat.le_succ _
 have I4: ∀tk,Inv (X.comp scope cl G2.objs.size N s2 H2 fp) [(s2.heap.objs.size,{cls:= .type "list",data:= .seq ([]:List Value).toArray 0})] (dG nv ix σ) H2 {s2 with heap:=h₁,toks:=tk}:=fun tk=>
  sE S I2 hcl hcl2 f2 hob hCle (Nat.le_refl _) hDC old hns₁ hacc (fun v z=>by cases z)
 have hst₁:tn 0 h₁:=T.keep _ _ _ st2 fun b _ o e=>old b o e;have stat: ∀{H':Hp} {pns:List (Addr×Obj)},(∀p∈pns,p.1=s2.heap.objs.size)->(∀b∈fp,H' b=none)->∀b∈fp,oC (X.comp scope cl G2.objs.size N s2 H2 fp) pns H' b:=fun {H' pns} hp hn b hb=>by
  obtain ⟨f0,f1,f3,f4,f5,f6⟩:=f2 b hb;have hlt:=hob b hb;refine ⟨hn b hb,fun z=>?_,fun z=>?_,.inl hb,fun x c e=>f5 x c (hcl x c e),fun p hp' z=>?_⟩
  ·exact Nat.ne_of_lt (Nat.lt_of_lt_of_le hlt hCle) z
  ·
   rcases List.mem_cons.mp (I2.nA b z) with q|q
   ·exact f1 q
   ·exact f3 q
  ·
   have hp'':p∈pns:=by simpa [Cx.comp] using hp'
   exact Nat.ne_of_gt (by rw [hp p hp''];exact hlt) z
 have loop: ∀s₃:Shared,s₃={s2 with heap:=h₁,toks:=s2.toks+([]:List (Str×Value)).length}->
   codeAny (model X.prog X.w) X.A (.compLoop (.ListComp elt [⟨tg,iter,ifs,0⟩] scope pos) 0 (.ref it) (.ref s2.heap.objs.size) (compEnvC scope cl G2.objs.size X.env))
    (compPost (model X.prog X.w) X.A X.xe use Qv (.ref s2.heap.objs.size) G2.objs.size) s₃:=by
  rintro s₃ rfl;refine qG (fun n s'=> ∃i ys its σ' H',Inv (X.comp scope cl G2.objs.size N s2 H2 fp) [(s2.heap.objs.size,{cls:= .type "list",data:= .seq its.toArray its.length})] σ' H' s'/\tn i s'.heap/\(∀b∈fp,H' b=none)/\Vals ys its/\W i n ys σ' H') ?_ m0
   ⟨0,[],[],_,H2,I4 _,hst₁,fun b hb=>(f2 b hb).1,.nil,w0⟩
  rintro n s' ⟨i,ys,its,σ',H',I',st',fr',rv,w'⟩;have pin1: ∀{o:Obj},∀p∈[(s2.heap.objs.size,o)],p.1=s2.heap.objs.size:=fun {o} p hp=>by
   exact congrArg Prod.fst (List.mem_singleton.mp hp)
  rcases turn i n ys σ' H' w' with ⟨stop,hl,qn⟩|⟨go,hlen,Nx,hN,step⟩
  ·
   refine thn (T.done (X.comp scope cl G2.objs.size N s2 H2 fp) rfl rfl rfl hc i _ s' σ' H' (fun _ _=>False) I' (stat pin1 fr') st' stop) fun r s4 ⟨hr,I5⟩=>?_;subst hr;obtain ⟨m5,hm5,_⟩:=I5.loc;have fD:=(I5.pin (s2.heap.objs.size,{cls:= .type "list",data:= .seq its.toArray its.length}) (List.mem_append_right _ (by simp))).2.1;exact fin ys _ _ H' s4 s2 σ' qn fD hDC (ya I2 f2 (Nat.le_refl _) I5 rv hl) ⟨m5,hm5⟩ (fun H'' hn=>I2.vr hCle hn) I5.free
  ·
   refine thn (T.item (X.comp scope cl G2.objs.size N s2 H2 fp) rfl rfl rfl hc i _ s' σ' H' (fun _ _=>False) I' (stat pin1 fr') st' go) fun r s4 ⟨u,hr,h4⟩=>?_;subst hr;refine thn h4 fun _ s5 ⟨x,H5,I5,r5,y5,st5,fr5⟩=>?_;have I5':=I5.pinned (stat pin1 fr5) (T.obj _ _ st5);refine thn (hg _ _ _ _ _ _ s5 σ' H5 x u _ I5' r5 (step x H5 y5)) fun _ s6 ⟨σ6,H6,I6,q6⟩=>?_;refine thn (ht _ _ _ _ _ _ s6 σ6 H6 _ I6 q6) fun b s7 ⟨H7,I7,q7⟩=>?_;have back: ∀{σ8:St} {H8:Hp} {s8:Shared},Inv (X.comp scope cl G2.objs.size N s2 H2 fp) ([(s2.heap.objs.size,{cls:= .type "list",data:= .seq its.toArray its.length})]++nK fp s5.heap) σ8 H8 s8->tn (i+1) s8.heap/\∀b∈fp,H8 b=none:=fun {σ8 H8 s8} J=>
    ⟨
     T.keep _ _ _ st5 fun b hb o e=>(J.pin (b,o) (List.mem_append_right _ (List.mem_append_right _ (ig hb e)))).1,fun b hb=>by
     obtain ⟨o,e,d⟩:=T.obj _ _ st5 b hb;exact (J.pin (b,o) (List.mem_append_right _ (List.mem_append_right _ (ig hb e)))).2.1⟩
   cases b with
   |false=>
    rw [if_neg Bool.false_ne_true] at q7;obtain ⟨m',hm,w7⟩:=hN _ _ _ q7;exact ⟨m',hm,i+1,ys,its,σ6,H7,I7.unpinned,(back I7).1,(back I7).2,rv,w7⟩
   |true=>
    rw [if_pos rfl] at q7;refine thn (he _ _ _ _ _ _ s7 σ6 H7 _ I7 q7) fun y s8 ⟨yv,H8,I8,r8,q8⟩=>?_;obtain ⟨eD,fD,nD,nfD,dD⟩:=I8.pin (s2.heap.objs.size,{cls:= .type "list",data:= .seq its.toArray its.length}) (List.mem_append_right _ (by simp));refine append_at (hsz:=by rw [List.size_toArray,<-rv.length];exact Nat.le_of_lt hlen) eD fun h₅ hs₅ hD₅=>?_;obtain ⟨m',hm,w8⟩:=hN _ _ _ q8;have fpD:s2.heap.objs.size ∉ fp:=fun z=>Nat.lt_irrefl _ (hob _ z);have I9:Inv (X.comp scope cl G2.objs.size N s2 H2 fp) [] σ6 H8 s8:=I8.nc fun p hp=>absurd hp (by simp);have fk:=I2.vr (H':=H8) (Nat.le_refl _) fD;have I10:Inv (X.comp scope cl G2.objs.size N s2 H2 fp) [] σ6 H8 {s8 with heap:=h₅,toks:=s8.toks}:=
     I9.turned (it:=s2.heap.objs.size) (fun b o hb e=>hs₅.extBut b o hb e) fD nD (.inr (Nat.le_refl _)) (fun x c e=>fk.2.2.2.2.1 x c (hcl x c e)) (fun p hp=>absurd hp (by simp [Cx.comp]))
    refine ⟨m',hm,i+1,ys++ [yv],its++ [y],σ6,H8,I10.nc fun p hp=>?_,?_,(back I8).2,rv.append (.cons r8 .nil),w8⟩
    ·
     have e:p=(s2.heap.objs.size,{cls:= .type "list",data:= .seq (its++ [y]).toArray (its++ [y]).length}):=by simpa using hp
     subst e;refine ⟨?_,fD,nD,nfD,fun v z=>by cases z⟩;show h₅.get? s2.heap.objs.size=_;rw [hD₅,List.push_toArray,List.length_append,List.length_singleton]
    ·exact T.keep _ _ _ (back I8).1 fun b hb o e=>hs₅.extBut b o (fun z=>fpD (by have z':b=s2.heap.objs.size:=z;rw [<-z'];exact hb)) e
 exact codeAny_compStart_list (loop _ rfl) (T.self _ 0 _ _ _ hst₁ (loop _ rfl))
def kP (hc:X.calm=true) (S:oE X scope N nv ix) (hi:PI X tg iter wi)
  (hg: ∀cl C s H ex,PG (X.comp scope cl C N s H ex) tg g) (ht: ∀cl C s H ex,Gi (X.comp scope cl C N s H ex) ifs tt) (he: ∀cl C s H ex,PE (X.comp scope cl C N s H ex) elt te)
  (hs: ∀x,foldedSetIterable iter X.env x=pure x:=by intro _;rfl):PE X (.ListComp elt [⟨tg,iter,ifs,0⟩] scope pos) (pG nv ix wi g tt te):=by
 intro pins s σ H Q I h;rw [eval_ListComp];refine qa (Q:=fun ys H'=> ∀D,H' D=none->Q (.ref D) (upd H' D (.lst ys))) (use:=none) hc S hi hg ht he I ?_ (fun ys D C H' s' s2 σ2 q fD hDC J hm fk fC=>?_) hs
 ·exact h
 ·
  obtain ⟨m,hm⟩:=hm;refine ⟨m,hm,fun h' sb=>⟨.ref D,_,?_,rfl,q D fD⟩⟩;have fC':upd H' D (.lst ys) C=none:=by rw [af (Ne.symm hDC)];exact fC
  obtain ⟨f0,f1,f2,f3,f4,f5⟩:=fk _ fC';exact J.turned (t':=s'.toks) (it:=C) (fun b o hb e=>sb.extBut b o hb e) f0 f1 f3 f4 f5
def y7 {i:Nat} {x:Str} {px:Pos} (hc:X.calm=true) (hN:X.N.Nodup) (hi':X.N[i]?=some x) (hx:X.env.scope.names.lookup x=some .local) (S:oE X scope N nv ix) (hi:PI X tg iter wi)
  (hg: ∀cl C s H ex,PG (X.comp scope cl C N s H ex) tg g) (ht: ∀cl C s H ex,Gi (X.comp scope cl C N s H ex) ifs tt) (he: ∀cl C s H ex,PE (X.comp scope cl C N s H ex) elt te)
  (hsw:swapsWith (.ListComp elt [⟨tg,iter,ifs,0⟩] scope pos) (some (.Name x px)) spos.line X.env=pure true:=by rfl)
  (hs: ∀x,foldedSetIterable iter X.env x=pure x:=by intro _;rfl):PS X (.Assign [.Name x px] (.ListComp elt [⟨tg,iter,ifs,0⟩] scope pos) spos) (vU (pG nv ix wi g tt te) (j1 i)):=by
 intro pins s σ H D I h;rw [exec_Assign_Name_used _ _ _ _ hsw];refine wpAny_bind (wpAny_standAt (wpAny_bind ?_));show wpAny _ _ (do let _<-comprehension (.ListComp elt [⟨tg,iter,ifs,0⟩] scope pos) scope X.env (firstIterPos [⟨tg,iter,ifs,0⟩] pos) (newList []) false (eval iter X.env) (some (assign (.Name x px) X.env))) _ _ s;refine wpAny_bind (thn (qa (Q:=fun ys H'=> ∀l,H' l=none->D.nx (σ.set i (some (.ref l))) (upd H' l (.lst ys))) (use:=some (assign (.Name x px) X.env)) (Qv:=fun _ s'=>SP X pins D .next s') hc S hi hg ht he I h (fun ys l C H' s' s2 σ2 q fD hDC J hm fk fC=>?_) hs)
  fun _ s' hq=>wpAny_pure (wpAny_pure hq))
 obtain ⟨m,hm⟩:=hm;have fC':upd H' l (.lst ys) C=none:=by rw [af (Ne.symm hDC)];exact fC
 obtain ⟨f0,f1,f2,f3,f4,f5⟩:=fk _ fC';show wpAny _ _ (assign (.Name x px) X.env (.ref l)) _ _ s';refine wpAny_assign_Name (pH J hN hi' (.inl hx) (v:= .ref l) (u:= .ref l) rfl (fun s'' J' ⟨a,sb,ha⟩=>?_) (.inr hx));have hCa:C≠a:=by
  rcases ha with z|z
  ·rw [z];exact f1
  ·exact Ne.symm (f4 x a z)
 refine ⟨m,hm.sameBut sb hCa,fun h' sb'=>⟨_,_,?_,q l fD⟩⟩;exact J'.turned (t':=s''.toks) (it:=C) (fun b o hb e=>sb'.extBut b o hb e) f0 f1 f3 f4 f5
end
noncomputable def I_ (x:Str):It:=⟨fun i _=>i<x.cps.size,fun i H v H'=>H'=H/\∃c,x.cps[i]?=some c/\v = .str ⟨#[c]⟩,fun i _=>x.cps.size<=i⟩
def qV {P:Program} {w:World} {K:W.Frag} {tg:Expr} (it:Addr) (x:Str) (t:Tok) (T:String) (hT:T = "str_ascii_iterator" \/T = "str_iterator"):Turn P w K tg (I_ x) [it] it (fun i h=>h.IsStrIter it T x t i) where
 mem:=by simp
 obj:=fun i h st b hb=>by
  have e:b=it:=by simpa using hb
  subst e;obtain ⟨o,e,c,d⟩:=st;exact ⟨o,e,fun v z=>by rw [d] at z;cases z⟩
 keep:=fun i h h' st k=>by
  obtain ⟨o,e,r⟩:=st;exact ⟨o,k it (by simp) o e,r⟩
 item:=by
  intro X hP hw hK hc i pins s σ H E I hf st hg;subst hP hw hK;obtain ⟨f0,f1,f2,f3,f4,f5⟩:=hf it (by simp);have hg':i<x.cps.size:=hg;have W:Walks X.prog X.w X.A it [it] [it] x.cps.size (SignAt x) (fun i h=>h.IsStrIter it T x t i):=by
   rcases hT with rfl|rfl
   ·exact Walks.strAscii (I.ok.hd hc) it x t
   ·exact Walks.strWide (I.ok.hd hc) it x t
  refine W.item i s _ _ hg' st fun v h' tk hv st' kk=>?_;obtain ⟨c,u,hcx,rfl⟩:=hv;have I1:Inv X pins σ H {s with heap:=h',toks:=tk}:=I.turned (fun b o hb e=>kk b o (by simpa using hb) e) f0 f1 f3 f4 f5;obtain ⟨o,e,c',d⟩:=id st';refine ⟨_,rfl,tM (s:={s with heap:=h',toks:=tk}) e c' d (by rcases hT with rfl|rfl<;>decide) ⟨.str ⟨#[c]⟩,H,I1,⟨u,rfl⟩,⟨rfl,c,hcx,rfl⟩,st',fun b hb=>(hf b hb).1⟩⟩
 done:=by
  intro X hP hw hK hc i pins s σ H E I hf st hg;subst hP hw hK;obtain ⟨f0,f1,f2,f3,f4,f5⟩:=hf it (by simp);have hg':x.cps.size<=i:=hg;have he:x.cps[i]?=none:=by simp [hg']
  rcases hT with rfl|rfl
  ·exact wpAny_pyNext_ascii_end (I.ok.hd hc) st he fun h' eb=>⟨rfl,I.turned (t':=s.toks) (fun b o hb e=>eb b o hb e) f0 f1 f3 f4 f5⟩
  ·exact wpAny_pyNext_wide_end (I.ok.hd hc) st he fun h' eb=>⟨rfl,I.turned (t':=s.toks) (fun b o hb e=>eb b o hb e) f0 f1 f3 f4 f5⟩
 self:=fun _ _ _ _ _ st h=>by
  rcases hT with rfl|rfl
  ·exact wpAny_pyIter_striter_ascii st h
  ·exact wpAny_pyIter_striter_wide st h
def uu (K:W.Frag) (x:V) (H1:Hp) (R:It->Hp->Prop):Prop:=match x with
 | .ref a=>(∃xs,cQ K H1 a xs/\R (Gn K a) H1)\/(∃xs,fx K H1 a xs/\R (I0 K a) H1)
 | .str z=>R (I_ z) H1
 |_=>False
def zI (K:W.Frag) (tl:TE):TI:=fun σ H R=>tl σ H fun x H1=>uu K x H1 R
def Ba {X:Cx} {tg l:Expr} {tl:TE} (hl:PE X l tl):PI X tg l (zI X.K tl):=by
 intro pins s σ H R I h;refine thn (hl pins s σ H _ I h) fun v s1 ⟨x,H1,I1,r1,q1⟩=>?_;cases x with
 |ref a=>
  cases r1;rcases q1 with ⟨xs,hq,q⟩|⟨xs,hq,q⟩
  ·
   obtain ⟨its,rv,p,hz⟩:=I1.list hq;refine wpAny_pyIter_list p.isList ?_;refine ⟨s1.heap.objs.size,[s1.heap.objs.size],_,_,H1,rfl,I1.kept (t':=s1.toks) fun b o e=>Heap.get?_push_of_some _ e,t7 a _,⟨_,Heap.get?_push_size _ rfl,rfl,rfl⟩,fun b hb=>?_,q⟩;have e:b=s1.heap.objs.size:=by simpa using hb
   subst e;exact I1.vr (Nat.le_refl _) (I1.hok.fresh (Nat.le_refl _))
  ·
   obtain ⟨its,rv,p,hz⟩:=I1.tuple hq;refine wpAny_pyIter_tuple (show s1.heap.IsTuple a its.toArray from p) ?_;refine ⟨s1.heap.objs.size,[s1.heap.objs.size],_,_,H1,rfl,I1.kept (t':=s1.toks) fun b o e=>Heap.get?_push_of_some _ e,rP a _,⟨_,Heap.get?_push_size _ rfl,rfl,rfl⟩,fun b hb=>?_,q⟩;have e:b=s1.heap.objs.size:=by simpa using hb
   subst e;exact I1.vr (Nat.le_refl _) (I1.hok.fresh (Nat.le_refl _))
 |str z=>
  obtain ⟨t,rfl⟩:=r1;have fp: ∀b∈[s1.heap.objs.size],oC X pins H1 b:=fun b hb=>by
   have e:b=s1.heap.objs.size:=by simpa using hb
   subst e;exact I1.vr (Nat.le_refl _) (I1.hok.fresh (Nat.le_refl _))
  cases ha:z.cps.all (· < 128)
  ·exact wpAny_pyIter_wide ha ⟨s1.heap.objs.size,[s1.heap.objs.size],_,_,H1,rfl,I1.kept (t':=s1.toks) fun b o e=>Heap.get?_push_of_some _ e,qV _ z t _ (.inr rfl),⟨_,Heap.get?_push_size _ rfl,rfl,rfl⟩,fp,q1⟩
  ·exact wpAny_pyIter_ascii ha ⟨s1.heap.objs.size,[s1.heap.objs.size],_,_,H1,rfl,I1.kept (t':=s1.toks) fun b o e=>Heap.get?_push_of_some _ e,qV _ z t _ (.inl rfl),⟨_,Heap.get?_push_size _ rfl,rfl,rfl⟩,fp,q1⟩
 |_=>exact q1.elim
def forR (J:It) (g:TG) (tb:TS) (D:Ends) (σ:St) (H:Hp):Prop:= ∃W:Nat->Nat->St->Hp->Prop,(∃m,W 0 m σ H)/\∀i m σ H,W i m σ H->
 (J.stop i H/\D.nx σ H)\/(J.go i H/\∃N:St->Hp->Prop,(∀σ' H',N σ' H'->∃m',m'<m/\W (i+1) m' σ' H')/\∀x H',J.yld i H x H'->g x σ H' fun σ2 H2=>tb {D with nx:=N,ct:=N,bk:=D.nx} σ2 H2)
section
variable {K:W.Frag} {tl:TE} {g:TG} {tb:TS} {D:Ends} {σ:St} {H:Hp} {tt:TT} {te:TE} {nv:Nat} {ix:List Nat} {Q:VK} {ta:TA}
def vN:vO (zI K tl) g tb D σ H=tl σ H fun x H1=>uu K x H1 fun J H2=>forR J g tb D σ H2:=rfl
def uq:pG nv ix (zI K tl) g tt te σ H Q=tl σ H fun x H1=>uu K x H1 fun J H2=>j3 J g tt te (dG nv ix σ) H2 fun ys H'=>ys.length<=sizeLine/\∀l,H' l=none->Q (.ref l) (upd H' l (.lst ys)):=rfl
def pL (vs:List V) (H1:Hp) (R:It->Hp->Prop):Prop:=match vs with
 | [.int j]=>(-(2 ^ 62)<=j/\j<2 ^ 62)/\R (yo 0 j.toNat) H1
 |_=>False
def pK (vs:List V) (H1:Hp) (R:It->Hp->Prop):Prop:=match vs with
 | [.int i,.int j]=>(-(2 ^ 62)<=i/\i<2 ^ 62/\-(2 ^ 62)<=j/\j<2 ^ 62)/\R (yo i (j - i).toNat) H1
 |_=>False
def xr (ta:TA):TI:=fun σ H R=>ta σ H fun vs H1=>pL vs H1 R
def xq (ta:TA):TI:=fun σ H R=>ta σ H fun vs H1=>pK vs H1 R
def sW (vs:List V) (H1:Hp) (R:It->Hp->Prop):Prop:=match vs with
 | [.int i,.int j,.int c]=>(-(2 ^ 61)<=i/\i<2 ^ 61/\-(2 ^ 61)<=j/\j<2 ^ 61/\0<c/\c<1000000)/\R (Gm i c (rcount i j c)) H1
 |_=>False
def Az (ta:TA):TI:=fun σ H R=>ta σ H fun vs H1=>sW vs H1 R
def t_:vO (xr ta) g tb D σ H=ta σ H fun vs H1=>pL vs H1 fun J H2=>forR J g tb D σ H2:=rfl
def t9:vO (xq ta) g tb D σ H=ta σ H fun vs H1=>pK vs H1 fun J H2=>forR J g tb D σ H2:=rfl
def t8:vO (Az ta) g tb D σ H=ta σ H fun vs H1=>sW vs H1 fun J H2=>forR J g tb D σ H2:=rfl
def rT:pG nv ix (xr ta) g tt te σ H Q=ta σ H fun vs H1=>pL vs H1 fun J H2=>j3 J g tt te (dG nv ix σ) H2 fun ys H'=>ys.length<=sizeLine/\∀l,H' l=none->Q (.ref l) (upd H' l (.lst ys)):=rfl
def rS:pG nv ix (xq ta) g tt te σ H Q=ta σ H fun vs H1=>pK vs H1 fun J H2=>j3 J g tt te (dG nv ix σ) H2 fun ys H'=>ys.length<=sizeLine/\∀l,H' l=none->Q (.ref l) (upd H' l (.lst ys)):=rfl
def rR:pG nv ix (Az ta) g tt te σ H Q=ta σ H fun vs H1=>sW vs H1 fun J H2=>j3 J g tt te (dG nv ix σ) H2 fun ys H'=>ys.length<=sizeLine/\∀l,H' l=none->Q (.ref l) (upd H' l (.lst ys)):=rfl
def uz {j:Int} {R:It->Hp->Prop}:pL [.int j] H R=((-(2 ^ 62)<=j/\j<2 ^ 62)/\R (yo 0 j.toNat) H):=rfl
def ux {i j:Int} {R:It->Hp->Prop}:pK [.int i,.int j] H R=((-(2 ^ 62)<=i/\i<2 ^ 62/\-(2 ^ 62)<=j/\j<2 ^ 62)/\R (yo i (j - i).toNat) H):=rfl
def uw {i j c:Int} {R:It->Hp->Prop}:sW [.int i,.int j,.int c] H R=((-(2 ^ 61)<=i/\i<2 ^ 61/\-(2 ^ 61)<=j/\j<2 ^ 61/\0<c/\c<1000000)/\R (Gm i c (rcount i j c)) H):=rfl
end
section
variable {X:Cx} {tg:Expr}
def gG {a:Expr} {ta:TA} {p pos:Pos} (hg:Gl X "range") (hm:X.mg "range" = none) (ha:PA X [a] ta) (hs:starEach [a] X.env= [(false,eval a X.env)]:=by rfl):PI X tg (.Call (.Name "range" p) [a] [] pos) (xr ta):=by
 intro pins s σ H R I h;refine Call_ (lN I hg hm boot_range (PyProof.Rows.callWith_type1 (thn (ha pos pins s σ H _ I h) fun us s1 ⟨vs,H1,I1,r1,q1⟩=>?_) hs rfl));replace q1:pL vs H1 R:=q1;unfold pL at q1;split at q1
 ·
  obtain ⟨⟨q1,q2⟩,q⟩:=q1;cases r1 with
  |cons r rr=>
   cases rr;obtain ⟨t,rfl⟩:=r;exact call_range_1 (qY I1 (by lia) (by lia) q1 q2 (by simpa using q))
 ·exact q1.elim
def lH {a b:Expr} {ta:TA} {p pos:Pos} (hg:Gl X "range") (hm:X.mg "range" = none) (ha:PA X [a,b] ta) (hs:starEach [a,b] X.env= [(false,eval a X.env),(false,eval b X.env)]:=by rfl) (hs2:starEach [b] X.env= [(false,eval b X.env)]:=by rfl):
  PI X tg (.Call (.Name "range" p) [a,b] [] pos) (xq ta):=by
 intro pins s σ H R I h;refine Call_ (lN I hg hm boot_range (PyProof.Rows.callWith_type1 (thn (ha pos pins s σ H _ I h) fun us s1 ⟨vs,H1,I1,r1,q1⟩=>?_) (by rw [hs,hs2]) (by rw [hs2];rfl)));replace q1:pK vs H1 R:=q1;unfold pK at q1;split at q1
 ·
  obtain ⟨⟨q1,q2,q3,q4⟩,q⟩:=q1;cases r1 with
  |cons r rr=>
   cases rr with
   |cons r' rr=>
    cases rr;obtain ⟨t,rfl⟩:=r;obtain ⟨t',rfl⟩:=r';exact call_range_2 (qY I1 q1 q2 q3 q4 q)
 ·exact q1.elim
end
section
variable {K:W.Frag} {g:TG} {tb:TS} {D:Ends} {σ:St} {H:Hp}
def nk {a:Addr} {xs:List V} (hS:cQ K H a xs) (Pv:Nat->St->Hp->Prop) (h0:Pv 0 σ H) (hl: ∀i σ H,i<=xs.length->Pv i σ H->cQ K H a xs)
  (hs: ∀i x σ H,xs[i]?=some x->Pv i σ H->g x σ H fun σ2 H2=>tb {D with nx:=Pv (i+1),ct:=Pv (i+1),bk:=D.nx} σ2 H2) (hd: ∀σ H,Pv xs.length σ H->D.nx σ H):
  uu K (.ref a) H fun J H2=>forR J g tb D σ H2:= .inl ⟨xs,hS,xT Pv h0 hl hs hd⟩
def nY {lo:Int} {n:Nat} (Pv:Nat->St->Hp->Prop) (h0:Pv 0 σ H)
  (hs: ∀(i:Nat) σ H,i<n->Pv i σ H->g (.int (lo+i)) σ H fun σ2 H2=>tb {D with nx:=Pv (i+1),ct:=Pv (i+1),bk:=D.nx} σ2 H2) (hd: ∀σ H,Pv n σ H->D.nx σ H):
  forR (yo lo n) g tb D σ H:=vt Pv h0 hs hd
end
section
variable {K:W.Frag} {tt:TT} {te:TE} {H:Hp} {tail:St} {Q:List V->Hp->Prop} {p:V->Bool} {f:V->V}
def l9 {J:It} {n:Nat} {xs:List V} (hn:xs.length=n) (hz:n<=sizeLine) (go: ∀i,i<n->J.go i H) (stop:J.stop n H) (yl: ∀i x H',i<n->J.yld i H x H'->H'=H/\xs[i]?=some x)
  (ht: ∀x∈xs,∀Q:Bool->Hp->Prop,Q (p x) H->tt (some x::tail) H Q) (he: ∀x∈xs,p x=true->∀Q:VK,Q (f x) H->te (some x::tail) H Q) (q:Q ((xs.filter p).map f) H):
  j3 J (j1 0) tt te (none::tail) H Q:=by
 refine ⟨fun i m ys σ' H'=>i<=n/\m=n - i/\ys=((xs.take i).filter p).map f/\(∃v,σ'=v::tail)/\H'=H,⟨n,Nat.zero_le _,rfl,by simp,⟨_,rfl⟩,rfl⟩,?_⟩;rintro i m ys σ' H' ⟨hi,rfl,rfl,⟨v,rfl⟩,rfl⟩;by_cases e:i=n
 ·
  subst e;refine .inl ⟨stop,?_⟩;rw [List.take_of_length_le (by lia)];exact q
 ·
  have hlt:i<n:=by lia
  refine .inr ⟨go i hlt,?_,fun ys' σ'' H''=>ys'=((xs.take (i+1)).filter p).map f/\(∃v,σ''=v::tail)/\H''=H',fun ys' σ'' H'' ⟨a,b,c⟩=>⟨n - (i+1),by lia,by lia,rfl,a,b,c⟩,fun x H'' y=>?_⟩
  ·have h1:(((xs.take i).filter p).map f).length<=i:=by
    rw [List.length_map];exact Nat.le_trans (List.length_filter_le _ _) (by rw [List.length_take];lia)
   lia
  ·
   obtain ⟨rfl,hx⟩:=yl i x H'' hlt y;have hm:x∈xs:=List.mem_of_getElem? hx;have tk:xs.take (i+1)=xs.take i++ [x]:=by
    rw [List.take_succ,hx];rfl
   show tt _ _ _;refine ht x hm _ ?_;cases hp:p x with
   |true=>
    rw [if_pos rfl];refine he x hm hp _ ⟨?_,⟨_,rfl⟩,rfl⟩;rw [tk,List.filter_append,List.map_append];simp [hp]
   |false=>
    rw [if_neg Bool.false_ne_true];refine ⟨?_,⟨_,rfl⟩,rfl⟩;rw [tk,List.filter_append,List.map_append];simp [hp]
def z3 {a:Addr} {xs:List V} (hS:cQ K H a xs) (hz:xs.length<=sizeLine) (ht: ∀x∈xs,∀Q:Bool->Hp->Prop,Q (p x) H->tt (some x::tail) H Q) (he: ∀x∈xs,p x=true->∀Q:VK,Q (f x) H->te (some x::tail) H Q) (q:Q ((xs.filter p).map f) H):
  uu K (.ref a) H fun J H2=>j3 J (j1 0) tt te (none::tail) H2 Q:=
 .inl ⟨xs,hS,l9 (n:=xs.length) rfl hz (fun i hi=>⟨xs,xs[i],hS,by simp [hi]⟩) ⟨xs,hS,Nat.le_refl _⟩ (fun i x H' hi y=>⟨y.1,y.2 xs hS⟩) ht he q⟩
def yb {a:Addr} {xs:List V} (hS:fx K H a xs) (hz:xs.length<=sizeLine) (ht: ∀x∈xs,∀Q:Bool->Hp->Prop,Q (p x) H->tt (some x::tail) H Q) (he: ∀x∈xs,p x=true->∀Q:VK,Q (f x) H->te (some x::tail) H Q) (q:Q ((xs.filter p).map f) H):
  uu K (.ref a) H fun J H2=>j3 J (j1 0) tt te (none::tail) H2 Q:=
 .inr ⟨xs,hS,l9 (n:=xs.length) rfl hz (fun i hi=>⟨xs,xs[i],hS,by simp [hi]⟩) ⟨xs,hS,Nat.le_refl _⟩ (fun i x H' hi y=>⟨y.1,y.2 xs hS⟩) ht he q⟩
noncomputable def fL (lo:Int) (n:Nat):List V:=(List.range n).map fun i:Nat=> .int (lo+(i:Int))
def sG {lo:Int} {n:Nat} (hz:n<=sizeLine) (ht: ∀i:Nat,i<n->∀Q:Bool->Hp->Prop,Q (p (.int (lo+i))) H->tt (some (.int (lo+i))::tail) H Q) (he: ∀i:Nat,i<n->p (.int (lo+i))=true->∀Q:VK,Q (f (.int (lo+i))) H->te (some (.int (lo+i))::tail) H Q)
  (q:Q (((fL lo n).filter p).map f) H):j3 (yo lo n) (j1 0) tt te (none::tail) H Q:=by
 refine l9 (n:=n) (xs:=fL lo n) (by simp [fL]) hz (fun i hi=>hi) (Nat.le_refl _) (fun i x H' hi y=>?_) (fun x hx=>?_) (fun x hx=>?_) q
 ·
  obtain ⟨e,rfl⟩:=y;refine ⟨e,?_⟩;unfold fL;rw [List.getElem?_map,List.getElem?_range hi];rfl
 ·
  obtain ⟨i,hi,rfl⟩:=List.mem_map.mp hx;exact ht i (List.mem_range.mp hi)
 ·
  obtain ⟨i,hi,rfl⟩:=List.mem_map.mp hx;exact he i (List.mem_range.mp hi)
def sF {ix:List Nat} {σ:St}:dG 1 ix σ=none::ix.map fun i=>(σ[i]?).join:=rfl
end
section
variable {X:Cx}
def Dr (neg:Bool):R2:=fun x y H Q=>match y with
 | .bl b=>Q (.bl (if neg then !decide (x = .bl b) else decide (x = .bl b))) H
 |_=>False
def rB {a b:Bool}:decide (V.bl a=V.bl b)=decide (a=b):=by
 cases a<;>cases b<;>decide
def yV {a b:Bool} {H:Hp} {Q:VK}:Dr false (.bl a) (.bl b) H Q=Q (.bl (decide (a=b))) H:=by
 show Q (.bl (if false=true then _ else decide (V.bl a=V.bl b))) H=_;rw [if_neg Bool.false_ne_true,rB]
def r6 {a b:Bool} {H:Hp} {Q:VK}:Dr true (.bl a) (.bl b) H Q=Q (.bl (!decide (a=b))) H:=by
 show Q (.bl (if true=true then !decide (V.bl a=V.bl b) else _)) H=_;rw [if_pos rfl,rB]
def uR (neg:Bool):R2:=fun x y H Q=>match y with
 | .non=>Q (.bl (if neg then !decide (x = .non) else decide (x = .non))) H
 |_=>False
def kQ:ft X (compareOp .Is) (uR false):=ft.imp Bk fun x y H Q h=>by
 unfold uR at h;split at h
 ·exact ⟨rfl,h⟩
 ·exact h.elim
def rb:ft X (compareOp .IsNot) (uR true):=ft.imp zp fun x y H Q h=>by
 unfold uR at h;split at h
 ·exact ⟨rfl,h⟩
 ·exact h.elim
def A4 {x:V} {H:Hp} {Q:VK}:uR false x .non H Q=Q (.bl (decide (x = .non))) H:=rfl
def A3 {x:V} {H:Hp} {Q:VK}:uR true x .non H Q=Q (.bl (!decide (x = .non))) H:=rfl
def yY:V->List V->Hp->VK->Prop:=fun x vs H Q=>match x,vs with
 | .int i,[]=>Q (.int ((Builtin.Int.intBits i:Nat):Int)) H
 |_,_=>False
def yB {K:W.Frag} {i:Int} {H:Hp}:AN K "int" (.int i) H=True:=by
 show ("int" = "int")=True;simp
def yA {K:W.Frag} {z:Str} {H:Hp}:AN K "str" (.str z) H=True:=by
 show ("str" = "str")=True;simp
def q9 {i:Int} {H:Hp} {Q:VK}:yY (.int i) [] H Q=Q (.int ((Builtin.Int.intBits i:Nat):Int)) H:=rfl
def GK:V->Option Int->Option Int->Hp->VK->Prop:=fun x lo hi H Q=> ∃z,x = .str z/\z.length<=sizeLine/\Q (.str (Txt.slice z lo hi)) H
def ra {v:Value} {o:Option Int} (h:IsPart v o): ∃l:Option (Int×Tok),v=partValue l/\l.map (·.1)=o:=by
 cases h with
 |none=>exact ⟨none,rfl,rfl⟩
 |int i t=>exact ⟨some (i,t),rfl,rfl⟩
def AX:t5 X GK:=by
 intro pins s σ H x v vl vu lo hi sl Q I rx hs pl pu h;obtain ⟨z,rfl,hz,q⟩:=h;obtain ⟨t,rfl⟩:=rx;obtain ⟨l,rfl,el⟩:=ra pl;obtain ⟨u,rfl,eu⟩:=ra pu;refine ⟨"str",_,F.slot_str_getitem.lookup,typeIs_str _ _ _,wpAny_getItem_str_slice (l:=l) (u:=u) (st:=none) hs rfl ?_⟩;unfold sliceMade;have e:slicePicked z l u none=Builtin.Str.strSliceIndices lo hi 1 z.length:=by
  unfold slicePicked;rw [el,eu];rfl
 rw [e];have hq:Txt.slice z lo hi=if ((1:Int) == 1&&(Builtin.Str.strSliceIndices lo hi 1 z.length).length == z.length)=true then z else ⟨((Builtin.Str.strSliceIndices lo hi 1 z.length).filterMap (z.cps[·]?)).toArray⟩:=rfl;have hle:=Txt.slice_le z lo hi;rw [hq] at q hle;show (if ((1:Int) == 1&&(Builtin.Str.strSliceIndices lo hi 1 z.length).length == z.length)=true then Made.val (.str z t) else _).post _ s;by_cases c:((1:Int) == 1&&(Builtin.Str.strSliceIndices lo hi 1 z.length).length == z.length)=true
 ·
  rw [if_pos c] at q⊢;exact ⟨.str z,H,I,⟨t,rfl⟩,q⟩
 ·
  rw [if_neg c] at q hle⊢;exact ⟨Nat.le_trans hle hz,.str _,H,I.tok _,⟨_,rfl⟩,q⟩
def uB (K:W.Frag):V->Option Int->Option Int->Hp->VK->Prop:=fun x lo hi H Q=>match x with
 | .ref a=>(∃xs,cQ K H a xs/\∀p,H p=none->Q (.ref p) (upd H p (.lst (l8 xs lo hi))))\/Di K (.ref a) lo hi H Q
 | .str z=>z.length<=sizeLine/\Q (.str (Txt.slice z lo hi)) H
 |_=>False
def t5.imp {r r':V->Option Int->Option Int->Hp->VK->Prop} (h:t5 X r) (i: ∀x lo hi H Q,r' x lo hi H Q->r x lo hi H Q):t5 X r':=
 fun pins s σ H x v vl vu lo hi sl Q I rx hs pl pu q=>h pins s σ H x v vl vu lo hi sl Q I rx hs pl pu (i _ _ _ _ _ q)
def GH:t5 X (uB X.K):=by
 refine t5.imp (yF.or (AW.or AX)) fun x lo hi H Q h=>?_;unfold uB at h;split at h
 ·
  rcases h with ⟨xs,h1,h2⟩|h
  ·exact .inl ⟨_,xs,rfl,h1,h2⟩
  ·exact .inr (.inl h)
 ·exact .inr (.inr ⟨_,rfl,h.1,h.2⟩)
 ·exact h.elim
def wj {K:W.Frag} {z:Str} {lo hi:Option Int} {H:Hp} {Q:VK}:uB K (.str z) lo hi H Q=(z.length<=sizeLine/\Q (.str (Txt.slice z lo hi)) H):=rfl
def uA {K:W.Frag} {a:Addr} {xs:List V} {lo hi:Option Int} {H:Hp} {Q:VK} (hS:cQ K H a xs) (h: ∀p,H p=none->Q (.ref p) (upd H p (.lst (l8 xs lo hi)))):uB K (.ref a) lo hi H Q:= .inl ⟨xs,hS,h⟩
def Ds (K:W.Frag) (neg:Bool):R2:=fun x y H Q=>match y with
 | .ref p=> ∃xs,(cQ K H p xs\/fx K H p xs)/\tP x=true/\xs.all tP=true/\Q (.bl (if neg then !Gw x xs else Gw x xs)) H
 | .str j=>(match x with
  | .str i=>Q (.bl (if neg then !(!(Builtin.Str.occurrences j i 0 j.length 1).isEmpty) else !(Builtin.Str.occurrences j i 0 j.length 1).isEmpty)) H
  |_=>False)
 |_=>False
def wG {K:W.Frag} {neg:Bool} {x:V} {p:Addr} {H:Hp} {Q:VK}:Ds K neg x (.ref p) H Q=(∃xs,(cQ K H p xs\/fx K H p xs)/\tP x=true/\xs.all tP=true/\Q (.bl (if neg then !Gw x xs else Gw x xs)) H):=rfl
def wF {K:W.Frag} {neg:Bool} {i j:Str} {H:Hp} {Q:VK}:Ds K neg (.str i) (.str j) H Q=Q (.bl (if neg then !(!(Builtin.Str.occurrences j i 0 j.length 1).isEmpty) else !(Builtin.Str.occurrences j i 0 j.length 1).isEmpty)) H:=rfl
end
inductive Dt where
 |non|int (i:Int)|str (z:Str)|l (ds:List Dt)|t (ds:List Dt)
def Den (K:W.Frag) (H:Hp):Nat->V->Dt->Prop
 |0,x,d=>(x = .non/\d = .non)\/(∃i,x = .int i/\d = .int i)\/(∃z,x = .str z/\d = .str z)
 |n+1,x,d=>Den K H n x d\/(∃a xs ds,x = .ref a/\d = .l ds/\cQ K H a xs/\Paired (Den K H n) xs ds)\/(∃a xs ds,x = .ref a/\d = .t ds/\fx K H a xs/\Paired (Den K H n) xs ds)
def Paired.get {α β:Type} {F:α->β->Prop}: ∀{xs:List α} {ys:List β} {i:Nat} {x:α},Paired F xs ys->xs[i]?=some x->∃y,ys[i]?=some y/\F x y
 |_,_,_,_,.nil,e=>by simp at e
 |_,_,0,_,.cons r _,e=>by simp at e;subst e;exact ⟨_,rfl,r⟩
 |_,_,i+1,x,.cons _ t,e=>by
  obtain ⟨u,h1,h2⟩:=Paired.get (i:=i) (x:=x) t (by simpa using e);exact ⟨u,by simpa using h1,h2⟩
open Classical in
def qR {α:Type} {xs ys:List α} {e:Nat->Bool} (hl:xs.length=ys.length) (h: ∀j a b,xs[j]?=some a->ys[j]?=some b->e j=decide (a=b)):(List.range xs.length).all e=decide (xs=ys):=by
 rw [Bool.eq_iff_iff,List.all_eq_true,decide_eq_true_eq];constructor
 ·
  intro q;refine List.ext_getElem hl fun j h1 h2=>?_;have:=q j (List.mem_range.mpr h1);rw [h j xs[j] ys[j] (by simp [h1]) (by simp [h2]),decide_eq_true_eq] at this;exact this
 ·
  rintro rfl j hj;have hj':=List.mem_range.mp hj;rw [h j xs[j] xs[j] (by simp [hj']) (by simp [hj']),decide_eq_true_eq]
section
variable {X:Cx} {pins:List (Addr×Obj)} {σ:St} {H:Hp} {s:Shared}
open Classical in
def xZ {A:Around} {x y:V} {u v:Value} {d e:Dt} (rx:RelV x u) (ry:RelV y v) (hx:Den X.K H 0 x d) (hy:Den X.K H 0 y e):SeqAt.EqAt A s u v (decide (d=e)):=by
 rcases hx with ⟨rfl,rfl⟩|⟨i,rfl,rfl⟩|⟨i,rfl,rfl⟩<;>rcases hy with ⟨rfl,rfl⟩|⟨j,rfl,rfl⟩|⟨j,rfl,rfl⟩
 ·cases rx;cases ry;rw [decide_eq_true rfl];exact SeqAt.EqAt.same _
 ·cases rx;obtain ⟨t,rfl⟩:=ry;rw [decide_eq_false (fun z=>nomatch z)];exact SeqAt.EqAt.none_int _ _
 ·cases rx;obtain ⟨t,rfl⟩:=ry;rw [decide_eq_false (fun z=>nomatch z)];exact SeqAt.EqAt.none_str _ _
 ·obtain ⟨t,rfl⟩:=rx;cases ry;rw [decide_eq_false (fun z=>nomatch z)];exact SeqAt.EqAt.int_none _ _
 ·
  obtain ⟨t,rfl⟩:=rx;obtain ⟨t',rfl⟩:=ry;have e:decide (Dt.int i=Dt.int j)=(i == j):=by
   rw [Bool.eq_iff_iff,decide_eq_true_eq,beq_iff_eq];exact ⟨fun q=>Dt.int.inj q,fun q=>by rw [q]⟩
  rw [e];exact SeqAt.EqAt.int_int _ _ _ _
 ·obtain ⟨t,rfl⟩:=rx;obtain ⟨t',rfl⟩:=ry;rw [decide_eq_false (fun z=>nomatch z)];exact SeqAt.EqAt.int_str _ _ _ _
 ·obtain ⟨t,rfl⟩:=rx;cases ry;rw [decide_eq_false (fun z=>nomatch z)];exact SeqAt.EqAt.str_none _ _
 ·obtain ⟨t,rfl⟩:=rx;obtain ⟨t',rfl⟩:=ry;rw [decide_eq_false (fun z=>nomatch z)];exact SeqAt.EqAt.str_int _ _ _ _
 ·
  obtain ⟨t,rfl⟩:=rx;obtain ⟨t',rfl⟩:=ry;have e:decide (Dt.str i=Dt.str j)=(i == j):=by
   rw [Bool.eq_iff_iff,decide_eq_true_eq,beq_iff_eq];exact ⟨fun q=>Dt.str.inj q,fun q=>by rw [q]⟩
  rw [e];exact SeqAt.EqAt.str_str _ _ _ _
def Den.cases {K:W.Frag} {H:Hp}: ∀{n:Nat} {x:V} {d:Dt},Den K H n x d->Den K H 0 x d\/(∃m,m<n/\∃a xs ds,x = .ref a/\d = .l ds/\cQ K H a xs/\Paired (Den K H m) xs ds)\/(∃m,m<n/\∃a xs ds,x = .ref a/\d = .t ds/\fx K H a xs/\Paired (Den K H m) xs ds)
 |0,_,_,h=> .inl h
 |n+1,_,_,h=>by
  rcases h with h|h|h
  ·
   rcases Den.cases h with q|⟨m,hm,q⟩|⟨m,hm,q⟩
   ·exact .inl q
   ·exact .inr (.inl ⟨m,by lia,q⟩)
   ·exact .inr (.inr ⟨m,by lia,q⟩)
  ·exact .inr (.inl ⟨n,by lia,h⟩)
  ·exact .inr (.inr ⟨n,by lia,h⟩)
def Den.up {K:W.Frag} {H:Hp} {n m:Nat} {x:V} {d:Dt} (h:Den K H n x d) (hm:n<=m):Den K H m x d:=by
  induction m with
  |zero=>
            have:n=0:=by lia
            subst this;exact h
  |
    succ m ih=>
    by_cases e:n=m+1
    · subst e;exact h
    · exact .inl (ih (by lia))
def j9 {F G:V->Dt->Prop}: ∀{xs:List V} {ds es:List Dt},Paired F xs ds->Paired G xs es->(∀x d e,F x d->G x e->d=e)->ds=es
 |_,_,_,.nil,.nil,_=>rfl
 |_,_,_,.cons r t,.cons r' t',f=>by rw [f _ _ _ r r',j9 t t' f]
def i8 {a:Addr} {xs ys:List V} (I:Inv X pins σ H s) (h:cQ X.K H a xs) (h':fx X.K H a ys):False:=by
 obtain ⟨its,_,p,_⟩:=I.list h;obtain ⟨its',_,p',_⟩:=I.tuple h';obtain ⟨o,n,e,c,_⟩:=p;obtain ⟨o',e',c',_⟩:=p';rw [e] at e';cases e';rw [c] at c';injection c' with z;exact absurd z (by decide)
def zU (n:Nat): ∀{m:Nat} {x:V} {d e:Dt},Inv X pins σ H s->Den X.K H n x d->Den X.K H m x e->d=e:=by
 induction n using Nat.strongRecOn with
 |_ n ih=>
 intro m x d e I hx hy;rcases hx.cases with hx|⟨m1,hm,a,xs,ds,rfl,rfl,ha,pa⟩|⟨m1,hm,a,xs,ds,rfl,rfl,ha,pa⟩
 ·
  rcases hy.cases with hy|⟨k,hk,b,ys,es,rfl,rfl,hb,pb⟩|⟨k,hk,b,ys,es,rfl,rfl,hb,pb⟩
  ·rcases hx with ⟨rfl,rfl⟩|⟨i,rfl,rfl⟩|⟨i,rfl,rfl⟩<;>rcases hy with ⟨z,rfl⟩|⟨j,z,rfl⟩|⟨j,z,rfl⟩<;>first|rfl|(cases z;rfl)|cases z
  ·rcases hx with ⟨z,_⟩|⟨i,z,_⟩|⟨i,z,_⟩<;>cases z
  ·rcases hx with ⟨z,_⟩|⟨i,z,_⟩|⟨i,z,_⟩<;>cases z
 ·
  rcases hy.cases with hy|⟨k,hk,b,ys,es,e1,rfl,hb,pb⟩|⟨k,hk,b,ys,es,e1,rfl,hb,pb⟩
  ·rcases hy with ⟨z,_⟩|⟨i,z,_⟩|⟨i,z,_⟩<;>cases z
  ·
   cases e1;have:=I.rl ha hb;subst this;rw [j9 pa pb fun x d e h1 h2=>ih m1 hm I h1 h2]
  ·
   cases e1;exact (i8 I ha hb).elim
 ·
  rcases hy.cases with hy|⟨k,hk,b,ys,es,e1,rfl,hb,pb⟩|⟨k,hk,b,ys,es,e1,rfl,hb,pb⟩
  ·rcases hy with ⟨z,_⟩|⟨i,z,_⟩|⟨i,z,_⟩<;>cases z
  ·
   cases e1;exact (i8 I hb ha).elim
  ·
   cases e1;have:=I.pF ha hb;subst this;rw [j9 pa pb fun x d e h1 h2=>ih m1 hm I h1 h2]
def sV {its its2:List Value} (h: ¬its.length=its2.length):(its.toArray.size != its2.toArray.size)=true:=by
 rw [List.size_toArray,List.size_toArray,bne_iff_ne];exact h
open Classical in
def jr {n:Nat} {A:Around} {xs ys:List V} {its its2:List Value} {ds es:List Dt} {m k:Nat} (r1:Vals xs its) (r2:Vals ys its2) (pa:Paired (Den X.K H m) xs ds) (pb:Paired (Den X.K H k) ys es)
  (ih: ∀x y u v d e,RelV x u->RelV y v->Den X.K H m x d->Den X.K H k y e->SeqAt.EqAt A s u v (decide (d=e))):
  ∀j (h1:j<its.toArray.size) (h2:j<its2.toArray.size),SeqAt.EqAt A s its.toArray[j] its2.toArray[j] (decide (ds[j]?=es[j]?)):=by
 intro j h1 h2;have h1':j<its.length:=by simpa using h1
 have h2':j<its2.length:=by simpa using h2
 have l1:=r1.length;have l2:=r2.length;have x1:xs[j]?=some xs[j]:=by simp
 have y1:ys[j]?=some ys[j]:=by simp
 obtain ⟨d',hd',pd⟩:=Paired.get pa x1;obtain ⟨e',he',pe⟩:=Paired.get pb y1;obtain ⟨u',hu1,ru⟩:=r1.get x1;obtain ⟨v',hv1,rv⟩:=r2.get y1;have e1:its.toArray[j]=u':=by
  have:its[j]?=some its[j]:=by simp
  rw [hu1] at this;simpa using (Option.some.inj this).symm
 have e2:its2.toArray[j]=v':=by
  have:its2[j]?=some its2[j]:=by simp
  rw [hv1] at this;simpa using (Option.some.inj this).symm
 have e3:decide (ds[j]?=es[j]?)=decide (d'=e'):=by
  rw [hd',he',Bool.eq_iff_iff,decide_eq_true_eq,decide_eq_true_eq];exact ⟨fun q=>Option.some.inj q,fun q=>by rw [q]⟩
 rw [e1,e2,e3];exact ih _ _ _ _ _ _ ru rv pd pe
open Classical in
def jv {ds es:List Dt} {n:Nat} (hn:n=ds.length) (hl:ds.length=es.length):(List.range n).all (fun j=>decide (ds[j]?=es[j]?))=decide (ds=es):=by
 subst hn;exact qR hl fun j a b ha hb=>by
  rw [ha,hb,Bool.eq_iff_iff,decide_eq_true_eq,decide_eq_true_eq];exact ⟨fun q=>Option.some.inj q,fun q=>by rw [q]⟩
open Classical in
def sC (n:Nat): ∀{A:Around} {x y:V} {u v:Value} {d e:Dt},Inv X pins σ H s->A.units+n<cLine->RelV x u->RelV y v->Den X.K H n x d->Den X.K H n y e->SeqAt.EqAt A s u v (decide (d=e))/\∀a b,x = .ref a->y = .ref b->SeqAt.RcAt A s (.ref a) (.ref b) (decide (d=e)):=by
 induction n using Nat.strongRecOn with
 |_ n ih=>
 intro A x y u v d e I hu rx ry hx hy;have lift: ∀{a b:Addr},x = .ref a->y = .ref b->SeqAt.RcAt A s (.ref a) (.ref b) (decide (d=e))->SeqAt.EqAt A s (.ref a) (.ref b) (decide (d=e)):=fun {a b} ea eb q=>by
  by_cases hab:a=b
  ·
   subst hab;subst ea;subst eb;rw [decide_eq_true (zU n I hx hy)];exact SeqAt.EqAt.same _
  ·exact SeqAt.EqAt.of_refs hab q
 have hu':A.units<cLine:=by lia
 rcases hx.cases with hx'|⟨m,hm,a,xs,ds,rfl,rfl,ha,pa⟩|⟨m,hm,a,xs,ds,rfl,rfl,ha,pa⟩
 ·
  rcases hy.cases with hy'|⟨k,hk,b,ys,es,rfl,rfl,hb,pb⟩|⟨k,hk,b,ys,es,rfl,rfl,hb,pb⟩
  ·
   refine ⟨xZ rx ry hx' hy',fun a b e1 e2=>?_⟩;subst e1;rcases hx' with ⟨z,_⟩|⟨i,z,_⟩|⟨i,z,_⟩<;>cases z
  ·
   cases ry;obtain ⟨its,_,p,_⟩:=I.list hb;rcases hx' with ⟨rfl,rfl⟩|⟨i,rfl,rfl⟩|⟨i,rfl,rfl⟩
   ·cases rx;rw [decide_eq_false (fun z=>nomatch z)];exact ⟨SeqAt.EqAt.none_list p.isList hu',fun a b z=>nomatch z⟩
   ·obtain ⟨t,rfl⟩:=rx;rw [decide_eq_false (fun z=>nomatch z)];exact ⟨SeqAt.EqAt.int_list _ _ p.isList hu',fun a b z=>nomatch z⟩
   ·obtain ⟨t,rfl⟩:=rx;rw [decide_eq_false (fun z=>nomatch z)];exact ⟨SeqAt.EqAt.str_list _ _ p.isList hu',fun a b z=>nomatch z⟩
  ·
   cases ry;obtain ⟨its,_,p,_⟩:=I.tuple hb;rcases hx' with ⟨rfl,rfl⟩|⟨i,rfl,rfl⟩|⟨i,rfl,rfl⟩
   ·cases rx;rw [decide_eq_false (fun z=>nomatch z)];exact ⟨SeqAt.EqAt.none_tuple p hu',fun a b z=>nomatch z⟩
   ·obtain ⟨t,rfl⟩:=rx;rw [decide_eq_false (fun z=>nomatch z)];exact ⟨SeqAt.EqAt.int_tuple _ _ p hu',fun a b z=>nomatch z⟩
   ·obtain ⟨t,rfl⟩:=rx;rw [decide_eq_false (fun z=>nomatch z)];exact ⟨SeqAt.EqAt.str_tuple _ _ p hu',fun a b z=>nomatch z⟩
 ·
  cases rx;obtain ⟨its,r1,p,hz⟩:=I.list ha;rcases hy.cases with hy'|⟨k,hk,b,ys,es,rfl,rfl,hb,pb⟩|⟨k,hk,b,ys,es,rfl,rfl,hb,pb⟩
  ·
   rcases hy' with ⟨rfl,rfl⟩|⟨i,rfl,rfl⟩|⟨i,rfl,rfl⟩
   ·cases ry;rw [decide_eq_false (fun z=>nomatch z)];exact ⟨SeqAt.EqAt.list_none p.isList hu',fun a b _ z=>nomatch z⟩
   ·obtain ⟨t,rfl⟩:=ry;rw [decide_eq_false (fun z=>nomatch z)];exact ⟨SeqAt.EqAt.list_int _ _ p.isList hu',fun a b _ z=>nomatch z⟩
   ·obtain ⟨t,rfl⟩:=ry;rw [decide_eq_false (fun z=>nomatch z)];exact ⟨SeqAt.EqAt.list_str _ _ p.isList hu',fun a b _ z=>nomatch z⟩
  ·
   cases ry;obtain ⟨its2,r2,p2,hz2⟩:=I.list hb;have l1:=r1.length;have l2:=r2.length;have l3:=Paired.length pa;have l4:=Paired.length pb;have eqd:decide (Dt.l ds=Dt.l es)=decide (ds=es):=by
    rw [Bool.eq_iff_iff,decide_eq_true_eq,decide_eq_true_eq];exact ⟨fun q=>Dt.l.inj q,fun q=>by rw [q]⟩
   have rc:SeqAt.RcAt A s (.ref a) (.ref b) (decide (Dt.l ds=Dt.l es)):=by
    rw [eqd];by_cases hl:its.length=its2.length
    ·have key:=SeqAt.RcAt.lists (e:=fun j=>decide (ds[j]?=es[j]?)) p.isList p2.isList (by simpa using hl) hu' (jr (n:=n) r1 r2 pa pb fun x y u v d e rx ry h1 h2=>
      (ih (max m k) (by lia) (A:=A.in1) I (by show A.units+1+max m k<cLine;lia) rx ry (h1.up (Nat.le_max_left _ _)) (h2.up (Nat.le_max_right _ _))).1)
     rw [jv (by rw [List.size_toArray];lia) (by lia)] at key;exact key
    ·
     have hne:ds≠es:=fun q=>hl (by rw [q] at l3;lia);rw [decide_eq_false hne];exact SeqAt.RcAt.lists_lengths p.isList p2.isList (sV hl) hu'
   exact ⟨lift rfl rfl rc,fun a' b' e1 e2=>by cases e1;cases e2;exact rc⟩
  ·
   cases ry;obtain ⟨its2,r2,p2,_⟩:=I.tuple hb;rw [decide_eq_false (fun z=>nomatch z)];exact ⟨SeqAt.EqAt.list_tuple p.isList p2 hu',fun a' b' e1 e2=>by cases e1;cases e2;exact SeqAt.RcAt.list_tuple p.isList p2 hu'⟩
 ·
  cases rx;obtain ⟨its,r1,p,hz⟩:=I.tuple ha;rcases hy.cases with hy'|⟨k,hk,b,ys,es,rfl,rfl,hb,pb⟩|⟨k,hk,b,ys,es,rfl,rfl,hb,pb⟩
  ·
   rcases hy' with ⟨rfl,rfl⟩|⟨i,rfl,rfl⟩|⟨i,rfl,rfl⟩
   ·cases ry;rw [decide_eq_false (fun z=>nomatch z)];exact ⟨SeqAt.EqAt.tuple_none p hu',fun a b _ z=>nomatch z⟩
   ·obtain ⟨t,rfl⟩:=ry;rw [decide_eq_false (fun z=>nomatch z)];exact ⟨SeqAt.EqAt.tuple_int _ _ p hu',fun a b _ z=>nomatch z⟩
   ·obtain ⟨t,rfl⟩:=ry;rw [decide_eq_false (fun z=>nomatch z)];exact ⟨SeqAt.EqAt.tuple_str _ _ p hu',fun a b _ z=>nomatch z⟩
  ·
   cases ry;obtain ⟨its2,r2,p2,_⟩:=I.list hb;rw [decide_eq_false (fun z=>nomatch z)];exact ⟨SeqAt.EqAt.tuple_list p p2.isList hu',fun a' b' e1 e2=>by cases e1;cases e2;exact SeqAt.RcAt.tuple_list p p2.isList hu'⟩
  ·
   cases ry;obtain ⟨its2,r2,p2,hz2⟩:=I.tuple hb;have l1:=r1.length;have l2:=r2.length;have l3:=Paired.length pa;have l4:=Paired.length pb;have eqd:decide (Dt.t ds=Dt.t es)=decide (ds=es):=by
    rw [Bool.eq_iff_iff,decide_eq_true_eq,decide_eq_true_eq];exact ⟨fun q=>Dt.t.inj q,fun q=>by rw [q]⟩
   have rc:SeqAt.RcAt A s (.ref a) (.ref b) (decide (Dt.t ds=Dt.t es)):=by
    rw [eqd];have key:=SeqAt.RcAt.tuples (e:=fun j=>decide (ds[j]?=es[j]?)) p p2 hu' (jr (n:=n) r1 r2 pa pb fun x y u v d e rx ry h1 h2=>
      (ih (max m k) (by lia) (A:=A.in1) I (by show A.units+1+max m k<cLine;lia) rx ry (h1.up (Nat.le_max_left _ _)) (h2.up (Nat.le_max_right _ _))).1)
    by_cases hl:its.length=its2.length
    ·
     rw [show min its.toArray.size its2.toArray.size=ds.length by rw [List.size_toArray,List.size_toArray];lia,jv rfl (by lia),show (its.toArray.size == its2.toArray.size)=true by rw [List.size_toArray,List.size_toArray,beq_iff_eq];exact hl,Bool.and_true] at key;exact key
    ·
     have hne:ds≠es:=fun q=>hl (by rw [q] at l3;lia);rw [decide_eq_false hne];rw [show (its.toArray.size == its2.toArray.size)=false by rw [List.size_toArray,List.size_toArray,beq_eq_false_iff_ne];exact hl,Bool.and_false] at key;exact key
   exact ⟨lift rfl rfl rc,fun a' b' e1 e2=>by cases e1;cases e2;exact rc⟩
end
def lE (K:W.Frag) (neg:Bool):R2:=fun x y H Q=>match x,y with
 | .ref a,.ref b=> ∃n d e,n<=60/\Den K H n (.ref a) d/\Den K H n (.ref b) e/\((d=e/\Q (.bl (!neg)) H)\/(d≠e/\Q (.bl neg) H))
 |x,y=>scal x y=true/\Q (.bl (if neg then !decide (x=y) else decide (x=y))) H
section
variable {X:Cx}
open Classical in
def Bl (hu:X.A.units+64<cLine):ft X (compareOp .Eq) (lE X.K false):=by
 intro pins s σ H x y v u Q I rx ry h;unfold lE at h;split at h
 ·
  obtain ⟨n,d,e,hn,hd,he,q⟩:=h;obtain ⟨_,rc⟩:=sC n (A:=X.A) I (by lia) rx ry hd he;cases rx;cases ry;have:=rc _ _ rfl rfl;refine (this X.prog X.w _ _ ?_:wpAny (model X.prog X.w) X.A (richCompare .Eq _ _) (EP X pins σ Q) X.xe s);rcases q with ⟨c,q⟩|⟨c,q⟩
  ·rw [decide_eq_true c];exact ⟨.bl true,H,I,rfl,q⟩
  ·rw [decide_eq_false c];exact ⟨.bl false,H,I,rfl,q⟩
 ·exact DC pins s σ H _ _ v u Q I rx ry ⟨h.1,by simpa using h.2⟩
open Classical in
def Bj (hu:X.A.units+64<cLine):ft X (compareOp .NotEq) (lE X.K true):=by
 intro pins s σ H x y v u Q I rx ry h;unfold lE at h;split at h
 ·
  rename_i a b;obtain ⟨n,d,e,hn,hd,he,q⟩:=h;cases rx;cases ry;have hu':X.A.units<cLine:=by lia
  have fin:SeqAt.RcNeAt X.A s (.ref a) (.ref b) (!decide (d=e))->wpAny (model X.prog X.w) X.A (compareOp .NotEq (.ref a) (.ref b)) (EP X pins σ Q) X.xe s:=fun rc=>by
   refine (rc X.prog X.w _ _ ?_:wpAny (model X.prog X.w) X.A (richCompare .NotEq _ _) (EP X pins σ Q) X.xe s);rcases q with ⟨c,q⟩|⟨c,q⟩
   ·rw [decide_eq_true c];exact ⟨.bl false,H,I,rfl,q⟩
   ·rw [decide_eq_false c];exact ⟨.bl true,H,I,rfl,q⟩
  apply fin;clear fin q;rcases hd.cases with hx'|⟨m,hm,a',xs,ds,e1,rfl,ha,pa⟩|⟨m,hm,a',xs,ds,e1,rfl,ha,pa⟩
  ·rcases hx' with ⟨z,_⟩|⟨i,z,_⟩|⟨i,z,_⟩<;>cases z
  ·
   cases e1;obtain ⟨its,r1,p,hz⟩:=I.list ha;rcases he.cases with hy'|⟨k,hk,b',ys,es,e2,rfl,hb,pb⟩|⟨k,hk,b',ys,es,e2,rfl,hb,pb⟩
   ·rcases hy' with ⟨z,_⟩|⟨i,z,_⟩|⟨i,z,_⟩<;>cases z
   ·
    cases e2;obtain ⟨its2,r2,p2,hz2⟩:=I.list hb;have l1:=r1.length;have l2:=r2.length;have l3:=Paired.length pa;have l4:=Paired.length pb;have eqd:decide (Dt.l ds=Dt.l es)=decide (ds=es):=by
     rw [Bool.eq_iff_iff,decide_eq_true_eq,decide_eq_true_eq];exact ⟨fun q=>Dt.l.inj q,fun q=>by rw [q]⟩
    rw [eqd];by_cases hl:its.length=its2.length
    ·have key:=SeqAt.RcNeAt.lists (e:=fun j=>decide (ds[j]?=es[j]?)) p.isList p2.isList (by simpa using hl) hu' (jr (n:=n) r1 r2 pa pb fun x y u v d e rx ry h1 h2=>
      (sC (max m k) (A:=X.A.in1) I (by show X.A.units+1+max m k<cLine;lia) rx ry (h1.up (Nat.le_max_left _ _)) (h2.up (Nat.le_max_right _ _))).1)
     rw [jv (by rw [List.size_toArray];lia) (by lia)] at key;exact key
    ·
     have hne:ds≠es:=fun q=>hl (by rw [q] at l3;lia);rw [decide_eq_false hne];exact SeqAt.RcNeAt.lists_lengths p.isList p2.isList (sV hl) hu'
   ·
    cases e2;obtain ⟨its2,r2,p2,_⟩:=I.tuple hb;rw [decide_eq_false (fun z=>nomatch z)];exact SeqAt.RcNeAt.list_tuple p.isList p2 hu'
  ·
   cases e1;obtain ⟨its,r1,p,hz⟩:=I.tuple ha;rcases he.cases with hy'|⟨k,hk,b',ys,es,e2,rfl,hb,pb⟩|⟨k,hk,b',ys,es,e2,rfl,hb,pb⟩
   ·rcases hy' with ⟨z,_⟩|⟨i,z,_⟩|⟨i,z,_⟩<;>cases z
   ·
    cases e2;obtain ⟨its2,r2,p2,_⟩:=I.list hb;rw [decide_eq_false (fun z=>nomatch z)];exact SeqAt.RcNeAt.tuple_list p p2.isList hu'
   ·
    cases e2;obtain ⟨its2,r2,p2,hz2⟩:=I.tuple hb;have l1:=r1.length;have l2:=r2.length;have l3:=Paired.length pa;have l4:=Paired.length pb;have eqd:decide (Dt.t ds=Dt.t es)=decide (ds=es):=by
     rw [Bool.eq_iff_iff,decide_eq_true_eq,decide_eq_true_eq];exact ⟨fun q=>Dt.t.inj q,fun q=>by rw [q]⟩
    rw [eqd];have key:=SeqAt.RcNeAt.tuples (e:=fun j=>decide (ds[j]?=es[j]?)) p p2 hu' (jr (n:=n) r1 r2 pa pb fun x y u v d e rx ry h1 h2=>
      (sC (max m k) (A:=X.A.in1) I (by show X.A.units+1+max m k<cLine;lia) rx ry (h1.up (Nat.le_max_left _ _)) (h2.up (Nat.le_max_right _ _))).1)
    by_cases hl:its.length=its2.length
    ·
     rw [show min its.toArray.size its2.toArray.size=ds.length by rw [List.size_toArray,List.size_toArray];lia,jv rfl (by lia),show (its.toArray.size == its2.toArray.size)=true by rw [List.size_toArray,List.size_toArray,beq_iff_eq];exact hl,Bool.and_true] at key;exact key
    ·
     have hne:ds≠es:=fun q=>hl (by rw [q] at l3;lia);rw [decide_eq_false hne];rw [show (its.toArray.size == its2.toArray.size)=false by rw [List.size_toArray,List.size_toArray,beq_eq_false_iff_ne];exact hl,Bool.and_false] at key;exact key
 ·exact DB pins s σ H _ _ v u Q I rx ry ⟨h.1,by simpa using h.2⟩
end
section
variable {K:W.Frag} {H:Hp} {Q:VK}
def wL {i j:Int}:lE K false (.int i) (.int j) H Q=Q (.bl (decide (i=j))) H:=by
 show (scal (.int i) (.int j)=true/\Q (.bl (if false=true then _ else decide (V.int i=V.int j))) H)=_;rw [if_neg Bool.false_ne_true];exact tu
def wu {i j:Int}:lE K true (.int i) (.int j) H Q=Q (.bl (!decide (i=j))) H:=by
 show (scal (.int i) (.int j)=true/\Q (.bl (if true=true then !decide (V.int i=V.int j) else _)) H)=_;rw [if_pos rfl];exact tj
def wK {i j:Str}:lE K false (.str i) (.str j) H Q=Q (.bl (decide (i=j))) H:=by
 show (scal (.str i) (.str j)=true/\Q (.bl (if false=true then _ else decide (V.str i=V.str j))) H)=_;rw [if_neg Bool.false_ne_true];exact ts
def wq {i j:Str}:lE K true (.str i) (.str j) H Q=Q (.bl (!decide (i=j))) H:=by
 show (scal (.str i) (.str j)=true/\Q (.bl (if true=true then !decide (V.str i=V.str j) else _)) H)=_;rw [if_pos rfl];exact s_
def yX {i j:Bool}:lE K false (.bl i) (.bl j) H Q=Q (.bl (decide (i=j))) H:=by
 show (scal (.bl i) (.bl j)=true/\Q (.bl (if false=true then _ else decide (V.bl i=V.bl j))) H)=_;rw [if_neg Bool.false_ne_true];exact wJ
def yI {i j:Bool}:lE K true (.bl i) (.bl j) H Q=Q (.bl (!decide (i=j))) H:=by
 show (scal (.bl i) (.bl j)=true/\Q (.bl (if true=true then !decide (V.bl i=V.bl j) else _)) H)=_;rw [if_pos rfl];exact wo
end
noncomputable def Ge (osc scope:Scope) (ON N:List Str) (nv:Nat) (ix:List Nat):Bool:=
 scope.kind == .function&&scope.names.all (fun y=>y.2 != .cell&&(y.2 != .local||scope.names.lookup y.1 == some .local)&&(y.2 != .free||(osc.names.lookup y.1 == some .cell||osc.names.lookup y.1 == some .free)))&&
  N.length == nv+ix.length&&(List.range ix.length).all fun j=>match N[nv+j]?,ix[j]? with
   |some y,some i=>ON[i]? == some y&&(osc.names.lookup y == some .cell||osc.names.lookup y == some .free)&&scope.names.lookup y == some .free
   |_,_=>false
def p_ {X:Cx} {scope:Scope} {N:List Str} {nv:Nat} {ix:List Nat} (h:Ge X.env.scope scope X.N N nv ix=true):oE X scope N nv ix:=by
 unfold Ge at h;simp only [Bool.and_eq_true,beq_iff_eq,List.all_eq_true,List.mem_range,Bool.or_eq_true,bne_iff_ne,ne_eq] at h;obtain ⟨⟨⟨h1,h2⟩,h3⟩,h4⟩:=h;refine ⟨h1,fun y hy=>(h2 y hy).1.1,fun y hy hl=>?_,fun y hy hf=>?_,h3,fun j y e=>?_⟩
 ·
  rcases (h2 y hy).1.2 with z|z
  ·exact absurd hl z
  ·exact z
 ·
  rcases (h2 y hy).2 with z|z
  ·exact absurd hf z
  ·exact z
 ·have hj:j<ix.length:=by
   have:=(List.getElem?_eq_some_iff.mp e).1;lia
  have q:=h4 j hj;rw [e,List.getElem?_eq_getElem hj] at q;simp only [Bool.and_eq_true,beq_iff_eq,Bool.or_eq_true] at q;exact ⟨ix[j],List.getElem?_eq_getElem hj,q.1.1,q.1.2,q.2⟩
def Je (K:W.Frag) (vs:List V):TE:=fun _ H Q=> ∀a,(∀H,fx K H a vs)->(∀H,AN K "tuple" (.ref a) H)->Q (.ref a) H
section
variable {X:Cx}
def Dv (K:W.Frag) (any:Bool):List V->Hp->VK->Prop:=fun xs H Q=>match xs with
 | [.ref p]=> ∃bs:List Bool,cQ K H p (bs.map V.bl)/\Q (.bl (if any then bs.any id else bs.all id)) H
 |_=>False
def GJ (K:W.Frag):List V->Hp->VK->Prop:=fun xs H Q=>match xs with
 | [.ref p]=> ∃ns:List Int,cQ K H p (ns.map V.int)/\Q (.int ns.sum) H
 |_=>False
def wU {K:W.Frag} {p:Addr} {H:Hp} {Q:VK}:Dv K false [.ref p] H Q=(∃bs:List Bool,cQ K H p (bs.map V.bl)/\Q (.bl (bs.all id)) H):=rfl
def wR {K:W.Frag} {p:Addr} {H:Hp} {Q:VK}:Dv K true [.ref p] H Q=(∃bs:List Bool,cQ K H p (bs.map V.bl)/\Q (.bl (bs.any id)) H):=rfl
def we {K:W.Frag} {p:Addr} {H:Hp} {Q:VK}:GJ K [.ref p] H Q=(∃ns:List Int,cQ K H p (ns.map V.int)/\Q (.int ns.sum) H):=rfl
def lD (K:W.Frag):List V->Hp->VK->Prop:=fun xs H Q=>match xs with
 | [.ref p]=> ∃ys,(cQ K H p ys\/fx K H p ys)/\∀l,H l=none->Q (.ref l) (upd H l (.lst ys))
 |_=>False
def sI:bw X (.type "list") (lD X.K):=bw.imp qH fun xs H Q h=>by
 unfold lD at h;split at h
 ·
  obtain ⟨ys,h1,h2⟩:=h;exact ⟨_,ys,rfl,h1,h2⟩
 ·exact h.elim
def m_ (K:W.Frag):List V->Hp->VK->Prop:=fun xs H Q=>match xs with
 | [.ref p]=> ∃ys,(cQ K H p ys/\∀l,H l=none->Q (.ref l) (upd H l (.tup ys)))\/(fx K H p ys/\Q (.ref p) H)
 |_=>False
def rG:bw X (.type "tuple") (m_ X.K):=bw.imp oY fun xs H Q h=>by
 unfold m_ at h;split at h
 ·
  obtain ⟨ys,h⟩:=h;exact ⟨_,ys,rfl,h⟩
 ·exact h.elim
def rZ {K:W.Frag} {p:Addr} {H:Hp} {Q:VK}:lD K [.ref p] H Q=(∃ys,(cQ K H p ys\/fx K H p ys)/\∀l,H l=none->Q (.ref l) (upd H l (.lst ys))):=rfl
def qZ {K:W.Frag} {p:Addr} {H:Hp} {Q:VK}:m_ K [.ref p] H Q=(∃ys,(cQ K H p ys/\∀l,H l=none->Q (.ref l) (upd H l (.tup ys)))\/(fx K H p ys/\Q (.ref p) H)):=rfl
def wM:List V->Hp->VK->Prop:=fun xs H Q=>match xs with
 | [.int i,.int j]=>Ab i j/\∀p,H p=none->Q (.ref p) (upd H p (.tup [.int (i / j),.int (i % j)]))
 |_=>False
def qm {i j:Int} {H:Hp} {Q:VK}:wM [.int i,.int j] H Q=(Ab i j/\∀p,H p=none->Q (.ref p) (upd H p (.tup [.int (i / j),.int (i % j)]))):=rfl
def i3:V->List V->Hp->VK->Prop:=fun x vs H Q=>match x,vs with
 | .ref l,[y]=> ∃xs,H l=some (.lst xs)/\xs.length<sizeLine/\Q .non (upd H l (.lst (xs++ [y])))
 |_,_=>False
def sg:IZ X "list.append" i3:=by
 intro pins s σ H x xs v us Q I rx rs q;unfold i3 at q;split at q
 ·
  obtain ⟨ys,h1,h2,h3⟩:=q;exact vc pins s σ H _ _ v us Q I rx rs ⟨_,ys,_,rfl,rfl,h1,h2,h3⟩
 ·exact q.elim
def u_ {o e:Expr} {to te:TE} {apos cpos:Pos} (ho:PE X o to) (he:PE X e te) (hbase:attributeBase o "append" X.env (eval o X.env)=eval o X.env:=by rfl)
  (
   hfew:((backTo cpos (starEach [e] X.env)).all (fun x=>!x.1)&&(backToKw cpos (keywordEach [] X.env)).all (fun x=>x.1.isSome)
   &&decide ([e].length+([]:List Keyword).length+(if ([]:List Keyword).isEmpty then 0 else 1)<30))=true:=by rfl)
  (hline:(apos.endLine == cpos.line)=true:=by rfl) (hs:starEach [e] X.env=(false,eval e X.env)::starEach [] X.env:=by rfl) (hplain:(backTo cpos (starEach [] X.env)).any (·.1)=false:=by rfl):
  PE X (.Call (.Attribute o "append" apos) [e] [] cpos) (Gs X.K "list" i3 to (qW te vL)):=
 Dz F.plainAttrs_list F.slot_list_append F.type_list_append sg ho (tG he aA hs) hbase hfew hline hs hplain
def vI {K:W.Frag} {a:Addr} {xs:List V} {H:Hp} (h:cQ K H a xs):AN K "list" (.ref a) H:= .inl ⟨rfl,xs,h⟩
def qp {l:Addr} {y:V} {H:Hp} {Q:VK}:i3 (.ref l) [y] H Q=(∃xs,H l=some (.lst xs)/\xs.length<sizeLine/\Q .non (upd H l (.lst (xs++ [y])))):=rfl
def Dj:V->V->V->Hp->(Hp->Prop)->Prop:=fun o i v H Q=>match o,i with
 | .ref p,.int k=> ∃xs j,H p=some (.lst xs)/\vi xs.length k=some j/\Q (upd H p (.lst (xs.set j v)))
 |_,_=>False
def uD {p:Addr} {k:Int} {v:V} {H:Hp} {Q:Hp->Prop}:Dj (.ref p) (.int k) v H Q=(∃xs j,H p=some (.lst xs)/\vi xs.length k=some j/\Q (upd H p (.lst (xs.set j v)))):=rfl
def nI (K:W.Frag):R2:=fun x y H Q=>match x,y with
 | .ref p,.int i=> ∃xs v,(cQ K H p xs\/fx K H p xs)/\j4 xs i=some v/\Q v H
 | .str z,.int i=> ∃c,z.length<=sizeLine/\j4 z.cps.toList i=some c/\Q (.str ⟨#[c]⟩) H
 |_,_=>False
def rM.imp {r r':R2} (h:rM X r) (i: ∀x y H Q,r' x y H Q->r x y H Q):rM X r':=fun value slice pins s σ H x y v u Q I rx ry q hs=>h value slice pins s σ H x y v u Q I rx ry (i _ _ _ _ q) hs
def HS:rM X (nI X.K):=rM.imp Ck fun x y H Q h=>by
 unfold nI at h;split at h
 ·
  obtain ⟨xs,v,h1,h2,h3⟩:=h;rcases h1 with h1|h1
  ·exact .inl ⟨_,xs,_,v,rfl,rfl,h1,h2,h3⟩
  ·exact .inr (.inl ⟨_,xs,_,v,rfl,rfl,h1,h2,h3⟩)
 ·
  obtain ⟨c,h1,h2,h3⟩:=h;exact .inr (.inr ⟨_,_,c,rfl,rfl,h1,h2,h3⟩)
 ·exact h.elim
def wB {K:W.Frag} {z:Str} {i:Int} {H:Hp} {Q:VK}:nI K (.str z) (.int i) H Q=(∃c,z.length<=sizeLine/\j4 z.cps.toList i=some c/\Q (.str ⟨#[c]⟩) H):=rfl
def rn {K:W.Frag} {p:Addr} {i:Int} {H:Hp} {Q:VK} {xs:List V} {v:V} (h:cQ K H p xs) (e:j4 xs i=some v) (q:Q v H):nI K (.ref p) (.int i) H Q:=⟨xs,v,.inl h,e,q⟩
def zG {K:W.Frag} {p:Addr} {i:Int} {H:Hp} {Q:VK} {xs:List V} {v:V} (h:fx K H p xs) (e:j4 xs i=some v) (q:Q v H):nI K (.ref p) (.int i) H Q:=⟨xs,v,.inr h,e,q⟩
def xt {K:W.Frag} {H:Hp} {a:Addr} {ns:List Int} {k:Int} {Q:VK} (hS:cQ K H a (ns.map V.int)) (h0:0<=k) (h1:k<(ns.length:Int)) (q:Q (.int (ns.getD k.toNat 0)) H):nI K (.ref a) (.int k) H Q:=by
 refine rn hS ?_ q;obtain ⟨j,rfl⟩: ∃j:Nat,k=(j:Int):=⟨k.toNat,by lia⟩;refine z7 ?_;have hj:j<ns.length:=by lia
 rw [List.getElem?_map,List.getElem?_eq_getElem hj];simp [List.getD,hj]
end
section
variable {K:W.Frag} {H:Hp} {σ:St}
def xO {n:Nat} {t:yw} {a:Addr} {Q:St->Hp->Prop}:HV K n t (.ref a) σ H Q=(∃xs,fx K H a xs/\xs.length=n/\t xs σ H Q):=by
 apply propext;constructor
 ·
  rintro ⟨b,xs,e,h⟩;cases e;exact ⟨xs,h⟩
 ·
  rintro ⟨xs,h⟩;exact ⟨a,xs,rfl,h⟩
def sx {t:TG} {u:yw} {v:V} {r:List V} {Q:St->Hp->Prop}:F2 t u (v::r) σ H Q=t v σ H fun σ' H'=>u r σ' H' Q:=by
 apply propext;constructor
 ·
  rintro ⟨v',r',e,h⟩;cases e;exact h
 ·
  intro h;exact ⟨v,r,rfl,h⟩
def xP {Q:St->Hp->Prop}:HX [] σ H Q=Q σ H:=by
 apply propext;exact ⟨fun h=>h.2,fun h=>⟨rfl,h⟩⟩
def CF {i:Int} {P:Int->Prop}:(∃k,V.int i = .int k/\P k)=P i:=by
 apply propext;constructor
 ·
  rintro ⟨k,e,q⟩;cases e;exact q
 ·intro q;exact ⟨i,rfl,q⟩
def rV {n:Nat} (h:n<=1000):(n<=sizeLine)=True:=by
 have:=sizeLine_eq;simp only [eq_iff_iff,iff_true];lia
def vW {n:Nat} (h:n<=1000):(n<sizeLine)=True:=by
 have:=sizeLine_eq;simp only [eq_iff_iff,iff_true];lia
end
section
variable {X:Cx} (K:W.Frag) (h:X.K=K)
def aN (h:X.K=K):ft X (binaryOp .Add) (pO K):=h▸zr
def qb (h:X.K=K):bw X (.builtin "len") (mq K):=h▸vB
def vC (h:X.K=K):bw X (.builtin "isinstance") (hZ K):=h▸ye
def Dg (h:X.K=K):t5 X (uB K):=h▸GH
def FL (h:X.K=K):rM X (nI K):=h▸HS
def ia {tg l:Expr} {tl:TE} (h:X.K=K) (hl:PE X l tl):PI X tg l (zI K tl):=h▸Ba hl
def bX (h:X.K=K) (hu:X.A.units+64<cLine):ft X (compareOp .Eq) (lE K false):=h▸Bl hu
def xa (h:X.K=K) (hu:X.A.units+64<cLine):ft X (compareOp .NotEq) (lE K true):=h▸Bj hu
def oo (h:X.K=K):bw X (.type "list") (lD K):=h▸sI
def rF (h:X.K=K):bw X (.type "tuple") (m_ K):=h▸rG
def sd {o e:Expr} {to te:TE} {apos cpos:Pos} (h:X.K=K) (ho:PE X o to) (he:PE X e te) (hbase:attributeBase o "append" X.env (eval o X.env)=eval o X.env:=by rfl)
  (
   hfew:((backTo cpos (starEach [e] X.env)).all (fun x=>!x.1)&&(backToKw cpos (keywordEach [] X.env)).all (fun x=>x.1.isSome)
   &&decide ([e].length+([]:List Keyword).length+(if ([]:List Keyword).isEmpty then 0 else 1)<30))=true:=by rfl)
  (hline:(apos.endLine == cpos.line)=true:=by rfl) (hs:starEach [e] X.env=(false,eval e X.env)::starEach [] X.env:=by rfl) (hplain:(backTo cpos (starEach [] X.env)).any (·.1)=false:=by rfl):
  PE X (.Call (.Attribute o "append" apos) [e] [] cpos) (Gs K "list" i3 to (qW te vL)):=h▸u_ ho he hbase hfew hline hs hplain
end
def GC (t u:TS):TS:=fun D σ H=> ∃M:St->Hp->Prop,t {D with nx:=M} σ H/\∀σ' H',M σ' H'->u D σ' H'
def qq {X:Cx} {st:Stmt} {rest:List Stmt} {t u:TS} (h1:PS X st t) (h2:qT X rest u):qT X (st::rest) (GC t u):=by
 intro pins s σ H D I ⟨M,h,k⟩;refine wpAny_execs_cons (thn (h1 pins s σ H {D with nx:=M} I h) fun f s1 q=>?_);cases f with
 |next=>
  obtain ⟨σ',H',I',q⟩:=q;exact h2 pins s1 σ' H' D I' (k σ' H' q)
 |ret v=>exact q
 |brk=>exact q
 |cont=>exact q
noncomputable def isStar:Expr->Bool
 | .Starred .. =>true
 |_=>false
def cD {e:Expr} {es:List Expr} {env:Env} (h:isStar e=false):starEach (e::es) env=(false,eval e env)::starEach es env:=by
 cases e<;>first|rfl|exact absurd h (by simp [isStar])
def jq {pos:Pos} {env:Env}: ∀{es:List Expr},es.any isStar=false->(backTo pos (starEach es env)).any (·.1)=false
 | [],_=>rfl
 |e::es,h=>by
  rw [List.any_cons,Bool.or_eq_false_iff] at h;rw [cD h.1];show (false||(backTo pos (starEach es env)).any (·.1))=false;rw [jq h.2];rfl
noncomputable def fy:Expr->Bool
 | .UnaryOp .Not _ _=>false
 | .BoolOp .. =>false
 | .IfExp .. =>false
 | .Compare .. =>false
 |_=>true
def vk {e:Expr} {env:Env} (h:fy e=true) (whole:Sem Value):isTrue e env whole=(do let v<-whole;standAt e.pos;holding [v] (truthy v)):=by
 cases e with
 |UnaryOp op a p=>cases op<;>first|rfl|exact absurd h (by simp [fy])
 |BoolOp=>exact absurd h (by simp [fy])
 |IfExp=>exact absurd h (by simp [fy])
 |Compare=>exact absurd h (by simp [fy])
 |_=>rfl
section
variable {X:Cx} {CX:nz} {k n:Nat} {ps:List Str} {sp:Sp} {x:Str} {p pos:Pos} {e:Expr} {es:List Expr} {t:TA} {te:TE} {id T:String} {r:List V->Hp->VK->Prop}
def aC (ha:PE X e te) (hr:PA X es t) (h:isStar e=false:=by rfl):PA X (e::es) (qW te t):=tG ha hr (cD h)
def bW [Quiet CX] (G:FnAt X.prog X.w X.K X.mg X.base CX x k ps sp) (hr:dH n X.A) (hk:k<=n) (hg:Gl X x) (ha:PA X (e::es) t)
  (hdb:(x == ("__debug__" : Str))=false:=by decide) (h:(e::es).any isStar=false:=by rfl):PE X (.Call (.Name x p) (e::es) [] pos) (sS sp [] E0 t):=by
 rw [List.any_cons,Bool.or_eq_false_iff] at h;exact Dy G hr hk hg ha hdb (cD h.1) (jq h.2)
def bC (hc:bw X (.builtin id) r) (hg:Gl X x) (hm:X.mg x=none) (hv:bootBuiltins x=some (.builtin id)) (ha:PA X (e::es) t) (hn:x≠ "__name__" :=by decide) (hdb:(x == ("__debug__" : Str))=false:=by decide)
  (h:(e::es).any isStar=false:=by rfl):PE X (.Call (.Name x p) (e::es) [] pos) (Dd r t):=by
 rw [List.any_cons,Bool.or_eq_false_iff] at h;exact w6 hc hg hm hv ha hn hdb (cD h.1) (jq h.2)
def ib (hc:bw X (.type T) r) (hg:Gl X x) (hm:X.mg x=none) (hv:bootBuiltins x=some (.type T)) (ha:PA X (e::es) t) (hn:x≠ "__name__" :=by decide) (hdb:(x == ("__debug__" : Str))=false:=by decide)
  (h:(e::es).any isStar=false:=by rfl):PE X (.Call (.Name x p) (e::es) [] pos) (Dd r t):=by
 rw [List.any_cons,Bool.or_eq_false_iff] at h;exact uZ hc hg hm hv ha hn hdb (cD h.1) (jq h.2)
def oM (he:PE X e te) (h:fy e=true:=by rfl):PT X e (tB te):=A8 he (vk h)
end
noncomputable def i_:Expr->Bool
 | .ListComp .. =>true
 | .SetComp .. =>true
 | .DictComp .. =>true
 |_=>false
noncomputable def xy:Expr->Bool
 | .Set .. =>true
 |_=>false
def iS {e:Expr} {tg:Option Expr} {l:Nat} {env:Env} (h:i_ e=false):swapsWith e tg l env=pure false:=by
 cases e<;>first|rfl|exact absurd h (by simp [i_])
def jo {op:CmpOp} {b:Expr} (h:xy b=false):behindInMarks op b=false:=by
 cases b<;>first|rfl|exact absurd h (by simp [xy])
section
variable {X:Cx} {pos:Pos}
def aR {i:Nat} {x:Str} {e:Expr} {te:TE} {pos':Pos} (hN:X.N.Nodup) (hi:X.N[i]?=some x) (hx:Loc X.env.scope x) (he:PE X e te) (h:i_ e=false:=by rfl) (hf:X.fn x=true\/X.env.scope.names.lookup x=some .local:=by first|exact .inl rfl|exact .inr rfl|assumption):
  PS X (.Assign [.Name x pos'] e pos) (vU te (j1 i)):=A9 hN hi hx he (iS h) hf
def a_ {e:Expr} {te:TE} (he:PE X e te) (h:i_ e=false:=by rfl):PS X (.Expr e pos) (sR te):=y8 he (iS h)
end
def Jg (vs:List V):TA:=fun _ H Q=>Q vs H
end L2
namespace BitM
end BitM
namespace Rem
end Rem
namespace BitI
open PySem L2
def not_eq (x:Int):Builtin.bitNot x = -x - 1:=by unfold Builtin.bitNot;lia
def Bg (a b:Nat):Builtin.bitOr (a:Int) (b:Int)=((a |||b:Nat):Int):=by
 unfold Builtin.bitOr;rw [PyProof.Rows.bitAnd_nn (by rw [not_eq];lia) (by rw [not_eq];lia)];have e: ∀n:Nat,(Builtin.bitNot (Builtin.bitNot (n:Int)))=(n:Int):=fun n=>by rw [not_eq,not_eq];lia
 rw [e a,e b,e];simp
end BitI
namespace Com
open PySem L2
def aY {H:Hp} {p:Addr} {o:HO} (h:H p=none):cC H (upd H p o):=fun b u e=>by rw [af (av e h)];exact e
def eJ {K:W.Frag} {H H':Hp} {a:Addr} {xs:List V} (e:cC H H') (h:cQ K H a xs):cQ K H' a xs:=e.seq h
def x_ {ns:List Int} {lo hi:Option Int}:l8 (ns.map V.int) lo hi=((ns.drop (HT.dP ns.length 0 lo)).take (HT.dP ns.length ns.length hi - HT.dP ns.length 0 lo)).map V.int:=by
 unfold l8;rw [List.length_map,List.map_take,List.map_drop]
def aW {H:Hp} {p q:Addr} {o x:HO} (h:H p=some x) (hn:H q=none):upd H q o p=some x:=by rw [af (av h hn)];exact h
def oB {K:W.Frag} {H:Hp} {Q:VK} {l b:Addr} {xs zs:List V} (h1:H l=some (.lst xs)) (h2:H b=some (.lst zs)) (hz:xs.length+zs.length<=sizeLine) (q: ∀p,H p=none->Q (.ref p) (upd H p (.lst (xs++zs)))):pO K (.ref l) (.ref b) H Q:=
 .inl ⟨l,b,xs,zs,rfl,rfl,h1,h2,hz,q⟩
def gf {ns:List Int} {i:Nat} {x:V} (h:(ns.map V.int)[i]?=some x): ∃c,x = .int c/\ns[i]?=some c:=by
 rw [List.getElem?_map] at h;cases e:ns[i]? with
 |none=>rw [e] at h;cases h
 |some c=>rw [e] at h;cases h;exact ⟨c,rfl,rfl⟩
def bO {n:Nat} (h:n<=1000):n<=sizeLine:=by rw [sizeLine_eq];lia
def xu {K:W.Frag} {H:Hp} {a:Addr} {xs:List V} {Q:VK} (h:H a=some (.lst xs)) (q:Q (.bl true) H):hZ K [.ref a,.ty "list"] H Q:=⟨_,true,.lst h,BA K,q⟩
def zH {K:W.Frag} {H:Hp} {a:Addr} {xs:List V} {Q:VK} (h:H a=some (.tup xs)) (q:Q (.bl true) H):hZ K [.ref a,.ty "tuple"] H Q:=⟨_,true,.tup h,Bw K,q⟩
def fresh_ne {H:Hp} {p q:Addr} {o:HO} (h:upd H p o q=none):q≠p:=fun e=>by
 subst e;rw [ax] at h;cases h
end Com
namespace L2
open PySem PySem.Spec PyProof.Rows
structure j5 (K:W.Frag) (mg:Str->Option Value) (x:Str) (C:Addr):Prop where
 JF:mg x=some (.ref C)
 cl:C2 K C
 mks:W.makesIn K C=true
 kp:W.keepIn K (.ref C)=true
def MethAt (K:W.Frag) (C:Addr) (m q:Str) (st:Stmt):Prop:= ∃f fd,Gq K m q st f fd/\Meth K C m f
def cR (P:Program) (w:World) (K:W.Frag) (mg:Str->Option Value) (base:Heap) (CX:nz) (C:Addr) (m:Str) (k:Nat) (ps:List Str) (sp:Sp):Prop:=
 ∃f fd,ml P w K mg base CX k f fd ps sp/\Meth K C m f/\Binds K fd ps []
def xp {K:W.Frag} {h:Heap} {mg:Str->Option Value} {x:Str} {C:Addr} (X:K.In h) (G:h.Ns mainGlobals mg) (a:W.nsIn K mainGlobals x=some (some (.ref C)))
  (pg:W.plainGet K C Str.empty=true) (hd:W.hasDictIn K C=true) (po:W.plainOver K C=true) (sa:W.findIn K (.ref C) "__setattr__" = some (some (.builtin "object.__setattr__"))) (mk:W.makesIn K C=true) (kc:W.keepIn K (.ref C)=true):j5 K mg x C:=
 ⟨W.mg_of X G a,⟨pg,hd,po,sa⟩,mk,kc⟩
def vd {K:W.Frag} {C:Addr} {m q:Str} {st:Stmt} {f:Addr} {oc:Value} {od an:Option Addr} {osl:Array (Option Value)} {kV doc pm cdv ct:Value}
  (a:W.findIn K (.ref C) m=some (some (.ref f))) (i:W.isFn K (.ref f)=true)
  (l:K.lookup f=some ⟨oc,od,.func (W.fnOf m q (dX st) (cP st) (aD st) .none kV doc pm an cdv ct),osl⟩) (c:W.codeIn K cdv q=true) (k:W.keepIn K (.ref f)=true):MethAt K C m q st:=
 ⟨f,_,xQ l c k,⟨a,i,k⟩⟩
section
variable {P:Program} {w:World} {K:W.Frag} {mg:Str->Option Value} {base:Heap} {CX:nz}
def MethAt.fn {C:Addr} {m q:Str} {st:Stmt} {N ps:List Str} {k:Nat} {sp:Sp} (F:MethAt K C m q st) (S:aH N ps (aD st))
  (hb: ∀(kV doc pm:Value) (an:Option Addr) (cdv ct:Value) (us:List Value),us.length=ps.length->bindArgs (W.fnOf m q (dX st) (cP st) (aD st) .none kV doc pm an cdv ct) ⟨us,[]⟩=pure (ps.zip us))
  (len: ∀vs H Q E,sp vs H Q E->vs.length=ps.length)
  (
   hbody: ∀(f:Addr) (cdv:Value) (A:Around) (outer:List Env) (s:Shared) (H:Hp) (vs:List V) (Q:VK) (E:XK),dH k (A.deeper (envOfC q (aD st) s.heap.objs.size f cdv))->sp vs H Q E->
   ∃t,qT (rD CX P w K mg base N q (aD st) f cdv A outer s H E).nox (cP st) t/\t {nx:=fun _ H'=>Q .non H',rt:=Q} (start N vs) H):cR P w K mg base CX C m (k+1) ps sp:=by
 obtain ⟨f,fd,F,hm⟩:=F;have bd:=F.binds hb;obtain ⟨oc,od,kV,doc,pm,an,cdv,ct,osl,rfl,lk,hcd⟩:=F.ex;refine ⟨f,_,AG lk hcd S len fun A outer s H vs Q E hr hsp=>?_,hm,bd⟩;obtain ⟨t,h,q⟩:=hbody f cdv A outer s H vs Q E hr hsp;exact ⟨t,h.nox,q⟩
end
def A6 (C:Addr) (f:Str) (x:V) (H:Hp) (Q:VK):Prop:= ∃a,x = .ref a/\∃dx fs,H a=some (.ins C dx fs)/\∃v,fs.lookup f=some v/\Q v H
def Ak (C:Addr) (f:Str) (ta:TE):TE:=fun σ H Q=>ta σ H fun x H1=>A6 C f x H1 Q
def wk (C:Addr) (f:Str) (y x:V) (H:Hp) (N:Hp->Prop):Prop:= ∃a,x = .ref a/\∃dx fs,H a=some (.ins C dx fs)/\fs.length<1000/\N (upd H a (.ins C dx (bD f y fs)))
def Am (C:Addr) (f:Str) (ta tv:TE):TS:=fun D σ H=>tv σ H fun y H1=>ta σ H1 fun x H2=>wk C f y x H2 (D.nx σ)
def wQ (C:Addr) (f:Str) (x:V) (H:Hp) (K:V->(V->Hp->Prop)->Prop) (N:Hp->Prop):Prop:= ∃a,x = .ref a/\∃dx fs,H a=some (.ins C dx fs)/\∃v,fs.lookup f=some v/\
 K v fun z H3=> ∃dx' fs',H3 a=some (.ins C dx' fs')/\fs'.length<1000/\N (upd H3 a (.ins C dx' (bD f z fs')))
def An (C:Addr) (f:Str) (ta tv:TE) (rd:R2):TS:=fun D σ H=>ta σ H fun x H1=>wQ C f x H1 (fun v R=>tv σ H1 fun y H2=>rd v y H2 R) (D.nx σ)
def GN (C:Addr) (m:Str) (x:V) (H:Hp) (N:Prop):Prop:= ∃a,x = .ref a/\∃dx fs,H a=some (.ins C dx fs)/\fs.lookup m=none/\N
def AU (C:Addr) (m:Str) (sp:Sp) (ta:TE) (t:TA):TE:=fun σ H Q=>ta σ H fun x H1=>GN C m x H1 (t σ H1 fun vs H2=>sp (x::vs) H2 Q E0)
def wI {C a:Addr} {f:Str} {H:Hp} {Q:VK}:A6 C f (.ref a) H Q= ∃dx fs,H a=some (.ins C dx fs)/\∃v,fs.lookup f=some v/\Q v H:=by
 apply propext;unfold A6;constructor
 ·rintro ⟨b,e,h⟩;cases e;exact h
 ·exact fun h=>⟨a,rfl,h⟩
def uC {C a:Addr} {f:Str} {y:V} {H:Hp} {N:Hp->Prop}:wk C f y (.ref a) H N= ∃dx fs,H a=some (.ins C dx fs)/\fs.length<1000/\N (upd H a (.ins C dx (bD f y fs))):=by
 apply propext;unfold wk;constructor
 ·rintro ⟨b,e,h⟩;cases e;exact h
 ·exact fun h=>⟨a,rfl,h⟩
def uV {C a:Addr} {f:Str} {H:Hp} {K:V->(V->Hp->Prop)->Prop} {N:Hp->Prop}:wQ C f (.ref a) H K N= ∃dx fs,H a=some (.ins C dx fs)/\∃v,fs.lookup f=some v/\
  K v fun z H3=> ∃dx' fs',H3 a=some (.ins C dx' fs')/\fs'.length<1000/\N (upd H3 a (.ins C dx' (bD f z fs'))):=by
 apply propext;unfold wQ;constructor
 ·rintro ⟨b,e,h⟩;cases e;exact h
 ·exact fun h=>⟨a,rfl,h⟩
def yJ {C a:Addr} {m:Str} {H:Hp} {N:Prop}:GN C m (.ref a) H N= ∃dx fs,H a=some (.ins C dx fs)/\fs.lookup m=none/\N:=by
 apply propext;unfold GN;constructor
 ·rintro ⟨b,e,h⟩;cases e;exact h
 ·exact fun h=>⟨a,rfl,h⟩
def CG {C d:Addr} {l:List (Str×V)} {N:Addr->List (Str×V)->Prop}:(∃dx fs,some (HO.ins C d l)=some (HO.ins C dx fs)/\N dx fs)=N d l:=by
 apply propext;constructor
 ·rintro ⟨dx,fs,e,h⟩;cases e;exact h
 ·exact fun h=>⟨d,l,rfl,h⟩
def CC {x:V} {N:V->Prop}:(∃v,some x=some v/\N v)=N x:=by
 apply propext;constructor
 ·rintro ⟨v,e,h⟩;cases e;exact h
 ·exact fun h=>⟨x,rfl,h⟩
def vb {K:W.Frag} {C:Addr} {f:Str} (h:W.findIn K (.ref C) f=some none):bx K C f:=h
def v_ {H:Hp} {x dx C:Addr} {fs:List (Str×V)} (nx:H x=none) (nd:H dx=none):cC H (upd (upd H dx (.own x)) x (.ins C dx fs)):=fun b o e=>by
 rw [af (av e nx),af (av e nd)];exact e
def vH {H:Hp} {p:Addr} {o:HO} (h:H p=some o):upd H p o=H:=by
 funext b;unfold upd;split
 ·rename_i e;rw [e,h]
 ·rfl
section
variable {X:Cx} {C:Addr} {o e value:Expr} {es:List Expr} {f m x:Str} {p pos pos' tpos apos:Pos} {ta tv:TE} {t:TA} {k n:Nat} {ps:List Str} {sp:Sp}
def au (he:PE X e ta) (c:j5 X.K X.mg x C) (nn:bx X.K C f) (hb:attributeBase e f X.env (eval e X.env)=eval e X.env):PE X (.Attribute e f pos) (Ak C f ta):=by
 intro pins s σ H Q I h;refine z6 hb (thn (he pins s σ H _ I h) fun u s1 ⟨x,H1,I1,rx,a,ex,dx,fs,ea,v,l,q⟩=>?_);subst ex;obtain rfl:u=Value.ref a:=rx;exact nX I1 ea c.cl nn l fun u' s2 I2 ru=>⟨v,H1,I2,ru,q⟩
def aS (ha:PE X o ta) (hv:PE X value tv) (c:j5 X.K X.mg x C) (nn:bx X.K C f) (hs:i_ value=false:=by rfl):PS X (.Assign [.Attribute o f pos'] value pos) (Am C f ta tv):=by
 intro pins s σ H D I h;refine plainObj_wpAny_Assign_Attribute (thn (hv pins s σ H _ I h) fun u s1 ⟨y,H1,I1,ry,q⟩=>thn (ha pins s1 σ H1 _ I1 q) fun ov s2 ⟨x,H2,I2,rx,a,ex,dx,fs,ea,l,q2⟩=>?_) (iS hs);subst ex;obtain rfl:ov=Value.ref a:=rx;exact nE I2 ea c.cl nn l ry fun s3 I3=>⟨σ,_,I3,q2⟩
def kO {op:Operator} {rd:R2} (ha:PE X o ta) (hv:PE X value tv) (c:j5 X.K X.mg x C) (nn:bx X.K C f) (hop:ft X (inplaceOp op) rd):PS X (.AugAssign (.Attribute o f tpos) op value pos) (An C f ta tv rd):=by
 intro pins s σ H D I h;refine wpAny_AugAssign_AttributeAny (thn (ha pins s σ H _ I h) fun ov s1 ⟨x,H1,I1,rx,a,ex,dx,fs,ea,v,l,q⟩=>?_);subst ex;obtain rfl:ov=Value.ref a:=rx;refine nX I1 ea c.cl nn l fun u s2 I2 ru=>thn (hv pins s2 σ H1 _ I2 q) fun w3 s3 ⟨y,H2,I3,ry,q3⟩=>thn (hop pins s3 σ H2 v y u w3 _ I3 ru ry q3) fun w4 s4 ⟨z,H3,I4,rz,dx',fs',ea',l',q4⟩=>?_;exact nE I4 ea' c.cl nn l' rz fun s5 I5=>⟨σ,_,I5,q4⟩
def bG {CX:nz} [Quiet CX] {pl:Sem Bool} (he:PE X o ta) (c:j5 X.K X.mg x C) (G:cR X.prog X.w X.K X.mg X.base CX C m k ps sp) (hr:dH n X.A) (hk:k<=n) (ha:PA X (e::es) t) (hst:(e::es).any isStar=false:=by rfl)
  (
   ht:eval (.Call (.Attribute o m apos) (e::es) [] pos) X.env=(do
   let ov<-eval o X.env
   standAt apos.atName
   let (f,first)<-holding [ov] (getMethod ov m pl)
   callWith pos f first (backTo pos (starEach (e::es) X.env)) (backToKw pos (keywordEach [] X.env))):=by rfl):
  PE X (.Call (.Attribute o m apos) (e::es) [] pos) (AU C m sp ta t):=by
 obtain ⟨f,fd,F,hm,b⟩:=G;rw [List.any_cons,Bool.or_eq_false_iff] at hst;intro pins s σ H Q I h;refine W.methodCall_KW (pl:=pl) (thn (he pins s σ H _ I h) fun u s1 ⟨x,H1,I1,rx,a,ex,dx,fs,ea,l,q⟩=>?_) ht;subst ex;obtain rfl:u=Value.ref a:=rx;refine nW I1 ea c.cl hm l ?_;refine W.callWith_K (first:=[.ref a]) (h₀:=X.base) I.ok.mod.kin hm.kp (thn (ha pos pins s1 σ H1 _ I1 q) fun us s2 ⟨vs,H2,I2,r,q2⟩=>⟨I2.mF,?_⟩) (cD hst.1) (jq hst.2)
 exact rW (us:= .ref a::us) (vs:= .ref a::vs) F (hr.mono hk) b .nil (Quiet.pass X) I2 (.cons rfl r) (by rw [List.append_nil];exact q2)
def bF {CX:nz} [Quiet CX] {pl:Sem Bool} (he:PE X o ta) (c:j5 X.K X.mg x C) (G:cR X.prog X.w X.K X.mg X.base CX C m k ps sp) (hr:dH n X.A) (hk:k<=n)
  (
   ht:eval (.Call (.Attribute o m apos) [] [] pos) X.env=(do
   let ov<-eval o X.env
   standAt apos.atName
   let (f,first)<-holding [ov] (getMethod ov m pl)
   callWith pos f first (backTo pos (starEach [] X.env)) (backToKw pos (keywordEach [] X.env))):=by rfl):
  PE X (.Call (.Attribute o m apos) [] [] pos) (AU C m sp ta vL):=by
 obtain ⟨f,fd,F,hm,b⟩:=G;intro pins s σ H Q I h;refine W.methodCall_KW (pl:=pl) (thn (he pins s σ H _ I h) fun u s1 ⟨x,H1,I1,rx,a,ex,dx,fs,ea,l,q⟩=>?_) ht;subst ex;obtain rfl:u=Value.ref a:=rx;refine nW I1 ea c.cl hm l ?_;exact W.callWith_K0 (first:=[.ref a]) I1.mF hm.kp (rW (us:=[.ref a]) (vs:=[.ref a]) F (hr.mono hk) b .nil (Quiet.pass X) I1 (.cons rfl .nil) q)
def nL {CX:nz} [Quiet CX] (c:j5 X.K X.mg x C) (G:cR X.prog X.w X.K X.mg X.base CX C "__init__" k ps sp) (hr:dH n X.A) (hk:k+1<=n) (hg:Gl X x) (ha:PA X (e::es) t)
  (hdb:(x == ("__debug__" : Str))=false:=by decide) (h:(e::es).any isStar=false:=by rfl):PE X (.Call (.Name x p) (e::es) [] pos) (vM C sp [] E0 t):=by
 obtain ⟨f,fd,F,hm,b⟩:=G;rw [List.any_cons,Bool.or_eq_false_iff] at h;exact zb ⟨c.mks,hm.at_,hm.fn,c.kp⟩ F (hr.mono hk) hg c.JF b .nil (Quiet.pass X) ha hdb (cD h.1) (jq h.2)
end
def C4 (K:W.Frag) (p:Addr) (i:Int) (H:Hp) (Q:VK):Option HO->Prop
 |some (.lst xs)=> ∃v,j4 xs i=some v/\Q v H
 |some (.tup xs)=> ∃v,j4 xs i=some v/\Q v H
 |_=>nI K (.ref p) (.int i) H Q
def yK (K:W.Frag):R2:=fun x y H Q=>match x,y with
 | .ref p,.int i=>C4 K p i H Q (H p)
 |x,y=>nI K x y H Q
def wA {K:W.Frag} {p:Addr} {i:Int} {H:Hp} {Q:VK}:yK K (.ref p) (.int i) H Q=C4 K p i H Q (H p):=rfl
def wz {K:W.Frag} {z:Str} {i:Int} {H:Hp} {Q:VK}:yK K (.str z) (.int i) H Q=nI K (.str z) (.int i) H Q:=rfl
def zD {K:W.Frag} {p:Addr} {i:Int} {H:Hp} {Q:VK} {xs:List V}:C4 K p i H Q (some (.lst xs))= ∃v,j4 xs i=some v/\Q v H:=rfl
def zC {K:W.Frag} {p:Addr} {i:Int} {H:Hp} {Q:VK} {xs:List V}:C4 K p i H Q (some (.tup xs))= ∃v,j4 xs i=some v/\Q v H:=rfl
def zE {K:W.Frag} {p:Addr} {i:Int} {H:Hp} {Q:VK} (h:C4 K p i H Q (H p)):nI K (.ref p) (.int i) H Q:=by
 unfold C4 at h;split at h
 ·rename_i xs e;obtain ⟨v,a,b⟩:=h;exact rn (cQ.of e) a b
 ·rename_i xs e;obtain ⟨v,a,b⟩:=h;exact zG (fx.of e) a b
 ·exact h
def eN {X:Cx} (K:W.Frag) (h:X.K=K):rM X (yK K):=rM.imp (FL K h) fun x y H Q h=>by
 unfold yK at h;split at h
 ·exact zE h
 ·exact h
def oA {α:Type} {xs:List α} {i:Nat} {x:α} (h:xs[i]?=some x):j4 xs (i:Int)=some x:=by
 have hl:i<xs.length:=(List.getElem?_eq_some_iff.mp h).1;unfold j4 vi;rw [if_pos (by lia),if_pos (by lia)];exact h
def tZ {α:Type} {a:α} {l:List α}:j4 (a::l) 0=some a:=oA (i:=0) rfl
def tY {α:Type} {a b:α} {l:List α}:j4 (a::b::l) 1=some b:=oA (i:=1) rfl
def AJ {α:Type} {a b c:α} {l:List α}:j4 (a::b::c::l) 2=some c:=oA (i:=2) rfl
def AI {α:Type} {a b c d:α} {l:List α}:j4 (a::b::c::d::l) 3=some d:=oA (i:=3) rfl
def Gh {α:Type} {a b c d e:α} {l:List α}:j4 (a::b::c::d::e::l) 4=some e:=oA (i:=4) rfl
def Gg {α:Type} {a b c d e f:α} {l:List α}:j4 (a::b::c::d::e::f::l) 5=some f:=oA (i:=5) rfl
def gO (K:W.Frag) (n:Nat) (t:yw) (a:Addr) (σ:St) (H:Hp) (Q:St->Hp->Prop):Option HO->Prop
 |some (.tup xs)=>xs.length=n/\t xs σ H Q
 |_=> ∃xs,fx K H a xs/\xs.length=n/\t xs σ H Q
def F1 (K:W.Frag) (n:Nat) (t:yw):TG:=fun v σ H Q=>match v with
 | .ref a=>gO K n t a σ H Q (H a)
 |_=>False
def vp {K:W.Frag} {n:Nat} {t:yw} {a:Addr} {σ:St} {H:Hp} {Q:St->Hp->Prop}:F1 K n t (.ref a) σ H Q=gO K n t a σ H Q (H a):=rfl
def Cy {K:W.Frag} {n:Nat} {t:yw} {a:Addr} {σ:St} {H:Hp} {Q:St->Hp->Prop} {xs:List V}:gO K n t a σ H Q (some (.tup xs))=(xs.length=n/\t xs σ H Q):=rfl
def xl (K:W.Frag) (p:Addr) (H:Hp) (Q:VK):Option HO->Prop
 |some (.lst xs)=>Q (.int xs.length) H
 |some (.tup xs)=>Q (.int xs.length) H
 |_=>mq K [.ref p] H Q
def pM (K:W.Frag):List V->Hp->VK->Prop:=fun xs H Q=>match xs with
 | [.ref p]=>xl K p H Q (H p)
 |xs=>mq K xs H Q
def uN {K:W.Frag} {p:Addr} {H:Hp} {Q:VK}:pM K [.ref p] H Q=xl K p H Q (H p):=rfl
def uM {K:W.Frag} {z:Str} {H:Hp} {Q:VK}:pM K [.str z] H Q=mq K [.str z] H Q:=rfl
def xk {K:W.Frag} {p:Addr} {H:Hp} {Q:VK} {xs:List V}:xl K p H Q (some (.lst xs))=Q (.int xs.length) H:=rfl
def xj {K:W.Frag} {p:Addr} {H:Hp} {Q:VK} {xs:List V}:xl K p H Q (some (.tup xs))=Q (.int xs.length) H:=rfl
def ju {X:Cx} (K:W.Frag) (h:X.K=K):bw X (.builtin "len") (pM K):=bw.imp (qb K h) fun xs H Q h=>by
 unfold pM at h;split at h
 ·
  rename_i p;unfold xl at h;split at h
  ·rename_i xs e;exact ⟨xs,.inl (cQ.of e),h⟩
  ·rename_i xs e;exact ⟨xs,.inr (fx.of e),h⟩
  ·exact h
 ·exact h
def su (K:W.Frag) (p:Addr) (n:String) (H:Hp) (Q:VK):Option HO->Prop
 |some (.lst _)=>if n = "list" then Q (.bl true) H else hZ K [.ref p,.ty n] H Q
 |some (.tup _)=>if n = "tuple" then Q (.bl true) H else hZ K [.ref p,.ty n] H Q
 |_=>hZ K [.ref p,.ty n] H Q
def pN (K:W.Frag):List V->Hp->VK->Prop:=fun xs H Q=>match xs with
 | [.ref p,.ty n]=>su K p n H Q (H p)
 |xs=>hZ K xs H Q
def vD {X:Cx} (K:W.Frag) (h:X.K=K):bw X (.builtin "isinstance") (pN K):=bw.imp (vC K h) fun xs H Q h=>by
 unfold pN at h;split at h
 ·
  rename_i p n;unfold su at h;split at h
  ·
   rename_i xs e;split at h
   ·rename_i c;subst c;exact Com.xu e h
   ·exact h
  ·
   rename_i xs e;split at h
   ·rename_i c;subst c;exact Com.zH e h
   ·exact h
  ·exact h
 ·exact h
def uQ {K:W.Frag} {p:Addr} {n:String} {H:Hp} {Q:VK}:pN K [.ref p,.ty n] H Q=su K p n H Q (H p):=rfl
def xv {K:W.Frag} {p:Addr} {H:Hp} {Q:VK} {xs:List V}:su K p "tuple" H Q (some (.tup xs))=Q (.bl true) H:=by simp [su]
def xx {K:W.Frag} {p:Addr} {H:Hp} {Q:VK} {xs:List V}:su K p "list" H Q (some (.lst xs))=Q (.bl true) H:=by simp [su]
def yT {K:W.Frag} {i:Int} {n:String} {H:Hp} {Q:VK}:pN K [.int i,.ty n] H Q=hZ K [.int i,.ty n] H Q:=rfl
def yU {K:W.Frag} {i:Bool} {n:String} {H:Hp} {Q:VK}:pN K [.bl i,.ty n] H Q=hZ K [.bl i,.ty n] H Q:=rfl
def yS {K:W.Frag} {i:Str} {n:String} {H:Hp} {Q:VK}:pN K [.str i,.ty n] H Q=hZ K [.str i,.ty n] H Q:=rfl
def CD {l:List V} {N:List V->Prop}:(∃xs,some (HO.lst l)=some (HO.lst xs)/\N xs)=N l:=by
 apply propext;constructor
 ·rintro ⟨xs,e,h⟩;cases e;exact h
 ·exact fun h=>⟨l,rfl,h⟩
def zR {l:List V} {k:Int} {N:List V->Nat->Prop}:(∃xs j,some (HO.lst l)=some (HO.lst xs)/\vi xs.length k=some j/\N xs j)= ∃j,vi l.length k=some j/\N l j:=by
 apply propext;constructor
 ·rintro ⟨xs,j,e,h⟩;cases e;exact ⟨j,h⟩
 ·rintro ⟨j,h⟩;exact ⟨l,j,rfl,h⟩
def fV (p:Addr) (H H':Hp):Prop:= ∀b o,H b=some o->b≠p->H' b=some o
def fV.refl {p:Addr} {H:Hp}:fV p H H:=fun _ _ h _=>h
def fV.upd {p:Addr} {H:Hp} {o:HO}:fV p H (upd H p o):=fun b x hb hne=>by rw [af hne];exact hb
def fV.new {p q:Addr} {H H':Hp} {o:HO} (h:fV p H H') (hq:H' q=none):fV p H (L2.upd H' q o):=fun b x hb hne=>by
 rw [af (av (h b x hb hne) hq)];exact h b x hb hne
end L2
namespace MeterM
noncomputable def mn (a b:Int):Int:=if b<a then b else a
noncomputable def hf (w:Int):Int:=if 1<w / 2 then w / 2 else 1
noncomputable def k1 (m k:Int) (s:Int×Int):Int×Int:=if s.1=m then s else if s.1<k then (s.1+1,s.2) else if s.2+1=s.1 then (s.1+1,0) else (s.1,s.2+1)
noncomputable def kn (m k:Int):Nat->Int×Int->Int×Int
 |0,s=>s
 |n+1,s=>k1 m k (kn m k n s)
def AE {w m:Int} (h1:1<=w) (h2:w<=m):1<=hf w/\hf w<=m:=by
 unfold hf;split<;>lia
def AK (m:Int) (s:Int×Int):Prop:=1<=s.1/\s.1<=m/\0<=s.2/\s.2<s.1
def HU {m k:Int} (s:Int×Int) (h:AK m s):AK m (k1 m k s):=by
 obtain ⟨w,c⟩:=s;unfold AK k1 at*
 simp only at*
 (repeat' split)<;>simp only<;>lia
def inb {m k:Int}: ∀(n:Nat) (s:Int×Int),AK m s->AK m (kn m k n s)
 |0,s,h=>h
 |n+1,s,h=>HU _ (inb n s h)
end MeterM
namespace WaysM
noncomputable def lb (x:Nat):Nat:=x - (x &&& (x - 1))
def z8 (a b:Nat):(a &&& b) % 2=(a % 2)*(b % 2):=by
 have e:=Nat.and_mod_two_pow (a:=a) (b:=b) (n:=1);simp only [Nat.pow_one] at e;rw [e];rcases (by lia:a % 2=0\/a % 2=1) with p|p<;>rcases (by lia:b % 2=0\/b % 2=1) with q|q<;>rw [p,q]<;>decide
def Bh (a b:Nat) (h:(a |||b) % 2=1):a % 2=1\/b % 2=1:=by
 have e:=Nat.or_mod_two_pow (a:=a) (b:=b) (n:=1);simp only [Nat.pow_one] at e;rw [e] at h;rcases (by lia:a % 2=0\/a % 2=1) with p|p<;>rcases (by lia:b % 2=0\/b % 2=1) with q|q<;>rw [p,q] at h<;>first|(exact .inl p)|(exact .inr q)|(simp at h)
def zy (x:Nat) (h:0<x): ∃k,lb x=2 ^ k/\x % 2 ^ k=0/\x / 2 ^ k % 2=1:=by
 induction x using Nat.strongRecOn with
 |_ x ih=>
  have d:(x &&& (x - 1)) / 2=(x / 2) &&& ((x - 1) / 2):=Nat.and_div_two;have m:=z8 x (x - 1);rcases (by lia:x % 2=0\/x % 2=1) with p|p
  ·
   obtain ⟨k,h1,h2,h3⟩:=ih (x / 2) (by lia) (by lia);rw [show (x - 1) / 2=x / 2 - 1 by lia] at d;rw [p] at m;refine ⟨k+1,?_,?_,?_⟩
   ·
    unfold lb at h1⊢;rw [Nat.pow_succ];have le:(x / 2 &&& (x / 2 - 1))<=x / 2:=Nat.and_le_left;lia
   ·
    rw [Nat.pow_succ,Nat.mul_comm,Nat.mod_mul];rw [h2];lia
   ·rw [Nat.pow_succ,Nat.mul_comm,<-Nat.div_div_eq_div_mul];exact h3
  ·
   refine ⟨0,?_,by lia,by simpa using p⟩;unfold lb;rw [show (x - 1) / 2=x / 2 by lia,Nat.and_self] at d;rw [p,show (x - 1) % 2=0 by lia] at m;lia
def Bi (a b k:Nat):(a |||b) / 2 ^ k=a / 2 ^ k |||b / 2 ^ k:=by
 rw [<-Nat.shiftRight_eq_div_pow,<-Nat.shiftRight_eq_div_pow,<-Nat.shiftRight_eq_div_pow];exact Nat.shiftRight_or_distrib
noncomputable def low (t b:Int):Int×Int:=(t / (lb (t.toNat |||b.toNat):Nat),b / (lb (t.toNat |||b.toNat):Nat))
structure Gp (t b t' b' s:Int):Prop where
 s0:0<s
 tt:t=s*t'
 bb:b=s*b'
 t0:0<=t'
 b0:0<b'
 od: ¬(t' % 2=0/\b' % 2=0)
 tl:t'<=t
 bl:b'<=b
def tJ (t b:Nat) (hb:0<b): ∃k,lb (t |||b)=2 ^ k/\t % 2 ^ k=0/\b % 2 ^ k=0/\(t / 2 ^ k % 2=1\/b / 2 ^ k % 2=1):=by
 have hx:0<t |||b:=by
  have:b<=t |||b:=Nat.right_le_or;lia
 obtain ⟨k,h1,h2,h3⟩:=zy _ hx;have e:(t % 2 ^ k) |||(b % 2 ^ k)=0:=by rw [<-Nat.or_mod_two_pow];exact h2
 have e1:t % 2 ^ k<=(t % 2 ^ k) |||(b % 2 ^ k):=Nat.left_le_or;have e2:b % 2 ^ k<=(t % 2 ^ k) |||(b % 2 ^ k):=Nat.right_le_or;refine ⟨k,h1,by lia,by lia,?_⟩;rw [Bi] at h3;exact Bh _ _ h3
def gL {t b:Int} (ht:0<=t) (hb:0<b): ∃s,Gp t b (low t b).1 (low t b).2 s:=by
 obtain ⟨t,rfl⟩:=Int.eq_ofNat_of_zero_le ht;obtain ⟨b,rfl⟩:=Int.eq_ofNat_of_zero_le (Int.le_of_lt hb);obtain ⟨k,h1,h2,h3,h4⟩:=tJ t b (by lia);have hp:0<2 ^ k:=Nat.two_pow_pos k;have t1:=Nat.div_add_mod t (2 ^ k);have b1:=Nat.div_add_mod b (2 ^ k);rw [h2,Nat.add_zero] at t1;rw [h3,Nat.add_zero] at b1;have e1:(low (t:Int) (b:Int)).1=((t / 2 ^ k:Nat):Int):=by simp [low,h1]
 have e2:(low (t:Int) (b:Int)).2=((b / 2 ^ k:Nat):Int):=by simp [low,h1]
 rw [e1,e2];have l1:=Nat.div_le_self t (2 ^ k);have l2:=Nat.div_le_self b (2 ^ k);have l3:0<b / 2 ^ k:=by
  rcases Nat.eq_zero_or_pos (b / 2 ^ k) with z|z
  ·rw [z,Nat.mul_zero] at b1;lia
  ·exact z
 generalize t / 2 ^ k=t' at*
 generalize b / 2 ^ k=b' at*
 generalize 2 ^ k=s at*
 refine ⟨(s:Int),⟨by lia,?_,?_,by lia,by lia,by lia,by lia,by lia⟩⟩
 ·rw [<-Int.natCast_mul,t1]
 ·rw [<-Int.natCast_mul,b1]
def i4: ∀(n:Nat) (s b:Int),0<s->0<b->2 ^ n=s*b->∃j,j<=n/\b=2 ^ j
 |
   0,s,b,hs,hb,h=>⟨0,Nat.le_refl _,by
   have h1:s*b=1:=by simpa using h.symm
   have:b∣1:=⟨s,by rw [Int.mul_comm];exact h1.symm⟩;have:=Int.le_of_dvd (by decide) this;simp;lia⟩
 |n+1,s,b,hs,hb,h=>by
  by_cases hb2:b % 2=0
  ·
   obtain ⟨c,rfl⟩: ∃c,b=2*c:=⟨b / 2,by lia⟩;have:(2:Int) ^ n=s*c:=by
    have e:(2:Int)*2 ^ n=2*(s*c):=by rw [<-Int.mul_left_comm,<-h,Int.pow_succ,Int.mul_comm]
    lia
   obtain ⟨j,hj,e⟩:=i4 n s c hs (by lia) this;exact ⟨j+1,by lia,by rw [e,Int.pow_succ,Int.mul_comm]⟩
  ·
   by_cases hs2:s % 2=0
   ·
    obtain ⟨c,rfl⟩: ∃c,s=2*c:=⟨s / 2,by lia⟩;have:(2:Int) ^ n=c*b:=by
     have e:(2:Int)*2 ^ n=2*(c*b):=by rw [<-Int.mul_assoc,<-h,Int.pow_succ,Int.mul_comm]
     lia
    obtain ⟨j,hj,e⟩:=i4 n c b (by lia) hb this;exact ⟨j,by lia,e⟩
   ·
    exfalso;have e1:(s*b) % 2=1:=by rw [Int.mul_emod];rw [show s % 2=1 by lia,show b % 2=1 by lia];decide
    have e2:(2:Int) ^ (n+1) % 2=0:=by rw [Int.pow_succ];exact Int.mul_emod_left _ _
    rw [<-h] at e1;lia
end WaysM
namespace L2
open PySem PySem.Spec PyProof.Rows
def Bd (n:Nat) (x:Int):Prop:=x.natAbs<2 ^ n
def Bd.mul {a b:Nat} {x y:Int} (h:Bd a x) (h':Bd b y):Bd (a+b) (x*y):=by
 unfold Bd at*
 rw [Int.natAbs_mul,Nat.pow_add];exact Nat.mul_lt_mul'' h h'
def Bd.up {a b:Nat} {x:Int} (h:Bd a x) (hab:a<=b):Bd b x:=Nat.lt_of_lt_of_le h (Nat.pow_le_pow_right (by decide) hab)
def Bd.add {a:Nat} {x y:Int} (h:Bd a x) (h':Bd a y):Bd (a+1) (x+y):=by
 unfold Bd at*
 have:=Int.natAbs_add_le x y;rw [Nat.pow_succ];lia
def Bd.sub {a:Nat} {x y:Int} (h:Bd a x) (h':Bd a y):Bd (a+1) (x - y):=by
 unfold Bd at*
 have:(x - y).natAbs<=x.natAbs+y.natAbs:=by lia
 rw [Nat.pow_succ];lia
def Bd.of {a:Nat} {x:Int} (h0:0<=x) (h:x<2 ^ a):Bd a x:=by
 unfold Bd;have e:((2 ^ a:Nat):Int)=2 ^ a:=by simp
 lia
def Bd.le {a:Nat} {x y:Int} (h:Bd a y) (h0:0<=x) (hl:x<=y):Bd a x:=by
 unfold Bd at *;lia
def Bd.bits {n:Nat} {x:Int} (h:Bd n x):Builtin.Int.intBits x<=n:=by
 unfold Builtin.Int.intBits;split
 ·lia
 ·
  rename_i c;have hx:x.natAbs≠0:=by simpa using c
  have:=(Nat.log2_lt hx).mpr h;lia
def yr (i j:Int):Prop:=yt i j\/(Bd 8000 i/\Bd 8000 j)
def t6 (_ j:Int):Prop:=0<j/\Bd 8000 j
def eF {X:Cx}:ft X (binaryOp .Mult) (rI yr fun i j=> .int (i*j)):=As fun _ _ _ _ _ _ _ hc q=>mul_int q (by
 rcases hc with hc|⟨h1,h2⟩
 ·exact hc.ok
 ·exact IntMulOk.of_bits (Nat.le_trans h1.bits (by decide)) (Nat.le_trans h2.bits (by decide)))
def kR {X:Cx}:ft X (binaryOp .FloorDiv) (rI t6 fun i j=> .int (i / j)):=As fun i j _ _ _ _ _ hc q=>by
 have e:i.fdiv j=i / j:=Int.fdiv_eq_ediv_of_nonneg i (Int.le_of_lt hc.1);rw [<-e] at q;refine floordiv_int (Int.ne_of_gt hc.1) q (.inl (PyProof.noPylong_of_log2 ?_));have hx:j.natAbs≠0:=by have:=hc.1;lia
 exact Nat.lt_of_lt_of_le ((Nat.log2_lt hx).mpr hc.2) (by decide)
def xg {i j:Int} (h : -(2 ^ 64)<i/\i<2 ^ 64):yr i j:= .inl (.inl h)
def CJ {i j:Int} (h0:0<j) (h:j<1073741824):t6 i j:=⟨h0,Bd.up (a:=30) (Bd.of (Int.le_of_lt h0) h) (by decide)⟩
def ke {i j:Int} {a b:Nat} (h:Bd a i) (h':Bd b j) (ha:a<=8000) (hb:b<=8000):yr i j:= .inr ⟨h.up ha,h'.up hb⟩
def CK {i j:Int} {a:Nat} (h0:0<j) (h:Bd a j) (ha:a<=8000):t6 i j:=⟨h0,h.up ha⟩
end L2
namespace L2
def H_ (x:Int):(if x<0 then -x else x)=(x.natAbs:Int):=by split<;>lia
def Bd.abs {n:Nat} {x:Int} (h:Bd n x):Bd n (x.natAbs:Int):=by unfold Bd at *;simpa using h
def Bd.c {n k:Nat} (h:k<2 ^ n):Bd n (k:Int):=by unfold Bd;simpa using h
end L2
namespace WaysI
open PySem L2
def lowbit {t b:Int} (ht:0<=t) (hb:0<b):Builtin.bitAnd (Builtin.bitOr t b) (-(Builtin.bitOr t b))=(WaysM.lb (t.toNat |||b.toNat):Nat):=by
 obtain ⟨t,rfl⟩:=Int.eq_ofNat_of_zero_le ht;obtain ⟨b,rfl⟩:=Int.eq_ofNat_of_zero_le (Int.le_of_lt hb);rw [BitI.Bg];have hx:0<t |||b:=by
  have:b<=t |||b:=Nat.right_le_or;lia
 rw [PyProof.Rows.bitAnd_pn (by lia) (by lia)];have e:(Builtin.bitNot (-((t |||b:Nat):Int))).toNat=(t |||b) - 1:=by rw [BitI.not_eq];lia
 rw [e];simp only [Int.toNat_natCast,WaysM.lb];have le:((t |||b) &&& ((t |||b) - 1))<=t |||b:=Nat.and_le_left;lia
def Bv {t b:Int} (ht:0<=t) (hb:0<b):0<((WaysM.lb (t.toNat |||b.toNat):Nat):Int)/\((WaysM.lb (t.toNat |||b.toNat):Nat):Int)<=b:=by
 obtain ⟨t,rfl⟩:=Int.eq_ofNat_of_zero_le ht;obtain ⟨b,rfl⟩:=Int.eq_ofNat_of_zero_le (Int.le_of_lt hb);obtain ⟨k,h1,h2,h3,h4⟩:=WaysM.tJ t b (by lia);simp only [Int.toNat_natCast];rw [h1];have hp:0<2 ^ k:=Nat.two_pow_pos k;have:=Nat.le_of_dvd (by lia) (Nat.dvd_of_mod_eq_zero h3);lia
end WaysI
namespace L2
open PySem PySem.Spec PyProof.Rows
def GG (i j:Nat) (D:Ends) (σ:St) (H:Hp):Option HO->Prop
 |some (.tup [a,b])=>D.nx ((σ.set j (some b)).set i (some a)) H
 |_=>False
def Ii (i j:Nat) (D:Ends) (σ:St) (v:V) (H:Hp):Prop:=match v with
 | .ref p=>GG i j D σ H (H p)
 |_=>False
def Jf (i j:Nat) (te:TE):TS:=fun D σ H=>te σ H fun v H1=>Ii i j D σ v H1
def yD {i j:Nat} {D:Ends} {σ:St} {p:Addr} {H:Hp}:Ii i j D σ (.ref p) H=GG i j D σ H (H p):=rfl
def yE {i j:Nat} {D:Ends} {σ:St} {H:Hp} {a b:V}:GG i j D σ H (some (.tup [a,b]))=D.nx ((σ.set j (some b)).set i (some a)) H:=rfl
def Dk (K:W.Frag):List V->Hp->VK->Prop:=fun xs H Q=>match xs with
 | [.int i,.int j]=>Q (.int (if j<i then j else i)) H
 | [.ref p]=> ∃ns:List Int,cQ K H p (ns.map V.int)/\0<ns.length/\∀M,M∈ns->(∀a,a∈ns->M<=a)->Q (.int M) H
 |_=>False
def Dl (K:W.Frag):List V->Hp->VK->Prop:=fun xs H Q=>match xs with
 | [.int i,.int j]=>Q (.int (if i<j then j else i)) H
 | [.ref p]=> ∃ns:List Int,cQ K H p (ns.map V.int)/\0<ns.length/\∀M,M∈ns->(∀a,a∈ns->a<=M)->Q (.int M) H
 |_=>False
def uH {K:W.Frag} {p:Addr} {H:Hp} {Q:VK}:Dk K [.ref p] H Q= ∃ns:List Int,cQ K H p (ns.map V.int)/\0<ns.length/\∀M,M∈ns->(∀a,a∈ns->M<=a)->Q (.int M) H:=rfl
def uJ {K:W.Frag} {p:Addr} {H:Hp} {Q:VK}:Dl K [.ref p] H Q= ∃ns:List Int,cQ K H p (ns.map V.int)/\0<ns.length/\∀M,M∈ns->(∀a,a∈ns->a<=M)->Q (.int M) H:=rfl
noncomputable abbrev ik (i:Int):Key:=Sum.inl i
def xX (neg:Bool) (i:Int) (H:Hp) (Q:VK):Option HO->Prop
 |some (.dK kvs)=>Q (.bl (if neg then !(aX kvs (ik i)).isSome else (aX kvs (ik i)).isSome)) H
 |_=>False
def wO (neg:Bool):R2:=fun y x H Q=>match y,x with
 | .int i,.ref a=>xX neg i H Q (H a)
 |_,_=>False
def wN {neg:Bool} {i:Int} {a:Addr} {H:Hp} {Q:VK}:wO neg (.int i) (.ref a) H Q=xX neg i H Q (H a):=rfl
def CL {i:Int} {H:Hp} {Q:VK} {kvs:List (Key×V)}:xX true i H Q (some (.dK kvs))=Q (.bl (!(aX kvs (ik i)).isSome)) H:=rfl
def CN {i:Int} {H:Hp} {Q:VK} {kvs:List (Key×V)}:xX false i H Q (some (.dK kvs))=Q (.bl (aX kvs (ik i)).isSome) H:=rfl
def Gy (i:Int) (H:Hp) (Q:VK):Option HO->Prop
 |some (.dK kvs)=> ∃v,aX kvs (ik i)=some v/\Q v H
 |_=>False
def tE:R2:=fun x y H Q=>match x,y with
 | .ref a,.int i=>Gy i H Q (H a)
 |_,_=>False
def uU {i:Int} {a:Addr} {H:Hp} {Q:VK}:tE (.ref a) (.int i) H Q=Gy i H Q (H a):=rfl
def F_ {i:Int} {H:Hp} {Q:VK} {kvs:List (Key×V)}:Gy i H Q (some (.dK kvs))= ∃v,aX kvs (ik i)=some v/\Q v H:=rfl
def Gx (a:Addr) (i:Int) (v:V) (H:Hp) (N:Hp->Prop):Option HO->Prop
 |some (.dK kvs)=>kvs.length<sizeLine/\N (upd H a (.dK (putK kvs (ik i) v)))
 |_=>False
def tw (x y v:V) (H:Hp) (N:Hp->Prop):Prop:=match x,y with
 | .ref a,.int i=>Gx a i v H N (H a)
 |_,_=>False
def wc (to ti tv:TE):TS:=fun D σ H=>tv σ H fun v H1=>to σ H1 fun x H2=>ti σ H2 fun y H3=>tw x y v H3 (D.nx σ)
def uS {i:Int} {a:Addr} {v:V} {H:Hp} {N:Hp->Prop}:tw (.ref a) (.int i) v H N=Gx a i v H N (H a):=rfl
def F9 {a:Addr} {i:Int} {v:V} {H:Hp} {N:Hp->Prop} {kvs:List (Key×V)}:Gx a i v H N (some (.dK kvs))=(kvs.length<sizeLine/\N (upd H a (.dK (putK kvs (ik i) v)))):=rfl
def xC:Option HO->Prop
 |some (.dK _)=>True
 |_=>False
def zS (a:Addr) (i:Int) (H:Hp) (Q:VK):Option HO->Prop
 |some (.dK kvs)=> ∃v,aX kvs (ik i)=some v/\Q v (upd H a (.dK (cS kvs (ik i))))
 |_=>False
def tD (x y:V) (H:Hp) (Q:VK):Prop:=match x,y with
 | .ref a,.int i=>zS a i H Q (H a)
 |_,_=>False
def wD (x:V) (H:Hp):Prop:=match x with
 | .ref a=>xC (H a)
 |_=>False
def vQ (to ti:TE):TE:=fun σ H Q=>to σ H fun x H1=>wD x H1/\ti σ H1 fun y H2=>tD x y H2 Q
def wC {a:Addr} {H:Hp}:wD (.ref a) H=xC (H a):=rfl
def Cm {kvs:List (Key×V)}:xC (some (.dK kvs))=True:=rfl
def uT {i:Int} {a:Addr} {H:Hp} {Q:VK}:tD (.ref a) (.int i) H Q=zS a i H Q (H a):=rfl
def CH {a:Addr} {i:Int} {H:Hp} {Q:VK} {kvs:List (Key×V)}:zS a i H Q (some (.dK kvs))= ∃v,aX kvs (ik i)=some v/\Q v (upd H a (.dK (cS kvs (ik i)))):=rfl
section
variable {X:Cx} {i o e value:Expr} {ti to te tv:TE} {pos pos' apos cpos:Pos}
def pX {neg:Bool} {y x:V} {H:Hp} {Q:VK} (q:wO neg y x H Q): ∃j a kvs,y = .int j/\x = .ref a/\H a=some (.dK kvs)/\Q (.bl (if neg then !(aX kvs (ik j)).isSome else (aX kvs (ik j)).isSome)) H:=by
 unfold wO at q;split at q
 ·
  rename_i j a;unfold xX at q;split at q
  ·rename_i kvs e1;exact ⟨j,a,kvs,rfl,rfl,e1,q⟩
  ·exact q.elim
 ·exact q.elim
def w9 (hu:X.A.units+64<cLine) (hi:PE X i ti) (ho:PE X o to):PC X .In i o (yC (wO false) ti to):=by
 intro pins s σ H Q I h;have hu':X.A.units+1<cLine:=by lia
 refine thn (hi pins s σ H _ I h) fun iv s1 ⟨y,H1,I1,ry,q1⟩=>thn (ho pins s1 σ H1 _ I1 q1) fun u s2 ⟨x,H2,I2,rx,q2⟩=>?_;obtain ⟨j,a,kvs,rfl,rfl,e1,q⟩:=pX q2;obtain rfl:u=Value.ref a:=rx;exact HY hu' I2 (m9.k (k:=ik j) e1) ry fun s' I'=>⟨.bl _,H2,I',rfl,q⟩
def se (hu:X.A.units+64<cLine) (hi:PE X i ti) (ho:PE X o to):PC X .NotIn i o (yC (wO true) ti to):=by
 intro pins s σ H Q I h;have hu':X.A.units+1<cLine:=by lia
 refine thn (hi pins s σ H _ I h) fun iv s1 ⟨y,H1,I1,ry,q1⟩=>thn (ho pins s1 σ H1 _ I1 q1) fun u s2 ⟨x,H2,I2,rx,q2⟩=>?_;obtain ⟨j,a,kvs,rfl,rfl,e1,q⟩:=pX q2;obtain rfl:u=Value.ref a:=rx;exact zV hu' I2 (m9.k (k:=ik j) e1) ry fun s' I'=>⟨.bl _,H2,I',rfl,q⟩
def xY {x y:V} {H:Hp} {Q:VK} (q:tE x y H Q): ∃j a kvs v,y = .int j/\x = .ref a/\H a=some (.dK kvs)/\aX kvs (ik j)=some v/\Q v H:=by
 unfold tE at q;split at q
 ·
  rename_i a j;unfold Gy at q;split at q
  ·rename_i kvs e1;obtain ⟨v,h1,h2⟩:=q;exact ⟨j,a,kvs,v,rfl,rfl,e1,h1,h2⟩
  ·exact q.elim
 ·exact q.elim
def Be (hu:X.A.units+64<cLine) (ho:PE X o to) (hi:PE X i ti) (hs:C0 i):PE X (.Subscript o i pos) (yC tE to ti):=by
 intro pins s σ H Q I h;have hu':X.A.units+1<cLine:=by lia
 refine sT PySem.F.slot_dict_getitem.lookup hs (thn (ho pins s σ H _ I h) fun u s1 ⟨x,H1,I1,rx,q1⟩=>thn (hi pins s1 σ H1 _ I1 q1) fun iv s2 ⟨y,H2,I2,ry,q2⟩=>?_);obtain ⟨j,a,kvs,v,rfl,rfl,e1,e2,q⟩:=xY q2;obtain rfl:u=Value.ref a:=rx;have g:m9 H2 a (.int j) (some v):=e2▸m9.k (k:=ik j) e1;exact ⟨mx I2 g,pZ hu' I2 g ry fun w' s3 I3 rw'=>⟨v,H2,I3,rw',q⟩⟩
def xW {x y v:V} {H:Hp} {N:Hp->Prop} (q:tw x y v H N): ∃j a kvs,y = .int j/\x = .ref a/\H a=some (.dK kvs)/\kvs.length<sizeLine/\N (upd H a (.dK (putK kvs (ik j) v))):=by
 unfold tw at q;split at q
 ·
  rename_i a j;unfold Gx at q;split at q
  ·rename_i kvs e1;exact ⟨j,a,kvs,rfl,rfl,e1,q⟩
  ·exact q.elim
 ·exact q.elim
def nJ (hu:X.A.units+64<cLine) (ho:PE X o to) (hi:PE X i ti) (hv:PE X value tv) (hs:i_ value=false:=by rfl):PS X (.Assign [.Subscript o i pos'] value pos) (wc to ti tv):=by
 intro pins s σ H D I h;have hu':X.A.units+1<cLine:=by lia
 refine wpAny_Assign_Subscript (thn (hv pins s σ H _ I h) fun r s1 ⟨v,H1,I1,rv,q1⟩=>thn (ho pins s1 σ H1 _ I1 q1) fun u s2 ⟨x,H2,I2,rx,q2⟩=>thn (hi pins s2 σ H2 _ I2 q2) fun iv s3 ⟨y,H3,I3,ry,q3⟩=>?_) (iS hs);obtain ⟨j,a,kvs,rfl,rfl,e1,hl,q⟩:=xW q3;obtain rfl:u=Value.ref a:=rx;exact pY hu' I3 (yp.k (k:=ik j) e1 hl) ry rv fun s4 I4=>⟨σ,_,I4,q⟩
def vw {x y:V} {H:Hp} {Q:VK} (q:tD x y H Q): ∃j a kvs v,y = .int j/\x = .ref a/\H a=some (.dK kvs)/\aX kvs (ik j)=some v/\Q v (upd H a (.dK (cS kvs (ik j)))):=by
 unfold tD at q;split at q
 ·
  rename_i a j;unfold zS at q;split at q
  ·rename_i kvs e1;obtain ⟨v,h1,h2⟩:=q;exact ⟨j,a,kvs,v,rfl,rfl,e1,h1,h2⟩
  ·exact q.elim
 ·exact q.elim
def ze (ho:PE X o to) (he:PE X e te) (hb:attributeBase o "pop" X.env (eval o X.env)=eval o X.env:=by rfl)
  (
   hfew:((backTo cpos (starEach [e] X.env)).all (fun x=>!x.1)&&(backToKw cpos (keywordEach [] X.env)).all (fun x=>x.1.isSome)
   &&decide (([e]:List Expr).length+([]:List Keyword).length+(if ([]:List Keyword).isEmpty then 0 else 1)<30))=true:=by rfl)
  (hline:(apos.endLine == cpos.line)=true:=by rfl) (ht:backTo cpos (starEach [e] X.env)= [(false,eval e X.env)]:=by rfl):PE X (.Call (.Attribute o "pop" apos) [e] [] cpos) (vQ to te):=by
 intro pins s σ H Q I h;refine wpAny_Call_method hb hfew hline PySem.F.plainAttrs_dict PySem.F.slot_dict_pop PySem.F.type_dict_pop (thn (ho pins s σ H _ I h) fun u s1 ⟨x,H1,I1,rx,hd,q1⟩=>?_);obtain ⟨a,kvs,rfl,e0⟩: ∃a kvs,x = .ref a/\H1 a=some (.dK kvs):=by
  unfold wD at hd;split at hd
  ·
   rename_i a;unfold xC at hd;split at hd
   ·rename_i kvs e;exact ⟨a,kvs,rfl,e⟩
   ·exact hd.elim
  ·exact hd.elim
 obtain rfl:u=Value.ref a:=rx;obtain ⟨t1,t2,_⟩:=xA I1 (.inl ⟨kvs,.inl e0⟩);refine ⟨t1,t2,?_⟩;rw [ht];refine Calls.callWith_builtin rfl (Calls.evalArgs_plain (Calls.spliced_cons (thn (he pins s1 σ H1 _ I1 q1) fun iv s2 ⟨y,H2,I2,ry,q2⟩=>Calls.spliced_nil ?_)));obtain ⟨j,a',kvs',v,rfl,ea,e1,e2,q⟩:=vw q2;cases ea;exact AH I2 e1 (k:=ik j) ry e2 (.inl rfl) fun w' s3 I3 rw'=>⟨v,_,I3,rw',q⟩
end
def Bu (K:W.Frag) (p:Addr) (H:Hp) (Q:VK):Option HO->Prop
 |some (.dK kvs)=>Q (.int kvs.length) H
 |_=>pM K [.ref p] H Q
def Dm (K:W.Frag):List V->Hp->VK->Prop:=fun xs H Q=>match xs with
 | [.ref p]=>Bu K p H Q (H p)
 |xs=>pM K xs H Q
def uL {K:W.Frag} {p:Addr} {H:Hp} {Q:VK}:Dm K [.ref p] H Q=Bu K p H Q (H p):=rfl
def Bt {K:W.Frag} {p:Addr} {H:Hp} {Q:VK} {kvs:List (Key×V)}:Bu K p H Q (some (.dK kvs))=Q (.int kvs.length) H:=rfl
def og {K:W.Frag} {H:Hp} {n:Nat} (hn:n<60) {neg:Bool} {p r:Addr} {xs ys:List V} {ds:List Dt} {Q:VK} (h1:fx K H p xs) (h2:fx K H r ys) (hd:Paired (Den K H n) xs ds) (he:Paired (Den K H n) ys ds) (q:Q (.bl (!neg)) H):lE K neg (.ref p) (.ref r) H Q:=
 ⟨n+1,.t ds,.t ds,by lia,.inr (.inr ⟨p,_,_,rfl,rfl,h1,hd⟩),.inr (.inr ⟨r,_,_,rfl,rfl,h2,he⟩),.inl ⟨rfl,q⟩⟩
def sZ (vs:List V) (H:Hp) (Q:VK):Prop:=match vs with
 | [.int i,.int j]=>(-(2 ^ 62)<=i/\i<2 ^ 62/\-(2 ^ 62)<=j/\j<2 ^ 62)/\∀p,H p=none->Q (.ref p) (upd H p (.rng i j))
 |_=>False
def Ae (ta:TA):TE:=fun σ H Q=>ta σ H fun vs H1=>sZ vs H1 Q
def uG {i j:Int} {H:Hp} {Q:VK}:sZ [.int i,.int j] H Q=((-(2 ^ 62)<=i/\i<2 ^ 62/\-(2 ^ 62)<=j/\j<2 ^ 62)/\∀p,H p=none->Q (.ref p) (upd H p (.rng i j))):=rfl
def tF {X:Cx} {a b:Expr} {ta:TA} {p pos:Pos} (hg:Gl X "range") (hm:X.mg "range" = none) (ha:PA X [a,b] ta) (hs:starEach [a,b] X.env= [(false,eval a X.env),(false,eval b X.env)]:=by rfl) (hs2:starEach [b] X.env= [(false,eval b X.env)]:=by rfl):
  PE X (.Call (.Name "range" p) [a,b] [] pos) (Ae ta):=by
 intro pins s σ H Q I h;refine Call_ (lN I hg hm boot_range (PyProof.Rows.callWith_type1 (thn (ha pos pins s σ H _ I h) fun us s1 ⟨vs,H1,I1,r1,q1⟩=>?_) (by rw [hs,hs2]) (by rw [hs2];rfl)));replace q1:sZ vs H1 Q:=q1;unfold sZ at q1;split at q1
 ·
  rename_i i j;obtain ⟨u1,u2,rfl,⟨t,rfl⟩,⟨t',rfl⟩⟩:=vals2 r1;refine call_range_2 ?_;exact ⟨.ref s1.heap.objs.size,_,I1.laid (o:= .rng i j) (fun b u e=>Heap.get?_push_of_some _ e) (Nat.le_refl _) (show bK X.prog X.w _ _ _ (.rng i j) from ⟨_,_,_,Heap.get?_push_size _ rfl⟩),rfl,q1.2 _ (I1.hok.fresh (Nat.le_refl _))⟩
 ·exact q1.elim
def tK (K:W.Frag) (p:Addr) (H:Hp) (Q:VK):Option HO->Prop
 |some (.rng i j)=>(-(2 ^ 62)<=i/\i<2 ^ 62/\-(2 ^ 62)<=j/\j<2 ^ 62)/\(j - i).toNat<=1000000/\∀l,H l=none->Q (.ref l) (upd H l (.lst (fL i (j - i).toNat)))
 |_=>lD K [.ref p] H Q
def rY (K:W.Frag):List V->Hp->VK->Prop:=fun xs H Q=>match xs with
 | [.ref p]=>tK K p H Q (H p)
 |xs=>lD K xs H Q
def rX {K:W.Frag} {p:Addr} {H:Hp} {Q:VK}:rY K [.ref p] H Q=tK K p H Q (H p):=rfl
def vf {K:W.Frag} {p:Addr} {H:Hp} {Q:VK} {i j:Int}:tK K p H Q (some (.rng i j))=((-(2 ^ 62)<=i/\i<2 ^ 62/\-(2 ^ 62)<=j/\j<2 ^ 62)/\(j - i).toNat<=1000000/\∀l,H l=none->Q (.ref l) (upd H l (.lst (fL i (j - i).toNat)))):=rfl
def sP: ∀{xs:List V} {us:List Value},xs.length=us.length->(∀(k:Nat) x u,xs[k]?=some x->us[k]?=some u->RelV x u)->Vals xs us
 | [],[],_,_=> .nil
 | [],_::_,h,_=>by simp at h
 |_::_,[],h,_=>by simp at h
 |x::xs,u::us,h,hr=> .cons (hr 0 x u rfl rfl) (sP (by simpa using h) fun k a b ha hb=>hr (k+1) a b (by simpa using ha) (by simpa using hb))
def sr {i:Int} {n:Nat} {acc:Array Value} (h:ItemsOf (fun k v=> ∃t,v = .int (i+k*1) t) acc n):Vals (fL i n) acc.toList:=by
 refine sP (by simp [fL,h.1]) fun k x u hx hu=>?_;have hk:k<n:=by
  have:=(List.getElem?_eq_some_iff.mp hx).1;simpa [fL] using this
 obtain ⟨t,rfl⟩:=h.2 k u (by simpa using hu);have:x = .int (i+(k:Int)):=by
  unfold fL at hx;rw [List.getElem?_map,List.getElem?_range hk] at hx;exact (Option.some.inj hx).symm
 rw [this];exact ⟨t,by rw [Int.mul_one]⟩
def oq {X:Cx} (K:W.Frag) (hK:X.K=K) (hc:X.calm=true):bw X (.type "list") (rY K):=by
 intro pins s σ H xs us Q I rs q;unfold rY at q;split at q
 ·
  rename_i p;unfold tK at q;split at q
  ·
   rename_i i j e;obtain ⟨u,rfl,ru⟩:=vals1 rs;cases ru;obtain ⟨⟨b1,b2,b3,b4⟩,hn,q⟩:=q;obtain ⟨t,u,v,hr⟩:=(show bK X.prog X.w H s.heap p (.rng i j) from I.hok p _ e);refine call_list_range (n:=(j - i).toNat) (I.ok.hd hc) hr (small_one b1 b2 b3 b4) (by rw [rangeSize_one];split<;>lia) (by lia) fun h' tk acc' c' kp e1 it=>?_
   have rv:=sr it;exact ⟨.ref s.heap.objs.size,_,I.laid (t':=tk) kp (Nat.le_refl _) (show bK X.prog X.w _ h' _ (.lst (fL i (j - i).toNat)) from ⟨by rw [sizeLine_eq];simp [fL];lia,acc'.toList,c',rv,by simpa using e1⟩),rfl,q _ (I.hok.fresh (Nat.le_refl _))⟩
  ·exact oo K hK pins s σ H _ us Q I rs q
 ·exact oo K hK pins s σ H _ us Q I rs q
section
variable {X:Cx} {K:W.Frag}
end
section
variable {X:Cx} {a b c d:Expr} {ta tb tc td:TE} {pos:Pos}
end
noncomputable abbrev sk (s:Str):Key:=Sum.inr s
def Gv (z:Str) (H:Hp) (Q:VK):Option HO->Prop
 |some (.dK kvs)=> ∃v,aX kvs (sk z)=some v/\Q v H
 |_=>False
def sY:R2:=fun x y H Q=>match x,y with
 | .ref a,.str z=>Gv z H Q (H a)
 |_,_=>False
def uF {z:Str} {a:Addr} {H:Hp} {Q:VK}:sY (.ref a) (.str z) H Q=Gv z H Q (H a):=rfl
def Dh {z:Str} {H:Hp} {Q:VK} {kvs:List (Key×V)}:Gv z H Q (some (.dK kvs))= ∃v,aX kvs (sk z)=some v/\Q v H:=rfl
def Gu (a:Addr) (z:Str) (v:V) (H:Hp) (N:Hp->Prop):Option HO->Prop
 |some (.dK kvs)=>kvs.length<sizeLine/\N (upd H a (.dK (putK kvs (sk z) v)))
 |_=>False
def sX (x y v:V) (H:Hp) (N:Hp->Prop):Prop:=match x,y with
 | .ref a,.str z=>Gu a z v H N (H a)
 |_,_=>False
def wb (to ti tv:TE):TS:=fun D σ H=>tv σ H fun v H1=>to σ H1 fun x H2=>ti σ H2 fun y H3=>sX x y v H3 (D.nx σ)
def uE {z:Str} {a:Addr} {v:V} {H:Hp} {N:Hp->Prop}:sX (.ref a) (.str z) v H N=Gu a z v H N (H a):=rfl
def Df {a:Addr} {z:Str} {v:V} {H:Hp} {N:Hp->Prop} {kvs:List (Key×V)}:Gu a z v H N (some (.dK kvs))=(kvs.length<sizeLine/\N (upd H a (.dK (putK kvs (sk z) v)))):=rfl
section
variable {X:Cx} {i o e value:Expr} {ti to te tv:TE} {pos pos' apos cpos:Pos}
def vX {x y:V} {H:Hp} {Q:VK} (q:sY x y H Q): ∃z a kvs v,y = .str z/\x = .ref a/\H a=some (.dK kvs)/\aX kvs (sk z)=some v/\Q v H:=by
 unfold sY at q;split at q
 ·
  rename_i a z;unfold Gv at q;split at q
  ·rename_i kvs e1;obtain ⟨v,h1,h2⟩:=q;exact ⟨z,a,kvs,v,rfl,rfl,e1,h1,h2⟩
  ·exact q.elim
 ·exact q.elim
def ba (hu:X.A.units+64<cLine) (ho:PE X o to) (hi:PE X i ti) (hs:C0 i):PE X (.Subscript o i pos) (yC sY to ti):=by
 intro pins s σ H Q I h;have hu':X.A.units+1<cLine:=by lia
 refine sT PySem.F.slot_dict_getitem.lookup hs (thn (ho pins s σ H _ I h) fun u s1 ⟨x,H1,I1,rx,q1⟩=>thn (hi pins s1 σ H1 _ I1 q1) fun iv s2 ⟨y,H2,I2,ry,q2⟩=>?_);obtain ⟨z,a,kvs,v,rfl,rfl,e1,e2,q⟩:=vX q2;obtain rfl:u=Value.ref a:=rx;have g:m9 H2 a (.str z) (some v):=e2▸m9.k (k:=sk z) e1;exact ⟨mx I2 g,pZ hu' I2 g ry fun w' s3 I3 rw'=>⟨v,H2,I3,rw',q⟩⟩
def vV {x y v:V} {H:Hp} {N:Hp->Prop} (q:sX x y v H N): ∃z a kvs,y = .str z/\x = .ref a/\H a=some (.dK kvs)/\kvs.length<sizeLine/\N (upd H a (.dK (putK kvs (sk z) v))):=by
 unfold sX at q;split at q
 ·
  rename_i a z;unfold Gu at q;split at q
  ·rename_i kvs e1;exact ⟨z,a,kvs,rfl,rfl,e1,q⟩
  ·exact q.elim
 ·exact q.elim
def fM (hu:X.A.units+64<cLine) (ho:PE X o to) (hi:PE X i ti) (hv:PE X value tv) (hs:i_ value=false:=by rfl):PS X (.Assign [.Subscript o i pos'] value pos) (wb to ti tv):=by
 intro pins s σ H D I h;have hu':X.A.units+1<cLine:=by lia
 refine wpAny_Assign_Subscript (thn (hv pins s σ H _ I h) fun r s1 ⟨v,H1,I1,rv,q1⟩=>thn (ho pins s1 σ H1 _ I1 q1) fun u s2 ⟨x,H2,I2,rx,q2⟩=>thn (hi pins s2 σ H2 _ I2 q2) fun iv s3 ⟨y,H3,I3,ry,q3⟩=>?_) (iS hs);obtain ⟨z,a,kvs,rfl,rfl,e1,hl,q⟩:=vV q3;obtain rfl:u=Value.ref a:=rx;exact pY hu' I3 (yp.k (k:=sk z) e1 hl) ry rv fun s4 I4=>⟨σ,_,I4,q⟩
end
section
variable {X:Cx} {pins:List (Addr×Obj)} {σ:St} {H:Hp} {s:Shared} {h':Heap}
end
section
variable {X:Cx} {elts:List Expr} {x1:_} {tpos:Pos}
end
section
variable {K:W.Frag} {g:TG} {tb:TS} {D:Ends} {σ:St} {H:Hp} {ta:TA}
end
def zT (a:Addr) (i:Int) (z:V) (H:Hp) (Q:VK):Option HO->Prop
 |some (.dK kvs)=>(∀v,aX kvs (ik i)=some v->Q v (upd H a (.dK (cS kvs (ik i)))))/\(aX kvs (ik i)=none->Q z H)
 |_=>False
def qo (x y z:V) (H:Hp) (Q:VK):Prop:=match x,y with
 | .ref a,.int i=>zT a i z H Q (H a)
 |_,_=>False
def vR (to ti tz:TE):TE:=fun σ H Q=>to σ H fun x H1=>wD x H1/\ti σ H1 fun y H2=>tz σ H2 fun z H3=>qo x y z H3 Q
def r9 {i:Int} {a:Addr} {z:V} {H:Hp} {Q:VK}:qo (.ref a) (.int i) z H Q=zT a i z H Q (H a):=rfl
def CI {a:Addr} {i:Int} {z:V} {H:Hp} {Q:VK} {kvs:List (Key×V)}:zT a i z H Q (some (.dK kvs))=((∀v,aX kvs (ik i)=some v->Q v (upd H a (.dK (cS kvs (ik i)))))/\(aX kvs (ik i)=none->Q z H)):=rfl
section
variable {X:Cx} {o e f:Expr} {to te tf:TE} {apos cpos:Pos}
def vx {x y z:V} {H:Hp} {Q:VK} (q:qo x y z H Q): ∃j a kvs,y = .int j/\x = .ref a/\H a=some (.dK kvs)/\(∀v,aX kvs (ik j)=some v->Q v (upd H a (.dK (cS kvs (ik j)))))/\(aX kvs (ik j)=none->Q z H):=by
 unfold qo at q;split at q
 ·
  rename_i a j;unfold zT at q;split at q
  ·rename_i kvs e1;exact ⟨j,a,kvs,rfl,rfl,e1,q⟩
  ·exact q.elim
 ·exact q.elim
def zg (ho:PE X o to) (he:PE X e te) (hf:PE X f tf) (hb:attributeBase o "pop" X.env (eval o X.env)=eval o X.env:=by rfl)
  (
   hfew:((backTo cpos (starEach [e,f] X.env)).all (fun x=>!x.1)&&(backToKw cpos (keywordEach [] X.env)).all (fun x=>x.1.isSome)
   &&decide (([e,f]:List Expr).length+([]:List Keyword).length+(if ([]:List Keyword).isEmpty then 0 else 1)<30))=true:=by rfl)
  (hline:(apos.endLine == cpos.line)=true:=by rfl) (ht:backTo cpos (starEach [e,f] X.env)= [(false,eval e X.env),(false,eval f X.env)]:=by rfl):PE X (.Call (.Attribute o "pop" apos) [e,f] [] cpos) (vR to te tf):=by
 intro pins s σ H Q I h;refine wpAny_Call_method hb hfew hline PySem.F.plainAttrs_dict PySem.F.slot_dict_pop PySem.F.type_dict_pop (thn (ho pins s σ H _ I h) fun u s1 ⟨x,H1,I1,rx,hd,q1⟩=>?_);obtain ⟨a,kvs,rfl,e0⟩: ∃a kvs,x = .ref a/\H1 a=some (.dK kvs):=by
  unfold wD at hd;split at hd
  ·
   rename_i a;unfold xC at hd;split at hd
   ·rename_i kvs e;exact ⟨a,kvs,rfl,e⟩
   ·exact hd.elim
  ·exact hd.elim
 obtain rfl:u=Value.ref a:=rx;obtain ⟨t1,t2,_⟩:=xA I1 (.inl ⟨kvs,.inl e0⟩);refine ⟨t1,t2,?_⟩;rw [ht];refine Calls.callWith_builtin rfl (Calls.evalArgs_plain (Calls.spliced_cons (thn (he pins s1 σ H1 _ I1 q1) fun iv s2 ⟨y,H2,I2,ry,q2⟩=>
  Calls.spliced_cons (thn (hf pins s2 σ H2 _ I2 q2) fun fv s3 ⟨z,H3,I3,rz,q3⟩=>Calls.spliced_nil ?_))))
 obtain ⟨j,a',kvs',rfl,ea,e1,q4,q5⟩:=vx q3;cases ea;cases l:aX kvs' (ik j) with
 |some v=>exact AH I3 e1 (k:=ik j) ry l (.inr ⟨fv,rfl⟩) fun w' s4 I4 rw'=>⟨v,_,I4,rw',q4 v l⟩
 |none=>exact CO I3 e1 (k:=ik j) ry l fun s4 I4=>⟨z,H3,I4,rz,q5 l⟩
end
def wg {K:W.Frag} {a:Addr} {xs:List V} {lo hi:Option Int} {H:Hp} {Q:VK} (hS:fx K H a xs) (n: ¬(HT.dP xs.length 0 lo=0/\HT.dP xs.length xs.length hi=xs.length)) (h: ∀p,H p=none->Q (.ref p) (upd H p (.tup (l8 xs lo hi)))):uB K (.ref a) lo hi H Q:= .inr ⟨a,xs,rfl,hS,n,h⟩
section
variable {X:Cx} {pos:Pos}
structure QE (X:Cx) (e:Expr) (t:TE):Prop where
 h:PE X e t
structure QS (X:Cx) (st:Stmt) (t:TS):Prop where
 h:PS X st t
structure C5 (X:Cx) (l:List Stmt) (t:TS):Prop where
 h:qT X l t
def y0 {st:Stmt} {t:TS} (h1:QS X st t):C5 X [st] t:=⟨aw h1.h⟩
def cI {st:Stmt} {rest:List Stmt} {t u:TS} (h1:QS X st t) (h2:C5 X rest u):C5 X (st::rest) (AR t u):=⟨ah h1.h h2.h⟩
def y4 {i:Nat} {x:Str} {e:Expr} {te:TE} {pos':Pos} (hN:X.N.Nodup) (hi:X.N[i]?=some x) (hx:Loc X.env.scope x) (he:QE X e te) (h:i_ e=false:=by rfl) (hf:X.fn x=true\/X.env.scope.names.lookup x=some .local:=by first|exact .inl rfl|exact .inr rfl|assumption):
  QS X (.Assign [.Name x pos'] e pos) (vU te (j1 i)):=⟨aR hN hi hx he.h h hf⟩
def wV {k1 k2 k3 k4 k5 k6 k7 k8 v1 v2 v3 v4 v5 v6 v7 v8:Expr} {a1 a2 a3 a4 a5 a6 a7 a8 b1 b2 b3 b4 b5 b6 b7 b8:TE} (h1:QE X k1 a1) (g1:QE X v1 b1) (h2:QE X k2 a2) (g2:QE X v2 b2) (h3:QE X k3 a3) (g3:QE X v3 b3) (h4:QE X k4 a4) (g4:QE X v4 b4) (h5:QE X k5 a5) (g5:QE X v5 b5) (h6:QE X k6 a6) (g6:QE X v6 b6) (h7:QE X k7 a7) (g7:QE X v7 b7) (h8:QE X k8 a8) (g8:QE X v8 b8):
  QE X (.Dict [some k1,some k2,some k3,some k4,some k5,some k6,some k7,some k8] [v1,v2,v3,v4,v5,v6,v7,v8] pos) (vP [(a1,b1),(a2,b2),(a3,b3),(a4,b4),(a5,b5),(a6,b6),(a7,b7),(a8,b8)]):=
 ⟨zh (eM h1.h g1.h (eM h2.h g2.h (eM h3.h g3.h (eM h4.h g4.h (eM h5.h g5.h (eM h6.h g6.h (eM h7.h g7.h (eM h8.h g8.h y9)))))))) rfl rfl (List.cons_ne_nil _ _) (Nat.le_of_ble_eq_true rfl)⟩
end
end L2
namespace WaysM
noncomputable def nsp (a A b B m:Int):Int×Int:=low (3*b*A+((a - m*A).natAbs:Int)*B) (4*(A*B))
noncomputable def nsm (a A m:Int):Int×Int:=low (3*a+m*A) (4*A)
structure St (n:Nat) (P S D a A b B:Int):Prop where
 p:P=4 ^ n
 s0:0<=S
 s1:S<=1000000*P
 d0:0<=D
 d1:D<=2000000*P
 sa:a*P=S*A
 db:b*(2*P)=D*B
 a0:0<=a
 b0:0<=b
 pa: ∃i,A=2 ^ i
 pb: ∃j,B=2 ^ j
 oa: ¬(a % 2=0/\A % 2=0)
 ob: ¬(b % 2=0/\B % 2=0)
def two_pos (i:Nat):(0:Int)<2 ^ i:=by
 have:((2 ^ i:Nat):Int)=2 ^ i:=by simp
 have:=Nat.two_pow_pos i;lia
def xS (i:Nat):(0:Int)<4 ^ i:=by
 have:((4 ^ i:Nat):Int)=4 ^ i:=by simp
 have:0<4 ^ i:=Nat.pow_pos (by decide);lia
def St.A0 {n:Nat} {P S D a A b B:Int} (h:St n P S D a A b B):0<A:=by obtain ⟨i,e⟩:=h.pa;rw [e];exact two_pos i
def St.B0 {n:Nat} {P S D a A b B:Int} (h:St n P S D a A b B):0<B:=by obtain ⟨i,e⟩:=h.pb;rw [e];exact two_pos i
def St.P0 {n:Nat} {P S D a A b B:Int} (h:St n P S D a A b B):0<P:=by rw [h.p];exact xS n
def kK {b B D:Int} {k j:Nat} (hB:B=2 ^ j) (h:b*2 ^ k=D*B) (o: ¬(b % 2=0/\B % 2=0)):B<=2 ^ k:=by
 by_cases hj:j<=k
 ·
  rw [hB];obtain ⟨d,rfl⟩:=Nat.exists_eq_add_of_le hj;have h1:(1:Int)<=2 ^ d:=by have:=two_pos d;lia
  have h2:=two_pos j;rw [Int.pow_add];have:=Int.mul_le_mul_of_nonneg_left h1 (Int.le_of_lt h2);lia
 ·
  exfalso;obtain ⟨d,rfl⟩:=Nat.exists_eq_add_of_le (show k+1<=j by lia);apply o;have e:(2:Int) ^ (k+1+d)=2 ^ k*(2*2 ^ d):=by rw [Int.pow_add,Int.pow_succ,Int.mul_assoc]
  rw [hB,e] at h;have h2:b=D*(2*2 ^ d):=by
   apply Int.eq_of_mul_eq_mul_left (Int.ne_of_gt (two_pos k));rw [Int.mul_comm,h];rw [Int.mul_left_comm]
  constructor
  ·rw [h2,Int.mul_left_comm];exact Int.mul_emod_right _ _
  ·rw [hB,e,Int.mul_left_comm];exact Int.mul_emod_right _ _
def kZ (n:Nat):(4:Int) ^ n=2 ^ (2*n):=by rw [Int.pow_mul];rfl
def St.A1 {n:Nat} {P S D a A b B:Int} (h:St n P S D a A b B):A<=P:=by
 obtain ⟨i,e⟩:=h.pa;have h1:=h.sa;rw [h.p,kZ] at h1;rw [h.p,kZ];exact kK e h1 h.oa
def St.B1 {n:Nat} {P S D a A b B:Int} (h:St n P S D a A b B):B<=2*P:=by
 obtain ⟨i,e⟩:=h.pb;have h1:=h.db;have e2:2*P=2 ^ (2*n+1):=by rw [h.p,kZ,Int.pow_succ];lia
 rw [e2] at h1⊢;exact kK e h1 h.ob
def St.a1 {n:Nat} {P S D a A b B:Int} (h:St n P S D a A b B):a<=S:=by
 have h1:=Int.mul_le_mul_of_nonneg_left h.A1 h.s0;rw [<-h.sa] at h1;exact Int.le_of_mul_le_mul_right h1 h.P0
def St.b1 {n:Nat} {P S D a A b B:Int} (h:St n P S D a A b B):b<=D:=by
 have h1:=Int.mul_le_mul_of_nonneg_left h.B1 h.d0;rw [<-h.db] at h1;exact Int.le_of_mul_le_mul_right h1 (by have:=h.P0;lia)
def cancel {s x y:Int} (hs:0<s) (h:s*x=s*y):x=y:=Int.eq_of_mul_eq_mul_left (Int.ne_of_gt hs) h
def St.first {m:Int} (h0:0<=m) (h1:m<=1000000):St 0 1 m m m 1 (low m 2).1 (low m 2).2:=by
 obtain ⟨s,L⟩:=gL (t:=m) (b:=2) h0 (by decide);obtain ⟨j,_,ej⟩:=i4 1 s _ L.s0 L.b0 (by simpa using L.bb);refine ⟨rfl,h0,by lia,h0,by lia,rfl,?_,h0,L.t0,⟨0,rfl⟩,⟨j,ej⟩,by lia,L.od⟩;apply cancel L.s0;have e1:=L.tt;have e2:=L.bb;generalize (low m 2).1=t at*
 generalize (low m 2).2=b at*
 rw [e1] at*
 grind
def St.step {n:Nat} {P S D a A b B m:Int} (h:St n P S D a A b B) (h0:0<=m) (h1:m<=1000000):
  St (n+1) (4*P) (3*S+m*P) (3*D+2*((S - m*P).natAbs:Int)) (nsm a A m).1 (nsm a A m).2 (nsp a A b B m).1 (nsp a A b B m).2:=by
 have A0:=h.A0;have B0:=h.B0;have P0:=h.P0;have a0:=h.a0;have b0:=h.b0;have sa:=h.sa;have db:=h.db;have s0:=h.s0;have s1:=h.s1;have d0:=h.d0;have d1:=h.d1;have mA:=Int.mul_nonneg h0 (Int.le_of_lt A0);have mP:=Int.mul_nonneg h0 (Int.le_of_lt P0);have mP1:=Int.mul_le_mul_of_nonneg_right h1 (Int.le_of_lt P0);have AB:=Int.mul_pos A0 B0;have bA:=Int.mul_nonneg b0 (Int.le_of_lt A0);have xB:=Int.mul_nonneg (Int.natCast_nonneg (a - m*A).natAbs) (Int.le_of_lt B0);obtain ⟨s,L⟩:=gL (t:=3*a+m*A) (b:=4*A) (by lia) (by lia);obtain ⟨r,M⟩:=gL (t:=3*b*A+((a - m*A).natAbs:Int)*B) (b:=4*(A*B)) (by rw [Int.mul_assoc];lia) (by lia);obtain ⟨i,ei⟩:=h.pa;obtain ⟨j,ej⟩:=h.pb;have p1:(2:Int) ^ (i+2)=s*(nsm a A m).2:=by
  refine Eq.trans ?_ L.bb;rw [ei,Int.pow_add,Int.mul_comm];rfl
 have p2:(2:Int) ^ (i+j+2)=r*(nsp a A b B m).2:=by
  refine Eq.trans ?_ M.bb;rw [ei,ej,<-Int.pow_add,Int.pow_add _ _ 2,Int.mul_comm];rfl
 obtain ⟨i',_,ei'⟩:=i4 _ _ _ L.s0 L.b0 p1;obtain ⟨j',_,ej'⟩:=i4 _ _ _ M.s0 M.b0 p2;refine ⟨by rw [h.p,Int.pow_succ,Int.mul_comm],by lia,by lia,by lia,by lia,?_,?_,L.t0,M.t0,⟨i',ei'⟩,⟨j',ej'⟩,L.od,M.od⟩
 ·
  apply cancel L.s0;have e1:=L.tt;have e2:=L.bb;unfold nsm;generalize (low (3*a+m*A) (4*A)).1=t at*
  generalize (low (3*a+m*A) (4*A)).2=u at*
  have k1:s*(t*(4*P))=(3*a+m*A)*(4*P):=by rw [e1];grind
  have k2:s*((3*S+m*P)*u)=(3*S+m*P)*(4*A):=by rw [e2];grind
  rw [k1,k2];have:(3*a+m*A)*(4*P)=12*(a*P)+4*(m*A*P):=by grind
  rw [this,sa]
  grind
 ·
  apply cancel M.s0;have e1:=M.tt;have e2:=M.bb;unfold nsp;have ab:((a - m*A).natAbs:Int)*P=((S - m*P).natAbs:Int)*A:=by
   have q1:((a - m*A)*P).natAbs=((S - m*P)*A).natAbs:=by
    have:(a - m*A)*P=(S - m*P)*A:=by
     rw [Int.sub_mul,Int.sub_mul,sa];grind
    rw [this]
   rw [Int.natAbs_mul,Int.natAbs_mul] at q1;have q2:((P.natAbs:Nat):Int)=P:=by lia
   have q3:((A.natAbs:Nat):Int)=A:=by lia
   have q4:(((a - m*A).natAbs*P.natAbs:Nat):Int)=(((S - m*P).natAbs*A.natAbs:Nat):Int):=by rw [q1]
   rw [Int.natCast_mul,Int.natCast_mul,q2,q3] at q4;exact q4
  generalize ((a - m*A).natAbs:Int)=x at*
  generalize ((S - m*P).natAbs:Int)=y at*
  generalize (low (3*b*A+x*B) (4*(A*B))).1=t at*
  generalize (low (3*b*A+x*B) (4*(A*B))).2=u at*
  have k1:r*(t*(2*(4*P)))=(3*b*A+x*B)*(2*(4*P)):=by rw [e1];grind
  have k2:r*((3*D+2*y)*u)=(3*D+2*y)*(4*(A*B)):=by rw [e2];grind
  rw [k1,k2];have:(3*b*A+x*B)*(2*(4*P))=12*A*(b*(2*P))+8*B*(x*P):=by grind
  rw [this,db,ab]
  grind
end WaysM
namespace K55
open PySem L2 Com
def aq (u:TS):TS:=u
def ay {X:Cx} {l:List Stmt} {u:TS} (h:qT X l u):qT X l (aq u):=h
def c9 {X:Cx} {l:List Stmt} {u:TS} (h:C5 X l u):C5 X l (aq u):=⟨h.h⟩
noncomputable def top (i:Nat):Stmt:=Challenge.pw_slowroad_k55_what_goes.main.body.getD i (.Pass ⟨0,0,0,0⟩)
abbrev gE (ps:List Str) (x y:Str) (s:Stmt):Prop:= ∀(kV doc pm:Value) (an:Option Addr) (cdv ct:Value) (us:List Value),us.length=ps.length->bindArgs (W.fnOf x y (dX s) (cP s) (aD s) .none kV doc pm an cdv ct) ⟨us,[]⟩=pure (ps.zip us)
def Ay {α:Type} {us:List α} (h:us.length=1): ∃a0,us= [a0]:=List.length_eq_one_iff.mp h
def Ax {α:Type} {us:List α} (h:us.length=2): ∃a0 a1,us= [a0,a1]:=by
 obtain ⟨a,t,rfl⟩:=List.exists_cons_of_length_eq_add_one h;obtain ⟨b0,rfl⟩:=Ay (Nat.succ.inj h);exact ⟨a,b0,rfl⟩
def Aw {α:Type} {us:List α} (h:us.length=3): ∃a0 a1 a2,us= [a0,a1,a2]:=by
 obtain ⟨a,t,rfl⟩:=List.exists_cons_of_length_eq_add_one h;obtain ⟨b0,b1,rfl⟩:=Ax (Nat.succ.inj h);exact ⟨a,b0,b1,rfl⟩
def Av {α:Type} {us:List α} (h:us.length=4): ∃a0 a1 a2 a3,us= [a0,a1,a2,a3]:=by
 obtain ⟨a,t,rfl⟩:=List.exists_cons_of_length_eq_add_one h;obtain ⟨b0,b1,b2,rfl⟩:=Aw (Nat.succ.inj h);exact ⟨a,b0,b1,b2,rfl⟩
def Au {α:Type} {us:List α} (h:us.length=5): ∃a0 a1 a2 a3 a4,us= [a0,a1,a2,a3,a4]:=by
 obtain ⟨a,t,rfl⟩:=List.exists_cons_of_length_eq_add_one h;obtain ⟨b0,b1,b2,b3,rfl⟩:=Av (Nat.succ.inj h);exact ⟨a,b0,b1,b2,b3,rfl⟩
def FF {α:Type} {us:List α} (h:us.length=6): ∃a0 a1 a2 a3 a4 a5,us= [a0,a1,a2,a3,a4,a5]:=by
 obtain ⟨a,t,rfl⟩:=List.exists_cons_of_length_eq_add_one h;obtain ⟨b0,b1,b2,b3,b4,rfl⟩:=Au (Nat.succ.inj h);exact ⟨a,b0,b1,b2,b3,b4,rfl⟩
def FE {α:Type} {us:List α} (h:us.length=7): ∃a0 a1 a2 a3 a4 a5 a6,us= [a0,a1,a2,a3,a4,a5,a6]:=by
 obtain ⟨a,t,rfl⟩:=List.exists_cons_of_length_eq_add_one h;obtain ⟨b0,b1,b2,b3,b4,b5,rfl⟩:=FF (Nat.succ.inj h);exact ⟨a,b0,b1,b2,b3,b4,b5,rfl⟩
set_option hygiene false in
local macro_rules | `(tactic| exists 2) => `(tactic| exact ⟨rfl,rfl,rfl,by decide +kernel,rfl,by decide +kernel,by decide +kernel⟩)
set_option hygiene false in
local macro_rules | `(tactic| exists 3) => `(tactic| (intro _ _ _ _ _ _ us hl; first | (obtain ⟨_,rfl⟩ := Ay hl; rfl) | (obtain ⟨_,_,rfl⟩ := Ax hl; rfl) | (obtain ⟨_,_,_,rfl⟩ := Aw hl; rfl) | (obtain ⟨_,_,_,_,rfl⟩ := Av hl; rfl) | (obtain ⟨_,_,_,_,_,rfl⟩ := Au hl; rfl) | (obtain ⟨_,_,_,_,_,_,_,rfl⟩ := FE hl; rfl)))
noncomputable abbrev ez:Stmt:=inClass (top 1) 0
def kM:aH ["self","most"] ["self","most"] (aD ez):=by exists 2
def lr:gE ["self","most"] "__init__" "Meter.__init__" ez:=by exists 3
noncomputable abbrev gv:Stmt:=inClass (top 1) 1
def iW:aH ["self","many","piece"] ["self","many"] (aD gv):=by exists 2
def oy:gE ["self","many"] "known" "Meter.known" gv:=by exists 3
noncomputable abbrev er:Stmt:=inClass (top 1) 2
def kL:aH ["self"] ["self"] (aD er):=by exists 2
def lq:gE ["self"] "know_one" "Meter.know_one" er:=by exists 3
noncomputable abbrev hV:Stmt:=inClass (top 1) 3
def oJ:aH ["self"] ["self"] (aD hV):=by exists 2
def pz:gE ["self"] "half" "Meter.half" hV:=by exists 3
noncomputable abbrev fb:Stmt:=inClass (top 1) 4
def lB:aH ["self"] ["self"] (aD fb):=by exists 2
def mh:gE ["self"] "ran_out" "Meter.ran_out" fb:=by exists 3
noncomputable abbrev fc:Stmt:=inClass (top 1) 5
def lC:aH ["self"] ["self"] (aD fc):=by exists 2
def mi:gE ["self"] "hurried" "Meter.hurried" fc:=by exists 3
noncomputable abbrev ql:Stmt:=top 3
def vZ:aH ["ring","one","other"] ["ring","one","other"] (aD ql):=by exists 2
def yh:gE ["ring","one","other"] "ahead" "ahead" ql:=by exists 3
noncomputable abbrev nH:Stmt:=top 6
def pJ:aH ["top","bottom","shared"] ["top","bottom"] (aD nH):=by exists 2
def vF:gE ["top","bottom"] "lowest" "lowest" nH:=by exists 3
noncomputable abbrev e9:Stmt:=inClass (top 7) 0
def lA:aH ["self","first","longest"] ["self","first","longest"] (aD e9):=by exists 2
def me:gE ["self","first","longest"] "__init__" "Ways.__init__" e9:=by exists 3
noncomputable abbrev eZ:Stmt:=inClass (top 7) 1
def lz:aH ["self","m"] ["self","m"] (aD eZ):=by exists 2
def ma:gE ["self","m"] "measured" "Ways.measured" eZ:=by exists 3
noncomputable abbrev dg:Stmt:=inClass (top 7) 2
def c6:aH ["self","m","bottoms","away"] ["self","m"] (aD dg):=by exists 2
def jQ:gE ["self","m"] "next_spread" "Ways.next_spread" dg:=by exists 3
noncomputable abbrev dh:Stmt:=inClass (top 7) 3
def jw:aH ["self","m"] ["self","m"] (aD dh):=by exists 2
def jR:gE ["self","m"] "next_smooth" "Ways.next_smooth" dh:=by exists 3
noncomputable abbrev dM:Stmt:=inClass (top 7) 4
def fG:aH ["self","top"] ["self"] (aD dM):=by exists 2
def kF:gE ["self"] "least_wait" "Ways.least_wait" dM:=by exists 3
noncomputable abbrev fJ:Stmt:=inClass (top 7) 5
def mD:aH ["self"] ["self"] (aD fJ):=by exists 2
def m7:gE ["self"] "ran_out" "Ways.ran_out" fJ:=by exists 3
noncomputable abbrev dO:Stmt:=inClass (top 10) 0
def j7:aH ["self","ring","first","longest","most"] ["self","ring","first","longest","most"] (aD dO):=by exists 2
def kH:gE ["self","ring","first","longest","most"] "__init__" "Sender.__init__" dO:=by exists 3
noncomputable abbrev hU:Stmt:=inClass (top 10) 1
def oI:aH ["self","thing"] ["self","thing"] (aD hU):=by exists 2
def pq:gE ["self","thing"] "put" "Sender.put" hU:=by exists 3
noncomputable abbrev gu:Stmt:=inClass (top 10) 2
def nG:aH ["self"] ["self"] (aD gu):=by exists 2
def ox:gE ["self"] "many" "Sender.many" gu:=by exists 3
noncomputable abbrev fK:Stmt:=inClass (top 10) 4
def c_:aH ["self","number","room","held","turn","steps","fresh","place"] ["self","number","room","held","turn"] (aD fK):=by exists 2
def m8:gE ["self","number","room","held","turn"] "heard" "Sender.heard" fK:=by exists 3
noncomputable abbrev dr:Stmt:=inClass (top 10) 5
def fq:aH ["self","steps","low"] ["self","steps"] (aD dr):=by exists 2
def jV:gE ["self","steps"] "grow_base" "Sender.grow_base" dr:=by exists 3
noncomputable abbrev dq:Stmt:=inClass (top 10) 6
def jz:aH ["self","held"] ["self","held"] (aD dq):=by exists 2
def jU:gE ["self","held"] "note_held" "Sender.note_held" dq:=by exists 3
noncomputable abbrev cH:Stmt:=inClass (top 10) 7
def cv:aH ["self","places","fresh","place"] ["self","places"] (aD cH):=by exists 2
def iP:gE ["self","places"] "newly_known" "Sender.newly_known" cH:=by exists 3
noncomputable abbrev bL:Stmt:=inClass (top 10) 8
def fH:aH ["self"] ["self"] (aD bL):=by exists 2
def fU:gE ["self"] "known_above_base" "Sender.known_above_base" bL:=by exists 3
noncomputable abbrev di:Stmt:=inClass (top 10) 9
def jx:aH ["self"] ["self"] (aD di):=by exists 2
def jS:gE ["self"] "under_way" "Sender.under_way" di:=by exists 3
noncomputable abbrev cG:Stmt:=inClass (top 10) 10
def iK:aH ["self"] ["self"] (aD cG):=by exists 2
def iO:gE ["self"] "thing_waits" "Sender.thing_waits" cG:=by exists 3
noncomputable abbrev cx:Stmt:=inClass (top 10) 11
def gZ:aH ["self","turn"] ["self","turn"] (aD cx):=by exists 2
def iH:gE ["self","turn"] "clock_is_out" "Sender.clock_is_out" cx:=by exists 3
noncomputable abbrev cw:Stmt:=inClass (top 10) 12
def gY:aH ["self"] ["self"] (aD cw):=by exists 2
def iG:gE ["self"] "hurry_is_due" "Sender.hurry_is_due" cw:=by exists 3
noncomputable abbrev c7:Stmt:=inClass (top 10) 13
def iV:aH ["self"] ["self"] (aD c7):=by exists 2
def jn:gE ["self"] "new_may_go" "Sender.new_may_go" c7:=by exists 3
noncomputable abbrev i0:Stmt:=inClass (top 10) 14
def qk:aH ["self","turn"] ["self","turn"] (aD i0):=by exists 2
def qO:gE ["self","turn"] "go" "Sender.go" i0:=by exists 3
noncomputable abbrev dj:Stmt:=inClass (top 10) 15
def jy:aH ["self","turn"] ["self","turn"] (aD dj):=by exists 2
def jT:gE ["self","turn"] "set_clock" "Sender.set_clock" dj:=by exists 3
noncomputable abbrev dN:Stmt:=inClass (top 10) 16
def j6:aH ["self","turn"] ["self","turn"] (aD dN):=by exists 2
def kG:gE ["self","turn"] "go_again" "Sender.go_again" dN:=by exists 3
noncomputable abbrev e_:Stmt:=inClass (top 10) 17
def gF:aH ["self","turn","place"] ["self","turn"] (aD e_):=by exists 2
def mf:gE ["self","turn"] "go_new" "Sender.go_new" e_:=by exists 3
noncomputable abbrev cy:Stmt:=inClass (top 10) 18
def g9:aH ["self","turn"] ["self","turn"] (aD cy):=by exists 2
def iI:gE ["self","turn"] "ask_for_room" "Sender.ask_for_room" cy:=by exists 3
noncomputable abbrev fI:Stmt:=top 12
def mC:aH ["_law_script","_law_k"] ["_law_script","_law_k"] (aD fI):=by exists 2
def m6:gE ["_law_script","_law_k"] "_law_cell_at" "_law_cell_at" fI:=by exists 3
noncomputable abbrev g_:Stmt:=top 13
def eE:aH ["_law_cell","_law_k","_law_number_here","_law_step"] ["_law_cell","_law_k"] (aD g_):=by exists 2
def o_:gE ["_law_cell","_law_k"] "_law_mixed" "_law_mixed" g_:=by exists 3
noncomputable abbrev gr:Stmt:=top 14
def iU:aH ["_law_cell","_law_base","_law_top","_law_ring","_law_way"] ["_law_cell","_law_base","_law_top","_law_ring"] (aD gr):=by exists 2
def ou:gE ["_law_cell","_law_base","_law_top","_law_ring"] "_law_number" "_law_number" gr:=by exists 3
noncomputable abbrev hJ:Stmt:=top 15
def oH:aH ["_law_now"] ["_law_now"] (aD hJ):=by exists 2
def pj:gE ["_law_now"] "_law_above" "_law_above" hJ:=by exists 3
noncomputable abbrev j8:Stmt:=top 16
def gb:aH ["_law_now","_law_turn","_law_window","_law_base","_law_top","_law_above_here"] ["_law_now","_law_turn","_law_window"] (aD j8):=by exists 2
def rJ:gE ["_law_now","_law_turn","_law_window"] "_law_due" "_law_due" j8:=by exists 3
noncomputable abbrev gs:Stmt:=top 17
def nF:aH ["_law_due_here","_law_now","_law_ways","_law_meter"] ["_law_due_here","_law_now","_law_ways","_law_meter"] (aD gs):=by exists 2
def ow:gE ["_law_due_here","_law_now","_law_ways","_law_meter"] "_law_beside" "_law_beside" gs:=by exists 3
noncomputable abbrev iZ:Stmt:=top 18
def gX:aH ["_law_sender","_law_now","_law_turn","_law_ways","_law_meter","_law_due_here","_law_found"] ["_law_sender","_law_now","_law_turn","_law_ways","_law_meter"] (aD iZ):=by exists 2
def qN:gE ["_law_sender","_law_now","_law_turn","_law_ways","_law_meter"] "_law_gone" "_law_gone" iZ:=by exists 3
noncomputable abbrev iX:Stmt:=top 19
def fu:aH ["_law_now","_law_places","_law_turn","_law_ways","_law_meter","_law_many","_law_place"] ["_law_now","_law_places","_law_turn","_law_ways","_law_meter"] (aD iX):=by exists 2
def qL:gE ["_law_now","_law_places","_law_turn","_law_ways","_law_meter"] "_law_told" "_law_told" iX:=by exists 3
noncomputable abbrev hG:Stmt:=top 20
def bI:aH ["_law_sender","_law_now","_law_cell","_law_turn","_law_ring","_law_ways","_law_meter","_law_base","_law_number_here","_law_room","_law_marks","_law_held","_law_far","_law_places"] ["_law_sender","_law_now","_law_cell","_law_turn","_law_ring","_law_ways","_law_meter"] (aD hG):=by exists 2
def ph:gE ["_law_sender","_law_now","_law_cell","_law_turn","_law_ring","_law_ways","_law_meter"] "_law_heard" "_law_heard" hG:=by exists 3
noncomputable abbrev iY:Stmt:=top 21
def gW:aH ["_law_sender","_law_ways","_law_meter","_law_one","_law_other"] ["_law_sender","_law_ways","_law_meter"] (aD iY):=by exists 2
def qM:gE ["_law_sender","_law_ways","_law_meter"] "_law_same" "_law_same" iY:=by exists 3
noncomputable abbrev wa:Stmt:=top 22
def cZ:aH ["_law_script","_law_cell","_law_ring","_law_first","_law_longest","_law_most","_law_sender","_law_ways","_law_meter","_law_now","_law_turn","_law_k","_law_again"] ["_law_script"] (aD wa):=by exists 2
def yg:gE ["_law_script"] "law" "law" wa:=by exists 3
section
variable {x v0 v1 v2 v3 v4 v5 v6 v7 v8 v9 v10 v11:V}
noncomputable def kC (v0:V):List (Str×V):=[("most",v0)]
def oe:(kC v0).length<1000:=by show 1<1000;decide
def n_:bD "most" v0 []=kC v0:=by kernel_rfl
noncomputable def kB (v0 v1:V):List (Str×V):=[("most",v0),("window",v1)]
def n9:(kB v0 v1).length<1000:=by show 2<1000;decide
def n8:bD "window" v1 (kC v0)=kB v0 v1:=by kernel_rfl
noncomputable def kA (v0 v1 v2:V):List (Str×V):=[("most",v0),("window",v1),("knee",v2)]
def n6:(kA v0 v1 v2).length<1000:=by show 3<1000;decide
def nZ:bD "knee" v2 (kB v0 v1)=kA v0 v1 v2:=by kernel_rfl
noncomputable def aE (v0 v1 v2 v3:V):List (Str×V):=[("most",v0),("window",v1),("knee",v2),("counted",v3)]
def qE:(aE v0 v1 v2 v3).length<1000:=by show 4<1000;decide
def qD:bD "counted" v3 (kA v0 v1 v2)=aE v0 v1 v2 v3:=by kernel_rfl
def lj:(aE v0 v1 v2 v3).lookup ("most" : Str)=some v0:=by kernel_rfl
def jO:(aE v0 v1 v2 v3).lookup ("window" : Str)=some v1:=by kernel_rfl
def ll:(aE v0 v1 v2 v3).lookup ("knee" : Str)=some v2:=by kernel_rfl
def ji:(aE v0 v1 v2 v3).lookup ("counted" : Str)=some v3:=by kernel_rfl
def jL:bD "window" x (aE v0 v1 v2 v3)=aE v0 x v2 v3:=by kernel_rfl
def lg:bD "knee" x (aE v0 v1 v2 v3)=aE v0 v1 x v3:=by kernel_rfl
def jg:bD "counted" x (aE v0 v1 v2 v3)=aE v0 v1 v2 x:=by kernel_rfl
def lh:(aE v0 v1 v2 v3).lookup ("known" : Str)=none:=by kernel_rfl
def jh:(aE v0 v1 v2 v3).lookup ("know_one" : Str)=none:=by kernel_rfl
def l7:(aE v0 v1 v2 v3).lookup ("half" : Str)=none:=by kernel_rfl
def jM:(aE v0 v1 v2 v3).lookup ("ran_out" : Str)=none:=by kernel_rfl
def jN:(aE v0 v1 v2 v3).lookup ("hurried" : Str)=none:=by kernel_rfl
noncomputable def lV (v0:V):List (Str×V):=[("longest",v0)]
def oV:(lV v0).length<1000:=by show 1<1000;decide
def oU:bD "longest" v0 []=lV v0:=by kernel_rfl
noncomputable def lU (v0 v1:V):List (Str×V):=[("longest",v0),("smooth",v1)]
def oT:(lU v0 v1).length<1000:=by show 2<1000;decide
def oS:bD "smooth" v1 (lV v0)=lU v0 v1:=by kernel_rfl
noncomputable def lT (v0 v1 v2:V):List (Str×V):=[("longest",v0),("smooth",v1),("spread",v2)]
def oR:(lT v0 v1 v2).length<1000:=by show 3<1000;decide
def oQ:bD "spread" v2 (lU v0 v1)=lT v0 v1 v2:=by kernel_rfl
noncomputable def aK (v0 v1 v2 v3:V):List (Str×V):=[("longest",v0),("smooth",v1),("spread",v2),("wait",v3)]
def rq:(aK v0 v1 v2 v3).length<1000:=by show 4<1000;decide
def rp:bD "wait" v3 (lT v0 v1 v2)=aK v0 v1 v2 v3:=by kernel_rfl
def jG:(aK v0 v1 v2 v3).lookup ("longest" : Str)=some v0:=by kernel_rfl
def km:(aK v0 v1 v2 v3).lookup ("smooth" : Str)=some v1:=by kernel_rfl
def kj:(aK v0 v1 v2 v3).lookup ("spread" : Str)=some v2:=by kernel_rfl
def lS:(aK v0 v1 v2 v3).lookup ("wait" : Str)=some v3:=by kernel_rfl
def kh:bD "smooth" x (aK v0 v1 v2 v3)=aK v0 x v2 v3:=by kernel_rfl
def kg:bD "spread" x (aK v0 v1 v2 v3)=aK v0 v1 x v3:=by kernel_rfl
def lR:bD "wait" x (aK v0 v1 v2 v3)=aK v0 v1 v2 x:=by kernel_rfl
def jF:(aK v0 v1 v2 v3).lookup ("measured" : Str)=none:=by kernel_rfl
def iq:(aK v0 v1 v2 v3).lookup ("next_spread" : Str)=none:=by kernel_rfl
def ir:(aK v0 v1 v2 v3).lookup ("next_smooth" : Str)=none:=by kernel_rfl
def iM:(aK v0 v1 v2 v3).lookup ("least_wait" : Str)=none:=by kernel_rfl
def ki:(aK v0 v1 v2 v3).lookup ("ran_out" : Str)=none:=by kernel_rfl
noncomputable def gi (v0:V):List (Str×V):=[("ring",v0)]
def m4:(gi v0).length<1000:=by show 1<1000;decide
def mZ:bD "ring" v0 []=gi v0:=by kernel_rfl
noncomputable def eU (v0 v1:V):List (Str×V):=[("ring",v0),("ways",v1)]
def mY:(eU v0 v1).length<1000:=by show 2<1000;decide
def mX:bD "ways" v1 (gi v0)=eU v0 v1:=by kernel_rfl
noncomputable def eS (v0 v1 v2:V):List (Str×V):=[("ring",v0),("ways",v1),("meter",v2)]
def mW:(eS v0 v1 v2).length<1000:=by show 3<1000;decide
def mV:bD "meter" v2 (eU v0 v1)=eS v0 v1 v2:=by kernel_rfl
noncomputable def jf (v0 v1 v2 v3:V):List (Str×V):=[("ring",v0),("ways",v1),("meter",v2),("things",v3)]
def mU:(jf v0 v1 v2 v3).length<1000:=by show 4<1000;decide
def mT:bD "things" v3 (eS v0 v1 v2)=jf v0 v1 v2 v3:=by kernel_rfl
noncomputable def je (v0 v1 v2 v3 v4:V):List (Str×V):=[("ring",v0),("ways",v1),("meter",v2),("things",v3),("base",v4)]
def mS:(je v0 v1 v2 v3 v4).length<1000:=by show 5<1000;decide
def mR:bD "base" v4 (jf v0 v1 v2 v3)=je v0 v1 v2 v3 v4:=by kernel_rfl
noncomputable def jd (v0 v1 v2 v3 v4 v5:V):List (Str×V):=[("ring",v0),("ways",v1),("meter",v2),("things",v3),("base",v4),("top",v5)]
def mQ:(jd v0 v1 v2 v3 v4 v5).length<1000:=by show 6<1000;decide
def mO:bD "top" v5 (je v0 v1 v2 v3 v4)=jd v0 v1 v2 v3 v4 v5:=by kernel_rfl
noncomputable def jc (v0 v1 v2 v3 v4 v5 v6:V):List (Str×V):=[("ring",v0),("ways",v1),("meter",v2),("things",v3),("base",v4),("top",v5),("edge",v6)]
def mN:(jc v0 v1 v2 v3 v4 v5 v6).length<1000:=by show 7<1000;decide
def mM:bD "edge" v6 (jd v0 v1 v2 v3 v4 v5)=jc v0 v1 v2 v3 v4 v5 v6:=by kernel_rfl
noncomputable def jb (v0 v1 v2 v3 v4 v5 v6 v7:V):List (Str×V):=[("ring",v0),("ways",v1),("meter",v2),("things",v3),("base",v4),("top",v5),("edge",v6),("clock",v7)]
def mL:(jb v0 v1 v2 v3 v4 v5 v6 v7).length<1000:=by show 8<1000;decide
def mK:bD "clock" v7 (jc v0 v1 v2 v3 v4 v5 v6)=jb v0 v1 v2 v3 v4 v5 v6 v7:=by kernel_rfl
noncomputable def eQ (v0 v1 v2 v3 v4 v5 v6 v7 v8:V):List (Str×V):=[("ring",v0),("ways",v1),("meter",v2),("things",v3),("base",v4),("top",v5),("edge",v6),("clock",v7),("base_hurried",v8)]
def mJ:(eQ v0 v1 v2 v3 v4 v5 v6 v7 v8).length<1000:=by show 9<1000;decide
def mI:bD "base_hurried" v8 (jb v0 v1 v2 v3 v4 v5 v6 v7)=eQ v0 v1 v2 v3 v4 v5 v6 v7 v8:=by kernel_rfl
noncomputable def dW (v0 v1 v2 v3 v4 v5 v6 v7 v8 v9:V):List (Str×V):=[("ring",v0),("ways",v1),("meter",v2),("things",v3),("base",v4),("top",v5),("edge",v6),("clock",v7),("base_hurried",v8),("known_places",v9)]
def l0:(dW v0 v1 v2 v3 v4 v5 v6 v7 v8 v9).length<1000:=by show 10<1000;decide
def lZ:bD "known_places" v9 (eQ v0 v1 v2 v3 v4 v5 v6 v7 v8)=dW v0 v1 v2 v3 v4 v5 v6 v7 v8 v9:=by kernel_rfl
noncomputable def dU (v0 v1 v2 v3 v4 v5 v6 v7 v8 v9 v10:V):List (Str×V):=[("ring",v0),("ways",v1),("meter",v2),("things",v3),("base",v4),("top",v5),("edge",v6),("clock",v7),("base_hurried",v8),("known_places",v9),("first_turns",v10)]
def lY:(dU v0 v1 v2 v3 v4 v5 v6 v7 v8 v9 v10).length<1000:=by show 11<1000;decide
def lX:bD "first_turns" v10 (dW v0 v1 v2 v3 v4 v5 v6 v7 v8 v9)=dU v0 v1 v2 v3 v4 v5 v6 v7 v8 v9 v10:=by kernel_rfl
noncomputable def aB (v0 v1 v2 v3 v4 v5 v6 v7 v8 v9 v10 v11:V):List (Str×V):=[("ring",v0),("ways",v1),("meter",v2),("things",v3),("base",v4),("top",v5),("edge",v6),("clock",v7),("base_hurried",v8),("known_places",v9),("first_turns",v10),("gone_again",v11)]
def oX:(aB v0 v1 v2 v3 v4 v5 v6 v7 v8 v9 v10 v11).length<1000:=by show 12<1000;decide
def oW:bD "gone_again" v11 (dU v0 v1 v2 v3 v4 v5 v6 v7 v8 v9 v10)=aB v0 v1 v2 v3 v4 v5 v6 v7 v8 v9 v10 v11:=by kernel_rfl
def kx:(aB v0 v1 v2 v3 v4 v5 v6 v7 v8 v9 v10 v11).lookup ("ring" : Str)=some v0:=by kernel_rfl
def ku:(aB v0 v1 v2 v3 v4 v5 v6 v7 v8 v9 v10 v11).lookup ("ways" : Str)=some v1:=by kernel_rfl
def jJ:(aB v0 v1 v2 v3 v4 v5 v6 v7 v8 v9 v10 v11).lookup ("meter" : Str)=some v2:=by kernel_rfl
def ja:(aB v0 v1 v2 v3 v4 v5 v6 v7 v8 v9 v10 v11).lookup ("things" : Str)=some v3:=by kernel_rfl
def kz:(aB v0 v1 v2 v3 v4 v5 v6 v7 v8 v9 v10 v11).lookup ("base" : Str)=some v4:=by kernel_rfl
def la:(aB v0 v1 v2 v3 v4 v5 v6 v7 v8 v9 v10 v11).lookup ("top" : Str)=some v5:=by kernel_rfl
def ky:(aB v0 v1 v2 v3 v4 v5 v6 v7 v8 v9 v10 v11).lookup ("edge" : Str)=some v6:=by kernel_rfl
def jK:(aB v0 v1 v2 v3 v4 v5 v6 v7 v8 v9 v10 v11).lookup ("clock" : Str)=some v7:=by kernel_rfl
def fQ:(aB v0 v1 v2 v3 v4 v5 v6 v7 v8 v9 v10 v11).lookup ("base_hurried" : Str)=some v8:=by kernel_rfl
def fP:(aB v0 v1 v2 v3 v4 v5 v6 v7 v8 v9 v10 v11).lookup ("known_places" : Str)=some v9:=by kernel_rfl
def f_:(aB v0 v1 v2 v3 v4 v5 v6 v7 v8 v9 v10 v11).lookup ("first_turns" : Str)=some v10:=by kernel_rfl
def gz:(aB v0 v1 v2 v3 v4 v5 v6 v7 v8 v9 v10 v11).lookup ("gone_again" : Str)=some v11:=by kernel_rfl
def kq:bD "base" x (aB v0 v1 v2 v3 v4 v5 v6 v7 v8 v9 v10 v11)=aB v0 v1 v2 v3 x v5 v6 v7 v8 v9 v10 v11:=by kernel_rfl
def k9:bD "top" x (aB v0 v1 v2 v3 v4 v5 v6 v7 v8 v9 v10 v11)=aB v0 v1 v2 v3 v4 x v6 v7 v8 v9 v10 v11:=by kernel_rfl
def ko:bD "edge" x (aB v0 v1 v2 v3 v4 v5 v6 v7 v8 v9 v10 v11)=aB v0 v1 v2 v3 v4 v5 x v7 v8 v9 v10 v11:=by kernel_rfl
def jH:bD "clock" x (aB v0 v1 v2 v3 v4 v5 v6 v7 v8 v9 v10 v11)=aB v0 v1 v2 v3 v4 v5 v6 x v8 v9 v10 v11:=by kernel_rfl
def fO:bD "base_hurried" x (aB v0 v1 v2 v3 v4 v5 v6 v7 v8 v9 v10 v11)=aB v0 v1 v2 v3 v4 v5 v6 v7 x v9 v10 v11:=by kernel_rfl
def lW:(aB v0 v1 v2 v3 v4 v5 v6 v7 v8 v9 v10 v11).lookup ("put" : Str)=none:=by kernel_rfl
def k_:(aB v0 v1 v2 v3 v4 v5 v6 v7 v8 v9 v10 v11).lookup ("many" : Str)=none:=by kernel_rfl
def kr:(aB v0 v1 v2 v3 v4 v5 v6 v7 v8 v9 v10 v11).lookup ("heard" : Str)=none:=by kernel_rfl
def iz:(aB v0 v1 v2 v3 v4 v5 v6 v7 v8 v9 v10 v11).lookup ("grow_base" : Str)=none:=by kernel_rfl
def iy:(aB v0 v1 v2 v3 v4 v5 v6 v7 v8 v9 v10 v11).lookup ("note_held" : Str)=none:=by kernel_rfl
def gy:(aB v0 v1 v2 v3 v4 v5 v6 v7 v8 v9 v10 v11).lookup ("newly_known" : Str)=none:=by kernel_rfl
def eP:(aB v0 v1 v2 v3 v4 v5 v6 v7 v8 v9 v10 v11).lookup ("known_above_base" : Str)=none:=by kernel_rfl
def iu:(aB v0 v1 v2 v3 v4 v5 v6 v7 v8 v9 v10 v11).lookup ("under_way" : Str)=none:=by kernel_rfl
def gx:(aB v0 v1 v2 v3 v4 v5 v6 v7 v8 v9 v10 v11).lookup ("thing_waits" : Str)=none:=by kernel_rfl
def fY:(aB v0 v1 v2 v3 v4 v5 v6 v7 v8 v9 v10 v11).lookup ("clock_is_out" : Str)=none:=by kernel_rfl
def fX:(aB v0 v1 v2 v3 v4 v5 v6 v7 v8 v9 v10 v11).lookup ("hurry_is_due" : Str)=none:=by kernel_rfl
def gP:(aB v0 v1 v2 v3 v4 v5 v6 v7 v8 v9 v10 v11).lookup ("new_may_go" : Str)=none:=by kernel_rfl
def mH:(aB v0 v1 v2 v3 v4 v5 v6 v7 v8 v9 v10 v11).lookup ("go" : Str)=none:=by kernel_rfl
def iw:(aB v0 v1 v2 v3 v4 v5 v6 v7 v8 v9 v10 v11).lookup ("set_clock" : Str)=none:=by kernel_rfl
def iN:(aB v0 v1 v2 v3 v4 v5 v6 v7 v8 v9 v10 v11).lookup ("go_again" : Str)=none:=by kernel_rfl
def jI:(aB v0 v1 v2 v3 v4 v5 v6 v7 v8 v9 v10 v11).lookup ("go_new" : Str)=none:=by kernel_rfl
def fZ:(aB v0 v1 v2 v3 v4 v5 v6 v7 v8 v9 v10 v11).lookup ("ask_for_room" : Str)=none:=by kernel_rfl
end
structure Txt (K:W.Frag) (mg:Str->Option Value) (ae ai aa:Addr):Prop where
 aL:j5 K mg "Meter" ae
 fw:bx K ae "most"
 aT:bx K ae "window"
 bH:bx K ae "knee"
 bc:bx K ae "counted"
 aM:j5 K mg "Ways" ai
 cK:bx K ai "longest"
 aP:bx K ai "smooth"
 aZ:bx K ai "spread"
 br:bx K ai "wait"
 aj:j5 K mg "Sender" aa
 eG:bx K aa "ring"
 bh:bx K aa "ways"
 bj:bx K aa "meter"
 cn:bx K aa "things"
 aJ:bx K aa "base"
 aV:bx K aa "top"
 cp:bx K aa "edge"
 bB:bx K aa "clock"
 bg:bx K aa "base_hurried"
 bf:bx K aa "known_places"
 bz:bx K aa "first_turns"
 bE:bx K aa "gone_again"
 eB:MethAt K ae "__init__" "Meter.__init__" ez
 gD:MethAt K ae "known" "Meter.known" gv
 eA:MethAt K ae "know_one" "Meter.know_one" er
 iE:MethAt K ae "half" "Meter.half" hV
 fj:MethAt K ae "ran_out" "Meter.ran_out" fb
 fo:MethAt K ae "hurried" "Meter.hurried" fc
 qF:eV K mg "ahead" ql
 oi:eV K mg "lowest" nH
 fh:MethAt K ai "__init__" "Ways.__init__" e9
 fg:MethAt K ai "measured" "Ways.measured" eZ
 dv:MethAt K ai "next_spread" "Ways.next_spread" dg
 dA:MethAt K ai "next_smooth" "Ways.next_smooth" dh
 dY:MethAt K ai "least_wait" "Ways.least_wait" dM
 fS:MethAt K ai "ran_out" "Ways.ran_out" fJ
 d5:MethAt K aa "__init__" "Sender.__init__" dO
 iD:MethAt K aa "put" "Sender.put" hU
 gC:MethAt K aa "many" "Sender.many" gu
 fT:MethAt K aa "heard" "Sender.heard" fK
 dF:MethAt K aa "grow_base" "Sender.grow_base" dr
 dE:MethAt K aa "note_held" "Sender.note_held" dq
 cM:MethAt K aa "newly_known" "Sender.newly_known" cH
 bM:MethAt K aa "known_above_base" "Sender.known_above_base" bL
 dB:MethAt K aa "under_way" "Sender.under_way" di
 cL:MethAt K aa "thing_waits" "Sender.thing_waits" cG
 cA:MethAt K aa "clock_is_out" "Sender.clock_is_out" cx
 cz:MethAt K aa "hurry_is_due" "Sender.hurry_is_due" cw
 c8:MethAt K aa "new_may_go" "Sender.new_may_go" c7
 jm:MethAt K aa "go" "Sender.go" i0
 dC:MethAt K aa "set_clock" "Sender.set_clock" dj
 dZ:MethAt K aa "go_again" "Sender.go_again" dN
 fi:MethAt K aa "go_new" "Sender.go_new" e_
 cB:MethAt K aa "ask_for_room" "Sender.ask_for_room" cy
 fR:eV K mg "_law_cell_at" fI
 iA:eV K mg "_law_mixed" g_
 gA:eV K mg "_law_number" gr
 iC:eV K mg "_law_above" hJ
 kE:eV K mg "_law_due" j8
 gB:eV K mg "_law_beside" gs
 jl:eV K mg "_law_gone" iZ
 jj:eV K mg "_law_told" iX
 iB:eV K mg "_law_heard" hG
 jk:eV K mg "_law_same" iY
 tU:eV K mg "law" wa
 yj:mg "abs" = none
 yi:mg "int" = none
 iJ:mg "isinstance" = none
 oz:mg "len" = none
 qP:mg "list" = none
 qg:mg "max" = none
 rK:mg "min" = none
 da:mg "range" = none
 nr:mg "tuple" = none
 iF:yq mg "WAIT_LEAST" (.int 2)
 eC:yq mg "KNOWN_TO_HURRY" (.int 2)
noncomputable section
open PySem W
abbrev Ob:=Obj
abbrev Pm:=Params
noncomputable abbrev q (x:String) (k:Nat):Value:= .str (Str.ofString x) k
noncomputable abbrev tp (x:List Value):Obj:=⟨.type "tuple",none,.seq x.toArray,#[]⟩
noncomputable abbrev fm (n m:String) (t:Stmt):=FuncData.mk (Str.ofString n) (Str.ofString m) (L2.dX t) (.stmts (L2.cP t)) (L2.aD t)
noncomputable abbrev cd (n:String) (a:Nat) (m:String) (b c:Nat) (l d e f g:Int) (r:Nat) (o:Bool) (k:Int) (s:Nat) (v w x y:Value) (i:Int) (z:Nat):Ob:=⟨.type "code",none,.fields #[q n a,q m b,q "/claim/cut.py" c,.int l 0,.int d 0,.int e 0,.int f 0,.int g 0,.ref r,.bool o,.int k 0,.ref s,v,w,x,y,.int i 0,.int l 0,q "/claim/cut.py" z],#[]⟩
noncomputable abbrev f0 (n m:String) (t:Stmt):Ob:=⟨.none,none,.func (fm n m t 0 [] .none .none .none .none none .none .none 0),#[]⟩
noncomputable abbrev f1 (n m:String) (t:Stmt) (c:Nat) (v:Value) (r:Nat):Ob:=⟨.type "function",none,.func (fm n m t c [] .none .none .none v none (.ref r) .none 0),#[]⟩
abbrev den (P:Params) (x:String) (k:Nat) (v:Value):DictEntry:=DictEntry.mk (PyData.keyHash P (Str.ofString x)) (Value.str (Str.ofString x) k) v
def up:List Ob->BT->Nat->BT
 | [],t,_=>t
 |o::r,t,n=>up r (t.ins n o) (n+1)
def ch:List (Nat×Ob)->BT->BT
 | [],t=>t
 |p::r,t=>ch r (t.ins p.1 p.2)
abbrev nt {α:Type} (n m:String) (t:Stmt) (k:String->String->Stmt->α):α:=k n m t
abbrev cf (n m:String) (t:Stmt) (a:Nat) (l d g:Int) (r i:Nat):Ob:=cd n a m (a+1) (a+2) l d 0 0 g r true 181 (r+1) .none (.ref (r+2)) (.ref (r+3)) (.ref (r+4)) i (i+1)
abbrev ck (n:String) (a:Nat) (l:Int) (r:Nat):Ob:=cd n a n (a+1) (a+2) l 0 0 0 0 r false 181 (r+1) .none .none .none .none (a+3) (a+4)
abbrev q0:=q "slowroad.ways" 269
abbrev q1:=q "slowroad.meter" 187
abbrev q2:=q "slowroad.sender" 356
abbrev q3:=q "law_slowroad_k55_what_goes" 544
def tql:List String->Nat->List Value
 | [],_=>[]
 |x::r,k=>q x k::tql r (k+1)
abbrev tq (l:List String) (k:Nat):Ob:=tp (tql l k)
def ztl:List (Int×Int×Nat)->List Value
 | []=>[]
 |x::r=> .int x.1 0 :: .int x.2.1 0 :: .ref x.2.2::ztl r
abbrev zt (l:List (Int×Int×Nat)):Ob:=⟨.none,none,.fields (ztl l).toArray,#[]⟩
abbrev zo (n:String) (b m:List Value) (a:Nat) (s:List Value) (d:Option Value) (t u:Value):Ob:=⟨.type "type",none,.cls (.mk (.ofString n) b (m++ [.type "object"]) a (.ofString n) true [] s false none false),#[d,none,some t,some u,some (.builtin "object.__new__"),some (.bool true)]⟩
abbrev pg:=Challenge.rw_slowroad_k55_what_goes.row.prog
noncomputable def mdl (P:Pm):List DictEntry:=[den P "__doc__" 166 .none,den P "__package__" 167 .none,den P "__loader__" 168 (.builtin "__main__.__loader__#opaque"),den P "__spec__" 169 .none,den P "__annotations__" 170 (.ref 6),den P "__builtins__" 171 (.ref 4),den P "__file__" 173 (q "/claim/cut.py" 172),den P "__cached__" 174 .none,den P "Meter" 257 (.ref 66),den P "ahead" 268 (.ref 77),den P "WAIT_LEAST" 272 (.int 2 271),den P "lowest" 281 (.ref 84),den P "Ways" 355 (.ref 136),den P "KNOWN_TO_HURRY" 359 (.int 2 358),den P "Sender" 543 (.ref 277),den P "_law_cell_at" 553 (.ref 288),den P "_law_mixed" 563 (.ref 295),den P "_law_number" 574 (.ref 302),den P "_law_above" 580 (.ref 307),den P "_law_due" 592 (.ref 314),den P "_law_beside" 602 (.ref 321),den P "_law_gone" 615 (.ref 328),den P "_law_told" 628 (.ref 335),den P "_law_heard" 634 (.ref 340),den P "_law_same" 645 (.ref 347),den P "law" 664 (.ref 354)]
abbrev md (P:Pm) (v:Value) (k n:Nat):Ob:=⟨.type "dict",none,.dict ⟨den P "__name__" 165 v::(mdl P).take k⟩ n,#[]⟩
def ltl:List Value:=ztl [(80,4,153),(94,4,160),(97,4,167),(100,4,174),(103,4,181),(118,4,188),(123,4,193),(126,4,198),(132,4,203),(135,4,210),(138,4,217),(141,4,224),(144,4,231),(147,4,238),(150,4,245),(164,4,252),(167,4,259),(173,4,266),(181,4,273)]
abbrev lt (k:Nat):Ob:=⟨.none,none,.fields ⟨ltl.take k⟩,#[]⟩
noncomputable abbrev zf (a b c:Nat) (m:Value) (d:Nat):Ob:=⟨.type "frame",none,.plain,#[some (.ref a),some (.ref b),some (.ref c),none,some m,none,some (.ref d)]⟩
noncomputable abbrev zi (i j:Nat):Stmt:=inClass (top i) j
noncomputable abbrev zm (P:Params) (a:Nat) (m:Value):DictEntry:=den P "__module__" a m
noncomputable abbrev zl (P:Params) (a:Nat) (m:Int) (b:Nat):DictEntry:=den P "__firstlineno__" a (.int m b)
noncomputable abbrev za (P:Params) (a b:Nat):DictEntry:=den P "__static_attributes__" a (.ref b)
noncomputable abbrev zd (x:Array DictEntry) (n:Nat):Ob:=⟨.type "dict",none,.dict x n,#[]⟩
abbrev sO (x:String):Str:=Str.ofString x
def aU:=tp []
def fW:Ob:=⟨.none,none,.fields #[],#[]⟩
def IV:=ck "<module>" 182 1 11
def IU:=zf 13 3 3 (q "__main__" 164) 0
def JE(P:Pm):=md P q0 12 13
def JD:=zt [(2,0,20),(38,0,76),(42,0,83)]
def Hj:Ob:=⟨.type "builtin_function_or_method",none,.fields #[.builtin "type.__prepare__",.type "type"],#[]⟩
def JC(P:Pm):=zd #[zm P 196 q1,den P "__qualname__" 198 (q "Meter" 197),zl P 200 2 199,den P "__init__" 208 (.ref 28),den P "known" 217 (.ref 35),den P "know_one" 224 (.ref 42),den P "half" 231 (.ref 49),den P "ran_out" 238 (.ref 56),den P "hurried" 245 (.ref 63),za P 250 64] 10
def JB:=zt [(4,4,27),(10,4,34),(14,4,41),(25,4,48),(28,4,55),(33,4,62)]
def JA:=ck "Meter" 191 2 18
def Jz:=zf 20 3 17 q1 0
def IT:=tq ["self","most"] 204
abbrev HQ {α}:=nt (α:=α) "__init__" "Meter.__init__" (zi 1 0)
def Jy:=HQ f0
def IS:=HQ cf 201 4 2 3 22 206
def IQ:=HQ f1 3 q1 27
def IP:=tq ["self","many","piece"] 212
abbrev HP {α}:=nt (α:=α) "known" "Meter.known" (zi 1 1)
def Jx:=HP f0
def IM:=HP cf 209 10 2 3 29 215
def IL:=HP f1 3 q1 34
def IK:=tq ["self"] 221
abbrev HN {α}:=nt (α:=α) "know_one" "Meter.know_one" (zi 1 2)
def Jv:=HN f0
def IJ:=HN cf 218 14 1 3 36 222
def II:=HN f1 3 q1 41
def IH:=tq ["self"] 228
abbrev HM {α}:=nt (α:=α) "half" "Meter.half" (zi 1 3)
def Ju:=HM f0
def IG:=HM cf 225 25 1 3 43 229
def IF:=HM f1 3 q1 48
def IE:=tq ["self"] 235
abbrev HL {α}:=nt (α:=α) "ran_out" "Meter.ran_out" (zi 1 4)
def Jt:=HL f0
def ID:=HL cf 232 28 1 3 50 236
def IC:=HL f1 3 q1 55
def IB:=tq ["self"] 242
abbrev HK {α}:=nt (α:=α) "hurried" "Meter.hurried" (zi 1 5)
def Js:=HK f0
def IA:=HK cf 239 33 1 3 57 243
def Iz:=HK f1 3 q1 62
def Iy:=tq ["counted","knee","most","window"] 246
def Iw(P:Pm):=zd #[zm P 196 q1,zl P 200 2 199,den P "__init__" 208 (.ref 28),den P "known" 217 (.ref 35),den P "know_one" 224 (.ref 42),den P "half" 231 (.ref 49),den P "ran_out" 238 (.ref 56),den P "hurried" 245 (.ref 63),za P 250 64,den P "__dict__" 252 (.ref 67),den P "__weakref__" 254 (.ref 68),den P "__doc__" 255 .none] 4
def Iv:=zo "Meter" [.type "object"] [.ref 66] 65 [] none (q "Meter" 189) (q "Meter" 197)
def Iu:Ob:=⟨.type "getset_descriptor",none,.fields #[q "__dict__" 251,.ref 66,.builtin "function.__dict__",.builtin "function.__dict__#set"],#[]⟩
def Ir:Ob:=⟨.type "getset_descriptor",none,.fields #[q "__weakref__" 253,.ref 66,.builtin "ExceptionGroup.__weakref__",.none],#[]⟩
def Jr:Ob:=⟨.type "super",none,.fields #[.ref 66,.ref 66,.ref 66],#[]⟩
def Jq:Ob:=⟨.type "builtin_function_or_method",none,.fields #[.builtin "object.__init_subclass__",.ref 66],#[]⟩
def Iq:=tq ["ring","one","other"] 263
abbrev HJ {α}:=nt (α:=α) "ahead" "ahead" (top 3)
def Jp:=HJ f0
def Ip:=HJ cf 260 38 3 3 71 266
def Io:=HJ f1 3 (q "slowroad.rings" 258) 76
def Im:=tq ["top","bottom","shared"] 276
abbrev HI {α}:=nt (α:=α) "lowest" "lowest" (top 6)
def Jo:=HI f0
def Il:=HI cf 273 42 2 3 78 279
def Ik:=HI f1 3 q0 83
def Jn(P:Pm):=md P q2 14 15
def Jm:=zt [(2,0,20),(38,0,76),(42,0,83),(45,0,90)]
def Jl(P:Pm):=zd #[zm P 289 q0,den P "__qualname__" 291 (q "Ways" 290),zl P 293 45 292,den P "__init__" 302 (.ref 98),den P "measured" 310 (.ref 105),den P "next_spread" 320 (.ref 112),den P "next_smooth" 328 (.ref 119),den P "least_wait" 336 (.ref 126),den P "ran_out" 343 (.ref 133),za P 348 134] 10
def Jk:=zt [(47,4,97),(53,4,104),(62,4,111),(67,4,118),(70,4,125),(74,4,132)]
def Jj:=ck "Ways" 284 45 88
def Ji:=zf 90 3 87 q0 0
def Ij:=tq ["self","first","longest"] 297
abbrev Cg {α}:=nt (α:=α) "__init__" "Ways.__init__" (zi 7 0)
def HE:=Cg f0
def Fz:=Cg cf 294 47 3 3 92 300
def Fy:=Cg f1 3 q0 97
def Fx:=tq ["self","m"] 306
abbrev Cf {α}:=nt (α:=α) "measured" "Ways.measured" (zi 7 1)
def HD:=Cf f0
def Fw:=Cf cf 303 53 2 3 99 308
def Fv:=Cf f1 3 q0 104
def Fu:=tq ["self","m","bottoms","away"] 314
abbrev Ce {α}:=nt (α:=α) "next_spread" "Ways.next_spread" (zi 7 2)
def HC:=Ce f0
def Ft:=Ce cf 311 62 2 3 106 318
def Fs:=Ce f1 3 q0 111
def Fq:=tq ["self","m"] 324
abbrev Cd {α}:=nt (α:=α) "next_smooth" "Ways.next_smooth" (zi 7 3)
def HB:=Cd f0
def Fp:=Cd cf 321 67 2 3 113 326
def Fo:=Cd f1 3 q0 118
def Fn:=tq ["self","top"] 332
abbrev Cc {α}:=nt (α:=α) "least_wait" "Ways.least_wait" (zi 7 4)
def Hz:=Cc f0
def Fm:=Cc cf 329 70 1 3 120 334
def Fl:=Cc f1 3 q0 125
def Fj:=tq ["self"] 340
abbrev Cb {α}:=nt (α:=α) "ran_out" "Ways.ran_out" (zi 7 5)
def Hy:=Cb f0
def Fh:=Cb cf 337 74 1 3 127 341
def Fg:=Cb f1 3 q0 132
def Ff:=tq ["longest","smooth","spread","wait"] 344
def Fe(P:Pm):=zd #[zm P 289 q0,zl P 293 45 292,den P "__init__" 302 (.ref 98),den P "measured" 310 (.ref 105),den P "next_spread" 320 (.ref 112),den P "next_smooth" 328 (.ref 119),den P "least_wait" 336 (.ref 126),den P "ran_out" 343 (.ref 133),za P 348 134,den P "__dict__" 350 (.ref 137),den P "__weakref__" 352 (.ref 138),den P "__doc__" 353 .none] 4
def Fd:=zo "Ways" [.type "object"] [.ref 136] 135 [] none (q "Ways" 282) (q "Ways" 290)
def Fc:Ob:=⟨.type "getset_descriptor",none,.fields #[q "__dict__" 349,.ref 136,.builtin "function.__dict__",.builtin "function.__dict__#set"],#[]⟩
def Fb:Ob:=⟨.type "getset_descriptor",none,.fields #[q "__weakref__" 351,.ref 136,.builtin "ExceptionGroup.__weakref__",.none],#[]⟩
def Hx:Ob:=⟨.type "super",none,.fields #[.ref 136,.ref 136,.ref 136],#[]⟩
def Hw:Ob:=⟨.type "builtin_function_or_method",none,.fields #[.builtin "object.__init_subclass__",.ref 136],#[]⟩
def Hv(P:Pm):=md P q2 15 16
def Hu:=zt [(2,0,20),(38,0,76),(42,0,83),(45,0,90),(78,0,146)]
def Ht(P:Pm):=zd #[zm P 367 q2,den P "__qualname__" 369 (q "Sender" 368),zl P 371 78 370,den P "__init__" 382 (.ref 154),den P "put" 390 (.ref 161),den P "many" 397 (.ref 168),den P "thing" 405 (.ref 175),den P "heard" 419 (.ref 182),den P "grow_base" 428 (.ref 189),den P "note_held" 434 (.ref 194),den P "newly_known" 440 (.ref 199),den P "known_above_base" 446 (.ref 204),den P "under_way" 453 (.ref 211),den P "thing_waits" 460 (.ref 218),den P "clock_is_out" 468 (.ref 225),den P "hurry_is_due" 475 (.ref 232),den P "new_may_go" 482 (.ref 239),den P "go" 490 (.ref 246),den P "set_clock" 498 (.ref 253),den P "go_again" 506 (.ref 260),den P "go_new" 515 (.ref 267),den P "ask_for_room" 523 (.ref 274),za P 536 275] 23
def Hs:=lt 57
def Hr:=ck "Sender" 362 78 144
def Hq:=zf 146 3 143 q2 0
def E_:=tq ["self","ring","first","longest","most"] 375
abbrev Ca {α}:=nt (α:=α) "__init__" "Sender.__init__" (zi 10 0)
def Ho:=Ca f0
def E9:=Ca cf 372 80 5 3 148 380
def E8:=Ca f1 3 q2 153
def E7:=tq ["self","thing"] 386
abbrev B_ {α}:=nt (α:=α) "put" "Sender.put" (zi 10 1)
def Hn:=B_ f0
def E6:=B_ cf 383 94 2 3 155 388
def E5:=B_ f1 3 q2 160
def E4:=tq ["self"] 394
abbrev B9 {α}:=nt (α:=α) "many" "Sender.many" (zi 10 2)
def Hm:=B9 f0
def E3:=B9 cf 391 97 1 3 162 395
def E2:=B9 f1 3 q2 167
def E1:=tq ["self","place"] 401
abbrev B8 {α}:=nt (α:=α) "thing" "Sender.thing" (zi 10 3)
def Hl:=B8 f0
def EZ:=B8 cf 398 100 2 3 169 403
def EY:=B8 f1 3 q2 174
def EX:=tq ["self","number","room","held","turn","steps","fresh","place"] 409
abbrev B7 {α}:=nt (α:=α) "heard" "Sender.heard" (zi 10 4)
def Hi:=B7 f0
def EW:=B7 cf 406 103 5 3 176 417
def EV:=B7 f1 3 q2 181
def EU:=tq ["self","steps","low"] 423
abbrev B6 {α}:=nt (α:=α) "grow_base" "Sender.grow_base" (zi 10 5)
def Hh:=B6 f0
def ET:=B6 cf 420 118 2 3 183 426
def ES:=B6 f1 3 q2 188
abbrev FK {α}:=nt (α:=α) "note_held" "Sender.note_held" (zi 10 6)
def Hg:=FK f0
def ER:=cd "note_held" 429 "Sender.note_held" 430 431 123 2 0 0 3 190 true 181 191 .none .none .none (.ref 192) 432 433
def EO:=FK f1 3 q2 193
abbrev FJ {α}:=nt (α:=α) "newly_known" "Sender.newly_known" (zi 10 7)
def Hf:=FJ f0
def EN:=cd "newly_known" 435 "Sender.newly_known" 436 437 126 2 0 0 3 195 true 181 196 .none .none .none (.ref 197) 438 439
def EM:=FJ f1 3 q2 198
abbrev FI {α}:=nt (α:=α) "known_above_base" "Sender.known_above_base" (zi 10 8)
def He:=FI f0
def EL:=cd "known_above_base" 441 "Sender.known_above_base" 442 443 132 1 0 0 3 200 true 181 201 .none .none .none (.ref 202) 444 445
def EK:=FI f1 3 q2 203
def EJ:=tq ["self"] 450
abbrev B5 {α}:=nt (α:=α) "under_way" "Sender.under_way" (zi 10 9)
def Hd:=B5 f0
def EI:=B5 cf 447 135 1 3 205 451
def EH:=B5 f1 3 q2 210
def EG:=tq ["self"] 457
abbrev B4 {α}:=nt (α:=α) "thing_waits" "Sender.thing_waits" (zi 10 10)
def Hc:=B4 f0
def EF:=B4 cf 454 138 1 3 212 458
def EE:=B4 f1 3 q2 217
def ED:=tq ["self","turn"] 464
abbrev B3 {α}:=nt (α:=α) "clock_is_out" "Sender.clock_is_out" (zi 10 11)
def Hb:=B3 f0
def EC:=B3 cf 461 141 2 3 219 466
def EB:=B3 f1 3 q2 224
def EA:=tq ["self"] 472
abbrev BZ {α}:=nt (α:=α) "hurry_is_due" "Sender.hurry_is_due" (zi 10 12)
def Ha:=BZ f0
def Ez:=BZ cf 469 144 1 3 226 473
def Ey:=BZ f1 3 q2 231
def Ex:=tq ["self"] 479
abbrev BY {α}:=nt (α:=α) "new_may_go" "Sender.new_may_go" (zi 10 13)
def G_:=BY f0
def Ew:=BY cf 476 147 1 3 233 480
def Eu:=BY f1 3 q2 238
def Et:=tq ["self","turn"] 486
abbrev BX {α}:=nt (α:=α) "go" "Sender.go" (zi 10 14)
def G9:=BX f0
def Es:=BX cf 483 150 2 3 240 488
def Er:=BX f1 3 q2 245
def Ep:=tq ["self","turn"] 494
abbrev BW {α}:=nt (α:=α) "set_clock" "Sender.set_clock" (zi 10 15)
def G8:=BW f0
def Eo:=BW cf 491 164 2 3 247 496
def En:=BW f1 3 q2 252
def Em:=tq ["self","turn"] 502
abbrev BV {α}:=nt (α:=α) "go_again" "Sender.go_again" (zi 10 16)
def G7:=BV f0
def El:=BV cf 499 167 2 3 254 504
def Ek:=BV f1 3 q2 259
def Ej:=tq ["self","turn","place"] 510
abbrev BU {α}:=nt (α:=α) "go_new" "Sender.go_new" (zi 10 17)
def G6:=BU f0
def Ei:=BU cf 507 173 2 3 261 513
def Eh:=BU f1 3 q2 266
def Eg:=tq ["self","turn"] 519
abbrev BS {α}:=nt (α:=α) "ask_for_room" "Sender.ask_for_room" (zi 10 18)
def G5:=BS f0
def Ef:=BS cf 516 181 2 3 268 521
def Ee:=BS f1 3 q2 273
def Ed:=tq ["base","base_hurried","clock","edge","first_turns","gone_again","known_places","meter","ring","things","top","ways"] 524
def Ec(P:Pm):=zd #[zm P 367 q2,zl P 371 78 370,den P "__init__" 382 (.ref 154),den P "put" 390 (.ref 161),den P "many" 397 (.ref 168),den P "thing" 405 (.ref 175),den P "heard" 419 (.ref 182),den P "grow_base" 428 (.ref 189),den P "note_held" 434 (.ref 194),den P "newly_known" 440 (.ref 199),den P "known_above_base" 446 (.ref 204),den P "under_way" 453 (.ref 211),den P "thing_waits" 460 (.ref 218),den P "clock_is_out" 468 (.ref 225),den P "hurry_is_due" 475 (.ref 232),den P "new_may_go" 482 (.ref 239),den P "go" 490 (.ref 246),den P "set_clock" 498 (.ref 253),den P "go_again" 506 (.ref 260),den P "go_new" 515 (.ref 267),den P "ask_for_room" 523 (.ref 274),za P 536 275,den P "__dict__" 538 (.ref 278),den P "__weakref__" 540 (.ref 279),den P "__doc__" 541 .none] 4
def Eb:=zo "Sender" [.type "object"] [.ref 277] 276 [] none (q "Sender" 360) (q "Sender" 368)
def Ea:Ob:=⟨.type "getset_descriptor",none,.fields #[q "__dict__" 537,.ref 277,.builtin "function.__dict__",.builtin "function.__dict__#set"],#[]⟩
def D_:Ob:=⟨.type "getset_descriptor",none,.fields #[q "__weakref__" 539,.ref 277,.builtin "ExceptionGroup.__weakref__",.none],#[]⟩
def G4:Ob:=⟨.type "super",none,.fields #[.ref 277,.ref 277,.ref 277],#[]⟩
def G3:Ob:=⟨.type "builtin_function_or_method",none,.fields #[.builtin "object.__init_subclass__",.ref 277],#[]⟩
def D9(P:Pm):=zd #[den P "__name__" 165 q3,den P "__doc__" 166 .none,den P "__package__" 167 .none,den P "__loader__" 168 (.builtin "__main__.__loader__#opaque"),den P "__spec__" 169 .none,den P "__annotations__" 170 (.ref 6),den P "__builtins__" 171 (.ref 4),den P "__file__" 173 (q "/claim/cut.py" 172),den P "__cached__" 174 .none,den P "Meter" 257 (.ref 66),den P "ahead" 268 (.ref 77),den P "WAIT_LEAST" 272 (.int 2 271),den P "lowest" 281 (.ref 84),den P "Ways" 355 (.ref 136),den P "KNOWN_TO_HURRY" 359 (.int 2 358),den P "Sender" 543 (.ref 277),den P "_law_cell_at" 553 (.ref 288),den P "_law_mixed" 563 (.ref 295),den P "_law_number" 574 (.ref 302),den P "_law_above" 580 (.ref 307),den P "_law_due" 592 (.ref 314),den P "_law_beside" 602 (.ref 321),den P "_law_gone" 615 (.ref 328),den P "_law_told" 628 (.ref 335),den P "_law_heard" 634 (.ref 340),den P "_law_same" 645 (.ref 347),den P "law" 664 (.ref 354)] 27
def G1:=zt [(2,0,20),(38,0,76),(42,0,83),(45,0,90),(78,0,146),(191,0,287),(195,0,294),(202,0,301),(211,0,306),(213,0,313),(227,0,320),(237,0,327),(253,0,334),(262,0,339),(281,0,346),(285,0,353)]
def D8:=tq ["_law_script","_law_k"] 549
abbrev BR {α}:=nt (α:=α) "_law_cell_at" "_law_cell_at" (top 12)
def G0:=BR f0
def D7:=BR cf 546 191 2 3 282 551
def D6:=BR f1 3 q3 287
def D5:=tq ["_law_cell","_law_k","_law_number_here","_law_step"] 557
abbrev BQ {α}:=nt (α:=α) "_law_mixed" "_law_mixed" (top 13)
def GZ:=BQ f0
def D4:=BQ cf 554 195 2 3 289 561
def D3:=BQ f1 3 q3 294
def D2:=tq ["_law_cell","_law_base","_law_top","_law_ring","_law_way"] 567
abbrev BP {α}:=nt (α:=α) "_law_number" "_law_number" (top 14)
def GY:=BP f0
def D1:=BP cf 564 202 4 3 296 572
def D0:=BP f1 3 q3 301
abbrev FH {α}:=nt (α:=α) "_law_above" "_law_above" (top 15)
def GX:=FH f0
def DZ:=cd "_law_above" 575 "_law_above" 576 577 211 1 0 0 3 303 true 181 304 .none .none .none (.ref 305) 578 579
def DY:=FH f1 3 q3 306
def DX:=tq ["_law_now","_law_turn","_law_window","_law_base","_law_top","_law_above_here"] 584
abbrev BO {α}:=nt (α:=α) "_law_due" "_law_due" (top 16)
def GW:=BO f0
def DW:=BO cf 581 213 3 3 308 590
def DV:=BO f1 3 q3 313
def DU:=tq ["_law_due_here","_law_now","_law_ways","_law_meter"] 596
abbrev BN {α}:=nt (α:=α) "_law_beside" "_law_beside" (top 17)
def GV:=BN f0
def DT:=BN cf 593 227 4 3 315 600
def DS:=BN f1 3 q3 320
def DR:=tq ["_law_sender","_law_now","_law_turn","_law_ways","_law_meter","_law_due_here","_law_found"] 606
abbrev BM {α}:=nt (α:=α) "_law_gone" "_law_gone" (top 18)
def GU:=BM f0
def DQ:=BM cf 603 237 5 3 322 613
def DP:=BM f1 3 q3 327
def DO:=tq ["_law_now","_law_places","_law_turn","_law_ways","_law_meter","_law_many","_law_place"] 619
abbrev BL {α}:=nt (α:=α) "_law_told" "_law_told" (top 19)
def GS:=BL f0
def DN:=BL cf 616 253 5 3 329 626
def DM:=BL f1 3 q3 334
abbrev FG {α}:=nt (α:=α) "_law_heard" "_law_heard" (top 20)
def GR:=FG f0
def DL:=cd "_law_heard" 629 "_law_heard" 630 631 262 7 0 0 3 336 true 181 337 .none .none .none (.ref 338) 632 633
def DK:=FG f1 3 q3 339
def DJ:=tq ["_law_sender","_law_ways","_law_meter","_law_one","_law_other"] 638
abbrev BK {α}:=nt (α:=α) "_law_same" "_law_same" (top 21)
def GQ:=BK f0
def DI:=BK cf 635 281 3 3 341 643
def DH:=BK f1 3 q3 346
def DG:=tq ["_law_script","_law_cell","_law_ring","_law_first","_law_longest","_law_most","_law_sender","_law_ways","_law_meter","_law_now","_law_turn","_law_k","_law_again"] 649
abbrev BJ {α}:=nt (α:=α) "law" "law" (top 22)
def GP:=BJ f0
def DF:=BJ cf 646 285 1 3 348 662
def DE:=BJ f1 3 q3 353
local macro_rules
 | `(#[0]) => `(List.nil)
 | `(#[0,$n:num,$x]) => `(List.cons (nat_lit $n, $x) List.nil)
 | `(#[0,$n:num,$x,$xs,*]) => `(List.cons (nat_lit $n, $x) #[0,$xs,*])
def yu:Params->Frag:=fun P=>#[0,2,boot_o_2 P,3,D9 P,22,aU,24,IT,25,aU,27,IS,28,IQ,29,aU,31,IP,32,aU,34,IM,35,IL,36,aU,38,IK,39,aU,41,IJ,42,II,43,aU,45,IH,46,aU,48,IG,49,IF,50,aU,52,IE,53,aU,55,ID,56,IC,57,aU,59,IB,60,aU,62,IA,63,Iz,64,Iy,65,Iw P,66,Iv,67,Iu,68,Ir,71,aU,73,Iq,74,aU,76,Ip,77,Io,78,aU,80,Im,81,aU,83,Il,84,Ik,92,aU,94,Ij,95,aU,97,Fz,98,Fy,99,aU,101,Fx,102,aU,104,Fw,105,Fv,106,aU,108,Fu,109,aU,111,Ft,112,Fs,113,aU,115,Fq,116,aU,118,Fp,119,Fo,120,aU,122,Fn,123,aU,125,Fm,126,Fl,127,aU,129,Fj,130,aU,132,Fh,133,Fg,134,Ff,135,Fe P,136,Fd,137,Fc,138,Fb,148,aU,150,E_,151,aU,153,E9,154,E8,155,aU,157,E7,158,aU,160,E6,161,E5,162,aU,164,E4,165,aU,167,E3,168,E2,169,aU,171,E1,172,aU,174,EZ,175,EY,176,aU,178,EX,179,aU,181,EW,182,EV,183,aU,185,EU,186,aU,188,ET,189,ES,190,aU,193,ER,194,EO,195,aU,198,EN,199,EM,200,aU,203,EL,204,EK,205,aU,207,EJ,208,aU,210,EI,211,EH,212,aU,214,EG,215,aU,217,EF,218,EE,219,aU,221,ED,222,aU,224,EC,225,EB,226,aU,228,EA,229,aU,231,Ez,232,Ey,233,aU,235,Ex,236,aU,238,Ew,239,Eu,240,aU,242,Et,243,aU,245,Es,246,Er,247,aU,249,Ep,250,aU,252,Eo,253,En,254,aU,256,Em,257,aU,259,El,260,Ek,261,aU,263,Ej,264,aU,266,Ei,267,Eh,268,aU,270,Eg,271,aU,273,Ef,274,Ee,275,Ed,276,Ec P,277,Eb,278,Ea,279,D_,282,aU,284,D8,285,aU,287,D7,288,D6,289,aU,291,D5,292,aU,294,D4,295,D3,296,aU,298,D2,299,aU,301,D1,302,D0,303,aU,306,DZ,307,DY,308,aU,310,DX,311,aU,313,DW,314,DV,315,aU,317,DU,318,aU,320,DT,321,DS,322,aU,324,DR,325,aU,327,DQ,328,DP,329,aU,331,DO,332,aU,334,DN,335,DM,336,aU,339,DL,340,DK,341,aU,343,DJ,344,aU,346,DI,347,DH,348,aU,350,DG,351,aU,353,DF,354,DE]
def ij:Program:={Challenge.pw_slowroad_k55_what_goes with main:={Challenge.pw_slowroad_k55_what_goes.main with body:=[top 1,top 3,top 5,top 6,top 7,top 9,top 10,top 12,top 13,top 14,top 15,top 16,top 17,top 18,top 19,top 20,top 21,top 22]}}
def j0:List Addr:=[2,3,22,24,25,27,28,29,31,32,34,35,36,38,39,41,42,43,45,46,48,49,50,52,53,55,56,57,59,60,62,63,64,65,66,67,68,71,73,74,76,77,78,80,81,83,84,92,94,95,97,98,99,101,102,104,105,106,108,109,111,112,113,115,116,118,119,120,122,123,125,126,127,129,130,132,133,134,135,136,137,138,148,150,151,153,154,155,157,158,160,161,162,164,165,167,168,169,171,172,174,175,176,178,179,181,182,183,185,186,188,189,190,193,194,195,198,199,200,203,204,205,207,208,210,211,212,214,215,217,218,219,221,222,224,225,226,228,229,231,232,233,235,236,238,239,240,242,243,245,246,247,249,250,252,253,254,256,257,259,260,261,263,264,266,267,268,270,271,273,274,275,276,277,278,279,282,284,285,287,288,289,291,292,294,295,296,298,299,301,302,303,306,307,308,310,311,313,314,315,317,318,320,321,322,324,325,327,328,329,331,332,334,335,336,339,340,341,343,344,346,347,348,350,351,353,354]
def kX: ∀P,j0=(yu P).map (·.1):=fun _=>by kernel_rfl
def tL:Env:={scope:=pg.main.scope,locals:=mainNs,globals:=mainNs,cells:=[],code:=Value.ref 13,frame:=some 14}
def nV:List Stmt:=behindTheImports pg
def AF:Code:= .body nV tL
abbrev FZ:List Frame:=[topFrame (Pos.mk 0 0 0 0)]
abbrev hdn:Option Value:=Option.some (Value.ref 6)
def hpre:Params->Heap:=fun P=>⟨Array.mk [boot_o_0 P,boot_o_1 P,boot_o_2 P,boot_o_3 P,boot_o_4 P,boot_o_5 P,boot_o_6 P,boot_o_7 P,boot_o_8 P,boot_o_9 P,boot_o_10 P,aU,fW,IV,IU],Life.mk List.nil List.nil List.nil 0 List.nil List.nil Bool.false (List.toArray List.nil) List.nil 0 Bool.false Bool.false Bool.false 0 (List.cons 2000 (List.cons 10 (List.cons 10 List.nil))) Bool.false 0 Bool.true List.nil List.nil 0 Bool.false⟩
def Cq (w:World) (os:OsState):topGo treeTable pg w 11 hdn 12 (⟨boot_heap w.params,Array.mk [],boot_drawn,boot_toks,os⟩:Shared) (topStub pg)=some ((⟨hpre w.params,Array.mk [],Drawn.mk 0 0 0 0,187,os⟩:Shared),⟨denote treeTable AF,AF,Pos.mk 0 0 0 0,FZ⟩):=by kernel_rfl
def ro (P:Pm):BT:=up [boot_o_0 P,boot_o_1 P,boot_o_2 P,boot_o_3 P,boot_o_4 P,boot_o_5 P,boot_o_6 P,boot_o_7 P,boot_o_8 P,boot_o_9 P,boot_o_10 P,aU,fW,IV,IU] .nil 0
abbrev lif:Life:=Life.mk List.nil List.nil List.nil 0 List.nil List.nil Bool.false (List.toArray List.nil) List.nil 0 Bool.false Bool.false Bool.false 0 (List.cons 2000 (List.cons 10 (List.cons 10 List.nil))) Bool.false 0 Bool.true List.nil List.nil 0 Bool.false
abbrev sh (t:Pm->BT) (n k:Nat) (w:World) (os:OsState):SharedT:=SharedT.mk (t w.params) n lif (Array.mk []) (Drawn.mk 0 0 0 0) k os
def hgg (i j:Nat):List Stmt:=(nV.drop i).take j
abbrev sgr (w:World) (os:OsState) (n:Nat) (a:World->OsState->SharedT) (l:List Stmt) (p:Pos) (b:World->OsState->SharedT) (q:Pos):Prop:=segRunT treeTable pg w 11 hdn 1 n (a w os) (piecesOf l tL AF p FZ)=some (.next,b w os,AF,q)
abbrev nT:=sh ro 15 187
def Cv (w:World) (os:OsState):segRun treeTable pg w 11 hdn 1 1 (⟨hpre w.params,Array.mk [],Drawn.mk 0 0 0 0,187,os⟩:Shared) (blockOf nV tL AF (Pos.mk 0 0 0 0) FZ)=some (.next,((nT w os)).abs,AF,Pos.mk 0 0 0 0):=by kernel_rfl
def AA (P:Pm):BT:=up [aU,Hj,JC P,aU,JB,JA,Jz,aU,fW,IT,aU,Jy,IS,IQ,aU,fW,IP,aU,Jx,IM,IL,aU,fW,IK,aU,Jv,IJ,II,aU,fW,IH,aU,Ju,IG,IF,aU,fW,IE,aU,Jt,ID,IC,aU,fW,IB,aU,Js,IA,Iz,Iy,Iw P,Iv,Iu,Ir,Jr,Jq,aU,fW,Iq,aU,Jp,Ip,Io,aU,fW,Im,aU,Jo,Il,Ik] (ch [(3,JE P),(12,JD)] (ro P)) 15
abbrev AD:=sh AA 85 282
def IW:=hgg 0 7
def FY (w os):sgr w os 481 nT IW (.mk 0 0 0 0) AD (.mk 42 0 44 44):=by unfold sgr;kernel_rfl
def xG (P:Pm):BT:=up [aU,Hj,Jl P,aU,Jk,Jj,Ji,aU,fW,Ij,aU,HE,Fz,Fy,aU,fW,Fx,aU,HD,Fw,Fv,aU,fW,Fu,aU,HC,Ft,Fs,aU,fW,Fq,aU,HB,Fp,Fo,aU,fW,Fn,aU,Hz,Fm,Fl,aU,fW,Fj,aU,Hy,Fh,Fg,Ff,Fe P,Fd,Fc,Fb,Hx,Hw] (ch [(3,Jn P),(12,Jm)] (AA P)) 85
abbrev xJ:=sh xG 141 360
def FT:=hgg 7 3
def Ct (w os):sgr w os 406 AD FT (.mk 42 0 44 44) xJ (.mk 77 0 77 14):=by unfold sgr;kernel_rfl
def xF (P:Pm):BT:=up [aU,Hj,Ht P,aU,Hs,Hr,Hq,aU,fW,E_,aU,Ho,E9,E8,aU,fW,E7,aU,Hn,E6,E5,aU,fW,E4,aU,Hm,E3,E2,aU,fW,E1,aU,Hl,EZ,EY,aU,fW,EX,aU,Hi,EW,EV,aU,fW,EU,aU,Hh,ET,ES,aU,fW,Hg,ER,EO,aU,fW,Hf,EN,EM,aU,fW,He,EL,EK,aU,fW,EJ,aU,Hd,EI,EH,aU,fW,EG,aU,Hc,EF,EE,aU,fW,ED,aU,Hb,EC,EB,aU,fW,EA,aU,Ha,Ez,Ey,aU,fW,Ex,aU,G_,Ew,Eu,aU,fW,Et,aU,G9,Es,Er,aU,fW,Ep,aU,G8,Eo,En,aU,fW,Em,aU,G7,El,Ek,aU,fW,Ej,aU,G6,Ei,Eh,aU,fW,Eg,aU,G5,Ef,Ee,Ed,Ec P,Eb,Ea,D_,G4,G3] (ch [(3,Hv P),(12,Hu)] (xG P)) 141
abbrev xI:=sh xF 282 544
def FR:=hgg 10 1
def Cs (w os):sgr w os 804 xJ FR (.mk 77 0 77 14) xI (.mk 78 0 189 28):=by unfold sgr;kernel_rfl
def xE (P:Pm):BT:=up [aU,fW,D8,aU,G0,D7,D6,aU,fW,D5,aU,GZ,D4,D3,aU,fW,D2,aU,GY,D1,D0,aU,fW,GX,DZ,DY,aU,fW,DX,aU,GW,DW,DV,aU,fW,DU,aU,GV,DT,DS,aU,fW,DR,aU,GU,DQ,DP,aU,fW,DO,aU,GS,DN,DM,aU,fW,GR,DL,DK,aU,fW,DJ,aU,GQ,DI,DH,aU,fW,DG,aU,GP,DF,DE] (ch [(3,D9 P),(12,G1)] (xF P)) 282
abbrev xH:=sh xE 355 665
def FQ:=hgg 11 12
def Cr (w os):sgr w os 367 xI FQ (.mk 78 0 189 28) xH (.mk 285 0 312 15):=by unfold sgr;kernel_rfl
def hfin:Pm->Heap:=fun P=>⟨Array.mk ((xE P).list 355),Life.mk List.nil List.nil List.nil 0 List.nil List.nil Bool.false (List.toArray List.nil) List.nil 0 Bool.false Bool.false Bool.false 0 (List.cons 2000 (List.cons 10 (List.cons 10 List.nil))) Bool.false 0 Bool.true List.nil List.nil 0 Bool.false⟩
def Cu (w:World) (os:OsState):topRun treeTable pg w 11 hdn 2 ((xH w os)).abs ⟨doneF .next,AF,Pos.mk 285 0 312 15,FZ⟩=some (⟨hfin w.params,Array.mk [],Drawn.mk 0 0 0 0,665,os⟩:Shared):=by kernel_rfl
def zM:nV=IW++(FT++(FR++(FQ++([])))):=by kernel_rfl
def zK (w:World) (os:OsState):topRun treeTable pg w 11 hdn 2060 ((nT w os)).abs (restOf nV tL AF (Pos.mk 0 0 0 0) FZ)=some (⟨hfin w.params,Array.mk [],Drawn.mk 0 0 0 0,665,os⟩:Shared):=by
 rw [zM];exact (piece_app (segRun_of (FY w os)) (piece_app (segRun_of (Ct w os)) (piece_app (segRun_of (Cs w os)) (piece_app (segRun_of (Cr w os)) (piece_nil (Cu w os))))))
def Cp (w:World) (os:OsState):topRun treeTable pg w 11 hdn 2073 (⟨boot_heap w.params,Array.mk [],boot_drawn,boot_toks,os⟩:Shared) (topStub pg)=some (⟨hfin w.params,Array.mk [],Drawn.mk 0 0 0 0,665,os⟩:Shared):=go_top (n:=12) (N:=2061) (Cq w os) (piece_block (n:=1) (N:=2060) (Cv w os) (zK w os))
def zL: ∀w:World,(fencedOpening treeTable pg w 4234).map (fun s=>(s.heap,s.gens,s.drawn,s.toks))=some (boot_heap w.params,Array.mk [],boot_drawn,boot_toks):=boot_open rfl (by decide) (fun s=>rfl)
def zJ: ∀w:World,((boot_heap w.params).isNs mainGlobals&&(Array.mk []:Array GenState).size == 0,(boot_heap w.params).objs.size,(boot_heap w.params).nsMap mainGlobals "__annotations__")=(true,11,hdn):=fun w=>by kernel_rfl
def FW (w:World) (os:OsState):(staticsOk (importedModules pg.main.body) (boot_heap w.params) (hfin w.params)&&namesBound pg (hfin w.params)&&gensDone (⟨hfin w.params,Array.mk [],Drawn.mk 0 0 0 0,665,os⟩:Shared)&&laidKept (boot_heap w.params) (hfin w.params))=true:=by kernel_rfl
def FV (w:World) (os:OsState):openSeen ij [] (importedModules pg.main.body) (fun s=>xlAt ij [] s&&recOk Challenge.rw_slowroad_k55_what_goes.row.records s) true (⟨hfin w.params,Array.mk [],Drawn.mk 0 0 0 0,665,os⟩:Shared)=openGood ij []:=by kernel_rfl
def FU (w:World) (os:OsState):(kHook yu j0 kX).obs (⟨hfin w.params,Array.mk [],Drawn.mk 0 0 0 0,665,os⟩:Shared)=(kHook yu j0 kX).val w:=by kernel_rfl
def FX: ∀w:World,Option.map (fun s=>(openSeen ij [] (importedModules pg.main.body) (fun s=>xlAt ij [] s&&recOk Challenge.rw_slowroad_k55_what_goes.row.records s) true s,(kHook yu j0 kX).obs s)) (openEnds treeTable pg w 4234)=some (openGood ij [],(kHook yu j0 kX).val w):=LeftO.of_pieces (H₀:=boot_heap) (H₁:=hfin) zL zJ Cp (by decide) (fun w=>funext fun os=>looks_pair (FW w os) (looks_pair (FV w os) (FU w os)))
end
def dJ (ae:Addr):Sp:=fun vs H Q E=>match vs with
 | [.ref p,.int m]=> ∃dx,H p=some (.ins ae dx [])/\Q .non (upd H p (.ins ae dx (aE (.int m) (.int (MeterM.mn 2 m)) (.int m) (.int 0))))
 |_=>False
def dI (ae:Addr):Sp:=fun vs H Q E=>match vs with
 | [.ref p]=> ∃dx m w k c,H p=some (.ins ae dx (aE (.int m) (.int w) (.int k) (.int c)))/\Q .non (upd H p (.ins ae dx (aE (.int m) (.int (MeterM.k1 m k (w,c)).1) (.int k) (.int (MeterM.k1 m k (w,c)).2))))
 |_=>False
def fF (ae:Addr):Sp:=fun vs H Q E=>match vs with
 | [.ref p,.int n]=>(0<=n/\n<1000)/\∃dx m w k c,H p=some (.ins ae dx (aE (.int m) (.int w) (.int k) (.int c)))/\Q .non (upd H p (.ins ae dx (aE (.int m) (.int (MeterM.kn m k n.toNat (w,c)).1) (.int k) (.int (MeterM.kn m k n.toNat (w,c)).2))))
 |_=>False
def gq (ae:Addr):Sp:=fun vs H Q E=>match vs with
 | [.ref p]=> ∃dx m w k c,H p=some (.ins ae dx (aE (.int m) (.int w) (.int k) (.int c)))/\Q (.int (MeterM.hf w)) H
 |_=>False
def eg (ae:Addr):Sp:=fun vs H Q E=>match vs with
 | [.ref p]=> ∃dx m w k c,H p=some (.ins ae dx (aE (.int m) (.int w) (.int k) (.int c)))/\Q .non (upd H p (.ins ae dx (aE (.int m) (.int 1) (.int (MeterM.hf w)) (.int 0))))
 |_=>False
def eh (ae:Addr):Sp:=fun vs H Q E=>match vs with
 | [.ref p]=> ∃dx m w k c,H p=some (.ins ae dx (aE (.int m) (.int w) (.int k) (.int c)))/\Q .non (upd H p (.ins ae dx (aE (.int m) (.int (MeterM.hf w)) (.int (MeterM.hf w)) (.int 0))))
 |_=>False
structure Wb (a A b B m:Int):Prop where
 m0:0<=m
 m1:m<=1000000
 a0:0<=a
 A0:0<A
 b0:0<=b
 B0:0<B
 a1:Bd 1000 a
 A1:Bd 1000 A
 b1:Bd 1000 b
 B1:Bd 1000 B
def qh (ai:Addr) (H:Hp) (p dx:Addr) (L w a A b B:Int):Prop:= ∃ps pp,H p=some (.ins ai dx (aK (.int L) (.ref ps) (.ref pp) (.int w)))/\H ps=some (.tup [.int a,.int A])/\H pp=some (.tup [.int b,.int B])
noncomputable abbrev nsp:=WaysM.nsp
noncomputable abbrev nsm:=WaysM.nsm
noncomputable def lw (a A b B:Int):Int:=-(-(a*B+4*b*A) / (A*B))
noncomputable def wt (L a A b B:Int):Int:=if 2<(if lw a A b B<L then lw a A b B else L) then (if lw a A b B<L then lw a A b B else L) else 2
def Wb.mB {a A b B m:Int} (W:Wb a A b B m):Bd 20 m:=Bd.of W.m0 (by have:=W.m1;lia)
def Wb.FC {a A b B m:Int} (W:Wb a A b B m):0<=3*a+m*A/\0<4*A:=by
 have:=Int.mul_nonneg W.m0 (Int.le_of_lt W.A0);have:=W.a0;have:=W.A0;lia
def Wb.FA {a A b B m:Int} (W:Wb a A b B m):0<=3*b*A+((a - m*A).natAbs:Int)*B/\0<4*(A*B):=by
 have p1:=Int.mul_pos W.A0 W.B0;have:=Int.mul_nonneg (Int.mul_nonneg (show (0:Int)<=3 by decide) W.b0) (Int.le_of_lt W.A0);have:=Int.mul_nonneg (Int.natCast_nonneg (a - m*A).natAbs) (Int.le_of_lt W.B0);lia
def Wb.HG {a A b B m:Int} (W:Wb a A b B m):0<=(nsm a A m).1/\0<(nsm a A m).2/\Bd 2000 (nsm a A m).1/\Bd 2000 (nsm a A m).2:=by
 obtain ⟨s,Lo⟩:=WaysM.gL W.FC.1 W.FC.2;have h1:Bd 1021 (3*a+m*A):=(((Bd.c (n:=2) (k:=3) (by decide)).mul W.a1).up (show 2+1000<=1020 by decide)).add (W.mB.mul W.A1);exact ⟨Lo.t0,Lo.b0,(h1.le Lo.t0 Lo.tl).up (by decide),(Bd.le ((Bd.c (n:=3) (k:=4) (by decide)).mul W.A1) (Int.le_of_lt Lo.b0) Lo.bl).up (by decide)⟩
def Wb.HF {a A b B m:Int} (W:Wb a A b B m):0<=(nsp a A b B m).1/\0<(nsp a A b B m).2/\Bd 3000 (nsp a A b B m).1/\Bd 3000 (nsp a A b B m).2:=by
 obtain ⟨s,Lo⟩:=WaysM.gL W.FA.1 W.FA.2;have d:=((W.a1.up (show 1000<=1020 by decide)).sub (W.mB.mul W.A1)).abs;have h1:Bd 2022 (3*b*A+((a - m*A).natAbs:Int)*B):=((((Bd.c (n:=2) (k:=3) (by decide)).mul W.b1).mul W.A1).up (show 2+1000+1000<=2021 by decide)).add (d.mul W.B1);exact ⟨Lo.t0,Lo.b0,(h1.le Lo.t0 Lo.tl).up (by decide),(Bd.le ((Bd.c (n:=3) (k:=4) (by decide)).mul (W.A1.mul W.B1)) (Int.le_of_lt Lo.b0) Lo.bl).up (by decide)⟩
def Wb.of {n:Nat} {P S D a A b B m:Int} (h:WaysM.St n P S D a A b B) (hn:n<=440) (h0:0<=m) (h1:m<=1000000):Wb a A b B m:=by
 have e:(4:Int) ^ n=((2 ^ (2*n):Nat):Int):=by rw [WaysM.kZ];simp
 have hP:Bd 881 P:=by rw [h.p,e];exact Bd.c (Nat.pow_lt_pow_right (by decide) (by lia))
 have P0:=Int.le_of_lt h.P0;have hS:Bd 901 S:=Bd.le ((Bd.c (n:=20) (k:=1000000) (by decide)).mul hP) h.s0 h.s1;have hD:Bd 902 D:=Bd.le ((Bd.c (n:=21) (k:=2000000) (by decide)).mul hP) h.d0 h.d1;exact ⟨h0,h1,h.a0,h.A0,h.b0,h.B0,(hS.le h.a0 h.a1).up (by decide),(hP.le (Int.le_of_lt h.A0) h.A1).up (by decide),(hD.le h.b0 h.b1).up (by decide),(Bd.le ((Bd.c (n:=2) (k:=2) (by decide)).mul hP) (Int.le_of_lt h.B0) h.B1).up (by decide)⟩
def lx:Sp:=fun vs H Q E=>match vs with
 | [.int t,.int b]=>(0<=t/\0<b/\Bd 8000 b)/\∀p,H p=none->Q (.ref p) (upd H p (.tup [.int (WaysM.low t b).1,.int (WaysM.low t b).2]))
 |_=>False
def d_ (ai:Addr):Sp:=fun vs H Q E=>match vs with
 | [.ref p,.int f,.int l]=> ∃dx,H p=some (.ins ai dx [])/\Q .non (upd H p (.ins ai dx (aK (.int l) .non .non (.int f))))
 |_=>False
def cT (ai:Addr):Sp:=fun vs H Q E=>match vs with
 | [.ref p,.int m]=> ∃dx L w a A b B,Wb a A b B m/\qh ai H p dx L w a A b B/\∀q,H q=none->Q (.ref q) (upd H q (.tup [.int (nsp a A b B m).1,.int (nsp a A b B m).2]))
 |_=>False
def cU (ai:Addr):Sp:=fun vs H Q E=>match vs with
 | [.ref p,.int m]=> ∃dx L s ps w a A,(0<=m/\m<=1000000/\0<=a/\0<A/\Bd 1000 A)/\H p=some (.ins ai dx (aK (.int L) (.ref ps) s (.int w)))/\H ps=some (.tup [.int a,.int A])/\∀q,H q=none->Q (.ref q) (upd H q (.tup [.int (nsm a A m).1,.int (nsm a A m).2]))
 |_=>False
def dc (ai:Addr):Sp:=fun vs H Q E=>match vs with
 | [.ref p]=> ∃dx L w a A b B,(0<A/\0<B/\Bd 2000 a/\Bd 2000 A/\Bd 3000 b/\Bd 3000 B)/\qh ai H p dx L w a A b B/\Q (.int (lw a A b B)) H
 |_=>False
def cO (ai:Addr):Sp:=fun vs H Q E=>match vs with
 | [.ref p,.int m]=>(0<=m/\m<=1000000)/\((∃dx L w,H p=some (.ins ai dx (aK (.int L) .non .non (.int w)))/\∀H',fV p H H'->qh ai H' p dx L (wt L m 1 (WaysM.low m 2).1 (WaysM.low m 2).2) m 1 (WaysM.low m 2).1 (WaysM.low m 2).2->Q .non H')\/(∃dx L w a A b B,Wb a A b B m/\qh ai H p dx L w a A b B/\∀H',fV p H H'->qh ai H' p dx L (wt L (nsm a A m).1 (nsm a A m).2 (nsp a A b B m).1 (nsp a A b B m).2) (nsm a A m).1 (nsm a A m).2 (nsp a A b B m).1 (nsp a A b B m).2->Q .non H'))
 |_=>False
def eX (ai:Addr):Sp:=fun vs H Q E=>match vs with
 | [.ref p]=> ∃dx L s sp w,H p=some (.ins ai dx (aK (.int L) s sp (.int w)))/\Q .non (upd H p (.ins ai dx (aK (.int L) s sp (.int (if L<2*w then L else 2*w)))))
 |_=>False
def eW (K:W.Frag) (a₀:Addr) (ns:List Int):Sp:=fun vs H Q E=>match vs with
 | [.ref a,.int k]=>a=a₀/\cQ K H a₀ (ns.map V.int)/\0<=k/\∀n,Q (.int n) H
 |_=>False
def nB:Sp:=fun vs H Q E=>match vs with
 | [.int r,.int a,.int b]=>0<r/\Q (.int ((b - a) % r)) H
 |_=>False
noncomputable abbrev Wg:=Option (Int×Int×Int×Int)
def WS (C:Addr) (H:Hp) (p dx:Addr) (L w:Int) (g:Wg) (k:Nat):Prop:=2<=L/\(2<=w/\w<=L)/\((k=0/\g=none/\H p=some (.ins C dx (aK (V.int L) V.non V.non (V.int w))))\/∃n P S D a A b B,g=some (a,A,b,B)/\n+1=k/\WaysM.St n P S D a A b B/\qh C H p dx L w a A b B)
noncomputable def mgs (g:Wg) (m:Int):Wg:=match g with
 |none=>some (m,1,(WaysM.low m 2).1,(WaysM.low m 2).2)
 |some (a,A,b,B)=>some ((nsm a A m).1,(nsm a A m).2,(nsp a A b B m).1,(nsp a A b B m).2)
noncomputable def mws (L:Int) (g:Wg):Int:=match g with
 |none=>2
 |some (a,A,b,B)=>wt L a A b B
def Ac {L a A b B:Int} (h:2<=L):2<=wt L a A b B/\wt L a A b B<=L:=by
 unfold wt;generalize lw a A b B=x
 (repeat' split)<;>lia
def WS.meas {C p dx:Addr} {H:Hp} {L w m:Int} {g:Wg} {k:Nat} {Q:VK} {E:XK} (h:WS C H p dx L w g k) (hk:k<=440) (m0:0<=m) (m1:m<=1000000) (q: ∀H',fV p H H'->WS C H' p dx L (mws L (mgs g m)) (mgs g m) (k+1)->Q .non H'):cO C [.ref p,.int m] H Q E:=by
 obtain ⟨hL,hw,⟨h1,rfl,hi⟩|⟨n,P,S,D,a,A,b,B,rfl,h1,hS,hA⟩⟩:=h
 ·exact ⟨⟨m0,m1⟩,.inl ⟨dx,L,w,hi,fun H' hB hW=>q H' hB ⟨hL,Ac hL,.inr ⟨0,_,_,_,_,_,_,_,rfl,by lia,WaysM.St.first m0 m1,hW⟩⟩⟩⟩
 ·exact ⟨⟨m0,m1⟩,.inr ⟨dx,L,w,a,A,b,B,Wb.of hS (by lia) m0 m1,hA,fun H' hB hW=>q H' hB ⟨hL,Ac hL,.inr ⟨n+1,_,_,_,_,_,_,_,rfl,by lia,hS.step m0 m1,hW⟩⟩⟩⟩
def WS.ins {C p dx:Addr} {H:Hp} {L w:Int} {g:Wg} {k:Nat} (h:WS C H p dx L w g k): ∃s sp,H p=some (.ins C dx (aK (V.int L) s sp (V.int w))):=by
 obtain ⟨_,_,⟨_,_,hi⟩|⟨n,P,S,D,a,A,b,B,_,_,_,⟨ps,pp,g1,_⟩⟩⟩:=h
 ·exact ⟨_,_,hi⟩
 ·exact ⟨_,_,g1⟩
noncomputable def gsm (g:Wg):Dt:=match g with
 |none=> .non
 |some (a,A,_,_)=> .t [.int a,.int A]
noncomputable def gsp (g:Wg):Dt:=match g with
 |none=> .non
 |some (_,_,b,B)=> .t [.int b,.int B]
def Gb {K:W.Frag} {H:Hp} {p:Addr} {a b:Int} (h:H p=some (.tup [.int a,.int b])):Den K H 1 (.ref p) (.t [.int a,.int b]):=
 .inr (.inr ⟨p,_,_,rfl,rfl,fx.of h,.cons (.inr (.inl ⟨_,rfl,rfl⟩)) (.cons (.inr (.inl ⟨_,rfl,rfl⟩)) .nil)⟩)
def WS.keep {C p dx:Addr} {H H':Hp} {L w:Int} {g:Wg} {k:Nat} (h:WS C H p dx L w g k) (hp: ∀o,H p=some o->H' p=some o) (ht: ∀t l,H t=some (.tup l)->H' t=some (.tup l)):WS C H' p dx L w g k:=by
 obtain ⟨h0,h1,⟨a1,a2,a3⟩|⟨n,P,S,D,a,A,b,B,b0,b1,b2,⟨ps,pp,g1,g2,g3⟩⟩⟩:=h
 ·exact ⟨h0,h1,.inl ⟨a1,a2,hp _ a3⟩⟩
 ·exact ⟨h0,h1,.inr ⟨n,P,S,D,a,A,b,B,b0,b1,b2,⟨ps,pp,hp _ g1,ht _ _ g2,ht _ _ g3⟩⟩⟩
def MS (C:Addr) (H:Hp) (p dx:Addr) (mo wi kn co:Int):Prop:=H p=some (.ins C dx (aE (.int mo) (.int wi) (.int kn) (.int co)))/\MeterM.AK mo (wi,co)
structure Ad where
 dx:Addr
 pw:Addr
 pm:Addr
 pt:Addr
 pk:Addr
 pf:Addr
 pa:Addr
 dw:Addr
 dm:Addr
structure Sd where
 R:Int
 b:Int
 t:Int
 e:Int
 clk:V
 hur:Bool
 T:List V
 Kn:List (Key×V)
 Fi:List (Key×V)
 Ag:List (Key×V)
 L:Int
 w:Int
 k:Nat
 wi:Int
 g:Wg
 mo:Int
 kn:Int
 co:Int
structure a9 (CS CW CM:Addr) (H:Hp) (x:Addr) (A:Ad) (z:Sd):Prop where
 hx:H x=some (.ins CS A.dx (aB (.int z.R) (.ref A.pw) (.ref A.pm) (.ref A.pt) (.int z.b) (.int z.t) (.int z.e) z.clk (.bl z.hur) (.ref A.pk) (.ref A.pf) (.ref A.pa)))
 ht:H A.pt=some (.lst z.T)
 hk:H A.pk=some (.dK z.Kn)
 hf:H A.pf=some (.dK z.Fi)
 ha:H A.pa=some (.dK z.Ag)
 ws:WS CW H A.pw A.dw z.L z.w z.g z.k
 ms:MS CM H A.pm A.dm z.mo z.wi z.kn z.co
 kf:A.pk≠A.pf
 ka:A.pk≠A.pa
 fa:A.pf≠A.pa
 xw:x≠A.pw
 xm:x≠A.pm
 wm:A.pw≠A.pm
def a9.same {CS CW CM x:Addr} {H H':Hp} {A:Ad} {z:Sd} (h:a9 CS CW CM H x A z) (e:cC H H'):a9 CS CW CM H' x A z:=by
 obtain ⟨e1,hi⟩:=h.ms;exact ⟨e _ _ h.hx,e _ _ h.ht,e _ _ h.hk,e _ _ h.hf,e _ _ h.ha,h.ws.keep (fun o q=>e _ _ q) (fun t l q=>e _ _ q),⟨e _ _ e1,hi⟩,h.kf,h.ka,h.fa,h.xw,h.xm,h.wm⟩
def a9.put {CS CW CM x:Addr} {H:Hp} {A:Ad} {z:Sd} (h:a9 CS CW CM H x A z) (b t e:Int) (c:V) (u:Bool):a9 CS CW CM (upd H x (.ins CS A.dx (aB (.int z.R) (.ref A.pw) (.ref A.pm) (.ref A.pt) (.int b) (.int t) (.int e) c (.bl u) (.ref A.pk) (.ref A.pf) (.ref A.pa)))) x A {z with b:=b,t:=t,e:=e,clk:=c,hur:=u}:=by
 obtain ⟨e1,hi⟩:=h.ms;refine ⟨ax,by rw [af (aF h.ht h.hx (by simp))];exact h.ht,by rw [af (aF h.hk h.hx (by simp))];exact h.hk,by rw [af (aF h.hf h.hx (by simp))];exact h.hf,by rw [af (aF h.ha h.hx (by simp))];exact h.ha,
  h.ws.keep (fun o q=>by rw [af h.xw.symm];exact q) (fun t l q=>by rw [af (aF q h.hx (by simp))];exact q),⟨by rw [af h.xm.symm];exact e1,hi⟩,h.kf,h.ka,h.fa,h.xw,h.xm,h.wm⟩
def a9.row {CS CW CM x q:Addr} {H:Hp} {A:Ad} {z:Sd} {o u:HO} (h:a9 CS CW CM H x A z) (hq:H q=some o) (T:List V) (Kn Fi:List (Key×V)) (n1: ∀C d l,o≠ .ins C d l) (n2: ∀l,o≠ .tup l)
  (g1:upd H q u A.pt=some (.lst T)) (g2:upd H q u A.pk=some (.dK Kn)) (g3:upd H q u A.pf=some (.dK Fi)) (g4:q≠A.pa):a9 CS CW CM (upd H q u) x A {z with T:=T,Kn:=Kn,Fi:=Fi}:=by
 obtain ⟨e1,hi⟩:=h.ms;have ni: ∀p C d l,H p=some (.ins C d l)->p≠q:=fun p C d l e c=>by rw [c,hq] at e;cases e;exact n1 _ _ _ rfl
 obtain ⟨s,sp,ew⟩:=h.ws.ins;exact ⟨by rw [af (ni _ _ _ _ h.hx)];exact h.hx,g1,g2,g3,by rw [af g4.symm];exact h.ha,h.ws.keep (fun o' e=>by rw [af (ni _ _ _ _ ew)];exact e) (fun t l e=>by rw [af (fun c=>by rw [c,hq] at e;cases e;exact n2 _ rfl)];exact e),⟨by rw [af (ni _ _ _ _ e1)];exact e1,hi⟩,h.kf,h.ka,h.fa,h.xw,h.xm,h.wm⟩
def mj (x:Addr) (A:Ad) (H H':Hp):Prop:= ∀b u,H b=some u->b≠x->b≠A.pw->b≠A.pm->b≠A.pt->b≠A.pk->b≠A.pf->H' b=some u
def mj.of {x:Addr} {A:Ad} {H H':Hp} (h:cC H H'):mj x A H H':=fun b u e _ _ _ _ _ _=>h b u e
def mj.trans {x:Addr} {A:Ad} {H H' H'':Hp} (h:mj x A H H') (h':mj x A H' H''):mj x A H H'':=fun b u e a1 a2 a3 a4 a5 a6=>h' b u (h b u e a1 a2 a3 a4 a5 a6) a1 a2 a3 a4 a5 a6
def a9.nw {CS CW CM x:Addr} {H:Hp} {A:Ad} {z:Sd} (h:a9 CS CW CM H x A z) {b:Addr} {o:HO} (e:H b=some o) (n: ∀C d l,o≠ .ins C d l):b≠x/\b≠A.pw/\b≠A.pm:=by
 obtain ⟨s,sp,ew⟩:=h.ws.ins;obtain ⟨em,_⟩:=h.ms;exact ⟨aF e h.hx (n _ _ _),aF e ew (n _ _ _),aF e em (n _ _ _)⟩
def a9.ways {CS CW CM x:Addr} {H H':Hp} {A:Ad} {z:Sd} {w:Int} {g:Wg} {k:Nat} (h:a9 CS CW CM H x A z) (hB:fV A.pw H H') (hw:WS CW H' A.pw A.dw z.L w g k):a9 CS CW CM H' x A {z with w:=w,g:=g,k:=k}:=by
 obtain ⟨em,hi⟩:=h.ms;exact ⟨hB _ _ h.hx h.xw,hB _ _ h.ht (h.nw h.ht (by simp)).2.1,hB _ _ h.hk (h.nw h.hk (by simp)).2.1,hB _ _ h.hf (h.nw h.hf (by simp)).2.1,hB _ _ h.ha (h.nw h.ha (by simp)).2.1,hw,⟨hB _ _ em h.wm.symm,hi⟩,h.kf,h.ka,h.fa,h.xw,h.xm,h.wm⟩
def a9.meter {CS CW CM x:Addr} {H H':Hp} {A:Ad} {z:Sd} {wi kn co:Int} (h:a9 CS CW CM H x A z) (hB:fV A.pm H H') (hm:MS CM H' A.pm A.dm z.mo wi kn co):a9 CS CW CM H' x A {z with wi:=wi,kn:=kn,co:=co}:=by
 obtain ⟨em,hi⟩:=h.ms;exact ⟨hB _ _ h.hx h.xm,hB _ _ h.ht (h.nw h.ht (by simp)).2.2,hB _ _ h.hk (h.nw h.hk (by simp)).2.2,hB _ _ h.hf (h.nw h.hf (by simp)).2.2,hB _ _ h.ha (h.nw h.ha (by simp)).2.2,h.ws.keep (fun o e=>hB _ _ e h.wm) (fun t l e=>hB _ _ e (aF e em (by simp))),hm,h.kf,h.ka,h.fa,h.xw,h.xm,h.wm⟩
def mj.tup {CS CW CM x t:Addr} {H H':Hp} {A:Ad} {z:Sd} {l:List V} (f:mj x A H H') (h:a9 CS CW CM H x A z) (e:H t=some (.tup l)):H' t=some (.tup l):=by
 obtain ⟨a1,a2,a3⟩:=h.nw e (by simp);exact f t _ e a1 a2 a3 (aF e h.ht (by simp)) (aF e h.hk (by simp)) (aF e h.hf (by simp))
def mj.lst {CS CW CM x t:Addr} {H H':Hp} {A:Ad} {z:Sd} {l:List V} (f:mj x A H H') (h:a9 CS CW CM H x A z) (e:H t=some (.lst l)) (n:t≠A.pt):H' t=some (.lst l):=by
 obtain ⟨a1,a2,a3⟩:=h.nw e (by simp);exact f t _ e a1 a2 a3 n (aF e h.hk (by simp)) (aF e h.hf (by simp))
def mj.none {CS CW CM x p:Addr} {H H':Hp} {A:Ad} {z:Sd} (f:mj x A H H') (h:a9 CS CW CM H' x A z) (e:H' p=none):H p=none:=by
 obtain ⟨s,sp,ew⟩:=h.ws.ins;obtain ⟨em,_⟩:=h.ms;cases q:H p with
 |none=>rfl
 |some u=>
  have nn: ∀{b:Addr} {o:HO},H' b=some o->p≠b:=fun {b o} eb c=>by rw [c,eb] at e;cases e
  rw [f p u q (nn h.hx) (nn ew) (nn em) (nn h.ht) (nn h.hk) (nn h.hf)] at e;cases e
def zO {H H':Hp} (e:cC H H') {p:Addr} (h:H' p=none):H p=none:=by
 cases q:H p with
 |none=>rfl
 |some o=>rw [e _ _ q] at h;cases h
def CZ {α:Type} {xs:List α} {i:Int} (h0:0<=i) (h1:i<xs.length): ∃v,j4 xs i=some v:=by
 obtain ⟨j,rfl⟩: ∃j:Nat,i=(j:Int):=⟨i.toNat,by lia⟩;exact ⟨xs[j]'(by lia),oA (List.getElem?_eq_getElem (by lia))⟩
noncomputable def knw (D:List (Key×V)) (j:Int):Bool:=(aX D (ik j)).isSome
noncomputable def kab (z:Sd):Nat:=((List.range (z.t - (z.b+1)).toNat).filter fun j:Nat=>knw z.Kn (z.b+1+(j:Int))).length
def sq {z:Sd}:kab z<=(z.t - (z.b+1)).toNat:=by
 unfold kab;exact Nat.le_trans (List.length_filter_le _ _) (by rw [List.length_range];exact Nat.le_refl _)
def zz {z:Sd} {N:Nat} (h:N=(z.t - (z.b+1)).toNat):(List.map (fun v=>v) (List.filter (fun v=>match v with|V.int i=>knw z.Kn i|_=>false) (fL (z.b+1) N))).length=kab z:=by
 subst h;unfold fL kab;rw [List.map_id',List.filter_map,List.length_map];rfl
noncomputable def putAll (D:List (Key×V)) (ps:List Int):List (Key×V):=ps.foldl (fun D n=>putK D (ik n) (.bl true)) D
noncomputable def frs (D:List (Key×V)) (ps:List Int):List Int:=ps.filter fun n=>!knw D n
def Cz {D:List (Key×V)} {ps:List Int}:List.map (fun v=>v) (List.filter (fun v=>match v with|V.int i=>!knw D i|_=>false) (ps.map V.int))=(frs D ps).map V.int:=by
 unfold frs;rw [List.map_id',List.filter_map];rfl
def h9 {D:List (Key×V)} {ps:List Int}:(putAll D ps).length<=D.length+ps.length:=by
 induction ps generalizing D with
 |nil=>exact Nat.le_refl _
 |cons a t ih=>
  have h1:=ih (D:=putK D (ik a) (.bl true));have h2:=bY D (ik a) (.bl true);show (putAll (putK D (ik a) (.bl true)) t).length<=_;simp only [List.length_cons];lia
def putAll_snoc {D:List (Key×V)} {ps:List Int} {n:Int}:putAll D (ps++ [n])=putK (putAll D ps) (ik n) (.bl true):=by
 unfold putAll;rw [List.foldl_append];rfl
noncomputable def irg (b:Int) (n:Nat):List Int:=(List.range n).map fun j:Nat=>b+(j:Int)
def sv {b:Int} {n:Nat}:fL b n=(irg b n).map V.int:=by
 unfold fL irg;rw [List.map_map];rfl
noncomputable def hld (z:Sd) (hs:List Int):List Int:=(hs.filter fun h=>decide (z.b+h<z.t)).map fun h=>z.b+h
def Co {z:Sd} {hs:List Int}:List.map (fun v=>match v with|V.int i=>V.int (z.b+i)|v=>v) (List.filter (fun v=>match v with|V.int i=>decide (z.b+i<z.t)|_=>false) (hs.map V.int))=(hld z hs).map V.int:=by
 unfold hld;rw [List.filter_map,List.map_map,List.map_map];rfl
def qB {z:Sd} {hs:List Int}:(hld z hs).length<=hs.length:=by
 unfold hld;rw [List.length_map];exact List.length_filter_le _ _
def oF (x:Addr) (A:Ad) (H H':Hp):Prop:= ∀b u,H b=some u->b≠x->b≠A.pw->b≠A.pm->b≠A.pt->b≠A.pk->b≠A.pf->b≠A.pa->H' b=some u
def mj.seven {x:Addr} {A:Ad} {H H':Hp} (h:mj x A H H'):oF x A H H':=fun b u e a1 a2 a3 a4 a5 a6 _=>h b u e a1 a2 a3 a4 a5 a6
def oF.trans {x:Addr} {A:Ad} {H H' H'':Hp} (h:oF x A H H') (h':oF x A H' H''):oF x A H H'':=fun b u e a1 a2 a3 a4 a5 a6 a7=>h' b u (h b u e a1 a2 a3 a4 a5 a6 a7) a1 a2 a3 a4 a5 a6 a7
def a9.GI {CS CW CM x:Addr} {H:Hp} {A:Ad} {z:Sd} (h:a9 CS CW CM H x A z) (Ag:List (Key×V)):a9 CS CW CM (upd H A.pa (.dK Ag)) x A {z with Ag:=Ag}:=by
 obtain ⟨e1,hi⟩:=h.ms;have ni: ∀{p C d:Addr} {l:List (Str×V)},H p=some (.ins C d l)->p≠A.pa:=fun e=>aF e h.ha (by simp);obtain ⟨s,sp,ew⟩:=h.ws.ins;exact ⟨by rw [af (ni h.hx)];exact h.hx,by rw [af (aF h.ht h.ha (by simp))];exact h.ht,by rw [af h.ka];exact h.hk,by rw [af h.fa];exact h.hf,ax,h.ws.keep (fun o' e=>by rw [af (ni ew)];exact e) (fun t l e=>by rw [af (aF e h.ha (by simp))];exact e),⟨by rw [af (ni e1)];exact e1,hi⟩,h.kf,h.ka,h.fa,h.xw,h.xm,h.wm⟩
def oF.none {CS CW CM x p:Addr} {H H':Hp} {A:Ad} {z:Sd} (f:oF x A H H') (h:a9 CS CW CM H' x A z) (e:H' p=none):H p=none:=by
 obtain ⟨s,sp,ew⟩:=h.ws.ins;obtain ⟨em,_⟩:=h.ms;cases q:H p with
 |none=>rfl
 |some u=>
  have nn: ∀{b:Addr} {o:HO},H' b=some o->p≠b:=fun {b o} eb c=>by rw [c,eb] at e;cases e
  rw [f p u q (nn h.hx) (nn ew) (nn em) (nn h.ht) (nn h.hk) (nn h.hf) (nn h.ha)] at e;cases e
def Jc (c:V) (n:Int) (r:Bool):Prop:=(c = .non/\r=false)\/∃i,c = .int i/\r=decide (i<=n)
structure Bz (z:Sd):Prop where
 b0:0<=z.b
 bt:z.b<=z.t
 t1:z.t<=900
def gp (aa ai ae:Addr):Sp:=fun vs H Q E=>match vs with
 | [.ref x,th]=> ∃A z,a9 aa ai ae H x A z/\z.T.length<1000/\∀H',fV A.pt H H'->a9 aa ai ae H' x A {z with T:=z.T++ [th]}->Q .non H'
 |_=>False
def fE (aa ai ae:Addr):Sp:=fun vs H Q E=>match vs with
 | [.ref x]=> ∃A z,a9 aa ai ae H x A z/\Q (.int z.T.length) H
 |_=>False
def mz (aa ai ae:Addr):Sp:=fun vs H Q E=>match vs with
 | [.ref x,.int p]=> ∃A z v,a9 aa ai ae H x A z/\j4 z.T p=some v/\Q v H
 |_=>False
def bJ (aa ai ae:Addr):Sp:=fun vs H Q E=>match vs with
 | [.ref x]=> ∃A z,a9 aa ai ae H x A z/\Bz z/\∀H',cC H H'->Q (.int (kab z)) H'
 |_=>False
def cV (aa ai ae:Addr):Sp:=fun vs H Q E=>match vs with
 | [.ref x]=> ∃A z,a9 aa ai ae H x A z/\Bz z/\∀H',cC H H'->Q (.int (z.t - z.b - kab z)) H'
 |_=>False
def cq (aa ai ae:Addr):Sp:=fun vs H Q E=>match vs with
 | [.ref x]=> ∃A z,a9 aa ai ae H x A z/\Q (.bl (decide (z.t<z.T.length))) H
 |_=>False
def bZ (aa ai ae:Addr):Sp:=fun vs H Q E=>match vs with
 | [.ref x]=> ∃A z,a9 aa ai ae H x A z/\Bz z/\∀H',cC H H'->Q (.bl (decide (z.b<z.t) && !z.hur&&decide ((2:Int)<=kab z))) H'
 |_=>False
def cE (aa ai ae:Addr):Sp:=fun vs H Q E=>match vs with
 | [.ref x]=> ∃A z,a9 aa ai ae H x A z/\Bz z/\∀H',cC H H'->Q (.bl (decide (z.t<z.T.length)&&decide (z.t<z.e)&&decide (z.t - z.b - kab z<z.wi))) H'
 |_=>False
def cu (aa ai ae:Addr):Sp:=fun vs H Q E=>match vs with
 | [.ref x,.ref l]=> ∃A z,∃ps:List Int,a9 aa ai ae H x A z/\H l=some (.lst (ps.map V.int))/\z.Kn.length<1000000/\ps.length<=1000/\∀p H',H p=none->mj x A H H'->a9 aa ai ae H' x A {z with Kn:=putAll z.Kn (frs z.Kn ps)}->H' p=some (.lst ((frs z.Kn ps).map V.int))->Q (.ref p) H'
 |_=>False
def cW (aa ai ae:Addr):Sp:=fun vs H Q E=>match vs with
 | [.ref x,.int n]=> ∃A z,a9 aa ai ae H x A z/\∀H',fV x H H'->a9 aa ai ae H' x A {z with clk:= .int (n+z.w)}->Q .non H'
 |_=>False
def cY (aa ai ae:Addr):Sp:=fun vs H Q E=>match vs with
 | [.ref x,.int st]=> ∃A z,a9 aa ai ae H x A z/\Bz z/\(0<=st/\st<=z.t - z.b)/\z.Kn.length<1000000/\∀fs p H',fs=frs z.Kn (irg z.b st.toNat)->H p=none->mj x A H H'->a9 aa ai ae H' x A {z with b:=z.b+st,Kn:=putAll z.Kn fs}->H' p=some (.lst (fs.map V.int))->Q (.ref p) H'
 |_=>False
def cX (aa ai ae:Addr):Sp:=fun vs H Q E=>match vs with
 | [.ref x,.ref t]=> ∃A z,∃hs:List Int,a9 aa ai ae H x A z/\H t=some (.tup (hs.map V.int))/\hs.length<=1000/\z.Kn.length<1000000/\∀fs p H',fs=frs z.Kn (hld z hs)->H p=none->mj x A H H'->a9 aa ai ae H' x A {z with Kn:=putAll z.Kn fs}->H' p=some (.lst (fs.map V.int))->Q (.ref p) H'
 |_=>False
def de (aa ai ae:Addr):Sp:=fun vs H Q E=>match vs with
 | [.ref x,.int n]=> ∃A z,a9 aa ai ae H x A z/\z.Ag.length<1000000/\∀p H',H p=none->oF x A H H'->a9 aa ai ae H' x A {z with clk:= .int (n+z.w),hur:=true,Ag:=putK z.Ag (ik z.b) (.bl true)}->H' p=some (.tup [.str "again",.int z.b])->Q (.ref p) H'
 |_=>False
def b9 (aa ai ae:Addr):Sp:=fun vs H Q E=>match vs with
 | [.ref x,.int n]=> ∃A z r,a9 aa ai ae H x A z/\Jc z.clk n r/\Q (.bl r) H
 |_=>False
def ee (aa ai ae:Addr):Sp:=fun vs H Q E=>match vs with
 | [.ref x,.int n]=> ∃A z,a9 aa ai ae H x A z/\z.Fi.length<1000000/\∀p H',H p=none->mj x A H H'->a9 aa ai ae H' x A {z with clk:=if z.b=z.t then .int (n+z.w) else z.clk,t:=z.t+1,Fi:=putK z.Fi (ik z.t) (.int n)}->H' p=some (.tup [.str "new",.int z.t])->Q (.ref p) H'
 |_=>False
noncomputable def w2 (z:Sd):Int:=if z.L<2*z.w then z.L else 2*z.w
def WS.ran {C p dx:Addr} {H:Hp} {L w:Int} {g:Wg} {k:Nat} (h:WS C H p dx L w g k): ∃s sp,H p=some (.ins C dx (aK (V.int L) s sp (V.int w)))/\WS C (upd H p (.ins C dx (aK (V.int L) s sp (V.int (if L<2*w then L else 2*w))))) p dx L (if L<2*w then L else 2*w) g k:=by
 obtain ⟨h0,h1,⟨a1,a2,a3⟩|⟨n,P,S,D,a,A,b,B,b0,b1,b2,⟨ps,pp,g1,g2,g3⟩⟩⟩:=h
 ·exact ⟨_,_,a3,h0,by split<;>lia,.inl ⟨a1,a2,ax⟩⟩
 ·exact ⟨_,_,g1,h0,by split<;>lia,.inr ⟨n,P,S,D,a,A,b,B,b0,b1,b2,⟨ps,pp,ax,by rw [af (aF g2 g1 (by simp))];exact g2,by rw [af (aF g3 g1 (by simp))];exact g3⟩⟩⟩
noncomputable def nN (c:V) (n:Int):Bool:=match c with
 | .int i=>decide (i<=n)
 |_=>false
noncomputable def kW (z:Sd):Bool:=decide (z.b<z.t) && !z.hur&&decide ((2:Int)<=kab z)
noncomputable def kd (z:Sd):Bool:=decide (z.t<z.T.length)&&decide (z.t<z.e)&&decide (z.t - z.b - kab z<z.wi)
noncomputable def i9 (z:Sd) (n:Int):Sd:={z with w:=w2 z,wi:=1,kn:=MeterM.hf z.wi,co:=0,clk:= .int (n+w2 z),hur:=true,Ag:=putK z.Ag (ik z.b) (.bl true)}
noncomputable def nU (z:Sd) (n:Int):Sd:={z with wi:=MeterM.hf z.wi,kn:=MeterM.hf z.wi,co:=0,clk:= .int (n+z.w),hur:=true,Ag:=putK z.Ag (ik z.b) (.bl true)}
noncomputable def oP (z:Sd) (n:Int):Sd:={z with clk:=if z.b=z.t then .int (n+z.w) else z.clk,t:=z.t+1,Fi:=putK z.Fi (ik z.t) (.int n)}
noncomputable def pB (z:Sd) (n:Int):Sd:={z with w:=w2 z,clk:= .int (n+w2 z)}
noncomputable def vY (z:Sd) (n:Int):Sd:={z with clk:= .int (n+z.w)}
def Gr (z z':Sd) (n:Int) (v:V) (H H':Hp):Prop:=(z.clk = .non/\z'=vY z n/\v = .non)\/(∃i,z.clk = .int i/\n<i/\z'=z/\v = .non)\/(∃i,z.clk = .int i/\i<=n/\z'=pB z n/\∃p,v = .ref p/\H p=none/\H' p=some (.tup [.str "ask",.non]))
def C1 (z z':Sd) (n:Int) (v:V) (H H':Hp):Prop:=
 (z.b<z.t/\nN z.clk n=true/\z'=i9 z n/\∃p,v = .ref p/\H p=none/\H' p=some (.tup [.str "again",.int z.b]))\/
 (
  (z.b<z.t->nN z.clk n=false)/\((kW z=true/\z'=nU z n/\∃p,v = .ref p/\H p=none/\H' p=some (.tup [.str "again",.int z.b]))\/
  (
   kW z=false/\((kd z=true/\z'=oP z n/\∃p,v = .ref p/\H p=none/\H' p=some (.tup [.str "new",.int z.t]))\/
   (kd z=false/\((z.t<z.T.length/\z.b=z.t/\Gr z z' n v H H')\/(¬(z.t<z.T.length/\z.b=z.t)/\z'=z/\v = .non)))))))
def Gr.fr {z z':Sd} {n:Int} {v:V} {H H0 H':Hp} (h:Gr z z' n v H H') (f: ∀p,H p=none->H0 p=none):Gr z z' n v H0 H':=by
 rcases h with h|h|⟨i,h1,h2,h3,p,h4,h5,h6⟩
 ·exact .inl h
 ·exact .inr (.inl h)
 ·exact .inr (.inr ⟨i,h1,h2,h3,p,h4,f p h5,h6⟩)
def b_ (aa ai ae:Addr):Sp:=fun vs H Q E=>match vs with
 | [.ref x,.int n]=> ∃A z,a9 aa ai ae H x A z/\(z.clk = .non\/∃i,z.clk = .int i)/\∀v H' z',oF x A H H'->a9 aa ai ae H' x A z'->Gr z z' n v H H'->Q v H'
 |_=>False
def gU (aa ai ae:Addr):Sp:=fun vs H Q E=>match vs with
 | [.ref x,.int n]=> ∃A z,a9 aa ai ae H x A z/\Bz z/\(z.clk = .non\/∃i,z.clk = .int i)/\z.Ag.length<1000000/\z.Fi.length<1000000/\∀v H' z',oF x A H H'->a9 aa ai ae H' x A z'->C1 z z' n v H H'->Q v H'
 |_=>False
noncomputable def cnt (D:List (Key×V)) (t:Nat):Nat:=((List.range t).filter fun j:Nat=>knw D (j:Int)).length
def yd {D:List (Key×V)} {t:Nat}:cnt D t<=t:=by
 unfold cnt;exact Nat.le_trans (List.length_filter_le _ _) (by rw [List.length_range];exact Nat.le_refl _)
def oj {D:List (Key×V)} {t:Nat}:cnt D (t+1)=cnt D t+if knw D (t:Int) then 1 else 0:=by
 unfold cnt;rw [List.range_succ,List.filter_append,List.length_append];congr 1;rw [List.filter_cons];split<;>simp
def gg {D:List (Key×V)} {a b:Int} {v:V}:knw (putK D (ik a) v) b=(decide (b=a)||knw D b):=by
 unfold knw;rw [iR];by_cases c:b=a
 ·subst c;rw [if_pos rfl];simp
 ·rw [if_neg (by intro h;exact c (by injection h))];simp [c]
def tV {D:List (Key×V)} {a:Int} {v:V} (h:knw D a=false) (h0:0<=a): ∀{t:Nat},cnt (putK D (ik a) v) t=cnt D t+if a<(t:Int) then 1 else 0
 |0=>by show 0=0+_;rw [if_neg (by lia)]
 |t+1=>by
  rw [oj,oj,tV h h0 (t:=t),gg];by_cases c:(t:Int)=a
  ·
   subst c;rw [h];simp;lia
  ·
   have e:(decide ((t:Int)=a)||knw D (t:Int))=knw D (t:Int):=by simp [c]
   rw [e];generalize (if knw D (t:Int)=true then 1 else 0)=gk;by_cases c2:a<(t:Int)
   ·rw [if_pos c2,if_pos (show a<((t+1:Nat):Int) by lia)];lia
   ·rw [if_neg c2,if_neg (show¬a<((t+1:Nat):Int) by lia)];lia
def js {t:Nat}: ∀{fs:List Int} {D:List (Key×V)},fs.Nodup->(∀a∈fs,knw D a=false/\0<=a/\a<(t:Int))->cnt (putAll D fs) t=cnt D t+fs.length
 | [],_,_,_=>rfl
 |a::l,D,hn,h=>by
  obtain ⟨h1,h2,h3⟩:=h a (List.mem_cons_self ..);obtain ⟨n1,n2⟩:=List.nodup_cons.mp hn;show cnt (putAll (putK D (ik a) (.bl true)) l) t=_;rw [js n2 (fun b hb=>?_),tV h1 h2,if_pos h3,List.length_cons]
  ·lia
  ·
   obtain ⟨k1,k2,k3⟩:=h b (List.mem_cons_of_mem _ hb);have:b≠a:=fun e=>n1 (by rw [<-e];exact hb);exact ⟨by rw [gg,k1];simp [this],k2,k3⟩
def gN {b:Int} {n:Nat}:(irg b n).Nodup:=by
 unfold irg;unfold List.Nodup;rw [List.pairwise_map];exact (List.nodup_range (n:=n)).imp fun h e=>h (by lia)
def gh {b a:Int} {n:Nat} (h:a∈irg b n):b<=a/\a<b+n:=by
 unfold irg at h;obtain ⟨j,hj,rfl⟩:=List.mem_map.mp h;have:=List.mem_range.mp hj;lia
def lQ {z:Sd} {hs:List Int} (h:hs.Nodup):(hld z hs).Nodup:=by
 unfold hld;unfold List.Nodup;rw [List.pairwise_map];exact (List.Pairwise.filter _ h).imp fun h e=>h (by lia)
def nj {z:Sd} {hs:List Int} {a:Int} (h:a∈hld z hs):a<z.t/\∃k∈hs,a=z.b+k:=by
 unfold hld at h;obtain ⟨k,hk,rfl⟩:=List.mem_map.mp h;obtain ⟨m1,m2⟩:=List.mem_filter.mp hk;exact ⟨by simpa using m2,k,m1,rfl⟩
def ip {D:List (Key×V)} {ps:List Int} {a:Int} (h:a∈frs D ps):a∈ps/\knw D a=false:=by
 unfold frs at h;obtain ⟨m1,m2⟩:=List.mem_filter.mp h;exact ⟨m1,by simpa using m2⟩
def Tq (z:Sd) (tn:Int):Prop:= ∀j:Int,0<=j->j<z.t->∃f,aX z.Fi (ik j)=some (.int f)/\0<=tn - f/\tn - f<=1000000
noncomputable def far' (z:Sd) (nu:Int):Int:=(nu - z.b) % z.R
noncomputable def kD (z:Sd) (nu:Int):List Int:=frs z.Kn (irg z.b (far' z nu).toNat)
noncomputable def eI (z:Sd) (nu:Int):Sd:={z with b:=z.b+far' z nu,Kn:=putAll z.Kn (kD z nu)}
noncomputable def jP (z:Sd) (nu:Int) (hs:List Int):List Int:=frs (eI z nu).Kn (hld (eI z nu) hs)
noncomputable def fsh (z:Sd) (nu:Int) (hs:List Int):List Int:=kD z nu++jP z nu hs
noncomputable def iL (z:Sd) (p:Int):Int:=match aX z.Fi (ik p) with
 |some (.int f)=>f
 |_=>0
noncomputable abbrev Ws:=Int×Wg×Nat
noncomputable def rh (z:Sd) (tn:Int) (s:Ws) (p:Int):Ws:=if knw z.Ag p then s else (mws z.L (mgs s.2.1 (tn - iL z p)),mgs s.2.1 (tn - iL z p),s.2.2+1)
noncomputable def mall (z:Sd) (tn:Int) (fs:List Int):Ws:=fs.foldl (rh z tn) (z.w,z.g,z.k)
def pS {z:Sd} {tn c:Int} {fs:List Int}:mall z tn (fs++ [c])=rh z tn (mall z tn fs) c:=by unfold mall;rw [List.foldl_append];rfl
noncomputable def hrd (z:Sd) (nu rm:Int) (hs:List Int) (tn:Int):Sd:=
 ⟨z.R,z.b+far' z nu,z.t,if z.e<z.b+far' z nu+rm then z.b+far' z nu+rm else z.e,if 0<far' z nu then (if z.b+far' z nu<z.t then .int (tn+(mall z tn (fsh z nu hs)).1) else .non) else z.clk,if 0<far' z nu then false else z.hur,z.T,putAll (eI z nu).Kn (jP z nu hs),z.Fi,z.Ag,z.L,(mall z tn (fsh z nu hs)).1,(mall z tn (fsh z nu hs)).2.2,(MeterM.kn z.mo z.kn (fsh z nu hs).length (z.wi,z.co)).1,(mall z tn (fsh z nu hs)).2.1,z.mo,z.kn,(MeterM.kn z.mo z.kn (fsh z nu hs).length (z.wi,z.co)).2⟩
def eY (aa ai ae:Addr):Sp:=fun vs H Q E=>match vs with
 | [.ref x,.int nu,.int rm,.ref hd,.int tn]=> ∃A z,∃hs:List Int,a9 aa ai ae H x A z/\Bz z/\0<z.R/\H hd=some (.tup (hs.map V.int))/\hs.length<=100/\hs.Nodup/\(∀k∈hs,0<=k)/\Tq z tn/\z.Kn.length<900000/\z.t<=390/\z.k<=cnt z.Kn z.t.toNat/\∀p H',H p=none->oF x A H H'->((z.t - z.b<far' z nu/\cC H H'/\H' p=some (.lst []))\/(far' z nu<=z.t - z.b/\a9 aa ai ae H' x A (hrd z nu rm hs tn)/\H' p=some (.lst ((fsh z nu hs).map V.int))))->Q (.ref p) H'
 |_=>False
def df (aa ai ae:Addr):Sp:=fun vs H Q E=>match vs with
 | [.ref x,.int r,.int f,.int l,.int m]=>(2<=f/\f<=l/\1<=m)/\∃dx,H x=some (.ins aa dx [])/\∀A H',fV x H H'->a9 aa ai ae H' x A ⟨r,0,0,1,.non,false,[],[],[],[],l,f,0,MeterM.mn 2 m,none,m,m,0⟩->Q .non H'
 |_=>False
structure Gk (z z':Sd):Prop where
 R:z'.R=z.R
 L:z'.L=z.L
 b:z'.b=z.b
 e:z'.e=z.e
 T:z'.T=z.T
 Kn:z'.Kn=z.Kn
 k:z'.k=z.k
 g:z'.g=z.g
 ck:z'.clk = .non\/∃i,z'.clk = .int i
def C1.gk {z z':Sd} {n:Int} {v:V} {H H':Hp} (o:C1 z z' n v H H') (hc:z.clk = .non\/∃i,z.clk = .int i):Gk z z':=by
 rcases o with ⟨_,_,rfl,_⟩|⟨_,⟨_,rfl,_⟩|⟨_,⟨_,rfl,_⟩|⟨_,⟨_,_,⟨_,rfl,_⟩|⟨i,h,_,rfl,_⟩|⟨i,_,_,rfl,_⟩⟩|⟨_,rfl,_⟩⟩⟩⟩
 ·exact ⟨rfl,rfl,rfl,rfl,rfl,rfl,rfl,rfl,.inr ⟨_,rfl⟩⟩
 ·exact ⟨rfl,rfl,rfl,rfl,rfl,rfl,rfl,rfl,.inr ⟨_,rfl⟩⟩
 ·
  refine ⟨rfl,rfl,rfl,rfl,rfl,rfl,rfl,rfl,?_⟩;show (if z.b=z.t then V.int (n+z.w) else z.clk) = .non\/∃i,(if z.b=z.t then V.int (n+z.w) else z.clk) = .int i;split
  ·exact .inr ⟨_,rfl⟩
  ·exact hc
 ·exact ⟨rfl,rfl,rfl,rfl,rfl,rfl,rfl,rfl,.inr ⟨_,rfl⟩⟩
 ·exact ⟨rfl,rfl,rfl,rfl,rfl,rfl,rfl,rfl,hc⟩
 ·exact ⟨rfl,rfl,rfl,rfl,rfl,rfl,rfl,rfl,.inr ⟨_,rfl⟩⟩
 ·exact ⟨rfl,rfl,rfl,rfl,rfl,rfl,rfl,rfl,hc⟩
def Ja (z z':Sd) (n:Int) (v:V) (H H':Hp):Prop:=(v = .non/\z'.t=z.t/\z'.Fi=z.Fi/\z'.Ag=z.Ag)\/∃p,v = .ref p/\H p=none/\((H' p=some (.tup [.str "again",.int z.b])/\z.b<z.t/\z'.t=z.t/\z'.Fi=z.Fi/\z'.Ag=putK z.Ag (ik z.b) (.bl true))\/(H' p=some (.tup [.str "new",.int z.t])/\z.t<z.T.length/\z.t<z.e/\z'.t=z.t+1/\z'.Fi=putK z.Fi (ik z.t) (.int n)/\z'.Ag=z.Ag)\/(H' p=some (.tup [.str "ask",.non])/\z.b=z.t/\z.t<z.T.length/\z.e<=z.t/\z'.t=z.t/\z'.Fi=z.Fi/\z'.Ag=z.Ag))
def C1.r {z z':Sd} {n:Int} {v:V} {H H':Hp} (o:C1 z z' n v H H') (hw:1<=z.wi):Ja z z' n v H H':=by
 rcases o with ⟨h1,_,rfl,p,h2,h3,h4⟩|⟨_,⟨hh,rfl,p,h2,h3,h4⟩|⟨_,⟨hn,rfl,p,h2,h3,h4⟩|⟨hn,⟨a1,a2,⟨_,rfl,h2⟩|⟨i,_,_,rfl,h2⟩|⟨i,_,_,rfl,p,h2,h3,h4⟩⟩|⟨_,rfl,h2⟩⟩⟩⟩
 ·exact .inr ⟨p,h2,h3,.inl ⟨h4,h1,rfl,rfl,rfl⟩⟩
 ·
  unfold kW at hh;rw [Bool.and_eq_true,Bool.and_eq_true,decide_eq_true_eq] at hh;exact .inr ⟨p,h2,h3,.inl ⟨h4,hh.1.1,rfl,rfl,rfl⟩⟩
 ·
  unfold kd at hn;rw [Bool.and_eq_true,Bool.and_eq_true,decide_eq_true_eq,decide_eq_true_eq] at hn;exact .inr ⟨p,h2,h3,.inr (.inl ⟨h4,hn.1.1,hn.1.2,rfl,rfl,rfl⟩)⟩
 ·exact .inl ⟨h2,rfl,rfl,rfl⟩
 ·exact .inl ⟨h2,rfl,rfl,rfl⟩
 ·
  refine .inr ⟨p,h2,h3,.inr (.inr ⟨h4,a2,a1,?_,rfl,rfl,rfl⟩)⟩;by_cases c3:z.t<z.e
  ·
   exfalso;have k0:kab z=0:=by have:=sq (z:=z);lia
   unfold kd at hn;rw [decide_eq_true a1,decide_eq_true c3,decide_eq_true (by lia)] at hn;cases hn
  ·lia
 ·exact .inl ⟨h2,rfl,rfl,rfl⟩
structure Hk (z z':Sd) (nu rm:Int) (hs:List Int):Prop where
 R:z'.R=z.R
 L:z'.L=z.L
 t:z'.t=z.t
 T:z'.T=z.T
 Fi:z'.Fi=z.Fi
 Ag:z'.Ag=z.Ag
 b:z'.b=z.b+far' z nu
 e:z'.e=if z.e<z.b+far' z nu+rm then z.b+far' z nu+rm else z.e
 Kn:z'.Kn=putAll (eI z nu).Kn (jP z nu hs)
 k:z'.k<=z.k+(kD z nu).length+(jP z nu hs).length
 ck:(z'.clk = .non\/∃i,z'.clk = .int i)
def si {z:Sd} {tn:Int}: ∀{fs:List Int} {s:Ws},(fs.foldl (rh z tn) s).2.2<=s.2.2+fs.length
 | [],_=>Nat.le_refl _
 |a::l,s=>by
  have h1:=si (z:=z) (tn:=tn) (fs:=l) (s:=rh z tn s a);have h2:(rh z tn s a).2.2<=s.2.2+1:=by
   unfold rh;split
   ·lia
   ·exact Nat.le_refl _
  show ((l.foldl (rh z tn) (rh z tn s a)).2.2)<=_;rw [List.length_cons];lia
def FO {z:Sd} {nu rm tn:Int} {hs:List Int} (hc:z.clk = .non\/∃i,z.clk = .int i):Hk z (hrd z nu rm hs tn) nu rm hs:=by
 refine ⟨rfl,rfl,rfl,rfl,rfl,rfl,rfl,rfl,rfl,?_,?_⟩
 ·
  have h1:(hrd z nu rm hs tn).k<=z.k+(fsh z nu hs).length:=si (z:=z) (tn:=tn) (fs:=fsh z nu hs) (s:=(z.w,z.g,z.k));have h2:(fsh z nu hs).length=(kD z nu).length+(jP z nu hs).length:=List.length_append;lia
 ·
  show (if 0<far' z nu then (if z.b+far' z nu<z.t then V.int (tn+(mall z tn (fsh z nu hs)).1) else .non) else z.clk) = .non\/∃i,(if 0<far' z nu then (if z.b+far' z nu<z.t then V.int (tn+(mall z tn (fsh z nu hs)).1) else .non) else z.clk) = .int i;split
  ·
   split
   ·exact .inr ⟨_,rfl⟩
   ·exact .inl rfl
  ·exact hc
structure Jw (z:Sd) (r tn:Int) (s:Nat):Prop where
 R:z.R=r
 r0:0<r
 B:Bz z
 te:z.t<=z.e
 tm:z.t<=z.T.length
 tl:z.T.length<=380
 k:z.k<=cnt z.Kn z.t.toNat
 kn: ∀j:Int,z.t<=j->knw z.Kn j=false
 ck:z.clk = .non\/∃i,z.clk = .int i
 tq: ∀j:Int,0<=j->j<z.t->∃f,aX z.Fi (ik j)=some (.int f)/\0<=f/\f<=tn
 AO:0<=tn
 C3:tn<=900000+20*s
 s1:z.Kn.length<=500*s
 s2:z.Fi.length<=s
 s3:z.Ag.length<=s
def Jw.turn {z:Sd} {r tn d:Int} {s:Nat} (h:Jw z r tn s) (h0:0<=d) (h1:d<=20):Jw z r (tn+d) (s+1):=by
 have e1:=h.AO;have e2:=h.C3;have e3:=h.s1;have e4:=h.s2;have e5:=h.s3;exact ⟨h.R,h.r0,h.B,h.te,h.tm,h.tl,h.k,h.kn,h.ck,fun j a b=>by
  obtain ⟨f,q1,q2,q3⟩:=h.tq j a b;exact ⟨f,q1,q2,by lia⟩,by lia,by lia,by lia,by lia,by lia⟩
def Jw.more {z:Sd} {r tn:Int} {s s':Nat} (h:Jw z r tn s) (h1:s<=s'):Jw z r tn s':=by
 have e2:=h.C3;have e3:=h.s1;have e4:=h.s2;have e5:=h.s3;exact ⟨h.R,h.r0,h.B,h.te,h.tm,h.tl,h.k,h.kn,h.ck,h.tq,h.AO,by lia,by lia,by lia,by lia⟩
def Jw.put {z:Sd} {r tn:Int} {s:Nat} {v:V} (h:Jw z r tn s) (h1:z.T.length<380):Jw {z with T:=z.T++ [v]} r tn s:=by
 have e1:=h.tm;exact ⟨h.R,h.r0,⟨h.B.b0,h.B.bt,h.B.t1⟩,h.te,by show z.t<=((z.T++ [v]).length:Int);rw [List.length_append,List.length_singleton];lia,by show (z.T++ [v]).length<=380;rw [List.length_append,List.length_singleton];lia,h.k,h.kn,h.ck,h.tq,h.AO,h.C3,h.s1,h.s2,h.s3⟩
def yc {D:List (Key×V)} {t:Nat}:cnt D t<=cnt D (t+1):=by rw [oj];lia
def Jw.go {z z':Sd} {r tn:Int} {s:Nat} {v:V} {H H':Hp} (h:Jw z r tn s) (g:Gk z z') (o:Ja z z' tn v H H'):Jw z' r tn (s+1)/\z.t<=z'.t:=by
 have e0:=h.B.b0;have e1:=h.C3;have e3:=h.s1;have e4:=h.s2;have e5:=h.s3;have e6:=h.B.bt;have e7:=h.tl;have e8:=h.tm;have same:z'.t=z.t->z'.Fi=z.Fi->z'.Ag.length<=s+1->Jw z' r tn (s+1)/\z.t<=z'.t:=fun a1 a2 a3=>
  ⟨⟨g.R.trans h.R,h.r0,⟨by rw [g.b];exact h.B.b0,by rw [g.b,a1];exact h.B.bt,by rw [a1];exact h.B.t1⟩,by rw [a1,g.e];exact h.te,by rw [a1,g.T];exact h.tm,by rw [g.T];exact h.tl,by rw [g.k,g.Kn,a1];exact h.k,fun j hj=>by rw [g.Kn];exact h.kn j (by lia),g.ck,fun j a b=>by rw [a2];exact h.tq j a (by lia),h.AO,by lia,by rw [g.Kn];lia,by rw [a2];lia,a3⟩,by lia⟩
 rcases o with ⟨_,a1,a2,a3⟩|⟨p,_,_,⟨_,_,a1,a2,a3⟩|⟨_,b1,b2,a1,a2,a3⟩|⟨_,_,_,_,a1,a2,a3⟩⟩
 ·exact same a1 a2 (by rw [a3];lia)
 ·exact same a1 a2 (by rw [a3];have:=bY z.Ag (ik z.b) (.bl true);lia)
 ·
  have ec:z'.t.toNat=z.t.toNat+1:=by lia
  refine ⟨⟨g.R.trans h.R,h.r0,⟨by rw [g.b];exact h.B.b0,by rw [g.b,a1];lia,by lia⟩,by rw [g.e];lia,by rw [g.T];lia,by rw [g.T];exact h.tl,by rw [g.k,g.Kn,ec];exact Nat.le_trans h.k yc,fun j hj=>by rw [g.Kn];exact h.kn j (by lia),g.ck,fun j a b=>?_,h.AO,by lia,by rw [g.Kn];lia,by rw [a2];have:=bY z.Fi (ik z.t) (.int tn);lia,by rw [a3];lia⟩,by lia⟩;rw [a2,iR];by_cases c:j=z.t
  ·
   subst c;rw [if_pos rfl];exact ⟨tn,rfl,h.AO,Int.le_refl _⟩
  ·
   rw [if_neg (by intro q;exact c (by injection q))];exact h.tq j a (by lia)
 ·exact same a1 a2 (by rw [a3];lia)
def ng {j:Int}: ∀{fs:List Int} {D:List (Key×V)},(∀a∈fs,a≠j)->knw (putAll D fs) j=knw D j
 | [],_,_=>rfl
 |a::l,D,h=>by
  show knw (putAll (putK D (ik a) (.bl true)) l) j=_;rw [ng fun b hb=>h b (List.mem_cons_of_mem _ hb),gg];have:=h a (List.mem_cons_self ..);simp [this.symm]
def CB {z:Sd} {nu:Int}:(kD z nu).length<=(far' z nu).toNat:=by
 have h1:(kD z nu).length<=(irg z.b (far' z nu).toNat).length:=List.length_filter_le _ _;have h2:(irg z.b (far' z nu).toNat).length=(far' z nu).toNat:=by unfold irg;rw [List.length_map,List.length_range]
 lia
def CA {z:Sd} {nu:Int} {hs:List Int}:(jP z nu hs).length<=hs.length:=by
 have h1:(jP z nu hs).length<=(hld (eI z nu) hs).length:=List.length_filter_le _ _;exact Nat.le_trans h1 qB
def Jw.tqq {z:Sd} {r tn:Int} {s:Nat} (h:Jw z r tn s) (h1:s<=2000):Tq z tn:=fun j a b=>by
 obtain ⟨f,q1,q2,q3⟩:=h.tq j a b;have:=h.C3;exact ⟨f,q1,by lia,by lia⟩
def Jw.hrd {z z':Sd} {r tn nu rm:Int} {s:Nat} {hs:List Int} (h:Jw z r tn s) (hl:hs.length<=100) (hn:hs.Nodup) (h0: ∀k∈hs,0<=k) (hf:far' z nu<=z.t - z.b) (g:Hk z z' nu rm hs):Jw z' r tn (s+1):=by
 have r0:=h.r0;have eR:=h.R;have far0:0<=far' z nu:=Int.emod_nonneg _ (by lia);have b0:=h.B.b0;have bt:=h.B.bt;have e1:=h.C3;have e3:=h.s1;have e4:=h.s2;have e5:=h.s3;have e7:=h.tl;have e8:=h.tm;have l1:=CB (z:=z) (nu:=nu);have l2:=CA (z:=z) (nu:=nu) (hs:=hs);have m1: ∀a∈kD z nu,knw z.Kn a=false/\0<=a/\a<(z.t.toNat:Int):=fun a ha=>by
  obtain ⟨q1,q2⟩:=ip ha;have:=gh q1;exact ⟨q2,by lia,by lia⟩
 have m2: ∀a∈jP z nu hs,knw (eI z nu).Kn a=false/\0<=a/\a<(z.t.toNat:Int):=fun a ha=>by
  obtain ⟨q1,q2⟩:=ip ha;obtain ⟨q3,k,q4,q5⟩:=nj q1;have q6:=h0 k q4;have q7:a<z.t:=q3;have q8:a=z.b+far' z nu+k:=q5;exact ⟨q2,by lia,by lia⟩
 have c1:cnt (eI z nu).Kn z.t.toNat=cnt z.Kn z.t.toNat+(kD z nu).length:=js (gN.filter _) m1;have c2:cnt (putAll (eI z nu).Kn (jP z nu hs)) z.t.toNat=cnt (eI z nu).Kn z.t.toNat+(jP z nu hs).length:=js ((lQ hn).filter _) m2;have k1:(eI z nu).Kn.length<=z.Kn.length+(kD z nu).length:=h9;have k2:(putAll (eI z nu).Kn (jP z nu hs)).length<=(eI z nu).Kn.length+(jP z nu hs).length:=h9;have gk:=g.k;have hk:=h.k;have te:=h.te;refine ⟨g.R.trans h.R,h.r0,⟨by rw [g.b];lia,by rw [g.b,g.t];lia,by rw [g.t];exact h.B.t1⟩,by rw [g.t,g.e];split<;>lia,by rw [g.t,g.T];exact h.tm,by rw [g.T];exact h.tl,by rw [g.Kn,g.t,c2,c1];lia,fun j hj=>?_,g.ck,fun j a b=>by rw [g.Fi];exact h.tq j a (by rw [g.t] at b;exact b),h.AO,by lia,by rw [g.Kn];lia,by rw [g.Fi];lia,by rw [g.Ag];lia⟩
 rw [g.t] at hj;rw [g.Kn,ng fun a ha=>by have:=(m2 a ha).2.2;lia];show knw (putAll z.Kn (kD z nu)) j=false;rw [ng fun a ha=>by have:=(m1 a ha).2.2;lia];exact h.kn j hj
def gj:Sp:=fun vs H Q E=>match vs with
 | [.int c,.int k]=>0<=k/\∀v,0<=v->Q (.int v) H
 |_=>False
def fA:Sp:=fun vs H Q E=>match vs with
 | [.int c,.int b,.int t,.int r]=>(b<=t/\0<r)/\∀v,Q (.int v) H
 |_=>False
def oF.tup {CS CW CM x t:Addr} {H H':Hp} {A:Ad} {z:Sd} {l:List V} (f:oF x A H H') (h:a9 CS CW CM H x A z) (e:H t=some (.tup l)):H' t=some (.tup l):=by
 obtain ⟨a1,a2,a3⟩:=h.nw e (by simp);exact f t _ e a1 a2 a3 (aF e h.ht (by simp)) (aF e h.hk (by simp)) (aF e h.hf (by simp)) (aF e h.ha (by simp))
def a9.oth {CS CW CM x q:Addr} {H:Hp} {A:Ad} {z:Sd} {o u:HO} (h:a9 CS CW CM H x A z) (hq:H q=some o) (n1: ∀C d l,o≠ .ins C d l) (n2: ∀l,o≠ .tup l) (a1:q≠A.pt) (a2:q≠A.pk) (a3:q≠A.pf) (a4:q≠A.pa):a9 CS CW CM (upd H q u) x A z:=
 h.row hq z.T z.Kn z.Fi n1 n2 (by rw [af a1.symm];exact h.ht) (by rw [af a2.symm];exact h.hk) (by rw [af a3.symm];exact h.hf) a4
structure Ap (d:Addr) (A:Ad):Prop where
 k:d≠A.pk
 f:d≠A.pf
 a:d≠A.pa
def a9.Bf {CS CW CM x q:Addr} {H:Hp} {A:Ad} {z:Sd} {D:List (Key×V)} {u:HO} (h:a9 CS CW CM H x A z) (hq:H q=some (.dK D)) (a:Ap q A):a9 CS CW CM (upd H q u) x A z:=
 h.oth hq (by simp) (by simp) (aF hq h.ht (by simp)) a.k a.f a.a
def oF.dct {CS CW CM x t:Addr} {H H':Hp} {A:Ad} {z:Sd} {D:List (Key×V)} (f:oF x A H H') (h:a9 CS CW CM H x A z) (e:H t=some (.dK D)) (a:Ap t A):H' t=some (.dK D):=by
 obtain ⟨a1,a2,a3⟩:=h.nw e (by simp);exact f t _ e a1 a2 a3 (aF e h.ht (by simp)) a.k a.f a.a
def F4 {z:Sd} {nu:Int} {hs:List Int} (h0: ∀k∈hs,0<=k) (f0:0<=far' z nu):jP z nu hs=frs z.Kn (hld (eI z nu) hs):=by
 unfold jP frs;apply List.filter_congr;intro a ha;obtain ⟨_,k,hk,e⟩:=nj ha;have k0:=h0 k hk;have e':a=z.b+far' z nu+k:=e;have:knw (eI z nu).Kn a=knw z.Kn a:=ng (fun b hb=>by have:=gh (ip hb).1;lia);rw [this]
def xR {z:Sd} {nu:Int} {hs:List Int} (h0: ∀k∈hs,0<=k) (f0:0<=far' z nu):fsh z nu hs=frs z.Kn (irg z.b (far' z nu).toNat++hld (eI z nu) hs):=by
 unfold fsh;rw [F4 h0 f0];unfold kD frs;rw [List.filter_append]
def qA {D:List (Key×V)}: ∀{fs:List Int} {j:Int},knw (putAll D fs) j=(decide (j∈fs)||knw D j)
 | [],j=>by simp [putAll]
 |a::l,j=>by
  show knw (putAll (putK D (ik a) (.bl true)) l) j=_;rw [qA,gg];by_cases c:j=a<;>simp [c]
def oK {D:List (Key×V)} {a b:List Int}:putAll D (a++b)=putAll (putAll D a) b:=by unfold putAll;rw [List.foldl_append]
def xK {z:Sd} {nu rm tn:Int} {hs:List Int}:(hrd z nu rm hs tn).Kn=putAll z.Kn (fsh z nu hs):=by
 show putAll (putAll z.Kn (kD z nu)) (jP z nu hs)=_;unfold fsh;rw [oK]
def pE: ∀{D:List (Key×V)} {k j:Key},aX (cS D k) j=if j=k then none else aX D j
 | [],k,j=>by split<;>rfl
 |p::r,k,j=>by
  have ih:=pE (D:=r) (k:=k) (j:=j);by_cases c:p.1=k
  ·
   have e:cS (p::r) k=cS r k:=by unfold cS;rw [List.filter_cons,if_neg (by simp [c])]
   rw [e,ih];by_cases d:j=k
   ·rw [if_pos d,if_pos d]
   ·rw [if_neg d,if_neg d,bN (by rw [c];exact Ne.symm d)]
  ·
   have e:cS (p::r) k=p::cS r k:=by unfold cS;rw [List.filter_cons,if_pos (by simp [c])]
   rw [e];by_cases d:p.1=j
   ·rw [bT d,bT d,if_neg (by rw [<-d];exact c)]
   ·rw [bN d,bN d];exact ih
def oh {D:List (Key×V)} {k:Key}:(cS D k).length<=D.length:=List.length_filter_le _ _
def xD {a b:Int} (h:a≠b): ¬(ik a=ik b):=fun e=>h (by injection e)
def vq {z:Sd} {nu:Int} {hs:List Int} (hn:hs.Nodup):(fsh z nu hs).Nodup:=by
 unfold fsh;refine List.nodup_append.mpr ⟨gN.filter _,(lQ hn).filter _,fun a ha b hb e=>?_⟩;have h1:knw (eI z nu).Kn a=true:=by
  show knw (putAll z.Kn (kD z nu)) a=true;rw [qA];simp [ha]
 have h2:=(ip hb).2;rw [<-e,h1] at h2;cases h2
def zN {z:Sd} {nu:Int} {hs:List Int} {a:Int} (h0: ∀k∈hs,0<=k) (b0:0<=z.b) (f0:0<=far' z nu) (hf:far' z nu<=z.t - z.b) (ha:a∈fsh z nu hs):0<=a/\a<z.t/\knw z.Kn a=false:=by
 rw [xR h0 f0] at ha;obtain ⟨h1,h2⟩:=ip ha;rcases List.mem_append.mp h1 with h|h
 ·
  have:=gh h;exact ⟨by lia,by lia,h2⟩
 ·
  obtain ⟨h3,k,h4,h5⟩:=nj h;have:=h0 k h4;have h5':a=z.b+far' z nu+k:=h5;exact ⟨by lia,h3,h2⟩
def a9.Gf {CS CW CM x y C dy:Addr} {H H':Hp} {A:Ad} {z:Sd} {l:List (Str×V)} (h:a9 CS CW CM H x A z) (hy:H y=some (.ins C dy l)) (n1:y≠x) (n2:y≠A.pw) (n3:y≠A.pm) (hB:fV y H H'):a9 CS CW CM H' x A z:=by
 obtain ⟨e1,hi⟩:=h.ms;obtain ⟨s,sp,ew⟩:=h.ws.ins;exact ⟨hB _ _ h.hx n1.symm,hB _ _ h.ht (aF h.ht hy (by simp)),hB _ _ h.hk (aF h.hk hy (by simp)),hB _ _ h.hf (aF h.hf hy (by simp)),hB _ _ h.ha (aF h.ha hy (by simp)),h.ws.keep (fun o q=>hB _ _ q n2.symm) (fun t l q=>hB _ _ q (aF q hy (by simp))),⟨hB _ _ e1 n3.symm,hi⟩,h.kf,h.ka,h.fa,h.xw,h.xm,h.wm⟩
def F3 {z:Sd} {r tn nu:Int} {s:Nat} {hs:List Int} (J:Jw z r tn s) (hn:hs.Nodup) (h0: ∀k∈hs,0<=k) (f0:0<=far' z nu) (hf:far' z nu<=z.t - z.b):z.k+(fsh z nu hs).length<=390:=by
 have b0:=J.B.b0;have bt:=J.B.bt;have e1:=J.tm;have e2:=J.tl;have e3:=J.k;have c:=js (t:=z.t.toNat) (D:=z.Kn) (vq (z:=z) (nu:=nu) hn) (fun a ha=>by
  obtain ⟨q1,q2,q3⟩:=zN h0 b0 f0 hf ha;exact ⟨q3,q1,by lia⟩)
 have l:=yd (D:=putAll z.Kn (fsh z nu hs)) (t:=z.t.toNat);lia
def zx {fs:List Int} {i:Nat} {c:Int} (hn:fs.Nodup) (h:fs[i]?=some c):c ∉ fs.take i:=by
 have h1:(fs.take (i+1)).Nodup:=hn.sublist (List.take_sublist _ _);rw [List.take_add_one,h] at h1;obtain ⟨_,_,h3⟩:=List.nodup_append.mp h1;exact fun hc=>h3 c hc c (by simp) rfl
noncomputable def d8 (b t e n c h k o:V):List (Key×V):=[(sk "base",b),(sk "top",t),(sk "edge",e),(sk "many",n),(sk "clock",c),(sk "hurried",h),(sk "known",k),(sk "once",o)]
section
variable {b t e n c h k o v:V}
def z0:aX (d8 b t e n c h k o) (sk "base")=some b:=by kernel_rfl
def CP:aX (d8 b t e n c h k o) (sk "top")=some t:=by kernel_rfl
def zZ:aX (d8 b t e n c h k o) (sk "edge")=some e:=by kernel_rfl
def zY:aX (d8 b t e n c h k o) (sk "many")=some n:=by kernel_rfl
def x9:aX (d8 b t e n c h k o) (sk "clock")=some c:=by kernel_rfl
def sD:aX (d8 b t e n c h k o) (sk "hurried")=some h:=by kernel_rfl
def x8:aX (d8 b t e n c h k o) (sk "known")=some k:=by kernel_rfl
def zX:aX (d8 b t e n c h k o) (sk "once")=some o:=by kernel_rfl
def x6:putK (d8 b t e n c h k o) (sk "base") v=d8 v t e n c h k o:=by kernel_rfl
def zW:putK (d8 b t e n c h k o) (sk "top") v=d8 b v e n c h k o:=by kernel_rfl
def x5:putK (d8 b t e n c h k o) (sk "edge") v=d8 b t v n c h k o:=by kernel_rfl
def x4:putK (d8 b t e n c h k o) (sk "many") v=d8 b t e v c h k o:=by kernel_rfl
def vy:putK (d8 b t e n c h k o) (sk "clock") v=d8 b t e n v h k o:=by kernel_rfl
def rC:putK (d8 b t e n c h k o) (sk "hurried") v=d8 b t e n c v k o:=by kernel_rfl
def CQ:((d8 b t e n c h k o).length<sizeLine)=True:=eq_true (by show 8<sizeLine;rw [sizeLine_eq];decide)
end
noncomputable def onc (z:Sd) (j:Int):Option V:=if 0<=j/\j<z.t/\knw z.Kn j=false/\knw z.Ag j=false then some (.int (iL z j)) else none
def pR {z z1:Sd} (et:z1.t=z.t) (ek:z1.Kn=z.Kn) (ef:z1.Fi=z.Fi) (ea:z1.Ag=putK z.Ag (ik z.b) (.bl true)) (j:Int):onc z1 j=if j=z.b then none else onc z j:=by
 have e:iL z1 j=iL z j:=by unfold iL;rw [ef]
 unfold onc;rw [et,ek,ea,gg,e];by_cases c:j=z.b
 ·simp [c]
 ·simp [c]
def zu {z z1:Sd} {n:Int} (et:z1.t=z.t+1) (ek:z1.Kn=z.Kn) (ef:z1.Fi=putK z.Fi (ik z.t) (.int n)) (ea:z1.Ag=z.Ag) (t0:0<=z.t) (kn:knw z.Kn z.t=false) (ag:knw z.Ag z.t=false) (j:Int):onc z1 j=if j=z.t then some (.int n) else onc z j:=by
 unfold onc;rw [et,ek,ea];by_cases c:j=z.t
 ·
  subst c;rw [if_pos ⟨t0,by lia,kn,ag⟩,if_pos rfl];unfold iL;rw [ef,iR,if_pos rfl]
 ·
  have e:iL z1 j=iL z j:=by unfold iL;rw [ef,iR,if_neg (xD c)]
  rw [if_neg c,e];by_cases d:0<=j/\j<z.t/\knw z.Kn j=false/\knw z.Ag j=false
  ·rw [if_pos d,if_pos ⟨d.1,by lia,d.2.2⟩]
  ·rw [if_neg d,if_neg (fun h=>d ⟨h.1,by lia,h.2.2⟩)]
def zv {z:Sd} {nu rm tn:Int} {hs:List Int} (j:Int):onc (hrd z nu rm hs tn) j=if j∈fsh z nu hs then none else onc z j:=by
 have e:knw (hrd z nu rm hs tn).Kn j=(decide (j∈fsh z nu hs)||knw z.Kn j):=by rw [xK,qA]
 unfold onc;rw [e];show (if 0<=j/\j<z.t/\(decide (j∈fsh z nu hs)||knw z.Kn j)=false/\knw z.Ag j=false then some (V.int (iL z j)) else none)=_;by_cases c:j∈fsh z nu hs
 ·rw [if_pos c,if_neg (by simp [c])]
 ·rw [if_neg c];simp [c]
def WS.Ga {C p dx:Addr} {H:Hp} {L w:Int} {g:Wg} {k:Nat} (K:W.Frag) (h:WS C H p dx L w g k): ∃s sp,H p=some (.ins C dx (aK (V.int L) s sp (V.int w)))/\∀H',cC H H'->Den K H' 1 s (gsm g)/\Den K H' 1 sp (gsp g):=by
 obtain ⟨_,_,⟨_,rfl,hi⟩|⟨n,P,S,D,a,A,b,B,rfl,_,_,⟨ps,pp,g1,g2,g3⟩⟩⟩:=h
 ·exact ⟨_,_,hi,fun H' _=>⟨.inl (.inl ⟨rfl,rfl⟩),.inl (.inl ⟨rfl,rfl⟩)⟩⟩
 ·exact ⟨_,_,g1,fun H' e=>⟨Gb (e _ _ g2),Gb (e _ _ g3)⟩⟩
structure gQ (CS CW CM:Addr) (H:Hp) (x y dy m dm d dk dn:Addr) (A:Ad) (z:Sd) (w:Int) (g:Wg) (k:Nat) (wi kn co:Int) (D Kd O:List (Key×V)):Prop where
 S:a9 CS CW CM H x A z
 W:WS CW H y dy z.L w g k
 M:MS CM H m dm z.mo wi kn co
 hd:H d=some (.dK D)
 hk:H dk=some (.dK Kd)
 ho:H dn=some (.dK O)
 ad:Ap d A
 ak:Ap dk A
 ao:Ap dn A
 n1:d≠dk
 n2:d≠dn
 n3:dk≠dn
 y1:y≠x
 y2:y≠A.pw
 y3:y≠A.pm
 m1:m≠x
 m2:m≠A.pw
 m3:m≠A.pm
 ym:y≠m
structure Of (x:Addr) (A:Ad) (y m d dk dn b:Addr):Prop where
 o1:b≠x
 o2:b≠A.pw
 o3:b≠A.pm
 o4:b≠A.pt
 o5:b≠A.pk
 o6:b≠A.pf
 o7:b≠A.pa
 o8:b≠y
 o9:b≠m
 oa:b≠d
 ob:b≠dk
 oc:b≠dn
def bq (x:Addr) (A:Ad) (y m d dk dn:Addr) (H H':Hp):Prop:= ∀b u,H b=some u->Of x A y m d dk dn b->H' b=some u
section
variable {CS CW CM x y dy m dm d dk dn:Addr} {H H' H'':Hp} {A:Ad} {z z':Sd} {w wi kn co:Int} {g:Wg} {k:Nat} {D Kd O:List (Key×V)}
def bq.same (h:cC H H'):bq x A y m d dk dn H H':=fun b u e _=>h b u e
def bq.seven (h:oF x A H H'):bq x A y m d dk dn H H':=fun b u e o=>h b u e o.o1 o.o2 o.o3 o.o4 o.o5 o.o6 o.o7
def bq.trans (h:bq x A y m d dk dn H H') (h':bq x A y m d dk dn H' H''):bq x A y m d dk dn H H'':=fun b u e o=>h' b u (h b u e o) o
def bq.ud {o:HO}:bq x A y m d dk dn H (upd H d o):=fun b u e q=>by rw [af q.oa];exact e
def bq.uk {o:HO}:bq x A y m d dk dn H (upd H dk o):=fun b u e q=>by rw [af q.ob];exact e
def bq.uo {o:HO}:bq x A y m d dk dn H (upd H dn o):=fun b u e q=>by rw [af q.oc];exact e
def bq.um {o:HO}:bq x A y m d dk dn H (upd H m o):=fun b u e q=>by rw [af q.o9];exact e
def bq.uy (h:fV y H H'):bq x A y m d dk dn H H':=fun b u e q=>h b u e q.o8
def gQ.oft (h:gQ CS CW CM H x y dy m dm d dk dn A z w g k wi kn co D Kd O) {t:Addr} {l:List V} (e:H t=some (.tup l)):Of x A y m d dk dn t:=by
 obtain ⟨a1,a2,a3⟩:=h.S.nw e (by simp);obtain ⟨ys,ysp,ey⟩:=h.W.ins;exact ⟨a1,a2,a3,aF e h.S.ht (by simp),aF e h.S.hk (by simp),aF e h.S.hf (by simp),aF e h.S.ha (by simp),aF e ey (by simp),aF e h.M.1 (by simp),aF e h.hd (by simp),aF e h.hk (by simp),aF e h.ho (by simp)⟩
def gQ.ofl (h:gQ CS CW CM H x y dy m dm d dk dn A z w g k wi kn co D Kd O) {t:Addr} {l:List V} (e:H t=some (.lst l)) (n:t≠A.pt):Of x A y m d dk dn t:=by
 obtain ⟨a1,a2,a3⟩:=h.S.nw e (by simp);obtain ⟨ys,ysp,ey⟩:=h.W.ins;exact ⟨a1,a2,a3,n,aF e h.S.hk (by simp),aF e h.S.hf (by simp),aF e h.S.ha (by simp),aF e ey (by simp),aF e h.M.1 (by simp),aF e h.hd (by simp),aF e h.hk (by simp),aF e h.ho (by simp)⟩
def gQ.same (h:gQ CS CW CM H x y dy m dm d dk dn A z w g k wi kn co D Kd O) (e:cC H H'):gQ CS CW CM H' x y dy m dm d dk dn A z w g k wi kn co D Kd O:=
 ⟨h.S.same e,h.W.keep (fun o q=>e _ _ q) (fun t l q=>e _ _ q),⟨e _ _ h.M.1,h.M.2⟩,e _ _ h.hd,e _ _ h.hk,e _ _ h.ho,h.ad,h.ak,h.ao,h.n1,h.n2,h.n3,h.y1,h.y2,h.y3,h.m1,h.m2,h.m3,h.ym⟩
def gQ.pd (h:gQ CS CW CM H x y dy m dm d dk dn A z w g k wi kn co D Kd O) (D':List (Key×V)):gQ CS CW CM (upd H d (.dK D')) x y dy m dm d dk dn A z w g k wi kn co D' Kd O:=by
 obtain ⟨ys,ysp,ey⟩:=h.W.ins;exact ⟨h.S.Bf h.hd h.ad,h.W.keep (fun o q=>by rw [af (aF ey h.hd (by simp))];exact q) (fun t l q=>by rw [af (aF q h.hd (by simp))];exact q),⟨by rw [af (aF h.M.1 h.hd (by simp))];exact h.M.1,h.M.2⟩,ax,by rw [af h.n1.symm];exact h.hk,by rw [af h.n2.symm];exact h.ho,h.ad,h.ak,h.ao,h.n1,h.n2,h.n3,h.y1,h.y2,h.y3,h.m1,h.m2,h.m3,h.ym⟩
def gQ.pk (h:gQ CS CW CM H x y dy m dm d dk dn A z w g k wi kn co D Kd O) (D':List (Key×V)):gQ CS CW CM (upd H dk (.dK D')) x y dy m dm d dk dn A z w g k wi kn co D D' O:=by
 obtain ⟨ys,ysp,ey⟩:=h.W.ins;exact ⟨h.S.Bf h.hk h.ak,h.W.keep (fun o q=>by rw [af (aF ey h.hk (by simp))];exact q) (fun t l q=>by rw [af (aF q h.hk (by simp))];exact q),⟨by rw [af (aF h.M.1 h.hk (by simp))];exact h.M.1,h.M.2⟩,by rw [af h.n1];exact h.hd,ax,by rw [af h.n3.symm];exact h.ho,h.ad,h.ak,h.ao,h.n1,h.n2,h.n3,h.y1,h.y2,h.y3,h.m1,h.m2,h.m3,h.ym⟩
def gQ.po (h:gQ CS CW CM H x y dy m dm d dk dn A z w g k wi kn co D Kd O) (D':List (Key×V)):gQ CS CW CM (upd H dn (.dK D')) x y dy m dm d dk dn A z w g k wi kn co D Kd D':=by
 obtain ⟨ys,ysp,ey⟩:=h.W.ins;exact ⟨h.S.Bf h.ho h.ao,h.W.keep (fun o q=>by rw [af (aF ey h.ho (by simp))];exact q) (fun t l q=>by rw [af (aF q h.ho (by simp))];exact q),⟨by rw [af (aF h.M.1 h.ho (by simp))];exact h.M.1,h.M.2⟩,by rw [af h.n2];exact h.hd,by rw [af h.n3];exact h.hk,ax,h.ad,h.ak,h.ao,h.n1,h.n2,h.n3,h.y1,h.y2,h.y3,h.m1,h.m2,h.m3,h.ym⟩
def gQ.IX (h:gQ CS CW CM H x y dy m dm d dk dn A z w g k wi kn co D Kd O) (f:oF x A H H') (S':a9 CS CW CM H' x A z') (eL:z'.L=z.L) (em:z'.mo=z.mo):gQ CS CW CM H' x y dy m dm d dk dn A z' w g k wi kn co D Kd O:=by
 obtain ⟨ys,ysp,ey⟩:=h.W.ins;refine ⟨S',?_,?_,f.dct h.S h.hd h.ad,f.dct h.S h.hk h.ak,f.dct h.S h.ho h.ao,h.ad,h.ak,h.ao,h.n1,h.n2,h.n3,h.y1,h.y2,h.y3,h.m1,h.m2,h.m3,h.ym⟩
 ·
  rw [eL];exact h.W.keep (fun o e=>f y o e h.y1 h.y2 h.y3 (aF ey h.S.ht (by simp)) (aF ey h.S.hk (by simp)) (aF ey h.S.hf (by simp)) (aF ey h.S.ha (by simp))) (fun t l e=>f.tup h.S e)
 ·
  rw [em];have e:=h.M.1;exact ⟨f m _ e h.m1 h.m2 h.m3 (aF e h.S.ht (by simp)) (aF e h.S.hk (by simp)) (aF e h.S.hf (by simp)) (aF e h.S.ha (by simp)),h.M.2⟩
def gQ.way {w':Int} {g':Wg} {k':Nat} (h:gQ CS CW CM H x y dy m dm d dk dn A z w g k wi kn co D Kd O) (hB:fV y H H') (W':WS CW H' y dy z.L w' g' k'):gQ CS CW CM H' x y dy m dm d dk dn A z w' g' k' wi kn co D Kd O:=by
 obtain ⟨ys,ysp,ey⟩:=h.W.ins;exact ⟨h.S.Gf ey h.y1 h.y2 h.y3 hB,W',⟨hB _ _ h.M.1 h.ym.symm,h.M.2⟩,hB _ _ h.hd (aF h.hd ey (by simp)),hB _ _ h.hk (aF h.hk ey (by simp)),hB _ _ h.ho (aF h.ho ey (by simp)),h.ad,h.ak,h.ao,h.n1,h.n2,h.n3,h.y1,h.y2,h.y3,h.m1,h.m2,h.m3,h.ym⟩
def gQ.met (h:gQ CS CW CM H x y dy m dm d dk dn A z w g k wi kn co D Kd O) (wi' kn' co':Int) (hi:MeterM.AK z.mo (wi',co')):gQ CS CW CM (upd H m (.ins CM dm (aE (.int z.mo) (.int wi') (.int kn') (.int co')))) x y dy m dm d dk dn A z w g k wi' kn' co' D Kd O:=by
 obtain ⟨ys,ysp,ey⟩:=h.W.ins;have e:=h.M.1;exact ⟨h.S.Gf e h.m1 h.m2 h.m3 fV.upd,h.W.keep (fun o q=>by rw [af h.ym];exact q) (fun t l q=>by rw [af (aF q e (by simp))];exact q),⟨ax,hi⟩,by rw [af (aF h.hd e (by simp))];exact h.hd,by rw [af (aF h.hk e (by simp))];exact h.hk,by rw [af (aF h.ho e (by simp))];exact h.ho,h.ad,h.ak,h.ao,h.n1,h.n2,h.n3,h.y1,h.y2,h.y3,h.m1,h.m2,h.m3,h.ym⟩
end
noncomputable abbrev dz (z:Sd) (dk dn:Addr):List (Key×V):=d8 (.int z.b) (.int z.t) (.int z.e) (.int z.T.length) z.clk (.bl z.hur) (.ref dk) (.ref dn)
structure qS (CS CW CM:Addr) (H:Hp) (x y dy m dm d dk dn:Addr) (A:Ad) (z:Sd) (r n:Int) (s:Nat) (Kd O:List (Key×V)):Prop where
 p:gQ CS CW CM H x y dy m dm d dk dn A z z.w z.g z.k z.wi z.kn z.co (dz z dk dn) Kd O
 J:Jw z r n s
 eK: ∀j:Int,knw Kd j=knw z.Kn j
 eO: ∀j:Int,aX O (ik j)=onc z j
 ci:z.b<z.t->∃i,z.clk = .int i
 ag: ∀j:Int,z.t<=j->knw z.Ag j=false
 lK:Kd.length<=500*s
 lO:O.length<=s
def qS.same {CS CW CM x y dy m dm d dk dn:Addr} {H H':Hp} {A:Ad} {z:Sd} {r n:Int} {s:Nat} {Kd O:List (Key×V)} (h:qS CS CW CM H x y dy m dm d dk dn A z r n s Kd O) (e:cC H H'):qS CS CW CM H' x y dy m dm d dk dn A z r n s Kd O:=
 ⟨h.p.same e,h.J,h.eK,h.eO,h.ci,h.ag,h.lK,h.lO⟩
def qS.turn {CS CW CM x y dy m dm d dk dn:Addr} {H:Hp} {A:Ad} {z:Sd} {r n e:Int} {s:Nat} {Kd O:List (Key×V)} (h:qS CS CW CM H x y dy m dm d dk dn A z r n s Kd O) (h0:0<=e) (h1:e<=20):qS CS CW CM H x y dy m dm d dk dn A z r (n+e) (s+1) Kd O:=
 ⟨h.p,h.J.turn h0 h1,h.eK,h.eO,h.ci,h.ag,by have:=h.lK;lia,by have:=h.lO;lia⟩
section
variable {CS CW CM x y dy m dm d dk dn p2:Addr} {H H':Hp} {A:Ad} {z z':Sd} {w wi kn co r n:Int} {g:Wg} {k s:Nat} {D Kd O:List (Key×V)}
def gQ.put (h:gQ CS CW CM H x y dy m dm d dk dn A z w g k wi kn co D Kd O) (hB:fV A.pt H H') (S':a9 CS CW CM H' x A z') (eL:z'.L=z.L) (em:z'.mo=z.mo):gQ CS CW CM H' x y dy m dm d dk dn A z' w g k wi kn co D Kd O:=by
 obtain ⟨ys,ysp,ey⟩:=h.W.ins;refine ⟨S',?_,?_,hB _ _ h.hd (aF h.hd h.S.ht (by simp)),hB _ _ h.hk (aF h.hk h.S.ht (by simp)),hB _ _ h.ho (aF h.ho h.S.ht (by simp)),h.ad,h.ak,h.ao,h.n1,h.n2,h.n3,h.y1,h.y2,h.y3,h.m1,h.m2,h.m3,h.ym⟩
 ·
  rw [eL];exact h.W.keep (fun o e=>hB _ _ e (aF ey h.S.ht (by simp))) (fun t l e=>hB _ _ e (aF e h.S.ht (by simp)))
 ·
  rw [em];exact ⟨hB _ _ h.M.1 (aF h.M.1 h.S.ht (by simp)),h.M.2⟩
def qS.put {v:V} (h:qS CS CW CM H x y dy m dm d dk dn A z r n s Kd O) (h1:z.T.length<380) (hB:fV A.pt H H') (S':a9 CS CW CM H' x A {z with T:=z.T++ [v]}):qS CS CW CM (upd H' d (.dK (dz {z with T:=z.T++ [v]} dk dn))) x y dy m dm d dk dn A {z with T:=z.T++ [v]} r n s Kd O:=
 ⟨(h.p.put hB S' rfl rfl).pd _,h.J.put h1,h.eK,h.eO,h.ci,h.ag,h.lK,h.lO⟩
def qS.vJ {n':Int} (h:qS CS CW CM H x y dy m dm d dk dn A z r n s Kd O) (h0:n<=n') (h1:n'<=n+20):qS CS CW CM H x y dy m dm d dk dn A z r n' (s+1) Kd O:=by
 have h2:=h.turn (e:=n' - n) (by lia) (by lia);rw [show n+(n' - n)=n' by lia] at h2;exact h2
end
structure Lv (CS CW CM:Addr) (x y dy m dm d dk dn p2:Addr) (A:Ad) (ms:List Int) (r:Int) (S T:Nat) (z:Sd) (tn:Int) (s:Nat) (Kd O:List (Key×V)) (H':Hp):Prop where
 l:H' p2=some (.lst (ms.map V.int))
 h:qS CS CW CM H' x y dy m dm d dk dn A z r tn s Kd O
 hs:s<=S
 hT:z.T.length<=T
def Lm (CS CW CM:Addr) (x y dy m dm d dk dn p2 a:Addr) (A:Ad) (ms:List Int) (r F L mo:Int) (S T:Nat) (v1 v2 v3:Option V) (σ:St) (H':Hp):Prop:= ∃z tn s Kd O,Lv CS CW CM x y dy m dm d dk dn p2 A ms r S T z tn s Kd O H'/\σ= [some (.ref a),v1,some (.int r),some (.int F),some (.int L),some (.int mo),some (.ref x),some (.ref y),some (.ref m),some (.ref d),some (.int tn),v2,v3]
section
variable {CS CW CM x y dy m dm d dk dn p2:Addr} {A:Ad} {ms:List Int} {r tn:Int} {S T:Nat} {z z':Sd} {s s':Nat} {Kd O Kd' O':List (Key×V)} {H H':Hp}
def Lv.same (h:Lv CS CW CM x y dy m dm d dk dn p2 A ms r S T z tn s Kd O H) (e:cC H H'):Lv CS CW CM x y dy m dm d dk dn p2 A ms r S T z tn s Kd O H':=
 ⟨e _ _ h.l,h.h.same e,h.hs,h.hT⟩
def Lv.up {S' T':Nat} (h:Lv CS CW CM x y dy m dm d dk dn p2 A ms r S T z tn s Kd O H) (h1:S<=S') (h2:T<=T'):Lv CS CW CM x y dy m dm d dk dn p2 A ms r S' T' z tn s Kd O H:=
 ⟨h.l,h.h,Nat.le_trans h.hs h1,Nat.le_trans h.hT h2⟩
def Lv.fr {S':Nat} (h:Lv CS CW CM x y dy m dm d dk dn p2 A ms r S T z tn s Kd O H) (np:p2≠A.pt) (f:bq x A y m d dk dn H H') (h':qS CS CW CM H' x y dy m dm d dk dn A z' r tn s' Kd' O') (hs:s'<=S') (eT:z'.T=z.T):Lv CS CW CM x y dy m dm d dk dn p2 A ms r S' T z' tn s' Kd' O' H':=
 ⟨f _ _ h.l (h.h.p.ofl h.l np),h',hs,by rw [eT];exact h.hT⟩
def Lv.vJ {n':Int} {S':Nat} (h:Lv CS CW CM x y dy m dm d dk dn p2 A ms r S T z tn s Kd O H) (h0:tn<=n') (h1:n'<=tn+20) (h2:S+1<=S'):Lv CS CW CM x y dy m dm d dk dn p2 A ms r S' T z n' (s+1) Kd O H:=
 ⟨h.l,h.h.vJ h0 h1,by have:=h.hs;lia,h.hT⟩
end
def FD {q j:Int} (h0:0<=q) (h1:q<=3) (h2:0<=j) (h3:j<=2):0<=q*j/\q*j<=6:=⟨Int.mul_nonneg h0 h2,Int.le_trans (Int.mul_le_mul h1 h3 h2 (by decide)) (by decide)⟩
def Jb (z:Sd) (n:Int) (v:V) (H:Hp):Prop:=
 (z.b<z.t/\nN z.clk n=true/\∃p,v = .ref p/\H p=some (.tup [.str "again",.int z.b,.str "late"]))\/
 (
  (z.b<z.t->nN z.clk n=false)/\((kW z=true/\∃p,v = .ref p/\H p=some (.tup [.str "again",.int z.b,.str "hurry"]))\/
  (
   kW z=false/\((kd z=true/\∃p,v = .ref p/\H p=some (.tup [.str "new",.int z.t,.str ""]))\/
   (kd z=false/\((z.t<z.T.length/\z.b=z.t/\nN z.clk n=true/\∃p,v = .ref p/\H p=some (.tup [.str "ask",.non,.str "late"]))\/(¬(z.t<z.T.length/\z.b=z.t/\nN z.clk n=true)/\v = .non)))))))
def gn:Sp:=fun vs H Q E=>match vs with
 | [.ref d]=> ∃z dk Kd e n c h o,H d=some (.dK (d8 (.int z.b) (.int z.t) e n c h (.ref dk) o))/\H dk=some (.dK Kd)/\(∀j:Int,knw Kd j=knw z.Kn j)/\Bz z/\∀H',cC H H'->Q (.int (kab z)) H'
 |_=>False
def iT:Sp:=fun vs H Q E=>match vs with
 | [.ref d,.int n,.int wi]=> ∃z dk dn Kd,H d=some (.dK (dz z dk dn))/\H dk=some (.dK Kd)/\(∀j:Int,knw Kd j=knw z.Kn j)/\Bz z/\(z.b<z.t->∃i,z.clk = .int i)/\(z.clk = .non\/∃i,z.clk = .int i)/\wi=z.wi/\∀v H',cC H H'->Jb z n v H'->Q v H'
 |_=>False
def fB (aa ai ae:Addr):Sp:=fun vs H Q E=>match vs with
 | [.ref p,.ref d,.ref y,.ref m]=> ∃x dy dm dk dn A z w g k wi kn co b t e n c h Kd O,gQ aa ai ae H x y dy m dm d dk dn A z w g k wi kn co (d8 (.int b) t e n c h (.ref dk) (.ref dn)) Kd O/\((H p=some (.tup [.str "again",.int b,.str "late"])/\∀H' O',bq x A y m d dk dn H H'->gQ aa ai ae H' x y dy m dm d dk dn A z (if z.L<2*w then z.L else 2*w) g k 1 (MeterM.hf wi) 0 (d8 (.int b) t e n c (.bl true) (.ref dk) (.ref dn)) Kd O'->(∀j:Int,aX O' (ik j)=if j=b then none else aX O (ik j))->O'.length<=O.length->Q .non H')\/(H p=some (.tup [.str "again",.int b,.str "hurry"])/\∀H' O',bq x A y m d dk dn H H'->gQ aa ai ae H' x y dy m dm d dk dn A z w g k (MeterM.hf wi) (MeterM.hf wi) 0 (d8 (.int b) t e n c (.bl true) (.ref dk) (.ref dn)) Kd O'->(∀j:Int,aX O' (ik j)=if j=b then none else aX O (ik j))->O'.length<=O.length->Q .non H')\/(∃v,H p=some (.tup [.str "new",v,.str ""])/\Q .non H)\/(H p=some (.tup [.str "ask",.non,.str "late"])/\∀H',bq x A y m d dk dn H H'->gQ aa ai ae H' x y dy m dm d dk dn A z (if z.L<2*w then z.L else 2*w) g k wi kn co (d8 (.int b) t e n c h (.ref dk) (.ref dn)) Kd O->Q .non H'))
 |_=>False
def gT (aa ai ae:Addr):Sp:=fun vs H Q E=>match vs with
 | [.ref x,.ref d,.int tn,.ref y,.ref m]=> ∃dy dm dk dn A z r s Kd O,qS aa ai ae H x y dy m dm d dk dn A z r tn s Kd O/\s<=1600/\∀H' z' O',bq x A y m d dk dn H H'->qS aa ai ae H' x y dy m dm d dk dn A z' r tn (s+1) Kd O'->z'.T=z.T->Q (.bl true) H'
 |_=>False
def gR (aa ai ae:Addr):Sp:=fun vs H Q E=>match vs with
 | [.ref d,.ref pl,.int tn,.ref y,.ref m]=> ∃x dy dm dk dn A z z' b e n c h Kd O,∃ps fs:List Int,gQ aa ai ae H x y dy m dm d dk dn A z' z.w z.g z.k z.wi z.kn z.co (d8 b (.int z.t) e n c h (.ref dk) (.ref dn)) Kd O/\z'.L=z.L/\z'.mo=z.mo/\H pl=some (.lst (ps.map V.int))/\pl≠A.pt/\ps.Nodup/\ps.length<=900/\(∀a∈ps,0<=a)/\fs=ps.filter (fun a=>decide (a<z.t) && !knw z.Kn a)/\z.k+fs.length<=390/\(∀j:Int,knw Kd j=knw z.Kn j)/\(∀j:Int,aX O (ik j)=onc z j)/\Tq z tn/\Kd.length<=900000/\∀H' Kd' O',bq x A y m d dk dn H H'->gQ aa ai ae H' x y dy m dm d dk dn A z' (mall z tn fs).1 (mall z tn fs).2.1 (mall z tn fs).2.2 (MeterM.kn z.mo z.kn fs.length (z.wi,z.co)).1 z.kn (MeterM.kn z.mo z.kn fs.length (z.wi,z.co)).2 (d8 b (.int z.t) e n c h (.ref dk) (.ref dn)) Kd' O'->(∀j:Int,knw Kd' j=(decide (j∈fs)||knw z.Kn j))->(∀j:Int,aX O' (ik j)=if j∈fs then none else onc z j)->Kd'.length<=Kd.length+fs.length->O'.length<=O.length->Q .non H'
 |_=>False
def gm (aa ai ae:Addr):Sp:=fun vs H Q E=>match vs with
 | [.ref x,.ref d,.int cc,.int tn,.int r,.ref y,.ref m]=> ∃dy dm dk dn A z s Kd O,qS aa ai ae H x y dy m dm d dk dn A z r tn s Kd O/\s<=1600/\∀H' z' Kd' O',bq x A y m d dk dn H H'->qS aa ai ae H' x y dy m dm d dk dn A z' r tn (s+1) Kd' O'->z'.T=z.T->Q .non H'
 |_=>False
def gS (aa ai ae:Addr):Sp:=fun vs H Q E=>match vs with
 | [.ref x,.ref y,.ref m]=> ∃dy dm d dk dn A z D Kd O,gQ aa ai ae H x y dy m dm d dk dn A z z.w z.g z.k z.wi z.kn z.co D Kd O/\∀H',cC H H'->Q (.bl true) H'
 |_=>False
set_option compiler.extract_closed false in
local macro_rules | `(tactic| exists $es,*) => `(tactic| simp only [AS,Af,yC,Ic,AQ,tC,vU,j1,AR,Aj,AV,Dc,C_,vK,tB,C8,De,Ig,sS,qW,vL,Dd,vT,Al,GB,Ai,Ih,sR,Ie,sQ,Ah,yW,A5,AZ,F6,F5,tu,tj,ts,s_,wJ,wo,uX,uW,uP,uO,yO,yP,yN,yQ,yR,yL,yM,uI,uK,wL,wu,wK,wq,yX,yI,yV,r6,A4,A3,GD,Gs,yB,yA,q9,wj,wF,wG,vN,t_,t9,t8,uq,rT,rS,rR,uz,ux,uw,sF,wU,wR,we,rZ,qZ,qm,qp,uD,C7,C9,Jg,Je,xO,sx,xP,HW,C6,sR,rV,vW,Option.join_some,Ab,AL,yt,CT,CF,
 L2.start,List.map_cons,List.map_nil,List.length_cons,List.length_nil,List.replicate_zero,List.replicate_succ,List.append_nil,List.nil_append,List.cons_append,List.getElem?_cons_zero,List.getElem?_cons_succ,List.set_cons_zero,List.set_cons_succ,decide_eq_true_eq,Bool.not_eq_true',decide_eq_false_iff_not,if_true,if_false,ite_true,ite_false,Bool.false_eq_true,true_and,and_true,Bool.not_true,Bool.not_false,Int.reduceLT,Int.reduceLE,Int.reducePow,Int.reduceToNat,Int.reduceAdd,Int.reduceSub,Int.reduceMul,Int.reduceNeg,Nat.reducePow,Nat.reduceLT,Nat.reduceLeDiff,true_or,or_true,Int.reduceEq,and_self,Nat.reduceAdd,Nat.reduceSub,Int.neg_neg,reduceCtorEq,not_true_eq_false,not_false_eq_true,
 dJ,dI,fF,gq,eg,eh,lx,d_,cT,cU,dc,cO,eX,eW,nB,gp,fE,mz,bJ,cV,cq,bZ,cE,cu,cW,cY,cX,de,b9,ee,b_,gU,eY,df,gj,fA,gn,iT,fB,gT,gR,gm,gS,Ak,Am,An,AU,vM,wI,uC,uV,yJ,CG,ax,yz,L2.CC,oe,n_,n9,n8,n6,nZ,qE,qD,lj,jO,ll,ji,jL,lg,jg,lh,jh,l7,jM,jN,oV,oU,oT,oS,oR,oQ,rq,rp,jG,km,kj,lS,kh,kg,lR,jF,iq,ir,iM,ki,m4,mZ,mY,mX,mW,mV,mU,mT,mS,mR,mQ,mO,mN,mM,mL,mK,mJ,mI,l0,lZ,lY,lX,oX,oW,kx,ku,jJ,ja,kz,la,ky,jK,fQ,fP,f_,gz,kq,k9,ko,jH,fO,lW,k_,kr,iz,iy,gy,eP,iu,gx,fY,fX,gP,mH,iw,iN,jI,fZ,vS,wN,CL,CN,uU,F_,wc,uS,F9,vQ,wC,Cm,uT,CH,GF,uL,Bt,Ae,uG,rX,vf,uF,Dh,wb,uE,Df,vP,qi,vR,r9,CI,z0,CP,zZ,zY,x9,sD,x8,zX,x6,zW,x5,x4,vy,rC,CQ,wA,wz,zD,zC,tZ,tY,AJ,AI,Gh,Gg,L2.yk,vp,Cy,uN,uM,xk,xj,uQ,yT,yU,yS,xv,xx,CD,zR,Jf,yD,yE,uH,uJ,$[$es:term],*])
local macro_rules | `(tactic| walk_at "wps") => `(tactic| exists true_and)
section
variable {ae ai aa:Addr} {P:Program} {w:World} {K:W.Frag} {mg:Str->Option Value} {base:Heap}
variable (T:Txt K mg ae ai aa)
set_option hygiene false in
local macro_rules | `(tactic| exists 0, $a, $b, $c, $d:ident) => `(tactic| (refine ($a).fn $b $c (fun vs H Q E h => ?_) fun f cdv A outer s H vs Q E HR h => ?_; (unfold $d at h; split at h <;> first | rfl | exact h.elim); unfold $d at h; split at h; rotate_left; exact h.elim))
set_option hygiene false in
local macro_rules | `(tactic| exists 1, $a, $b, $c, $d:ident) => `(tactic| (refine ($a).fnX $b $c (fun vs H Q E h => ?_) fun f cdv A outer s H vs Q E HR h => ?_; (unfold $d at h; split at h <;> first | rfl | exact h.elim); unfold $d at h; split at h; rotate_left; exact h.elim))
include T in def gd:cR P w K mg base fz ae "__init__" 1 ["self","most"] (dJ ae):=by
 exists 0,T.eB,kM,lr,dJ;rename_i p m;refine ⟨_,(ah (aS (pv 0) (pv 1) T.aL T.fw)
 (ah (aS (pv 0) (bC (l_ rfl) (by rfl) T.rK sJ (aC ar (aC (pv 1) aA))) T.aL T.aT)
 (ah (aS (pv 0) (pv 1) T.aL T.bH)
 (aw (aS (pv 0) ar T.aL T.bc))))),?_⟩
 obtain ⟨dx,hp,q⟩:=h;exists hp;exact q
include T in def kT:cR P w K mg base fz ae "know_one" 1 ["self"] (dI ae):=by
 exists 0,T.eA,kL,lq,dI;rename_i p;refine ⟨_,(ah (bp (aI (bX K rfl HR.units) (au (pv 0) T.aL T.aT rfl) (au (pv 0) T.aL T.fw rfl) (nomark _)) (aw qr) aO)
 (ah (bp (aI d6 (au (pv 0) T.aL T.aT rfl) (au (pv 0) T.aL T.bH rfl) (nomark _)) (ah (kO (pv 0) ar T.aL T.aT kU)
 (aw qr)) aO)
 (ah (kO (pv 0) ar T.aL T.bc kU)
 (aw (bp (aI (bX K rfl HR.units) (au (pv 0) T.aL T.bc rfl) (au (pv 0) T.aL T.aT rfl) (nomark _)) (ah (kO (pv 0) ar T.aL T.aT kU)
 (aw (aS (pv 0) ar T.aL T.bc))) aO))))),?_⟩
 obtain ⟨dx,m,w,k,c,hp,q⟩:=h;exists hp;unfold MeterM.k1 at q;split
 ·
  rename_i c1;rw [if_pos c1] at q;rw [vH hp] at q;exact q
 ·
  rename_i c1;rw [if_neg c1] at q;split
  ·
   rename_i c2;rw [if_pos c2] at q;exact q
  ·
   rename_i c2;rw [if_neg c2] at q;split
   ·
    rename_i c3;rw [if_pos c3] at q;exact q
   ·
    rename_i c3;rw [if_neg c3] at q;exact q
include T in def i7:cR P w K mg base fz ae "known" 2 ["self","many"] (fF ae):=by
 exists 0,T.gD,iW,oy,fF;rename_i p n;refine ⟨_,(aw (h_ PassesOwn.never rfl (gG rfl T.da (aC (pv 1) aA)) (cg (i:=2) iW.nd rfl (Or.inl rfl)) (aw (a_ (bF (pv 0) T.aL (kT T) HR (by decide)))))),?_⟩;obtain ⟨hn,dx,m,w,k,c,hp,q⟩:=h;walk_at "wps";refine ⟨by lia,?_⟩;refine nY (fun i σ H'=>H'=upd H p (.ins ae dx (aE (.int m) (.int (MeterM.kn m k i (w,c)).1) (.int k) (.int (MeterM.kn m k i (w,c)).2)))/\∃v2,σ= [some (.ref p),some (.int n),v2]) ⟨by rw [MeterM.kn];exact (vH hp).symm,none,rfl⟩ (fun i σ H' hi hp'=>?_) (fun σ H' hp'=>?_)
 ·
  obtain ⟨rfl,v2,rfl⟩:=hp';walk_at "wps";refine ⟨dx,m,_,k,_,rfl,?_,_,rfl⟩;rfl
 ·
  obtain ⟨rfl,v2,rfl⟩:=hp';exact q
include T in def jY:cR P w K mg base fz ae "half" 1 ["self"] (gq ae):=by
 exists 0,T.iE,oJ,pz,gq;rename_i p;refine ⟨_,(aw (aQ (bC (jt rfl) (by rfl) T.qg qK (aC ar (aC (az bP (au (pv 0) T.aL T.aT rfl) ar) aA))))),?_⟩;obtain ⟨dx,m,w,k,c,hp,q⟩:=h;exists hp;exact q
include T in def gJ:cR P w K mg base fz ae "ran_out" 2 ["self"] (eg ae):=by
 exists 0,T.fj,lB,mh,eg;rename_i p;refine ⟨_,(ah (aS (pv 0) (bF (pv 0) T.aL (jY T) HR (by decide)) T.aL T.bH)
 (ah (aS (pv 0) ar T.aL T.aT)
 (aw (aS (pv 0) ar T.aL T.bc)))),?_⟩
 obtain ⟨dx,m,w,k,c,hp,q⟩:=h;exists hp;exact ⟨dx,m,w,k,c,rfl,q⟩
include T in def gK:cR P w K mg base fz ae "hurried" 2 ["self"] (eh ae):=by
 exists 0,T.fo,lC,mi,eh;rename_i p;refine ⟨_,(ah (aS (pv 0) (bF (pv 0) T.aL (jY T) HR (by decide)) T.aL T.bH)
 (ah (aS (pv 0) (au (pv 0) T.aL T.bH rfl) T.aL T.aT)
 (aw (aS (pv 0) ar T.aL T.bc)))),?_⟩
 obtain ⟨dx,m,w,k,c,hp,q⟩:=h;exists hp;exact ⟨dx,m,w,k,c,rfl,q⟩
include T in def lJ:FnAt P w K mg base fz "lowest" 1 ["top","bottom"] lx:=by
 exists 0,T.oi,pJ,vF,lx;rename_i t b;refine ⟨_,(ah (aR (i:=2) pJ.nd rfl (Or.inl rfl) (az Bn (az Ar (pv 0) (pv 1)) (wY rN (az Ar (pv 0) (pv 1)))))
 (aw (aQ (dt (aC (az kR (pv 0) (pv 2)) (aC (az kR (pv 1) (pv 2)) aA)))))),?_⟩
 obtain ⟨⟨h0,h1,h2⟩,q⟩:=h;walk_at "wps";rw [WaysI.lowbit h0 h1];have hl:=WaysI.Bv h0 h1;have hd: ∀i,t6 i (WaysM.lb (t.toNat |||b.toNat):Nat):=fun i=>⟨hl.1,h2.le (Int.le_of_lt hl.1) hl.2⟩;exact ⟨hd _,hd _,q⟩
include T in def gI:cR P w K mg base fz ai "__init__" 1 ["self","first","longest"] (d_ ai):=by
 exists 0,T.fh,lA,me,d_;rename_i p f l;refine ⟨_,(ah (aS (pv 0) (pv 2) T.aM T.cK)
 (ah (aS (pv 0) bU T.aM T.aP)
 (ah (aS (pv 0) bU T.aM T.aZ)
 (aw (aS (pv 0) (pv 1) T.aM T.br))))),?_⟩
 obtain ⟨dx,hp,q⟩:=h;exists hp;exact q
include T in def jA:cR P w K mg base fz ai "next_spread" 2 ["self","m"] (cT ai):=by
 exists 0,T.dv,c6,jQ,cT;rename_i p m;refine ⟨_,(ah (aR (i:=2) c6.nd rfl (Or.inl rfl) (az eF (bV (eN K rfl) (au (pv 0) T.aM T.aP rfl) ar (fun _ _=>rfl)) (bV (eN K rfl) (au (pv 0) T.aM T.aZ rfl) ar (fun _ _=>rfl))))
 (ay (ah (aR (i:=3) c6.nd rfl (Or.inl rfl) (bC yf (by rfl) T.yj CV (aC (az dR (bV (eN K rfl) (au (pv 0) T.aM T.aP rfl) ar (fun _ _=>rfl)) (az eF (pv 1) (bV (eN K rfl) (au (pv 0) T.aM T.aP rfl) ar (fun _ _=>rfl)))) aA)))
 (ay (aw (aQ (bW (lJ T) HR (by decide) rfl (aC (az (aN K rfl) (az eF (az gw ar (bV (eN K rfl) (au (pv 0) T.aM T.aZ rfl) ar (fun _ _=>rfl))) (bV (eN K rfl) (au (pv 0) T.aM T.aP rfl) ar (fun _ _=>rfl))) (az eF (pv 3) (bV (eN K rfl) (au (pv 0) T.aM T.aZ rfl) ar (fun _ _=>rfl)))) (aC (az gw ar (pv 2)) aA))))))))),?_⟩
 obtain ⟨dx,L,w,a,A,b,B,W,⟨ps,pp,hp,hs,hq⟩,q⟩:=h;generalize h_u1:aq _=u1;exists hp,hs,hq;have m2:=W.mB;have b3:Bd 1002 (3*b):=Bd.mul (a:=2) (Bd.c (k:=3) (by decide)) W.b1;have hAB:=W.A1.mul W.B1;have d:=((W.a1.up (show 1000<=1020 by decide)).sub (m2.mul W.A1)).abs;have p1:=Int.mul_pos W.A0 W.B0;refine ⟨ke W.A1 W.B1 (by decide) (by decide),?_⟩;rw [<-h_u1,aq];generalize h_u2:aq _=u2;exists hp,hs,hq;refine ⟨ke m2 W.A1 (by decide) (by decide),_,rfl,?_⟩;rw [H_];rw [<-h_u2,aq];exists hp,hs,hq;refine ⟨ke b3 W.A1 (by decide) (by decide),ke d W.B1 (by decide) (by decide),⟨?_,by lia,((Bd.c (n:=3) (k:=4) (by decide)).mul hAB).up (by decide)⟩,q⟩;have:=Int.mul_nonneg (Int.mul_nonneg (show (0:Int)<=3 by decide) W.b0) (Int.le_of_lt W.A0);have:=Int.mul_nonneg (Int.natCast_nonneg (a - m*A).natAbs) (Int.le_of_lt W.B0);lia
include T in def jB:cR P w K mg base fz ai "next_smooth" 2 ["self","m"] (cU ai):=by
 exists 0,T.dA,jw,jR,cU;rename_i p m;refine ⟨_,(aw (aQ (bW (lJ T) HR (by decide) rfl (aC (az (aN K rfl) (az gw ar (bV (eN K rfl) (au (pv 0) T.aM T.aP rfl) ar (fun _ _=>rfl))) (az eF (pv 1) (bV (eN K rfl) (au (pv 0) T.aM T.aP rfl) ar (fun _ _=>rfl)))) (aC (az gw ar (bV (eN K rfl) (au (pv 0) T.aM T.aP rfl) ar (fun _ _=>rfl))) aA))))),?_⟩;obtain ⟨dx,L,s,ps,w,a,A,⟨m0,m1,a0,A0,A1⟩,hp,hs,q⟩:=h;exists hp,hs;have:=Int.mul_nonneg m0 (Int.le_of_lt A0);exact ⟨xg (by lia),⟨by lia,by lia,((Bd.c (n:=3) (k:=4) (by decide)).mul A1).up (by decide)⟩,q⟩
include T in def j_:cR P w K mg base fz ai "least_wait" 1 ["self"] (dc ai):=by
 exists 0,T.dY,fG,kF,dc;rename_i p;refine ⟨_,(ah (aR (i:=1) fG.nd rfl (Or.inl rfl) (az (aN K rfl) (az eF (bV (eN K rfl) (au (pv 0) T.aM T.aP rfl) ar (fun _ _=>rfl)) (bV (eN K rfl) (au (pv 0) T.aM T.aZ rfl) ar (fun _ _=>rfl))) (az eF (az gw ar (bV (eN K rfl) (au (pv 0) T.aM T.aZ rfl) ar (fun _ _=>rfl))) (bV (eN K rfl) (au (pv 0) T.aM T.aP rfl) ar (fun _ _=>rfl)))))
 (ay (aw (aQ (wY rN (az kR (wY rN (pv 1)) (az eF (bV (eN K rfl) (au (pv 0) T.aM T.aP rfl) ar (fun _ _=>rfl)) (bV (eN K rfl) (au (pv 0) T.aM T.aZ rfl) ar (fun _ _=>rfl))))))))),?_⟩
 obtain ⟨dx,L,w,a,A,b,B,⟨A0,B0,a1,A1,b1,B1⟩,⟨ps,pp,hp,hs,hq⟩,q⟩:=h;generalize h_u1:aq _=u1;exists hp,hs,hq;refine ⟨ke a1 B1 (by decide) (by decide),ke ((Bd.c (n:=3) (k:=4) (by decide)).mul b1) A1 (by decide) (by decide),?_⟩;rw [<-h_u1,aq];exists hp,hs,hq;exact ⟨ke A1 B1 (by decide) (by decide),CK (Int.mul_pos A0 B0) (A1.mul B1) (by decide),q⟩
include T in def gH:cR P w K mg base fz ai "measured" 3 ["self","m"] (cO ai):=by
 exists 0,T.fg,lz,ma,cO;rename_i p m;refine ⟨_,(ah (bp (aI kQ (au (pv 0) T.aM T.aP rfl) bU (nomark _)) (ah (aS (pv 0) (dt (aC (pv 1) (aC ar aA))) T.aM T.aP)
 (ay (aw (aS (pv 0) (bW (lJ T) HR (by decide) rfl (aC (pv 1) (aC ar aA))) T.aM T.aZ)))) (ah (aS (pv 0) (bG (pv 0) T.aM (jA T) HR (by decide) (aC (pv 1) aA)) T.aM T.aZ)
 (ay (aw (aS (pv 0) (bG (pv 0) T.aM (jB T) HR (by decide) (aC (pv 1) aA)) T.aM T.aP)))))
 (ay (aw (aS (pv 0) (bC (jt rfl) (by rfl) T.qg qK (aC (w5 rfl T.iF) (aC (bC (l_ rfl) (by rfl) T.rK sJ (aC (au (pv 0) T.aM T.cK rfl) (aC (bF (pv 0) T.aM (j_ T) HR (by decide)) aA))) aA))) T.aM T.br)))),?_⟩
 obtain ⟨hm,⟨dx,L,w,hp,q⟩|⟨dx,L,w,a,A,b,B,W,⟨ps,pp,hp,hs,hq⟩,q⟩⟩:=h
 ·
  generalize h_u1:aq _=u1;generalize h_u2:aq _=u2;generalize h_u3:aq _=u3;exists hp;intro p1 hp1;have n1:p≠p1:=av hp hp1;have e1:=aW (o:= .tup [V.int m,V.int 1]) hp hp1;exists e1;rw [<-h_u1,aq];walk_at "wps";refine ⟨⟨hm.1,Bd.up (a:=2) (Bd.c (k:=2) (by decide)) (by decide)⟩,fun p2 hp2=>?_⟩;have n2:p2≠p:=fresh_ne hp2;have n3:p1≠p2:=fun e=>by rw [<-e,af n1.symm,ax] at hp2;cases hp2
  have e2:=aW (o:= .tup [V.int (WaysM.low m 2).1,V.int (WaysM.low m 2).2]) (ax (H:=upd H p1 (.tup [V.int m,V.int 1])) (a:=p) (o:= .ins ai dx (aK (.int L) (.ref p1) .non (.int w)))) hp2;exists e2;rw [<-h_u3,aq];walk_at "wps";obtain ⟨s,Lo⟩:=WaysM.gL (t:=m) (b:=2) hm.1 (by decide);have l1:=Lo.t0;have l2:=Lo.b0;have l3:=Lo.tl;have l4:=Lo.bl;have mb:Bd 20 m:=Bd.of hm.1 (by lia);refine ⟨dx,L,w,m,1,(WaysM.low m 2).1,(WaysM.low m 2).2,⟨by decide,l2,mb.up (by decide),Bd.up (a:=1) (Bd.c (k:=1) (by decide)) (by decide),(mb.le l1 l3).up (by decide),(Bd.le (Bd.c (n:=2) (k:=2) (by decide)) (Int.le_of_lt l2) l4).up (by decide)⟩,⟨p1,p2,ax,?_,?_⟩,?_⟩
  ·rw [af n1.symm,af n3,af n1.symm,ax]
  ·rw [af n2,ax]
  ·
   refine q _ ?_ ⟨p1,p2,ax,?_,?_⟩
   ·
    intro b o hb hne;rw [af hne,af,af hne,af (av hb hp1)]
    ·exact hb
    ·intro e;rw [e] at hb;rw [af n2,af n3.symm] at hp2;rw [hb] at hp2;cases hp2
   ·rw [af n1.symm,af n3,af n1.symm,ax]
   ·rw [af n2,ax]
 ·
  generalize h_u1:aq _=u1;generalize h_u2:aq _=u2;generalize h_u3:aq _=u3;exists hp,hs,hq;have n0:ps≠p:=aF hs hp (by simp);refine ⟨dx,L,w,a,A,b,B,W,⟨ps,pp,hp,hs,hq⟩,fun q1 hq1=>?_⟩;have n1:p≠q1:=av hp hq1;have n4:ps≠q1:=av hs hq1;have e1:=aW (o:= .tup [V.int (nsp a A b B m).1,V.int (nsp a A b B m).2]) hp hq1;exists e1;rw [<-h_u2,aq];walk_at "wps";refine ⟨dx,L,.ref q1,ps,w,a,A,⟨hm.1,hm.2,W.a0,W.A0,W.A1⟩,rfl,by rw [af n0,af n4];exact hs,fun q2 hq2=>?_⟩;have n2:q2≠p:=fresh_ne hq2;have n3:q1≠q2:=fun e=>by rw [<-e,af n1.symm,ax] at hq2;cases hq2
  have e2:=aW (o:= .tup [V.int (nsm a A m).1,V.int (nsm a A m).2]) (ax (H:=upd H q1 (.tup [V.int (nsp a A b B m).1,V.int (nsp a A b B m).2])) (a:=p) (o:= .ins ai dx (aK (.int L) (.ref ps) (.ref q1) (.int w)))) hq2;exists e2;rw [<-h_u3,aq];walk_at "wps";have B1:=W.HG;have B2:=W.HF;refine ⟨dx,L,w,_,_,_,_,⟨B1.2.1,B2.2.1,B1.2.2.1,B1.2.2.2,B2.2.2.1,B2.2.2.2⟩,⟨q2,q1,ax,?_,?_⟩,?_⟩
  ·rw [af n2,ax]
  ·rw [af n1.symm,af n3,af n1.symm,ax]
  ·
   refine q _ ?_ ⟨q2,q1,ax,?_,?_⟩
   ·
    intro b o hb hne;rw [af hne,af,af hne,af (av hb hq1)]
    ·exact hb
    ·intro e;rw [e] at hb;rw [af n2,af n3.symm] at hq2;rw [hb] at hq2;cases hq2
   ·rw [af n2,ax]
   ·rw [af n1.symm,af n3,af n1.symm,ax]
include T in def fe:cR P w K mg base fz ai "ran_out" 1 ["self"] (eX ai):=by
 exists 0,T.fS,mD,m7,eX;rename_i p;refine ⟨_,(aw (aS (pv 0) (bC (l_ rfl) (by rfl) T.rK sJ (aC (az gw ar (au (pv 0) T.aM T.br rfl)) (aC (au (pv 0) T.aM T.cK rfl) aA))) T.aM T.br)),?_⟩;obtain ⟨dx,L,s,sp,w,hp,q⟩:=h;exists hp;exact q
include T in def cm (a₀:Addr) (ns:List Int):FnAt P w K mg base fz "_law_cell_at" 1 ["_law_script","_law_k"] (eW K a₀ ns):=by
 exists 0,T.fR,mC,m6,eW;rename_i a k;refine ⟨_,(ah (bp (aI d6 (pv 1) (bC (qb K rfl) (by rfl) T.oz ot (aC (pv 0) aA)) (nomark _)) (aw (aQ (bV (FL K rfl) (pv 0) (pv 1) (fun _ _=>rfl)))) aO)
 (aw (aQ ar))),?_⟩
 obtain ⟨rfl,hS,h0,q⟩:=h;walk_at "wps";refine ⟨_,.inl hS,?_⟩;rw [List.length_map];split
 ·rename_i c;exact xt hS h0 c (q _)
 ·exact q _
include T in def xc:FnAt P w K mg base fz "ahead" 1 ["ring","one","other"] nB:=by
 exists 0,T.qF,vZ,yh,nB;rename_i r a b;refine ⟨_,(aw (aQ (az bu (az dR (pv 2) (pv 1)) (pv 0)))),?_⟩;walk_at "wps";exact h
include T in def jX:cR P w K mg base fz aa "put" 1 ["self","thing"] (gp aa ai ae):=by
 exists 0,T.iD,oI,pq,gp;rename_i x th;refine ⟨_,(aw (a_ (sd K rfl (au (pv 0) T.aj T.cn rfl) (pv 1)))),?_⟩;obtain ⟨A,z,hS,hl,q⟩:=h;exists hS.hx,hS.ht;refine ⟨vI (cQ.of hS.ht),by rw [sizeLine_eq];lia,q _ fV.upd ?_⟩;exact hS.row hS.ht _ z.Kn z.Fi (by simp) (by simp) ax (by rw [af (aF hS.hk hS.ht (by simp))];exact hS.hk) (by rw [af (aF hS.hf hS.ht (by simp))];exact hS.hf) (aF hS.ht hS.ha (by simp))
include T in def nQ:cR P w K mg base fz aa "many" 1 ["self"] (fE aa ai ae):=by
 exists 0,T.gC,nG,ox,fE;rename_i x;refine ⟨_,(aw (aQ (bC (ju K rfl) (by rfl) T.oz ot (aC (au (pv 0) T.aj T.cn rfl) aA)))),?_⟩;obtain ⟨A,z,hS,q⟩:=h;exists hS.hx,hS.ht;exact q
include T in def cJ:cR P w K mg base fz aa "known_above_base" 1 ["self"] (bJ aa ai ae):=by
 exists 0,T.bM,fH,fU,bJ;rename_i x;refine ⟨_,(aw (aQ (bC (ju K rfl) (by rfl) T.oz ot (aC (kP (N:=(["place","self"]:List Str)) (nv:=1) (ix:=[0]) rfl (p_ (by kernel_rfl)) (lH rfl T.da (aC (az (aN K rfl) (au (pv 0) T.aj T.aJ rfl) ar) (aC (au (pv 0) T.aj T.aV rfl) aA))) (fun _ _ _ _ _=>(cg (i:=0) (show ((["place","self"]:List Str)).Nodup by decide) rfl (Or.inl rfl))) (fun _ _ _ _ _=>(kN (lG (w9 HR.units (pv 0) (au (pv 1) T.aj T.bf rfl)) (jo rfl)))) (fun _ _ _ _ _=>(pv 0))) aA)))),?_⟩;obtain ⟨A,z,hS,⟨b0,b1,b2⟩,q⟩:=h;exists hS.hx;refine ⟨by lia,?_⟩;refine sG (p:=fun v=>match v with | .int i=>knw z.Kn i|_=>false) (f:=fun v=>v) (bO (by lia)) ?_ ?_ ?_
 ·
  intro j hj Q' q';exists hS.hx,hS.hk;exact q'
 ·
  intro j hj _ Q' q';walk_at "wps";exact q'
 have e:=zz (z:=z) rfl;have kl:=sq (z:=z);refine ⟨bO (by rw [e];lia),fun l hl=>?_⟩;rw [e];exact q _ (aY hl)
include T in def jC:cR P w K mg base fz aa "under_way" 2 ["self"] (cV aa ai ae):=by
 exists 0,T.dB,jx,jS,cV;rename_i x;refine ⟨_,(aw (aQ (az dR (az dR (au (pv 0) T.aj T.aV rfl) (au (pv 0) T.aj T.aJ rfl)) (bF (pv 0) T.aj (cJ T) HR (by decide))))),?_⟩;obtain ⟨A,z,hS,hb,q⟩:=h;exists hS.hx;exact ⟨A,z,hS,hb,fun H' sm=>q H' sm⟩
include T in def d7:cR P w K mg base fz aa "thing_waits" 2 ["self"] (cq aa ai ae):=by
 exists 0,T.cL,iK,iO,cq;rename_i x;refine ⟨_,(aw (aQ (dQ d6 (au (pv 0) T.aj T.aV rfl) (bF (pv 0) T.aj (nQ T) HR (by decide)) (nomark _)))),?_⟩;obtain ⟨A,z,hS,q⟩:=h;exists hS.hx;exact ⟨A,z,hS,q⟩
include T in def ic:cR P w K mg base fz aa "hurry_is_due" 2 ["self"] (bZ aa ai ae):=by
 exists 0,T.cz,gY,iG,bZ;rename_i x;refine ⟨_,(aw (aQ (lI (dQ d6 (au (pv 0) T.aj T.aJ rfl) (au (pv 0) T.aj T.aV rfl) (nomark _)) (lI (Bc (au (pv 0) T.aj T.bg rfl)) (qu (dQ pQ (bF (pv 0) T.aj (cJ T) HR (by decide)) (w5 rfl T.eC) (nomark _))))))),?_⟩;obtain ⟨A,z,hS,hb,q⟩:=h;exists hS.hx;by_cases c1:z.b<z.t
 ·
  rw [if_pos c1];cases c2:z.hur
  ·
   rw [c2] at q;refine ⟨A,z,hS,hb,fun H' sm=>?_⟩;have:=q H' sm;simp only [decide_eq_true c1,Bool.true_and,Bool.not_false] at this;simpa using this
  ·
   rw [c2] at q;have:=q H (cC.refl _);simpa [c1] using this
 ·
  rw [if_neg c1];have:=q H (cC.refl _);simpa [c1] using this
include T in def i6:cR P w K mg base fz aa "new_may_go" 3 ["self"] (cE aa ai ae):=by
 exists 0,T.c8,iV,jn,cE;rename_i x;refine ⟨_,(aw (aQ (lI (bF (pv 0) T.aj (d7 T) HR (by decide)) (lI (dQ d6 (au (pv 0) T.aj T.aV rfl) (au (pv 0) T.aj T.cp rfl) (nomark _)) (qu (dQ d6 (bF (pv 0) T.aj (jC T) HR (by decide)) (au (au (pv 0) T.aj T.bj rfl) T.aL T.aT rfl) (nomark _))))))),?_⟩;obtain ⟨A,z,hS,hb,q⟩:=h;exists hS.hx;refine ⟨A,z,hS,?_⟩;by_cases c1:z.t<z.T.length
 ·
  rw [if_pos c1];by_cases c2:z.t<z.e
  ·
   rw [if_pos c2];refine ⟨A,z,hS,hb,fun H' sm=>?_⟩;have S':=hS.same sm;obtain ⟨em,hi⟩:=S'.ms;exists S'.hx,em;have:=q H' sm;simpa [c1,c2] using this
  ·
   rw [if_neg c2];have:=q H (cC.refl _);simpa [c1,c2] using this
 ·
  rw [if_neg c1];have:=q H (cC.refl _);simpa [c1] using this
include T in def d9:cR P w K mg base fz aa "newly_known" 1 ["self","places"] (cu aa ai ae):=by
 exists 0,T.cM,cv,iP,cu;rename_i x l;refine ⟨_,(ah (y7 (i:=2) (N:=(["place","self"]:List Str)) (nv:=1) (ix:=[0]) rfl cv.nd rfl rfl (p_ (by kernel_rfl)) (ia K rfl (pv 1)) (fun _ _ _ _ _=>(cg (i:=0) (show ((["place","self"]:List Str)).Nodup by decide) rfl (Or.inl rfl))) (fun _ _ _ _ _=>(kN (lG (se HR.units (pv 0) (au (pv 1) T.aj T.bf rfl)) (jo rfl)))) (fun _ _ _ _ _=>(pv 0)))
 (ah (h_ PassesOwn.never rfl (ia K rfl (pv 2)) (cg (i:=3) cv.nd rfl (Or.inl rfl)) (aw (nJ HR.units (au (pv 0) T.aj T.bf rfl) (pv 3) gc)))
 (aw (aQ (pv 2))))),?_⟩
 obtain ⟨A,z,ps,hS,hl,hk,hpl,q⟩:=h;walk_at "wps";refine z3 (xs:=ps.map V.int) (p:=fun v=>match v with | .int i=>!knw z.Kn i|_=>false) (f:=fun v=>v) (cQ.of hl) (bO (by rw [List.length_map];lia)) ?_ ?_ ?_
 ·
  intro y hy Q' q';obtain ⟨i,_,rfl⟩:=List.mem_map.mp hy;exists hS.hx,hS.hk;exact q'
 ·
  intro y hy _ Q' q';walk_at "wps";exact q'
 rw [Cz];have hfl:(frs z.Kn ps).length<=ps.length:=List.length_filter_le _ _;refine ⟨bO (by rw [List.length_map];lia),fun l1 hl1=>?_⟩;generalize frs z.Kn ps=fs at*
 have S1:=hS.same (aY (o:= .lst (fs.map V.int)) hl1);have s1:=aY (o:= .lst (fs.map V.int)) hl1;have k1:=ax (H:=H) (a:=l1) (o:= .lst (fs.map V.int));generalize upd H l1 (.lst (fs.map V.int))=H1 at*
 refine nk (xs:=fs.map V.int) (cQ.of k1) (fun i σ H'=>H' l1=some (.lst (fs.map V.int))/\mj x A H H'/\a9 aa ai ae H' x A {z with Kn:=putAll z.Kn (fs.take i)}/\∃v,σ= [some (.ref x),some (.ref l),some (.ref l1),v]) ⟨k1,mj.of s1,S1,none,rfl⟩ (fun i σ H' _ hp=>cQ.of hp.1) (fun i y σ H' hy hp=>?_) (fun σ H' hp=>?_)
 ·
  obtain ⟨h1,f1,S2,v,rfl⟩:=hp;obtain ⟨c,rfl,hc⟩:=gf hy;have nlk:l1≠A.pk:=aF h1 S2.hk (by simp);have hkl:(putAll z.Kn (fs.take i)).length<=z.Kn.length+(fs.take i).length:=h9;have htl:(fs.take i).length<=fs.length:=by rw [List.length_take];exact Nat.min_le_right _ _
  exists S2.hx,S2.hk;refine ⟨by rw [sizeLine_eq];lia,by rw [af nlk];exact h1,fun b u e a1 a2 a3 a4 a5 a6=>by rw [af a5];exact f1 b u e a1 a2 a3 a4 a5 a6,?_,_,rfl⟩;have et:putK (putAll z.Kn (fs.take i)) (ik c) (.bl true)=putAll z.Kn (fs.take (i+1)):=by
   rw [List.take_add_one,hc];exact putAll_snoc.symm
  rw [et];exact S2.row S2.hk z.T (putAll z.Kn (fs.take (i+1))) z.Fi (by simp) (by simp) (by rw [af (aF S2.ht S2.hk (by simp))];exact S2.ht) ax (by rw [af S2.kf.symm];exact S2.hf) S2.ka
 ·
  obtain ⟨h1,f1,S2,v,rfl⟩:=hp;rw [List.length_map,List.take_length] at S2;walk_at "wps";exact q l1 _ hl1 f1 S2 h1
include T in def bS:cR P w K mg base fz aa "set_clock" 1 ["self","turn"] (cW aa ai ae):=by
 exists 0,T.dC,jy,jT,cW;rename_i x n;refine ⟨_,(aw (aS (pv 0) (az (aN K rfl) (pv 1) (au (au (pv 0) T.aj T.bh rfl) T.aM T.br rfl)) T.aj T.bB)),?_⟩;obtain ⟨A,z,hS,q⟩:=h;obtain ⟨s0,sp0,hw⟩:=hS.ws.ins;exists hS.hx,hw;exact q _ fV.upd (hS.put _ _ _ _ _)
include T in def jE:cR P w K mg base fz aa "grow_base" 2 ["self","steps"] (cY aa ai ae):=by
 exists 0,T.dF,fq,jV,cY;rename_i x st;refine ⟨_,(ah (aR (i:=2) fq.nd rfl (Or.inl rfl) (au (pv 0) T.aj T.aJ rfl))
 (ah (kO (pv 0) (pv 1) T.aj T.aJ kU)
 (aw (aQ (bG (pv 0) T.aj (d9 T) HR (by decide) (aC (ib (oq K rfl rfl) (by rfl) T.qP tX (aC (tF rfl T.da (aC (pv 2) (aC (au (pv 0) T.aj T.aJ rfl) aA))) aA)) aA)))))),?_⟩
 obtain ⟨A,z,hS,⟨b0,b1,b2⟩,hst,hk,q⟩:=h;exists hS.hx;refine ⟨by lia,fun p hp=>⟨by lia,by lia,fun l hl=>?_⟩⟩;have S1:=hS.put (z.b+st) z.t z.e z.clk z.hur;have b1:fV x H (upd H x (HO.ins aa A.dx (aB (V.int z.R) (V.ref A.pw) (V.ref A.pm) (V.ref A.pt) (V.int (z.b+st)) (V.int z.t) (V.int z.e) z.clk (V.bl z.hur) (V.ref A.pk) (V.ref A.pf) (V.ref A.pa)))):=fV.upd;generalize upd H x (HO.ins aa A.dx (aB (V.int z.R) (V.ref A.pw) (V.ref A.pm) (V.ref A.pt) (V.int (z.b+st)) (V.int z.t) (V.int z.e) z.clk (V.bl z.hur) (V.ref A.pk) (V.ref A.pf) (V.ref A.pa)))=H1 at*
 have S2:=(S1.same (aY (o:= .rng z.b (z.b+st)) hp)).same (aY (o:= .lst (fL z.b (z.b+st - z.b).toNat)) hl);have b2:fV x H (upd (upd H1 p (.rng z.b (z.b+st))) l (.lst (fL z.b (z.b+st - z.b).toNat))):=(b1.new hp).new hl;generalize upd (upd H1 p (.rng z.b (z.b+st))) l (.lst (fL z.b (z.b+st - z.b).toNat))=H2 at*
 have il:(irg z.b st.toNat).length<=1000:=by unfold irg;rw [List.length_map,List.length_range];lia
 refine ⟨A,_,irg z.b st.toNat,S2,by rw [show z.b+st - z.b=st by lia,sv],hk,il,fun p1 H3 hp1 fr S3 hl3=>?_⟩;refine q _ p1 H3 rfl ?_ (fun b u e a1 a2 a3 a4 a5 a6=>fr b u (b2 b u e a1) a1 a2 a3 a4 a5 a6) S3 hl3;cases e:H p1 with
 |none=>rfl
 |some u=>
  exfalso;by_cases c:p1=x
  ·rw [c,S2.hx] at hp1;cases hp1
  ·rw [b2 p1 u e c] at hp1;cases hp1
include T in def jD:cR P w K mg base fz aa "note_held" 2 ["self","held"] (cX aa ai ae):=by
 exists 0,T.dE,jz,jU,cX;rename_i x t;refine ⟨_,(aw (aQ (bG (pv 0) T.aj (d9 T) HR (by decide) (aC (kP (N:=(["step","self"]:List Str)) (nv:=1) (ix:=[0]) rfl (p_ (by kernel_rfl)) (ia K rfl (pv 1)) (fun _ _ _ _ _=>(cg (i:=0) (show ((["step","self"]:List Str)).Nodup by decide) rfl (Or.inl rfl))) (fun _ _ _ _ _=>(kN (aI d6 (az (aN K rfl) (au (pv 1) T.aj T.aJ rfl) (pv 0)) (au (pv 1) T.aj T.aV rfl) (nomark _)))) (fun _ _ _ _ _=>(az (aN K rfl) (au (pv 1) T.aj T.aJ rfl) (pv 0)))) aA)))),?_⟩;obtain ⟨A,z,hs,hS,ht,hl,hk,q⟩:=h;exists hS.hx;refine yb (xs:=hs.map V.int) (p:=fun v=>match v with | .int i=>decide (z.b+i<z.t)|_=>false) (f:=fun v=>match v with | .int i=> .int (z.b+i)|v=>v) (fx.of ht) (bO (by rw [List.length_map];lia)) ?_ ?_ ?_
 ·
  intro y hy Q' q';obtain ⟨i,_,rfl⟩:=List.mem_map.mp hy;exists hS.hx;exact q'
 ·
  intro y hy _ Q' q';obtain ⟨i,_,rfl⟩:=List.mem_map.mp hy;exists hS.hx;exact q'
 rw [Co];have hl2:=qB (z:=z) (hs:=hs);refine ⟨bO (by rw [List.length_map];lia),fun l hl3=>?_⟩;have S1:=hS.same (aY (o:= .lst ((hld z hs).map V.int)) hl3);have s1:=aY (o:= .lst ((hld z hs).map V.int)) hl3;refine ⟨A,z,_,S1,rfl,hk,by lia,fun p H3 hp fr S3 hl4=>q _ p H3 rfl ?_ (fun b u e a1 a2 a3 a4 a5 a6=>fr b u (s1 b u e) a1 a2 a3 a4 a5 a6) S3 hl4⟩;exact zO s1 hp
include T in def fN:cR P w K mg base fz aa "go_again" 2 ["self","turn"] (de aa ai ae):=by
 exists 0,T.dZ,j6,kG,de;rename_i x n;refine ⟨_,(ah (a_ (bG (pv 0) T.aj (bS T) HR (by decide) (aC (pv 1) aA)))
 (ah (aS (pv 0) gc T.aj T.bg)
 (ah (nJ HR.units (au (pv 0) T.aj T.bE rfl) (au (pv 0) T.aj T.aJ rfl) gc)
 (aw (aQ (dt (aC aG (aC (au (pv 0) T.aj T.aJ rfl) aA)))))))),?_⟩
 obtain ⟨A,z,hS,hl,q⟩:=h;exists hS.hx;refine ⟨A,z,hS,fun H1 hB S1=>?_⟩;have nax:A.pa≠x:=aF S1.ha S1.hx (by simp);exists S1.hx,S1.ha,af nax,af nax.symm;refine ⟨by rw [sizeLine_eq];lia,fun p hp=>?_⟩;have S2:=S1.put z.b z.t z.e (.int (n+z.w)) true;have S3:=S2.GI (putK z.Ag (ik z.b) (.bl true));have f3:oF x A H (upd (upd H1 x (.ins aa A.dx (aB (.int z.R) (.ref A.pw) (.ref A.pm) (.ref A.pt) (.int z.b) (.int z.t) (.int z.e) (.int (n+z.w)) (.bl true) (.ref A.pk) (.ref A.pf) (.ref A.pa)))) A.pa (.dK (putK z.Ag (ik z.b) (.bl true)))):=fun b u e a1 a2 a3 a4 a5 a6 a7=>by rw [af a7,af a1];exact hB b u e a1
 exact q p _ (f3.none S3 hp) (fun b u e a1 a2 a3 a4 a5 a6 a7=>aW (f3 b u e a1 a2 a3 a4 a5 a6 a7) hp) (S3.same (aY hp)) ax
include T in def dS:cR P w K mg base fz aa "clock_is_out" 1 ["self","turn"] (b9 aa ai ae):=by
 exists 0,T.cA,gZ,iH,b9;rename_i x n;refine ⟨_,(aw (aQ (lI (dQ rb (au (pv 0) T.aj T.bB rfl) bU (nomark _)) (qu (dQ pQ (pv 1) (au (pv 0) T.aj T.bB rfl) (nomark _)))))),?_⟩;obtain ⟨A,z,r,hS,hc,q⟩:=h;have hx:=hS.hx;rcases hc with ⟨hc,rfl⟩|⟨c,hc,rfl⟩
 ·
  rw [hc] at hx;exists hx;exact q
 ·
  rw [hc] at hx;exists hx;exact q
include T in def lL:cR P w K mg base fz aa "go_new" 2 ["self","turn"] (ee aa ai ae):=by
 exists 0,T.fi,gF,mf,ee;rename_i x n;refine ⟨_,(ah (aR (i:=2) gF.nd rfl (Or.inl rfl) (au (pv 0) T.aj T.aV rfl))
 (qq (bp (aI (bX K rfl HR.units) (au (pv 0) T.aj T.aJ rfl) (au (pv 0) T.aj T.aV rfl) (nomark _)) (aw (a_ (bG (pv 0) T.aj (bS T) HR (by decide) (aC (pv 1) aA)))) aO)
 (ah (nJ HR.units (au (pv 0) T.aj T.bz rfl) (pv 2) (pv 1))
 (ah (kO (pv 0) ar T.aj T.aV kU)
 (aw (aQ (dt (aC aG (aC (pv 2) aA))))))))),?_⟩
 obtain ⟨A,z,hS,hl,q⟩:=h;exists hS.hx;refine ⟨fun σ' H'=>fV x H H'/\a9 aa ai ae H' x A {z with clk:=if z.b=z.t then .int (n+z.w) else z.clk}/\σ'= [some (.ref x),some (.int n),some (.int z.t)],?_,?_⟩
 ·
  exists hS.hx;by_cases c:z.b=z.t
  ·
   rw [if_pos c,if_pos c];exact ⟨A,z,hS,fun H' hB S'=>⟨hB,S'⟩⟩
  ·
   rw [if_neg c,if_neg c];exact ⟨fV.refl,hS⟩
 rintro σ' H1 ⟨hB,S1,rfl⟩;generalize (if z.b=z.t then V.int (n+z.w) else z.clk)=ck at*
 have nfx:A.pf≠x:=aF hS.hf hS.hx (by simp);exists S1.hx,S1.hf,af nfx.symm;refine ⟨by rw [sizeLine_eq];lia,fun p hp=>?_⟩;have S2:=S1.row (u:= .dK (putK z.Fi (ik z.t) (.int n))) S1.hf z.T z.Kn (putK z.Fi (ik z.t) (.int n)) (by simp) (by simp) (by rw [af (aF S1.ht S1.hf (by simp))];exact S1.ht) (by rw [af S1.kf];exact S1.hk) ax S1.fa;have S3:=S2.put z.b (z.t+1) z.e ck z.hur;have fr:mj x A H (upd (upd H1 A.pf (.dK (putK z.Fi (ik z.t) (.int n)))) x (.ins aa A.dx (aB (.int z.R) (.ref A.pw) (.ref A.pm) (.ref A.pt) (.int z.b) (.int (z.t+1)) (.int z.e) ck (.bl z.hur) (.ref A.pk) (.ref A.pf) (.ref A.pa)))):=fun b u e a1 a2 a3 a4 a5 a6=>by rw [af a1,af a6];exact hB b u e a1
 exact q p _ (fr.none S3 hp) (fun b u e a1 a2 a3 a4 a5 a6=>aW (fr b u e a1 a2 a3 a4 a5 a6) hp) (S3.same (aY hp)) ax
include T in def ie:cR P w K mg base fz aa "ask_for_room" 3 ["self","turn"] (b_ aa ai ae):=by
 exists 0,T.cB,g9,iI,b_;rename_i x n;refine ⟨_,(ah (bp (aI kQ (au (pv 0) T.aj T.bB rfl) bU (nomark _)) (ah (a_ (bG (pv 0) T.aj (bS T) HR (by decide) (aC (pv 1) aA)))
 (ay (aw (aQ bU)))) aO)
 (ay (ah (bp (lF (oM (bG (pv 0) T.aj (dS T) HR (by decide) (aC (pv 1) aA)))) (aw (aQ bU)) aO)
 (ay (ah (a_ (bF (au (pv 0) T.aj T.bh rfl) T.aM (fe T) HR (by decide)))
 (ay (ah (a_ (bG (pv 0) T.aj (bS T) HR (by decide) (aC (pv 1) aA)))
 (ay (aw (aQ (dt (aC aG (aC bU aA))))))))))))),?_⟩
 obtain ⟨A,z,hS,hc,q⟩:=h;generalize h_u1:aq _=u1;generalize h_u2:aq _=u2;exists hS.hx;by_cases c0:z.clk = .non
 ·
  rw [if_pos c0];refine ⟨A,z,hS,fun H1 hB S1=>?_⟩;rw [<-h_u1,aq];walk_at "wps";exact q .non H1 _ (fun b u e a1 _ _ _ _ _ _=>hB b u e a1) S1 (.inl ⟨c0,rfl,rfl⟩)
 rw [if_neg c0];obtain ⟨i,hi⟩: ∃i,z.clk = .int i:=hc.resolve_left c0;rw [<-h_u2,aq];generalize h_u3:aq _=u3;exists hS.hx;refine ⟨A,z,_,hS,.inr ⟨i,hi,rfl⟩,?_⟩;by_cases c1:i<=n
 ·
  rw [if_neg (by simpa using c1)];rw [<-h_u3,aq];generalize h_u4:aq _=u4;obtain ⟨s0,sp0,ew,hw⟩:=hS.ws.ran;exists hS.hx,ew;refine ⟨A.dw,z.L,s0,sp0,z.w,rfl,?_⟩;have S1:=hS.ways fV.upd hw;have b1:fV A.pw H (upd H A.pw (.ins ai A.dw (aK (V.int z.L) s0 sp0 (V.int (if z.L<2*z.w then z.L else 2*z.w))))):=fV.upd;generalize upd H A.pw (.ins ai A.dw (aK (V.int z.L) s0 sp0 (V.int (if z.L<2*z.w then z.L else 2*z.w))))=H1 at*
  rw [<-h_u4,aq];generalize h_u5:aq _=u5;exists S1.hx;refine ⟨A,_,S1,fun H2 hB S2=>?_⟩;rw [<-h_u5,aq];walk_at "wps";intro p hp;have f2:oF x A H H2:=fun b u e a1 a2 _ _ _ _ _=>hB b u (b1 b u e a2) a1;exact q (.ref p) _ _ (fun b u e a1 a2 a3 a4 a5 a6 a7=>aW (f2 b u e a1 a2 a3 a4 a5 a6 a7) hp) (S2.same (aY hp)) (.inr (.inr ⟨i,hi,c1,rfl,p,rfl,f2.none S2 hp,ax⟩))
 ·
  rw [if_pos (by simpa using c1)];exact q .non H z (fun b u e _ _ _ _ _ _ _=>e) hS (.inr (.inl ⟨i,hi,by lia,rfl,rfl⟩))
include T in def qx:cR P w K mg base fz aa "go" 4 ["self","turn"] (gU aa ai ae):=by
 exists 0,T.jm,qk,qO,gU;rename_i x n;refine ⟨_,(ah (bp (PW.pt (pw_and (aI d6 (au (pv 0) T.aj T.aJ rfl) (au (pv 0) T.aj T.aV rfl) (nomark _)) (pw_and1 (oM (bG (pv 0) T.aj (dS T) HR (by decide) (aC (pv 1) aA)))))) (ah (a_ (bF (au (pv 0) T.aj T.bh rfl) T.aM (fe T) HR (by decide)))
 (ay (ah (a_ (bF (au (pv 0) T.aj T.bj rfl) T.aL (gJ T) HR (by decide)))
 (ay (aw (aQ (bG (pv 0) T.aj (fN T) HR (by decide) (aC (pv 1) aA)))))))) aO)
 (ay (ah (bp (oM (bF (pv 0) T.aj (ic T) HR (by decide))) (ah (a_ (bF (au (pv 0) T.aj T.bj rfl) T.aL (gK T) HR (by decide)))
 (ay (aw (aQ (bG (pv 0) T.aj (fN T) HR (by decide) (aC (pv 1) aA)))))) aO)
 (ay (ah (bp (oM (bF (pv 0) T.aj (i6 T) HR (by decide))) (aw (aQ (bG (pv 0) T.aj (lL T) HR (by decide) (aC (pv 1) aA)))) aO)
 (ay (ah (bp (PW.pt (pw_and (oM (bF (pv 0) T.aj (d7 T) HR (by decide))) (pw_and1 (aI (bX K rfl HR.units) (au (pv 0) T.aj T.aJ rfl) (au (pv 0) T.aj T.aV rfl) (nomark _))))) (aw (aQ (bG (pv 0) T.aj (ie T) HR (by decide) (aC (pv 1) aA)))) aO)
 (aw (aQ bU))))))))),?_⟩
 obtain ⟨A,z,hS,hb,hc,hAg,hFi,q⟩:=h;generalize h_ua:aq _=ua;generalize h_u1:aq _=u1;obtain ⟨s0,sp0,ew,hw⟩:=hS.ws.ran;exists hS.hx,ew;have rest1:(z.b<z.t->nN z.clk n=false)->u1 {nx:=fun _ H'=>Q .non H',rt:=Q} [some (.ref x),some (.int n)] H:=by
  intro hno;rw [<-h_u1,aq];generalize h_ub:aq _=ub;generalize h_u2:aq _=u2;exists hS.hx;refine ⟨A,z,hS,hb,fun H1 sm1=>?_⟩;have S1:=hS.same sm1;obtain ⟨em,hi⟩:=S1.ms;have ehd:kW z=(decide (z.b<z.t) && !z.hur&&decide ((2:Int)<=kab z)):=rfl;rw [<-ehd];cases hh:kW z
  ·
   rw [if_neg (by decide)];rw [<-h_u2,aq];generalize h_u3:aq _=u3;exists S1.hx;refine ⟨A,z,S1,hb,fun H2 sm2=>?_⟩;have S2:=S1.same sm2;have f2:oF x A H H2:=fun b u e _ _ _ _ _ _ _=>sm2 _ _ (sm1 _ _ e);have non2: ∀p,H2 p=none->H p=none:=fun p hp=>by
    cases e:H p with
    |none=>rfl
    |some u=>rw [sm2 _ _ (sm1 _ _ e)] at hp;cases hp
   have enm:kd z=(decide (z.t<z.T.length)&&decide (z.t<z.e)&&decide (z.t - z.b - kab z<z.wi)):=rfl;rw [<-enm];cases hn:kd z
   ·
    rw [if_neg (by decide)];rw [<-h_u3,aq];exists S2.hx;refine ⟨A,z,S2,?_⟩;have qn: ¬(z.t<z.T.length/\z.b=z.t)->Q .non H2:=fun hno2=>q .non H2 z f2 S2 (.inr ⟨hno,.inr ⟨hh,.inr ⟨hn,.inr ⟨hno2,rfl,rfl⟩⟩⟩⟩);by_cases c1:z.t<z.T.length
    ·
     by_cases c2:z.b=z.t
     ·
      rw [if_pos c1,if_pos c2];exact ⟨A,z,S2,hc,fun v H' z' fr S' g=>q v H' z' (f2.trans fr) S' (.inr ⟨hno,.inr ⟨hh,.inr ⟨hn,.inl ⟨c1,c2,g.fr non2⟩⟩⟩⟩)⟩
     ·
      rw [if_pos c1,if_neg c2];exact qn fun c=>c2 c.2
    ·
     rw [if_neg c1];exact qn fun c=>c1 c.1
   ·
    rw [if_pos rfl];exists S2.hx;refine ⟨A,z,S2,hFi,fun p H3 hp fr S3 hp3=>?_⟩;exact q (.ref p) H3 _ (f2.trans fr.seven) S3 (.inr ⟨hno,.inr ⟨hh,.inl ⟨hn,rfl,p,rfl,non2 p hp,hp3⟩⟩⟩)
  ·
   rw [if_pos rfl];exists S1.hx,em;refine ⟨A.dm,z.mo,z.wi,z.kn,z.co,rfl,?_⟩;have hh1:1<=MeterM.hf z.wi/\MeterM.hf z.wi<=z.mo:=MeterM.AE hi.1 hi.2.1;have S2:=S1.meter (H':=upd H1 A.pm (.ins ae A.dm (aE (.int z.mo) (.int (MeterM.hf z.wi)) (.int (MeterM.hf z.wi)) (.int 0)))) fV.upd ⟨ax,⟨hh1.1,hh1.2,Int.le_refl _,by show (0:Int)<MeterM.hf z.wi;lia⟩⟩;have f2:oF x A H (upd H1 A.pm (.ins ae A.dm (aE (.int z.mo) (.int (MeterM.hf z.wi)) (.int (MeterM.hf z.wi)) (.int 0)))):=fun b u e _ _ a3 _ _ _ _=>by rw [af a3];exact sm1 b u e
   generalize upd H1 A.pm (.ins ae A.dm (aE (.int z.mo) (.int (MeterM.hf z.wi)) (.int (MeterM.hf z.wi)) (.int 0)))=H2 at*
   rw [<-h_ub,aq];exists S2.hx;refine ⟨A,_,S2,hAg,fun p H3 hp fr S3 hp3=>?_⟩;exact q (.ref p) H3 _ (f2.trans fr) S3 (.inr ⟨hno,.inl ⟨hh,rfl,p,rfl,f2.none S2 hp,hp3⟩⟩)
 by_cases c0:z.b<z.t
 ·
  rw [if_pos c0];have hr:Jc z.clk n (nN z.clk n):=by
   rcases hc with h|⟨i,h⟩
   ·exact .inl ⟨h,by rw [h];rfl⟩
   ·exact .inr ⟨i,h,by rw [h];rfl⟩
  refine ⟨A,z,_,hS,hr,?_⟩;cases ho:nN z.clk n
  ·
   rw [if_neg (by decide)];exact rest1 fun _=>ho
  ·
   rw [if_pos rfl];refine ⟨A.dw,z.L,s0,sp0,z.w,rfl,?_⟩;have S1:=hS.ways fV.upd hw;have b1:fV A.pw H (upd H A.pw (.ins ai A.dw (aK (V.int z.L) s0 sp0 (V.int (if z.L<2*z.w then z.L else 2*z.w))))):=fV.upd;generalize upd H A.pw (.ins ai A.dw (aK (V.int z.L) s0 sp0 (V.int (if z.L<2*z.w then z.L else 2*z.w))))=H1 at*
   obtain ⟨em,hi⟩:=S1.ms;rw [<-h_ua,aq];generalize h_ud:aq _=ud;exists S1.hx,em;refine ⟨A.dm,z.mo,z.wi,z.kn,z.co,rfl,?_⟩;have S2:=S1.meter (H':=upd H1 A.pm (.ins ae A.dm (aE (.int z.mo) (.int 1) (.int (MeterM.hf z.wi)) (.int 0)))) fV.upd ⟨ax,⟨Int.le_refl _,Int.le_trans hi.1 hi.2.1,Int.le_refl _,by show (0:Int)<1;lia⟩⟩;have f2:oF x A H (upd H1 A.pm (.ins ae A.dm (aE (.int z.mo) (.int 1) (.int (MeterM.hf z.wi)) (.int 0)))):=fun b u e _ a2 a3 _ _ _ _=>by rw [af a3];exact b1 b u e a2
   generalize upd H1 A.pm (.ins ae A.dm (aE (.int z.mo) (.int 1) (.int (MeterM.hf z.wi)) (.int 0)))=H2 at*
   rw [<-h_ud,aq];exists S2.hx;refine ⟨A,_,S2,hAg,fun p H3 hp fr S3 hp3=>?_⟩;exact q (.ref p) H3 _ (f2.trans fr) S3 (.inl ⟨c0,ho,rfl,p,rfl,f2.none S2 hp,hp3⟩)
 ·
  rw [if_neg c0];exact rest1 fun c=>absurd c c0
include T in def mE:cR P w K mg base fz aa "heard" 4 ["self","number","room","held","turn"] (eY aa ai ae):=by
 exists 0,T.fT,c_,m8,eY;rename_i x nu rm hd tn;refine ⟨_,(ah (aR (i:=5) c_.nd rfl (Or.inl rfl) (bW (xc T) HR (by decide) rfl (aC (au (pv 0) T.aj T.eG rfl) (aC (au (pv 0) T.aj T.aJ rfl) (aC (pv 1) aA)))))
 (ay (ah (bp (aI pP (pv 5) (az dR (au (pv 0) T.aj T.aV rfl) (au (pv 0) T.aj T.aJ rfl)) (nomark _)) (aw (aQ (nM aA))) aO)
 (ay (ah (aR (i:=6) c_.nd rfl (Or.inl rfl) (az (aN K rfl) (bG (pv 0) T.aj (jE T) HR (by decide) (aC (pv 5) aA)) (bG (pv 0) T.aj (jD T) HR (by decide) (aC (pv 3) aA))))
 (ay (ah (aS (pv 0) (bC (jt rfl) (by rfl) T.qg qK (aC (au (pv 0) T.aj T.cp rfl) (aC (az (aN K rfl) (au (pv 0) T.aj T.aJ rfl) (pv 2)) aA))) T.aj T.cp)
 (ay (ah (h_ PassesOwn.never rfl (ia K rfl (pv 6)) (cg (i:=7) c_.nd rfl (Or.inl rfl)) (aw (bp (lG (se HR.units (pv 7) (au (pv 0) T.aj T.bE rfl)) (jo rfl)) (aw (a_ (bG (au (pv 0) T.aj T.bh rfl) T.aM (gH T) HR (by decide) (aC (az dR (pv 4) (Be HR.units (au (pv 0) T.aj T.bz rfl) (pv 7) (fun _ _=>rfl))) aA)))) aO)))
 (ay (ah (a_ (bG (au (pv 0) T.aj T.bj rfl) T.aL (i7 T) HR (by decide) (aC (bC (ju K rfl) (by rfl) T.oz ot (aC (pv 6) aA)) aA)))
 (ay (ah (bp (aI pP (pv 5) ar (nomark _)) (ah (aS (pv 0) (wZ (aI d6 (au (pv 0) T.aj T.aJ rfl) (au (pv 0) T.aj T.aV rfl) (nomark _)) (az (aN K rfl) (pv 4) (au (au (pv 0) T.aj T.bh rfl) T.aM T.br rfl)) bU) T.aj T.bB)
 (aw (aS (pv 0) gc T.aj T.bg))) aO)
 (aw (aQ (pv 6)))))))))))))))),?_⟩
 obtain ⟨A,z,hs,hS,hb,hR,hhd,hsl,hnd,hs0,hT,hkl,ht,hk,q⟩:=h;generalize h_u0:aq _=u0;exists hS.hx;refine ⟨hR,?_⟩;rw [<-h_u0,aq];generalize h_u1:aq _=u1;exists hS.hx;have ef:(nu - z.b) % z.R=far' z nu:=rfl;rw [ef];have far0:0<=far' z nu:=Int.emod_nonneg _ (by lia);by_cases c0:z.t - z.b<far' z nu
 ·
  rw [if_pos c0];intro p hp;exact q p _ hp (fun b u e _ _ _ _ _ _ _=>aW e hp) (.inl ⟨c0,aY hp,ax⟩)
 rw [if_neg c0];have b0:=hb.b0;have bt:=hb.bt;rw [<-h_u1,aq];generalize h_u2:aq _=u2;exists hS.hx;refine ⟨A,z,hS,hb,⟨far0,by lia⟩,by lia,fun fs p H1 efs hp fr S1 l1=>?_⟩;obtain rfl:fs=kD z nu:=efs;replace S1:a9 aa ai ae H1 x A (eI z nu):=S1;have hd1:=fr.tup hS hhd;have npt:p≠A.pt:=fun c=>by rw [c,hS.ht] at hp;cases hp
 have fl1:(kD z nu).length<=390:=by
  have h1:(kD z nu).length<=(irg z.b (far' z nu).toNat).length:=List.length_filter_le _ _;have h2:(irg z.b (far' z nu).toNat).length=(far' z nu).toNat:=by unfold irg;rw [List.length_map,List.length_range]
  lia
 have kl1:(eI z nu).Kn.length<=z.Kn.length+(kD z nu).length:=h9;exists S1.hx;refine ⟨A,_,hs,S1,hd1,by lia,by lia,fun fs2 p2 H2 efs2 hp2 fr2 S2 l2=>?_⟩;obtain rfl:fs2=jP z nu hs:=efs2;have l12:=fr2.lst S1 l1 npt;have fl2:(jP z nu hs).length<=100:=by
  have h1:(jP z nu hs).length<=(hld (eI z nu) hs).length:=List.length_filter_le _ _;have h2:=qB (z:=eI z nu) (hs:=hs);lia
 refine oB l12 l2 (bO (by rw [List.length_map,List.length_map];lia)) fun p3 hp3=>?_;have fr3:mj x A H H2:=fr.trans fr2;have hp30:=fr3.none S2 hp3;have S3:=S2.same (aY (o:= .lst ((kD z nu).map V.int++(jP z nu hs).map V.int)) hp3);have f3:mj x A H (upd H2 p3 (.lst ((kD z nu).map V.int++(jP z nu hs).map V.int))):=fun b u e a1 a2 a3 a4 a5 a6=>aW (fr3 b u e a1 a2 a3 a4 a5 a6) hp3;have l3:upd H2 p3 (.lst ((kD z nu).map V.int++(jP z nu hs).map V.int)) p3=some (.lst ((kD z nu++jP z nu hs).map V.int)):=by rw [ax,List.map_append]
 generalize upd H2 p3 (.lst ((kD z nu).map V.int++(jP z nu hs).map V.int))=H3 at*
 rw [<-h_u2,aq];generalize h_u3:aq _=u3;exists S3.hx;have tN:((z.t.toNat:Nat):Int)=z.t:=by lia
 have i1: ∀a∈kD z nu,knw z.Kn a=false/\0<=a/\a<((z.t.toNat:Nat):Int):=fun a ha=>by
  obtain ⟨m1,m2⟩:=ip ha;have:=gh m1;exact ⟨m2,by lia,by lia⟩
 have i2: ∀a∈jP z nu hs,knw (eI z nu).Kn a=false/\0<=a/\a<((z.t.toNat:Nat):Int):=fun a ha=>by
  obtain ⟨m1,m2⟩:=ip ha;obtain ⟨h1,k,hk1,rfl⟩:=nj m1;have h2:=hs0 k hk1;have h3:(eI z nu).b=z.b+far' z nu:=rfl;have h4:(eI z nu).t=z.t:=rfl;exact ⟨m2,by lia,by lia⟩
 have n1:(kD z nu).Nodup:=List.Pairwise.filter _ gN;have n2:(jP z nu hs).Nodup:=List.Pairwise.filter _ (lQ hnd);have c1:=js n1 i1;have c2:=js n2 i2;have c3:=yd (D:=putAll (eI z nu).Kn (jP z nu hs)) (t:=z.t.toNat);have tot:z.k+((kD z nu).length+(jP z nu hs).length)<=390:=by
  have e1:cnt (eI z nu).Kn z.t.toNat=cnt (putAll z.Kn (kD z nu)) z.t.toNat:=rfl;lia
 have hpl: ∀a∈kD z nu++jP z nu hs,0<=a/\a<z.t:=fun a ha=>by
  rcases List.mem_append.mp ha with h|h
  ·have:=i1 a h;lia
  ·have:=i2 a h;lia
 have efl:(kD z nu++jP z nu hs).length=(kD z nu).length+(jP z nu hs).length:=List.length_append;clear c1 c2 c3 i1 i2 n1 n2;have S4:=S3.put (eI z nu).b (eI z nu).t (if (eI z nu).e<(eI z nu).b+rm then (eI z nu).b+rm else (eI z nu).e) (eI z nu).clk (eI z nu).hur;have n3x:p3≠x:=aF l3 S3.hx (by simp);generalize hE:(if (eI z nu).e<(eI z nu).b+rm then (eI z nu).b+rm else (eI z nu).e)=e' at*
 have l4:upd H3 x (HO.ins aa A.dx (aB (V.int (eI z nu).R) (V.ref A.pw) (V.ref A.pm) (V.ref A.pt) (V.int (eI z nu).b) (V.int (eI z nu).t) (V.int e') (eI z nu).clk (V.bl (eI z nu).hur) (V.ref A.pk) (V.ref A.pf) (V.ref A.pa))) p3=some (.lst ((kD z nu++jP z nu hs).map V.int)):=by rw [af n3x];exact l3
 have f4:mj x A H (upd H3 x (HO.ins aa A.dx (aB (V.int (eI z nu).R) (V.ref A.pw) (V.ref A.pm) (V.ref A.pt) (V.int (eI z nu).b) (V.int (eI z nu).t) (V.int e') (eI z nu).clk (V.bl (eI z nu).hur) (V.ref A.pk) (V.ref A.pf) (V.ref A.pa)))):=fun b u e a1 a2 a3 a4 a5 a6=>by rw [af a1];exact f3 b u e a1 a2 a3 a4 a5 a6
 generalize upd H3 x (HO.ins aa A.dx (aB (V.int (eI z nu).R) (V.ref A.pw) (V.ref A.pm) (V.ref A.pt) (V.int (eI z nu).b) (V.int (eI z nu).t) (V.int e') (eI z nu).clk (V.bl (eI z nu).hur) (V.ref A.pk) (V.ref A.pf) (V.ref A.pa)))=H4 at*
 obtain ⟨z4,ez4⟩: ∃z4:Sd,z4=⟨z.R,z.b+far' z nu,z.t,e',z.clk,z.hur,z.T,putAll (eI z nu).Kn (jP z nu hs),z.Fi,z.Ag,z.L,z.w,z.k,z.wi,z.g,z.mo,z.kn,z.co⟩:=⟨_,rfl⟩;replace S4:a9 aa ai ae H4 x A z4:=by rw [ez4];exact S4
 have e4F:z4.Fi=z.Fi:=by rw [ez4]
 have e4k:z4.k=z.k:=by rw [ez4]
 have e4A:z4.Ag=z.Ag:=by rw [ez4]
 have e4L:z4.L=z.L:=by rw [ez4]
 have e4w:z4.w=z.w:=by rw [ez4]
 have e4g:z4.g=z.g:=by rw [ez4]
 have e4m:z4.mo=z.mo/\z4.wi=z.wi/\z4.kn=z.kn/\z4.co=z.co:=by rw [ez4];exact ⟨rfl,rfl,rfl,rfl⟩
 clear S3 S2 S1 l3 f3 l1 l12 l2;rw [<-h_u3,aq];generalize h_u4:aq _=u4;walk_at "wps";generalize hfs:kD z nu++jP z nu hs=fs at*
 have kk: ∀{i:Nat} {c:Int},fs[i]?=some c->mall z tn (fs.take (i+1))=rh z tn (mall z tn (fs.take i)) c:=fun {i c} hc=>by
  rw [List.take_add_one,hc];exact pS
 have S40:a9 aa ai ae H4 x A {z4 with w:=z.w,g:=z.g,k:=z.k}:=by
  have e:({z4 with w:=z.w,g:=z.g,k:=z.k}:Sd)=z4:=by rw [ez4]
  rw [e];exact S4
 refine nk (xs:=fs.map V.int) (cQ.of l4) (fun i σ H'=> ∃v7,(mall z tn (fs.take i)).2.2<=z.k+i/\mj x A H H'/\H' p3=some (.lst (fs.map V.int))/\a9 aa ai ae H' x A {z4 with w:=(mall z tn (fs.take i)).1,g:=(mall z tn (fs.take i)).2.1,k:=(mall z tn (fs.take i)).2.2}/\σ= [some (.ref x),some (.int nu),some (.int rm),some (.ref hd),some (.int tn),some (.int (far' z nu)),some (.ref p3),v7]) ⟨none,by show z.k<=z.k+0;lia,f4,l4,S40,rfl⟩ (fun i σ H' _ hp=>by obtain ⟨_,_,_,hh,_⟩:=hp;exact cQ.of hh) (fun i y σ H5 hy hp=>?_) (fun σ H5 hp=>?_)
 ·
  obtain ⟨v7,kle,f5,l5,S5,rfl⟩:=hp;obtain ⟨c,rfl,hci⟩:=gf hy;have il:i<fs.length:=(List.getElem?_eq_some_iff.mp hci).1;obtain ⟨c0',c1'⟩:=hpl c (List.mem_of_getElem? hci);obtain ⟨f,hf,g0,g1⟩:=hT c c0' c1';obtain ⟨s0,sp0,ew⟩:=S5.ws.ins;have hf5:=S5.hf;have ha5:=S5.ha;have ff:iL z c=f:=by unfold iL;rw [hf]
  rw [kk hci];generalize mall z tn (fs.take i)=s at*
  exists S5.hx,ha5,hf5,ew;cases ea:(aX z4.Ag (ik c)).isSome
  ·have e1:rh z tn s c=(mws z.L (mgs s.2.1 (tn - f)),mgs s.2.1 (tn - f),s.2.2+1):=by
    unfold rh knw;rw [<-e4A,ea,ff];rfl
   rw [if_pos rfl,e1];refine ⟨_,by rw [e4F];exact hf,?_⟩;walk_at "wps";exact WS.meas (E:=E0) (Q:=fun _ H'=> ∃v7,s.2.2+1<=z.k+(i+1)/\mj x A H H'/\H' p3=some (.lst (fs.map V.int))/\a9 aa ai ae H' x A {z4 with w:=mws z.L (mgs s.2.1 (tn - f)),g:=mgs s.2.1 (tn - f),k:=s.2.2+1}/\([some (.ref x),some (.int nu),some (.int rm),some (.ref hd),some (.int tn),some (.int (far' z nu)),some (.ref p3),some (.int c)]:St)= [some (.ref x),some (.int nu),some (.int rm),some (.ref hd),some (.int tn),some (.int (far' z nu)),some (.ref p3),v7]) S5.ws (by show s.2.2<=440;lia) g0 g1 (fun H6 hB hw=>⟨_,by lia,fun b u e a1 a2 a3 a4 a5 a6=>hB _ _ (f5 b u e a1 a2 a3 a4 a5 a6) a2,hB _ _ l5 (S5.nw l5 (by simp)).2.1,by rw [<-e4L];exact S5.ways hB hw,rfl⟩)
  ·have e1:rh z tn s c=s:=by
    unfold rh knw;rw [<-e4A,ea];rfl
   rw [if_neg (by decide),e1];exact ⟨_,by lia,f5,l5,S5,rfl⟩
 obtain ⟨v7,kle,f5,l5,S5,rfl⟩:=hp;rw [List.length_map,List.take_length] at S5;obtain ⟨em,hi⟩:=S5.ms;rw [<-h_u4,aq];generalize h_u5:aq _=u5;exists S5.hx,l5,em;refine ⟨by rw [List.length_map];lia,A.dm,z4.mo,z4.wi,z4.kn,z4.co,rfl,?_⟩;have elen:((fs.map V.int).length:Int).toNat=fs.length:=by rw [List.length_map];lia
 rw [elen];have hst0:MeterM.kn z4.mo z4.kn fs.length (z4.wi,z4.co)=MeterM.kn z.mo z.kn fs.length (z.wi,z.co):=by rw [e4m.1,e4m.2.1,e4m.2.2.1,e4m.2.2.2]
 rw [hst0];generalize hst:MeterM.kn z.mo z.kn fs.length (z.wi,z.co)=st at*
 have hin:MeterM.AK z4.mo st:=by rw [<-hst0];exact MeterM.inb _ _ hi
 have S6:=S5.meter (H':=upd H5 A.pm (.ins ae A.dm (aE (.int z4.mo) (.int st.1) (.int z4.kn) (.int st.2)))) fV.upd ⟨ax,hin⟩;have l6:upd H5 A.pm (.ins ae A.dm (aE (.int z4.mo) (.int st.1) (.int z4.kn) (.int st.2))) p3=some (.lst (fs.map V.int)):=by rw [af (S5.nw l5 (by simp)).2.2];exact l5
 have f6:mj x A H (upd H5 A.pm (.ins ae A.dm (aE (.int z4.mo) (.int st.1) (.int z4.kn) (.int st.2)))):=fun b u e a1 a2 a3 a4 a5 a6=>by rw [af a3];exact f5 b u e a1 a2 a3 a4 a5 a6
 generalize upd H5 A.pm (.ins ae A.dm (aE (.int z4.mo) (.int st.1) (.int z4.kn) (.int st.2)))=H6 at*
 clear S5 S4 l5 f5 em;obtain ⟨s0,sp0,ew⟩:=S6.ws.ins;have hE':e'=if z.e<z.b+far' z nu+rm then z.b+far' z nu+rm else z.e:=hE.symm;rw [<-h_u5,aq];exists S6.hx,ew;subst ez4;have ehr:fsh z nu hs=fs:=hfs;by_cases d0:0<far' z nu
 ·
  rw [if_pos d0];have fin: ∀c:V,c=(if z.b+far' z nu<z.t then .int (tn+(mall z tn fs).1) else .non)->Q (.ref p3) (upd H6 x (HO.ins aa A.dx (aB (V.int z.R) (V.ref A.pw) (V.ref A.pm) (V.ref A.pt) (V.int (z.b+far' z nu)) (V.int z.t) (V.int e') c (V.bl false) (V.ref A.pk) (V.ref A.pf) (V.ref A.pa)))):=fun c hcu=>by
   have S7:=S6.put (z.b+far' z nu) z.t e' c false;refine q p3 _ hp30 (fun b u e a1 a2 a3 a4 a5 a6 _=>by rw [af a1];exact f6 b u e a1 a2 a3 a4 a5 a6) (.inr ⟨by lia,?_,by rw [af n3x,ehr];exact l6⟩);unfold hrd;rw [ehr,if_pos d0,if_pos d0,hst,<-hcu,<-hE'];exact S7
  by_cases d1:z.b+far' z nu<z.t
  ·
   rw [if_pos d1] at fin⊢;exact fin _ rfl
  ·
   rw [if_neg d1] at fin⊢;exact fin _ rfl
 ·
  rw [if_neg d0];refine q p3 _ hp30 f6.seven (.inr ⟨by lia,?_,by rw [ehr];exact l6⟩);unfold hrd;rw [ehr,if_neg d0,if_neg d0,hst,<-hE'];exact S6
include T in def kb:cR P w K mg base fz aa "__init__" 3 ["self","ring","first","longest","most"] (df aa ai ae):=by
 exists 0,T.d5,j7,kH,df;rename_i x r f l m;refine ⟨_,(ah (aS (pv 0) (pv 1) T.aj T.eG)
 (ah (aS (pv 0) (nL T.aM (gI T) HR (by decide) rfl (aC (pv 2) (aC (pv 3) aA))) T.aj T.bh)
 (ay (ah (aS (pv 0) (nL T.aL (gd T) HR (by decide) rfl (aC (pv 4) aA)) T.aj T.bj)
 (ay (ah (aS (pv 0) (nM aA) T.aj T.cn)
 (ah (aS (pv 0) ar T.aj T.aJ)
 (ah (aS (pv 0) ar T.aj T.aV)
 (ah (aS (pv 0) ar T.aj T.cp)
 (ah (aS (pv 0) bU T.aj T.bB)
 (ah (aS (pv 0) gc T.aj T.bg)
 (ay (ah (aS (pv 0) i5 T.aj T.bf)
 (ay (ah (aS (pv 0) i5 T.aj T.bz)
 (ay (aw (aS (pv 0) i5 T.aj T.bE)))))))))))))))))),?_⟩
 obtain ⟨hf,dx,hx,q⟩:=h;generalize h_u1:aq _=u1;exists hx;intro pw dw npw ndw new;refine ⟨dw,rfl,?_⟩;have nwx:x≠pw:=(fresh_ne npw).symm;have ndx:x≠dw:=(fresh_ne ndw).symm;exists af nwx,af ndx;obtain ⟨H1,e1⟩: ∃H1,H1=upd (upd (upd (upd H x (.ins aa dx (gi (.int r)))) dw (.own pw)) pw (.ins ai dw (aK (.int l) .non .non (.int f)))) x (.ins aa dx (eU (.int r) (.ref pw))):=⟨_,rfl⟩;rw [<-e1];rw [af nwx.symm] at npw;rw [af ndx.symm] at ndw;have hx1:H1 x=some (.ins aa dx (eU (.int r) (.ref pw))):=by rw [e1];exact ax
 have w1:H1 pw=some (.ins ai dw (aK (.int l) .non .non (.int f))):=by rw [e1,af nwx.symm];exact ax
 have b1:fV x H H1:=fun b o e n=>by rw [e1,af n,af (av e npw),af (av e ndw),af n];exact e
 clear e1;rw [<-h_u1,aq];generalize h_u2:aq _=u2;walk_at "wps";intro pm dm npm ndm nem;refine ⟨dm,rfl,?_⟩;have nmx:x≠pm:=av hx1 npm;have ndx2:x≠dm:=av hx1 ndm;exists af nmx,af ndx2,hx1;obtain ⟨H2,e2⟩: ∃H2,H2=upd (upd (upd H1 dm (.own pm)) pm (.ins ae dm (aE (.int m) (.int (MeterM.mn 2 m)) (.int m) (.int 0)))) x (.ins aa dx (eS (.int r) (.ref pw) (.ref pm))):=⟨_,rfl⟩;rw [<-e2];have hx2:H2 x=some (.ins aa dx (eS (.int r) (.ref pw) (.ref pm))):=by rw [e2];exact ax
 have m2:H2 pm=some (.ins ae dm (aE (.int m) (.int (MeterM.mn 2 m)) (.int m) (.int 0))):=by rw [e2,af nmx.symm];exact ax
 have b2:fV x H1 H2:=fun b o e n=>by rw [e2,af n,af (av e npm),af (av e ndm)];exact e
 have nwm:pw≠pm:=av w1 npm;have w2:=b2 _ _ w1 nwx.symm;clear e2;rw [<-h_u2,aq];generalize h_u3:aq _=u3;walk_at "wps";intro pt npt;have ntx:x≠pt:=av hx2 npt;exists af ntx,hx2;obtain ⟨H3,e3⟩: ∃H3,H3=upd (upd H2 pt (.lst [])) x (.ins aa dx (eQ (.int r) (.ref pw) (.ref pm) (.ref pt) (.int 0) (.int 0) (.int 1) .non (.bl false))):=⟨_,rfl⟩;rw [<-e3];have hx3:H3 x=some (.ins aa dx (eQ (.int r) (.ref pw) (.ref pm) (.ref pt) (.int 0) (.int 0) (.int 1) .non (.bl false))):=by rw [e3];exact ax
 have t3:H3 pt=some (.lst []):=by rw [e3,af ntx.symm];exact ax
 have b3:fV x H2 H3:=fun b o e n=>by rw [e3,af n,af (av e npt)];exact e
 clear e3;rw [<-h_u3,aq];generalize h_u4:aq _=u4;walk_at "wps";intro pk npk;have nkx:x≠pk:=av hx3 npk;exists af nkx,hx3;obtain ⟨H4,e4⟩: ∃H4,H4=upd (upd H3 pk (.dK [])) x (.ins aa dx (dW (.int r) (.ref pw) (.ref pm) (.ref pt) (.int 0) (.int 0) (.int 1) .non (.bl false) (.ref pk))):=⟨_,rfl⟩;rw [<-e4];have hx4:H4 x=some (.ins aa dx (dW (.int r) (.ref pw) (.ref pm) (.ref pt) (.int 0) (.int 0) (.int 1) .non (.bl false) (.ref pk))):=by rw [e4];exact ax
 have k4:H4 pk=some (.dK []):=by rw [e4,af nkx.symm];exact ax
 have b4:fV x H3 H4:=fun b o e n=>by rw [e4,af n,af (av e npk)];exact e
 clear e4;rw [<-h_u4,aq];generalize h_u5:aq _=u5;walk_at "wps";intro pf npf;have nfx:x≠pf:=av hx4 npf;exists af nfx,hx4;obtain ⟨H5,e5⟩: ∃H5,H5=upd (upd H4 pf (.dK [])) x (.ins aa dx (dU (.int r) (.ref pw) (.ref pm) (.ref pt) (.int 0) (.int 0) (.int 1) .non (.bl false) (.ref pk) (.ref pf))):=⟨_,rfl⟩;rw [<-e5];have hx5:H5 x=some (.ins aa dx (dU (.int r) (.ref pw) (.ref pm) (.ref pt) (.int 0) (.int 0) (.int 1) .non (.bl false) (.ref pk) (.ref pf))):=by rw [e5];exact ax
 have f5:H5 pf=some (.dK []):=by rw [e5,af nfx.symm];exact ax
 have b5:fV x H4 H5:=fun b o e n=>by rw [e5,af n,af (av e npf)];exact e
 clear e5;rw [<-h_u5,aq];walk_at "wps";intro pa npa;have nax:x≠pa:=av hx5 npa;exists af nax,hx5;have b6:fV x H5 (upd (upd H5 pa (.dK [])) x (.ins aa dx (aB (.int r) (.ref pw) (.ref pm) (.ref pt) (.int 0) (.int 0) (.int 1) .non (.bl false) (.ref pk) (.ref pf) (.ref pa)))):=fun b o e n=>by rw [af n,af (av e npa)];exact e
 have k5:=b5 _ _ k4 nkx.symm;refine q ⟨dx,pw,pm,pt,pk,pf,pa,dw,dm⟩ _ (fun b o e n=>b6 _ _ (b5 _ _ (b4 _ _ (b3 _ _ (b2 _ _ (b1 b o e n) n) n) n) n) n) ⟨ax,b6 _ _ (b5 _ _ (b4 _ _ t3 ntx.symm) ntx.symm) ntx.symm,b6 _ _ k5 nkx.symm,b6 _ _ f5 nfx.symm,by rw [af nax.symm];exact ax,⟨by show 2<=l;lia,by show 2<=f/\f<=l;lia,.inl ⟨rfl,rfl,b6 _ _ (b5 _ _ (b4 _ _ (b3 _ _ w2 nwx.symm) nwx.symm) nwx.symm) nwx.symm⟩⟩,⟨b6 _ _ (b5 _ _ (b4 _ _ (b3 _ _ m2 nmx.symm) nmx.symm) nmx.symm) nmx.symm,?_⟩,av k4 npf,av k5 npa,av f5 npa,nwx,nmx,nwm⟩;show 1<=MeterM.mn 2 m/\MeterM.mn 2 m<=m/\(0:Int)<=0/\(0:Int)<MeterM.mn 2 m;unfold MeterM.mn;split<;>lia
include T in def jW:FnAt P w K mg base fz "_law_mixed" 1 ["_law_cell","_law_k"] gj:=by
 exists 0,T.iA,eE,o_,gj;rename_i c k;refine ⟨_,(ah (bp (PW.pt (pw_and (aI pQ (pv 0) (az tH ar ar) (nomark _)) (pw_and (aI (bX K rfl HR.units) (az bu (pv 0) ar) ar (nomark _)) (pw_and1 (aI pP (az w_ (pv 0) (az (aN K rfl) ar (az gw ar (pv 1)))) ar (nomark _)))))) (aw (aQ (az bu (az w_ (pv 0) (az (aN K rfl) ar (az gw ar (pv 1)))) ar))) aO)
 (ay (ah (aR (i:=2) eE.nd rfl (Or.inl rfl) (az (aN K rfl) (az bu (pv 0) ar) ar))
 (ah (h_ PassesOwn.never rfl (gG rfl T.da (aC ar aA)) (cg (i:=3) eE.nd rfl (Or.inl rfl)) (aw (aR (i:=2) eE.nd rfl (Or.inl rfl) (az bu (az (aN K rfl) (az (aN K rfl) (az eF (pv 2) (pv 2)) (az gw ar (pv 2))) (pv 1)) ar))))
 (aw (aQ (pv 2))))))),?_⟩
 obtain ⟨h0,q⟩:=h;generalize h_u1:aq _=u1;walk_at "wps";have sh:Aa 1 90:=⟨⟨by decide,by decide⟩,by decide+kernel,by decide+kernel⟩;have tail:u1 {nx:=fun _ H'=>Q .non H',rt:=Q} [some (.int c),some (.int k),none,none] H:=by
  rw [<-h_u1,aq];walk_at "wps";refine nY (lo:=0) (n:=2) (fun i σ H'=>H'=H/\∃v v3,σ= [some (.int c),some (.int k),some (.int v),v3]/\0<=v/\v<4294967296) ⟨rfl,_,none,rfl,by lia,by lia⟩ (fun i σ H' _ hp=>?_) (fun σ H' hp=>?_)
  ·
   obtain ⟨rfl,v,v3,rfl,h0,h1⟩:=hp;walk_at "wps";refine ⟨.inl (.inl ⟨by lia,by lia⟩),_,_,rfl,?_,?_⟩
   ·exact Int.emod_nonneg _ (by decide)
   ·exact Int.lt_trans (Int.emod_lt_of_pos _ (by decide)) (by decide)
  ·
   obtain ⟨rfl,v,v3,rfl,h0,h1⟩:=hp;walk_at "wps";exact q v h0
 refine ⟨sh,?_⟩;split
 ·
  split
  ·
   refine ⟨by lia,?_⟩;split
   ·exact ⟨by lia,q _ (Int.emod_nonneg _ (by decide))⟩
   ·exact tail
  ·exact tail
 ·exact tail
include T in def nO:FnAt P w K mg base fz "_law_number" 1 ["_law_cell","_law_base","_law_top","_law_ring"] fA:=by
 exists 0,T.gA,iU,ou,fA;rename_i c b t r;refine ⟨_,(ah (aR (i:=4) iU.nd rfl (Or.inl rfl) (az bu (pv 0) ar))
 (ah (bp (aI d6 (pv 4) ar (nomark _)) (aw (aQ (az bu (az (aN K rfl) (pv 1) (az bu (az bP (pv 0) ar) (az (aN K rfl) (az dR (pv 2) (pv 1)) ar))) (pv 3)))) aO)
 (ah (bp (aI (bX K rfl HR.units) (pv 4) ar (nomark _)) (aw (aQ (az bu (pv 2) (pv 3)))) aO)
 (ah (bp (aI (bX K rfl HR.units) (pv 4) ar (nomark _)) (aw (aQ (az bu (az dR (az dR (pv 1) ar) (az bu (az bP (pv 0) ar) ar)) (pv 3)))) aO)
 (aw (aQ (az bu (az bP (pv 0) ar) (pv 3)))))))),?_⟩
 obtain ⟨⟨h1,h2⟩,q⟩:=h;walk_at "wps";split
 ·exact ⟨by lia,h2,q _⟩
 ·
  split
  ·exact ⟨h2,q _⟩
  ·
   split
   ·exact ⟨h2,q _⟩
   ·exact ⟨h2,q _⟩
def GO: ∀j:Fin 15,(0:Int)<1*2 ^ ((j:Nat)+1)/\(1:Int)*2 ^ ((j:Nat)+1)<1073741824:=by decide+kernel
def tO {p:Int->Bool} {b:Int} {n:Nat}:List.map (fun v=>v) (List.filter (fun v=>match v with|V.int i=>p i|_=>false) (fL b n))=((irg b n).filter p).map V.int:=by
 rw [sv,List.map_id',List.filter_map];rfl
def FP {p:Int->Bool}:((irg 1 15).filter p).length<=15/\((irg 1 15).filter p).Nodup/\∀k∈(irg 1 15).filter p,0<=k:=
 ⟨
  Nat.le_trans (List.length_filter_le _ _) (by unfold irg;rw [List.length_map,List.length_range];exact Nat.le_refl _),gN.filter _,fun k hk=>by
  have:=gh (List.mem_filter.mp hk).1;lia⟩
def A_ {z:Sd} {nu:Int} {hs:List Int} (h0: ∀k∈hs,0<=k) (f0:0<=far' z nu) (hf:far' z nu<=z.t - z.b):fsh z nu hs=(irg z.b (far' z nu).toNat++hs.map (fun k=>z.b+far' z nu+k)).filter (fun a=>decide (a<z.t) && !knw z.Kn a):=by
 rw [xR h0 f0];unfold frs;rw [List.filter_append,List.filter_append];congr 1
 ·
  apply List.filter_congr;intro a ha;have:=gh ha;rw [decide_eq_true (show a<z.t by lia),Bool.true_and]
 ·
  unfold hld;rw [List.filter_map,List.filter_map,List.filter_filter];congr 1;apply List.filter_congr;intro k _;show (!knw z.Kn (z.b+far' z nu+k)&&decide (z.b+far' z nu+k<z.t))=(decide (z.b+far' z nu+k<z.t) && !knw z.Kn (z.b+far' z nu+k));rw [Bool.and_comm]
def Dw {z:Sd} {nu:Int} {hs:List Int} (hn:hs.Nodup) (h0: ∀k∈hs,0<=k) (f0:0<=far' z nu):(irg z.b (far' z nu).toNat++hs.map (fun k=>z.b+far' z nu+k)).Nodup:=by
 refine List.nodup_append.mpr ⟨gN,?_,fun a ha b hb e=>?_⟩
 ·
  unfold List.Nodup;rw [List.pairwise_map];exact hn.imp fun h e=>h (by lia)
 ·
  have h1:=gh ha;obtain ⟨k,hk,rfl⟩:=List.mem_map.mp hb;have:=h0 k hk;lia
noncomputable def flt (z:Sd) (ps:List Int) (i:Nat):List Int:=(ps.take i).filter (fun a=>decide (a<z.t) && !knw z.Kn a)
def xU {z:Sd} {ps:List Int} {i:Nat} {c:Int} (h:ps[i]?=some c):flt z ps (i+1)=if (decide (c<z.t) && !knw z.Kn c)=true then flt z ps i++ [c] else flt z ps i:=by
 unfold flt;rw [List.take_add_one,h,List.filter_append];show _++List.filter (fun a=>decide (a<z.t) && !knw z.Kn a) [c]=_;rw [List.filter_cons,List.filter_nil];split<;>simp
def zP {z:Sd} {ps:List Int} {i:Nat} {c:Int} (hn:ps.Nodup) (h:ps[i]?=some c):c ∉ flt z ps i:=fun hc=>zx hn h (List.mem_filter.mp hc).1
def zQ {z:Sd} {ps:List Int} {i:Nat}:(flt z ps i).length<=(ps.filter (fun a=>decide (a<z.t) && !knw z.Kn a)).length:=((List.take_sublist i ps).filter _).length_le
def sy (O:List (Key×V)) (b:Int) (j:Int):aX (cS O (ik b)) (ik j)=if j=b then none else aX O (ik j):=by
 rw [pE];by_cases c:j=b
 ·rw [if_pos c,if_pos (by rw [c])]
 ·rw [if_neg c,if_neg (xD c)]
def xf {O:List (Key×V)} {b:Int} (h:aX O (ik b)=none) (j:Int):aX O (ik j)=if j=b then none else aX O (ik j):=by
 by_cases c:j=b
 ·rw [if_pos c,c];exact h
 ·rw [if_neg c]
def zA {z:Sd} {p:Int->Bool} (h: ∀j:Int,p j=knw z.Kn j):((irg (z.b+1) (z.t - (z.b+1)).toNat).filter p).length=kab z:=by
 unfold irg kab;rw [List.filter_map,List.length_map];congr 1;apply List.filter_congr;intro j _;show p (z.b+1+(j:Int))=_;rw [h]
include T in def oO:FnAt P w K mg base fz "_law_above" 1 ["_law_now"] gn:=by
 exists 0,T.iC,oH,pj,gn;rename_i d;refine ⟨_,(aw (aQ (bC (ju K rfl) (by rfl) T.oz ot (aC (kP (N:=(["_law_place","_law_now"]:List Str)) (nv:=1) (ix:=[0]) rfl (p_ (by kernel_rfl)) (lH rfl T.da (aC (az (aN K rfl) (ba HR.units (pv 0) aG (fun _ _=>rfl)) ar) (aC (ba HR.units (pv 0) aG (fun _ _=>rfl)) aA))) (fun _ _ _ _ _=>(cg (i:=0) (show ((["_law_place","_law_now"]:List Str)).Nodup by decide) rfl (Or.inl rfl))) (fun _ _ _ _ _=>(kN (lG (w9 HR.units (pv 0) (ba HR.units (pv 1) aG (fun _ _=>rfl))) (jo rfl)))) (fun _ _ _ _ _=>(pv 0))) aA)))),?_⟩;obtain ⟨z,dk,Kd,e,n,c,hh,o,hd,hk,eK,⟨b0,b1,b2⟩,q⟩:=h;exists hd;refine ⟨by lia,?_⟩;refine sG (p:=fun v=>match v with | .int i=>knw Kd i|_=>false) (f:=fun v=>v) (bO (by lia)) ?_ ?_ ?_
 ·
  intro j hj Q' q';exists hd,hk;exact q'
 ·
  intro j hj _ Q' q';walk_at "wps";exact q'
 rw [tO (p:=fun i=>knw Kd i)];have e:=zA (z:=z) eK;have kl:=sq (z:=z);refine ⟨bO (by rw [List.length_map,e];lia),fun l hl=>?_⟩;rw [List.length_map,e];exact q _ (aY hl)
include T in def rf:FnAt P w K mg base fz "_law_due" 2 ["_law_now","_law_turn","_law_window"] iT:=by
 exists 0,T.kE,gb,rJ,iT;rename_i d n wi;refine ⟨_,(ah (aR (i:=3) gb.nd rfl (Or.inl rfl) (ba HR.units (pv 0) aG (fun _ _=>rfl)))
 (ah (aR (i:=4) gb.nd rfl (Or.inl rfl) (ba HR.units (pv 0) aG (fun _ _=>rfl)))
 (ah (aR (i:=5) gb.nd rfl (Or.inl rfl) (bW (oO T) HR (by decide) rfl (aC (pv 0) aA)))
 (ay (ah (bp (PW.pt (pw_and (aI d6 (pv 3) (pv 4) (nomark _)) (pw_and1 (aI pQ (pv 1) (ba HR.units (pv 0) aG (fun _ _=>rfl)) (nomark _))))) (aw (aQ (dt (aC aG (aC (pv 3) (aC aG aA)))))) aO)
 (ay (ah (bp (PW.pt (pw_and (aI d6 (pv 3) (pv 4) (nomark _)) (pw_and (lF (oM (ba HR.units (pv 0) aG (fun _ _=>rfl)))) (pw_and1 (aI pQ (pv 5) ar (nomark _)))))) (aw (aQ (dt (aC aG (aC (pv 3) (aC aG aA)))))) aO)
 (ay (ah (bp (aI d6 (pv 4) (ba HR.units (pv 0) aG (fun _ _=>rfl)) (nomark _)) (ah (bp (PW.pt (pw_and (aI d6 (pv 4) (ba HR.units (pv 0) aG (fun _ _=>rfl)) (nomark _)) (pw_and1 (aI d6 (az dR (az dR (pv 4) (pv 3)) (pv 5)) (pv 2) (nomark _))))) (aw (aQ (dt (aC aG (aC (pv 4) (aC aG aA)))))) aO)
 (ay (aw (bp (PW.pt (pw_and (aI (bX K rfl HR.units) (pv 3) (pv 4) (nomark _)) (pw_and (aI rb (ba HR.units (pv 0) aG (fun _ _=>rfl)) bU (nomark _)) (pw_and1 (aI pQ (pv 1) (ba HR.units (pv 0) aG (fun _ _=>rfl)) (nomark _)))))) (aw (aQ (dt (aC aG (aC bU (aC aG aA)))))) aO)))) aO)
 (ay (aw (aQ bU)))))))))))),?_⟩
 obtain ⟨z,dk,dn,Kd,hd,hk,eK,hb,ci,ck,rfl,q⟩:=h;generalize h_u1:aq _=u1;exists hd;refine ⟨z,dk,Kd,_,_,_,_,_,by first|rfl|exact hd,hk,eK,hb,fun H1 sm=>?_⟩
 have hd1:=sm _ _ hd;rw [<-h_u1,aq];generalize h_u2:aq _=u2;have rest1:(z.b<z.t->nN z.clk n=false)->u2 {nx:=fun _ H'=>Q .non H',rt:=Q} [some (.ref d),some (.int n),some (.int z.wi),some (.int z.b),some (.int z.t),some (.int (kab z))] H1:=by
  intro hno;rw [<-h_u2,aq];generalize h_u3:aq _=u3;have rest2:kW z=false->u3 {nx:=fun _ H'=>Q .non H',rt:=Q} [some (.ref d),some (.int n),some (.int z.wi),some (.int z.b),some (.int z.t),some (.int (kab z))] H1:=by
   intro hh;rw [<-h_u3,aq];generalize h_u4:aq _=u4;generalize h_u5:aq _=u5;have non5:kd z=false->¬(z.t<z.T.length/\z.b=z.t/\nN z.clk n=true)->u5 {nx:=fun _ H'=>Q .non H',rt:=Q} [some (.ref d),some (.int n),some (.int z.wi),some (.int z.b),some (.int z.t),some (.int (kab z))] H1:=by
    intro hn ha;rw [<-h_u5,aq];walk_at "wps";exact q .non H1 sm (.inr ⟨hno,.inr ⟨hh,.inr ⟨hn,.inr ⟨ha,rfl⟩⟩⟩⟩)
   have r4:kd z=false->z.t<z.T.length->u4 {nx:=u5 {nx:=fun _ H'=>Q .non H',rt:=Q},rt:=Q} [some (.ref d),some (.int n),some (.int z.wi),some (.int z.b),some (.int z.t),some (.int (kab z))] H1:=by
    intro hn c1;rw [<-h_u4,aq];rcases ck with hc|⟨i,hc⟩
    ·
     have n5:=non5 hn (fun q=>by rw [hc] at q;cases q.2.2);exists hd1,hc
     first|exact n5|(split<;>exact n5)
    ·
     exists hd1,hc;by_cases c2:z.b=z.t
     ·
      rw [if_pos c2];by_cases c3:i<=n
      ·
       rw [if_pos c3];intro p hp;exact q (.ref p) _ (fun b u e=>aW (sm b u e) hp) (.inr ⟨hno,.inr ⟨hh,.inr ⟨hn,.inl ⟨c1,c2,by rw [hc];exact decide_eq_true c3,p,rfl,ax⟩⟩⟩⟩)
      ·
       rw [if_neg c3];exact non5 hn (fun q=>c3 (by have:=q.2.2;rw [hc] at this;exact of_decide_eq_true this))
     ·
      rw [if_neg c2];exact non5 hn (fun q=>c2 q.2.1)
   exists hd1;by_cases c1:z.t<z.T.length
   ·
    rw [if_pos c1];by_cases hn:kd z=true
    ·
     have hn':=hn;unfold kd at hn';simp only [Bool.and_eq_true,decide_eq_true_eq] at hn';rw [if_pos hn'.1.2,if_pos hn'.2];intro p hp;exact q (.ref p) _ (fun b u e=>aW (sm b u e) hp) (.inr ⟨hno,.inr ⟨hh,.inl ⟨hn,p,rfl,ax⟩⟩⟩)
    ·
     have hn':kd z=false:=by simpa using hn
     by_cases c2:z.t<z.e
     ·
      rw [if_pos c2];by_cases c3:z.t - z.b - kab z<z.wi
      ·exact absurd (by unfold kd;rw [decide_eq_true c1,decide_eq_true c2,decide_eq_true c3];rfl) hn
      ·
       rw [if_neg c3];exact r4 hn' c1
     ·
      rw [if_neg c2];exact r4 hn' c1
   ·
    rw [if_neg c1];exact non5 (by unfold kd;rw [decide_eq_false c1];rfl) (fun q=>c1 q.1)
  exists hd1;by_cases hh:kW z=true
  ·
   have hh':=hh;unfold kW at hh';simp only [Bool.and_eq_true,decide_eq_true_eq,Bool.not_eq_true'] at hh';obtain ⟨⟨c1,c2⟩,c3⟩:=hh';rw [if_pos c1,if_pos c2,if_pos c3];intro p hp;exact q (.ref p) _ (fun b u e=>aW (sm b u e) hp) (.inr ⟨hno,.inl ⟨hh,p,rfl,ax⟩⟩)
  ·
   have hh':kW z=false:=by simpa using hh
   by_cases c1:z.b<z.t
   ·
    rw [if_pos c1];by_cases c2:z.hur=false
    ·
     rw [if_pos c2];by_cases c3:(2:Int)<=kab z
     ·exact absurd (by unfold kW;rw [decide_eq_true c1,c2,decide_eq_true c3];rfl) hh
     ·
      rw [if_neg c3];exact rest2 hh'
    ·
     rw [if_neg c2];exact rest2 hh'
   ·
    rw [if_neg c1];exact rest2 hh'
 by_cases c0:z.b<z.t
 ·
  obtain ⟨i,hc⟩:=ci c0;exists hd1,hc;rw [if_pos c0];by_cases c1:i<=n
  ·
   rw [if_pos c1];intro p hp;exact q (.ref p) _ (fun b u e=>aW (sm b u e) hp) (.inl ⟨c0,by rw [hc];exact decide_eq_true c1,p,rfl,ax⟩)
  ·
   rw [if_neg c1];exact rest1 fun _=>by rw [hc];exact decide_eq_false c1
 ·
  exists hd1;rw [if_neg c0];exact rest1 fun c=>absurd c c0
include T in def kS:FnAt P w K mg base fz "_law_same" 1 ["_law_sender","_law_ways","_law_meter"] (gS aa ai ae):=by
 exists 0,T.jk,gW,qM,gS;rename_i x y m;refine ⟨_,(ah (aR (i:=3) gW.nd rfl (Or.inl rfl) (dt (aC (au (au (pv 0) T.aj T.bh rfl) T.aM T.aP rfl) (aC (au (au (pv 0) T.aj T.bh rfl) T.aM T.aZ rfl) (aC (au (au (pv 0) T.aj T.bh rfl) T.aM T.br rfl) aA)))))
 (ay (ah (aR (i:=4) gW.nd rfl (Or.inl rfl) (dt (aC (au (au (pv 0) T.aj T.bj rfl) T.aL T.aT rfl) (aC (au (au (pv 0) T.aj T.bj rfl) T.aL T.bH rfl) (aC (au (au (pv 0) T.aj T.bj rfl) T.aL T.bc rfl) aA)))))
 (ay (aw (aQ (lI (dQ (bX K rfl HR.units) (pv 3) (dt (aC (au (pv 1) T.aM T.aP rfl) (aC (au (pv 1) T.aM T.aZ rfl) (aC (au (pv 1) T.aM T.br rfl) aA)))) (nomark _)) (qu (dQ (bX K rfl HR.units) (pv 4) (dt (aC (au (pv 2) T.aL T.aT rfl) (aC (au (pv 2) T.aL T.bH rfl) (aC (au (pv 2) T.aL T.bc rfl) aA)))) (nomark _)))))))))),?_⟩
 obtain ⟨dy,dm,d,dk,dn,A,z,D,Kd,O,p0,q⟩:=h;obtain ⟨s1,sp1,e1,d1⟩:=p0.S.ws.Ga K;obtain ⟨s2,sp2,e2,d2⟩:=p0.W.Ga K;obtain ⟨em,_⟩:=p0.S.ms;have en:=p0.M.1;generalize h_u1:aq _=u1;exists p0.S.hx,e1;intro p1 hp1;have sm1:=aY (o:= .tup [s1,sp1,.int z.w]) hp1;have t1:=ax (H:=H) (a:=p1) (o:= .tup [s1,sp1,.int z.w]);have hx1:=sm1 _ _ p0.S.hx;have em1:=sm1 _ _ em;generalize upd H p1 (.tup [s1,sp1,.int z.w])=H1 at*
 rw [<-h_u1,aq];generalize h_u2:aq _=u2;exists hx1,em1;intro p2 hp2;have sm2:cC H (upd H1 p2 (.tup [.int z.wi,.int z.kn,.int z.co])):=fun b o e=>aW (sm1 b o e) hp2;have t2:=ax (H:=H1) (a:=p2) (o:= .tup [.int z.wi,.int z.kn,.int z.co]);have t12:=aW (o:= .tup [.int z.wi,.int z.kn,.int z.co]) t1 hp2;generalize upd H1 p2 (.tup [.int z.wi,.int z.kn,.int z.co])=H2 at*
 rw [<-h_u2,aq];exists sm2 _ _ e2;intro p3 hp3;have sm3:cC H (upd H2 p3 (.tup [s2,sp2,.int z.w])):=fun b o e=>aW (sm2 b o e) hp3;have t3:=ax (H:=H2) (a:=p3) (o:= .tup [s2,sp2,.int z.w]);have t13:=aW (o:= .tup [s2,sp2,.int z.w]) t12 hp3;have t23:=aW (o:= .tup [s2,sp2,.int z.w]) t2 hp3;generalize upd H2 p3 (.tup [s2,sp2,.int z.w])=H3 at*
 have ii: ∀(n:Nat) (H':Hp) (i:Int),Den K H' n (.int i) (.int i):=fun n H' i=>Den.up (n:=0) (.inr (.inl ⟨_,rfl,rfl⟩)) (Nat.zero_le _);refine og (n:=1) (by decide) (fx.of t13) (fx.of t3) (ds:=[gsm z.g,gsp z.g,.int z.w]) (.cons (d1 _ sm3).1 (.cons (d1 _ sm3).2 (.cons (ii _ _ _) .nil))) (.cons (d2 _ sm3).1 (.cons (d2 _ sm3).2 (.cons (ii _ _ _) .nil))) ?_;exists sm3 _ _ en;intro p4 hp4;refine og (n:=0) (by decide) (fx.of (aW t23 hp4)) (fx.of ax) (ds:=[.int z.wi,.int z.kn,.int z.co]) (.cons (ii _ _ _) (.cons (ii _ _ _) (.cons (ii _ _ _) .nil))) (.cons (ii _ _ _) (.cons (ii _ _ _) (.cons (ii _ _ _) .nil))) ?_;exact q _ (fun b o e=>aW (sm3 b o e) hp4)
include T in def nP:FnAt P w K mg base fz "_law_beside" 3 ["_law_due_here","_law_now","_law_ways","_law_meter"] (fB aa ai ae):=by
 exists 0,T.gB,nF,ow,fB;rename_i p d y m;refine ⟨_,(qq (bp (aI (bX K rfl HR.units) (bV (eN K rfl) (pv 0) ar (fun _ _=>rfl)) aG (nomark _)) (ah (a_ (bF (pv 2) T.aM (fe T) HR (by decide)))
 (ay (aw (bp (aI (bX K rfl HR.units) (bV (eN K rfl) (pv 0) ar (fun _ _=>rfl)) aG (nomark _)) (aw (a_ (bF (pv 3) T.aL (gJ T) HR (by decide)))) aO)))) aO)
 (ay (ah (bp (aI (bX K rfl HR.units) (bV (eN K rfl) (pv 0) ar (fun _ _=>rfl)) aG (nomark _)) (aw (a_ (bF (pv 3) T.aL (gK T) HR (by decide)))) aO)
 (ay (aw (bp (aI (bX K rfl HR.units) (bV (eN K rfl) (pv 0) ar (fun _ _=>rfl)) aG (nomark _)) (ah (fM HR.units (pv 1) aG gc)
 (ay (aw (a_ (zg (ba HR.units (pv 1) aG (fun _ _=>rfl)) (ba HR.units (pv 1) aG (fun _ _=>rfl)) bU))))) aO)))))),?_⟩
 obtain ⟨x,dy,dm,dk,dn,A,z,w,g,k,wi,kn,co,b,t,e,n,c,hu,Kd,O,p0,hb⟩:=h;have en:=p0.M.1;have hin:=p0.M.2;obtain ⟨s0,sp0,ew,hw⟩:=p0.W.ran;have hh1:1<=MeterM.hf wi/\MeterM.hf wi<=z.mo:=MeterM.AE hin.1 hin.2.1;generalize h_u1:aq _=u1;generalize h_u2:aq _=u2;rcases hb with ⟨hp,q⟩|⟨hp,q⟩|⟨v,hp,q⟩|⟨hp,q⟩
 ·
  refine ⟨u2 {nx:=fun x H'=>Q V.non H',rt:=Q},?_,fun σ' H' hM=>hM⟩;exists hp,ew;refine ⟨dy,z.L,s0,sp0,w,rfl,?_⟩;have p1:=p0.way fV.upd hw;have hp1:upd H y (.ins ai dy (aK (V.int z.L) s0 sp0 (V.int (if z.L<2*w then z.L else 2*w)))) p=some (.tup [.str "again",.int b,.str "late"]):=by rw [af (aF hp ew (by simp))];exact hp
  have f1:bq x A y m d dk dn H (upd H y (.ins ai dy (aK (V.int z.L) s0 sp0 (V.int (if z.L<2*w then z.L else 2*w))))):=bq.uy fV.upd;generalize upd H y (.ins ai dy (aK (V.int z.L) s0 sp0 (V.int (if z.L<2*w then z.L else 2*w))))=H1 at*
  rw [<-h_u1,aq];exists hp1,p1.M.1;refine ⟨dm,z.mo,wi,kn,co,rfl,?_⟩;have p2:=p1.met 1 (MeterM.hf wi) 0 ⟨Int.le_refl _,Int.le_trans hin.1 hin.2.1,Int.le_refl _,by show (0:Int)<1;lia⟩;have hp2:upd H1 m (.ins ae dm (aE (.int z.mo) (.int 1) (.int (MeterM.hf wi)) (.int 0))) p=some (.tup [.str "again",.int b,.str "late"]):=by rw [af (aF hp1 p1.M.1 (by simp))];exact hp1
  have f2:=f1.trans (bq.um (o:= .ins ae dm (aE (.int z.mo) (.int 1) (.int (MeterM.hf wi)) (.int 0))));generalize upd H1 m (.ins ae dm (aE (.int z.mo) (.int 1) (.int (MeterM.hf wi)) (.int 0)))=H2 at*
  rw [<-h_u2,aq];generalize h_u3:aq _=u3;exists hp2;rw [if_neg (by decide+kernel)];rw [<-h_u3,aq];generalize h_u4:aq _=u4;exists hp2,p2.hd;have p3:=p2.pd (d8 (.int b) t e n c (.bl true) (.ref dk) (.ref dn));have f3:=f2.trans (bq.ud (o:= .dK (d8 (.int b) t e n c (.bl true) (.ref dk) (.ref dn))));generalize upd H2 d (.dK (d8 (.int b) t e n c (.bl true) (.ref dk) (.ref dn)))=H3 at*
  rw [<-h_u4,aq];exists p3.hd,p3.ho;exact ⟨fun v hv=>q _ (cS O (ik b)) (f3.trans bq.uo) (p3.po _) (sy _ _) oh,fun hv=>q _ O f3 p3 (xf hv) (Nat.le_refl _)⟩
 ·
  refine ⟨u2 {nx:=fun x H'=>Q V.non H',rt:=Q},?_,fun σ' H' hM=>hM⟩;exists hp;rw [if_neg (by decide+kernel)];rw [<-h_u2,aq];generalize h_u3:aq _=u3;exists hp,en;refine ⟨dm,z.mo,wi,kn,co,rfl,?_⟩;have p2:=p0.met (MeterM.hf wi) (MeterM.hf wi) 0 ⟨hh1.1,hh1.2,Int.le_refl _,by show (0:Int)<MeterM.hf wi;lia⟩;have hp2:upd H m (.ins ae dm (aE (.int z.mo) (.int (MeterM.hf wi)) (.int (MeterM.hf wi)) (.int 0))) p=some (.tup [.str "again",.int b,.str "hurry"]):=by rw [af (aF hp en (by simp))];exact hp
  have f2:bq x A y m d dk dn H (upd H m (.ins ae dm (aE (.int z.mo) (.int (MeterM.hf wi)) (.int (MeterM.hf wi)) (.int 0)))):=bq.um;generalize upd H m (.ins ae dm (aE (.int z.mo) (.int (MeterM.hf wi)) (.int (MeterM.hf wi)) (.int 0)))=H2 at*
  rw [<-h_u3,aq];generalize h_u4:aq _=u4;exists hp2,p2.hd;have p3:=p2.pd (d8 (.int b) t e n c (.bl true) (.ref dk) (.ref dn));have f3:=f2.trans (bq.ud (o:= .dK (d8 (.int b) t e n c (.bl true) (.ref dk) (.ref dn))));generalize upd H2 d (.dK (d8 (.int b) t e n c (.bl true) (.ref dk) (.ref dn)))=H3 at*
  rw [<-h_u4,aq];exists p3.hd,p3.ho;exact ⟨fun v hv=>q _ (cS O (ik b)) (f3.trans bq.uo) (p3.po _) (sy _ _) oh,fun hv=>q _ O f3 p3 (xf hv) (Nat.le_refl _)⟩
 ·
  refine ⟨u2 {nx:=fun x H'=>Q V.non H',rt:=Q},?_,fun σ' H' hM=>hM⟩;exists hp;rw [if_neg (by decide+kernel)];rw [<-h_u2,aq];generalize h_u3:aq _=u3;exists hp;rw [if_neg (by decide+kernel)];rw [<-h_u3,aq];exists hp;rw [if_neg (by decide+kernel)];exact q
 ·
  refine ⟨u2 {nx:=fun x H'=>Q V.non H',rt:=Q},?_,fun σ' H' hM=>hM⟩;exists hp,ew;refine ⟨dy,z.L,s0,sp0,w,rfl,?_⟩;have p1:=p0.way fV.upd hw;have hp1:upd H y (.ins ai dy (aK (V.int z.L) s0 sp0 (V.int (if z.L<2*w then z.L else 2*w)))) p=some (.tup [.str "ask",.non,.str "late"]):=by rw [af (aF hp ew (by simp))];exact hp
  have f1:bq x A y m d dk dn H (upd H y (.ins ai dy (aK (V.int z.L) s0 sp0 (V.int (if z.L<2*w then z.L else 2*w))))):=bq.uy fV.upd;generalize upd H y (.ins ai dy (aK (V.int z.L) s0 sp0 (V.int (if z.L<2*w then z.L else 2*w))))=H1 at*
  rw [<-h_u1,aq];exists hp1;rw [if_neg (by decide+kernel)];rw [<-h_u2,aq];generalize h_u3:aq _=u3;exists hp1;rw [if_neg (by decide+kernel)];rw [<-h_u3,aq];exists hp1;rw [if_neg (by decide+kernel)];exact q _ f1 p1
def Cn {z:Sd} (h:kW z=true):z.b<z.t:=by
 unfold kW at h;rw [Bool.and_eq_true,Bool.and_eq_true,decide_eq_true_eq] at h;exact h.1.1
def Cw {z z':Sd} {n:Int} {v u:V} {H H' H1:Hp} (g:C1 z z' n v H H') (d:Jb z n u H1):
  (z'=i9 z n/\z.b<z.t/\(∃p,v = .ref p/\H' p=some (.tup [.str "again",.int z.b]))/\∃p,u = .ref p/\H1 p=some (.tup [.str "again",.int z.b,.str "late"]))\/
  (z'=nU z n/\z.b<z.t/\(∃p,v = .ref p/\H' p=some (.tup [.str "again",.int z.b]))/\∃p,u = .ref p/\H1 p=some (.tup [.str "again",.int z.b,.str "hurry"]))\/
  (z'=oP z n/\(∃p,v = .ref p/\H' p=some (.tup [.str "new",.int z.t]))/\∃p,u = .ref p/\H1 p=some (.tup [.str "new",.int z.t,.str ""]))\/
  (z'=pB z n/\z.b=z.t/\(∃p,v = .ref p/\H' p=some (.tup [.str "ask",.non]))/\∃p,u = .ref p/\H1 p=some (.tup [.str "ask",.non,.str "late"]))\/
  (u = .non/\v = .non/\((z'=vY z n/\z.clk = .non/\z.t<z.T.length/\z.b=z.t)\/(z'=z/\¬(z.b=z.t/\z.t<z.T.length/\z.clk = .non)))):=by
 rcases g with ⟨h1,h2,rfl,p,h3,h4,h5⟩|⟨g1,g⟩
 ·
  rcases d with ⟨_,_,p',e1,e2⟩|⟨d1,_⟩
  ·exact .inl ⟨rfl,h1,⟨p,h3,h5⟩,⟨p',e1,e2⟩⟩
  ·rw [d1 h1] at h2;cases h2
 rcases d with ⟨d1,d2,_⟩|⟨_,d⟩
 ·rw [g1 d1] at d2;cases d2
 rcases g with ⟨h1,rfl,p,h3,h4,h5⟩|⟨g2,g⟩
 ·
  rcases d with ⟨_,p',e1,e2⟩|⟨d1,_⟩
  ·exact .inr (.inl ⟨rfl,Cn h1,⟨p,h3,h5⟩,p',e1,e2⟩)
  ·rw [h1] at d1;cases d1
 rcases d with ⟨d1,_⟩|⟨_,d⟩
 ·rw [g2] at d1;cases d1
 rcases g with ⟨h1,rfl,p,h3,h4,h5⟩|⟨g3,g⟩
 ·
  rcases d with ⟨_,p',e1,e2⟩|⟨d1,_⟩
  ·exact .inr (.inr (.inl ⟨rfl,⟨p,h3,h5⟩,p',e1,e2⟩))
  ·rw [h1] at d1;cases d1
 rcases d with ⟨d1,_⟩|⟨_,d⟩
 ·rw [g3] at d1;cases d1
 rcases g with ⟨h1,h2,⟨h3,rfl,h4⟩|⟨i,h3,h4,rfl,h5⟩|⟨i,h3,h4,rfl,p,h5,h6,h7⟩⟩|⟨h1,rfl,h2⟩
 ·
  rcases d with ⟨_,_,d3,_⟩|⟨_,d4⟩
  ·rw [h3] at d3;cases d3
  ·exact .inr (.inr (.inr (.inr ⟨d4,h4,.inl ⟨rfl,h3,h1,h2⟩⟩)))
 ·
  rcases d with ⟨_,_,d3,_⟩|⟨_,d4⟩
  ·
   rw [h3] at d3;have:=of_decide_eq_true (p:=i<=n) d3;lia
  ·exact .inr (.inr (.inr (.inr ⟨d4,h5,.inr ⟨rfl,fun c=>by rw [h3] at c;cases c.2.2⟩⟩)))
 ·
  rcases d with ⟨_,_,d3,p',e1,e2⟩|⟨d3,_⟩
  ·exact .inr (.inr (.inr (.inl ⟨rfl,h2,⟨p,h5,h7⟩,p',e1,e2⟩)))
  ·exact absurd ⟨h1,h2,by rw [h3];exact decide_eq_true h4⟩ d3
 ·
  rcases d with ⟨d1,d2,_⟩|⟨_,d4⟩
  ·exact absurd ⟨d1,d2⟩ h1
  ·exact .inr (.inr (.inr (.inr ⟨d4,h2,.inr ⟨rfl,fun c=>h1 ⟨c.2.1,c.1⟩⟩⟩)))
def F0 {z z':Sd} {n:Int} {v:V} {H H':Hp} (o:C1 z z' n v H H'):z'.mo=z.mo:=by
 rcases o with ⟨_,_,rfl,_⟩|⟨_,⟨_,rfl,_⟩|⟨_,⟨_,rfl,_⟩|⟨_,⟨_,_,⟨_,rfl,_⟩|⟨i,h,_,rfl,_⟩|⟨i,_,_,rfl,_⟩⟩|⟨_,rfl,_⟩⟩⟩⟩<;>rfl
include T in def qw:FnAt P w K mg base fz "_law_gone" 5 ["_law_sender","_law_now","_law_turn","_law_ways","_law_meter"] (gT aa ai ae):=by
 exists 0,T.jl,gX,qN,gT;rename_i x d tn y m;refine ⟨_,(ah (aR (i:=5) gX.nd rfl (Or.inl rfl) (bW (rf T) HR (by decide) rfl (aC (pv 1) (aC (pv 2) (aC (au (pv 4) T.aL T.aT rfl) aA)))))
 (ay (ah (aR (i:=6) gX.nd rfl (Or.inl rfl) (bG (pv 0) T.aj (qx T) HR (by decide) (aC (pv 2) aA)))
 (ay (ah (bp (aI kQ (pv 5) bU (nomark _)) (ah (bp (PW.pt (pw_and (wW (bX K rfl HR.units) d6 (ba HR.units (pv 1) aG (fun _ _=>rfl)) (ba HR.units (pv 1) aG (fun _ _=>rfl)) (ba HR.units (pv 1) aG (fun _ _=>rfl))) (pw_and1 (aI kQ (ba HR.units (pv 1) aG (fun _ _=>rfl)) bU (nomark _))))) (aw (fM HR.units (pv 1) aG (az (aN K rfl) (pv 2) (au (pv 3) T.aM T.br rfl)))) aO)
 (ay (aw (aQ (dQ kQ (pv 6) bU (nomark _)))))) aO)
 (ay (ah (bp (PW.pt (pw_or (lF (oM (bC (vD K rfl) (by rfl) T.iJ oZ (aC (pv 6) (aC (Dx rfl T.nr rH) aA))))) (pw_or1 (aI (xa K rfl HR.units) (pv 6) (q_ (Dg K rfl) (pv 5) y_ (qt ar)) (nomark _))))) (aw (aQ gc)) aO)
 (ay (ah (a_ (bW (nP T) HR (by decide) rfl (aC (pv 5) (aC (pv 1) (aC (pv 3) (aC (pv 4) aA))))))
 (ay (qq (bp (PW.pt (pw_or (aI (xa K rfl HR.units) (bV (eN K rfl) (pv 5) ar (fun _ _=>rfl)) aG (nomark _)) (pw_or1 (aI (bX K rfl HR.units) (ba HR.units (pv 1) aG (fun _ _=>rfl)) (ba HR.units (pv 1) aG (fun _ _=>rfl)) (nomark _))))) (aw (fM HR.units (pv 1) aG (az (aN K rfl) (pv 2) (au (pv 3) T.aM T.br rfl)))) aO)
 (ay (ah (bp (aI (bX K rfl HR.units) (bV (eN K rfl) (pv 5) ar (fun _ _=>rfl)) aG (nomark _)) (ah (nJ HR.units (ba HR.units (pv 1) aG (fun _ _=>rfl)) (ba HR.units (pv 1) aG (fun _ _=>rfl)) (pv 2))
 (aw (fM HR.units (pv 1) aG (az (aN K rfl) (ba HR.units (pv 1) aG (fun _ _=>rfl)) ar)))) aO)
 (ay (aw (aQ gc)))))))))))))))),?_⟩
 obtain ⟨dy,dm,dk,dn,A,z,r,s,Kd,O,h,hs,q⟩:=h;have J:=h.J;have en:=h.p.M.1;generalize h_u1:aq _=u1;exists en;refine ⟨z,dk,dn,Kd,h.p.hd,h.p.hk,h.eK,J.B,h.ci,J.ck,rfl,fun v H1 sm1 du=>?_⟩;have p1:=h.p.same sm1;rw [<-h_u1,aq];generalize h_u2:aq _=u2;exists p1.S.hx;refine ⟨A,z,p1.S,J.B,J.ck,by have:=J.s3;lia,by have:=J.s2;lia,fun v2 H2 z2 f2 S2 o=>?_⟩;obtain ⟨_,hi⟩:=p1.S.ms;have g:=o.gk J.ck;obtain ⟨J2,t2⟩:=J.go g (o.r hi.1);have c5:=Cw o du;have emo:=F0 o;have p2:=p1.IX f2 S2 g.L emo;have fr2:bq x A y m d dk dn H H2:=(bq.same sm1).trans (bq.seven f2);have lK:=h.lK;have lO:=h.lO;clear o du;rw [<-h_u2,aq];generalize h_ur:aq _=ur;generalize h_u3:aq _=u3;have four:(∃(a c3:Str) (b2:V) (db:Dt) (p p':Addr),v2 = .ref p/\v = .ref p'/\H2 p=some (.tup [.str a,b2])/\H2 p'=some (.tup [.str a,b2,.str c3])/\(∀H',Den K H' 0 b2 db)/\((z2=i9 z tn/\z.b<z.t/\a = "again" /\b2 = .int z.b/\c3 = "late")\/(z2=nU z tn/\z.b<z.t/\a = "again" /\b2 = .int z.b/\c3 = "hurry")\/(z2=oP z tn/\a = "new" /\b2 = .int z.t/\c3 = "")\/(z2=pB z tn/\z.b=z.t/\a = "ask" /\b2 = .non/\c3 = "late")))\/(v = .non/\v2 = .non/\((z2=vY z tn/\z.clk = .non/\z.t<z.T.length/\z.b=z.t)\/(z2=z/\¬(z.b=z.t/\z.t<z.T.length/\z.clk = .non)))):=by
  rcases c5 with ⟨e0,e1,⟨p,e2,e3⟩,p',e4,e5⟩|⟨e0,e1,⟨p,e2,e3⟩,p',e4,e5⟩|⟨e0,⟨p,e2,e3⟩,p',e4,e5⟩|⟨e0,e1,⟨p,e2,e3⟩,p',e4,e5⟩|c5
  ·exact .inl ⟨_,_,_,.int z.b,p,p',e2,e4,e3,f2.tup p1.S e5,fun H'=> .inr (.inl ⟨_,rfl,rfl⟩),.inl ⟨e0,e1,rfl,rfl,rfl⟩⟩
  ·exact .inl ⟨_,_,_,.int z.b,p,p',e2,e4,e3,f2.tup p1.S e5,fun H'=> .inr (.inl ⟨_,rfl,rfl⟩),.inr (.inl ⟨e0,e1,rfl,rfl,rfl⟩)⟩
  ·exact .inl ⟨_,_,_,.int z.t,p,p',e2,e4,e3,f2.tup p1.S e5,fun H'=> .inr (.inl ⟨_,rfl,rfl⟩),.inr (.inr (.inl ⟨e0,rfl,rfl,rfl⟩))⟩
  ·exact .inl ⟨_,_,_,.non,p,p',e2,e4,e3,f2.tup p1.S e5,fun H'=> .inl ⟨rfl,rfl⟩,.inr (.inr (.inr ⟨e0,e1,rfl,rfl,rfl⟩))⟩
  ·exact .inr c5
 clear c5;obtain ⟨ys,ysp,ey2⟩:=p2.W.ins;rcases four with ⟨a,c3,b2,db,p,p',rfl,rfl,hp,hp',hdb,R⟩|⟨rfl,rfl,cN⟩
 ·
  walk_at "wps";rw [<-h_u3,aq];generalize h_u4:aq _=u4;exists hp;refine wg (fx.of hp') (fun q=>absurd q.2 (by show¬HT.dP 3 3 (some 2)=3;decide)) fun p3 hp3=>?_;have ec:l8 [V.str a,b2,V.str c3] none (some 2)= [V.str a,b2]:=by first|rfl|kernel_rfl
  rw [ec];refine og (n:=0) (by decide) (fx.of (aW hp hp3)) (fx.of ax) (ds:=[.str a,db]) (.cons (.inr (.inr ⟨_,rfl,rfl⟩)) (.cons (hdb _) .nil)) (.cons (.inr (.inr ⟨_,rfl,rfl⟩)) (.cons (hdb _) .nil)) ?_;walk_at "wps";have sm3:=aY (o:= .tup [V.str a,b2]) hp3;have P3:=p2.same sm3;have hp3':=sm3 _ _ hp';have fr3:=fr2.trans (bq.same sm3);generalize upd H2 p3 (.tup [V.str a,b2])=H3 at*
  rw [<-h_u4,aq];generalize h_u5:aq _=u5;walk_at "wps";rcases R with ⟨rfl,c0,rfl,rfl,rfl⟩|⟨rfl,c0,rfl,rfl,rfl⟩|⟨rfl,rfl,rfl,rfl⟩|⟨rfl,c0,rfl,rfl,rfl⟩
  ·
   refine ⟨x,dy,dm,dk,dn,A,i9 z tn,z.w,z.g,z.k,z.wi,z.kn,z.co,z.b,_,_,_,_,_,Kd,O,P3,.inl ⟨hp3',fun H4 O4 f4 p4 eO4 lO4=>?_⟩⟩;have hp4:=f4 _ _ hp3' (P3.oft hp3');obtain ⟨s4,sp4,ey4⟩:=p4.W.ins;rw [<-h_u5,aq];generalize h_u6:aq _=u6;refine ⟨u6 {nx:=fun _ H'=>Q .non H',rt:=Q},?_,fun σ' H' hM=>hM⟩;exists hp4,p4.hd,ey4;rw [if_pos (by decide+kernel)];show u6 _ _ (upd H4 d (.dK (dz (i9 z tn) dk dn)));have p5:=p4.pd (dz (i9 z tn) dk dn);have hp5:=hp4;rw [<-af (H:=H4) (a:=d) (o:= .dK (dz (i9 z tn) dk dn)) (aF hp4 p4.hd (by simp))] at hp5;have f5:=(fr3.trans f4).trans (bq.ud (o:= .dK (dz (i9 z tn) dk dn)));generalize upd H4 d (.dK (dz (i9 z tn) dk dn))=H5 at*
   rw [<-h_u6,aq];generalize h_u7:aq _=u7;exists hp5;rw [if_neg (by decide+kernel)];rw [<-h_u7,aq];walk_at "wps";exact q H5 (i9 z tn) O4 f5 ⟨p5,J2,h.eK,fun j=>by rw [eO4,h.eO];exact (pR (z:=z) (z1:=i9 z tn) rfl rfl rfl rfl j).symm,fun _=>⟨_,rfl⟩,fun j hj=>by
    have hj':z.t<=j:=hj;show knw (putK z.Ag (ik z.b) (.bl true)) j=false;rw [gg,h.ag j hj'];simp;lia,by lia,by lia⟩ rfl
  ·
   refine ⟨x,dy,dm,dk,dn,A,nU z tn,z.w,z.g,z.k,z.wi,z.kn,z.co,z.b,_,_,_,_,_,Kd,O,P3,.inr (.inl ⟨hp3',fun H4 O4 f4 p4 eO4 lO4=>?_⟩)⟩;have hp4:=f4 _ _ hp3' (P3.oft hp3');obtain ⟨s4,sp4,ey4⟩:=p4.W.ins;rw [<-h_u5,aq];generalize h_u6:aq _=u6;refine ⟨u6 {nx:=fun _ H'=>Q .non H',rt:=Q},?_,fun σ' H' hM=>hM⟩;exists hp4,p4.hd,ey4;rw [if_pos (by decide+kernel)];show u6 _ _ (upd H4 d (.dK (dz (nU z tn) dk dn)));have p5:=p4.pd (dz (nU z tn) dk dn);have hp5:=hp4;rw [<-af (H:=H4) (a:=d) (o:= .dK (dz (nU z tn) dk dn)) (aF hp4 p4.hd (by simp))] at hp5;have f5:=(fr3.trans f4).trans (bq.ud (o:= .dK (dz (nU z tn) dk dn)));generalize upd H4 d (.dK (dz (nU z tn) dk dn))=H5 at*
   rw [<-h_u6,aq];generalize h_u7:aq _=u7;exists hp5;rw [if_neg (by decide+kernel)];rw [<-h_u7,aq];walk_at "wps";exact q H5 (nU z tn) O4 f5 ⟨p5,J2,h.eK,fun j=>by rw [eO4,h.eO];exact (pR (z:=z) (z1:=nU z tn) rfl rfl rfl rfl j).symm,fun _=>⟨_,rfl⟩,fun j hj=>by
    have hj':z.t<=j:=hj;show knw (putK z.Ag (ik z.b) (.bl true)) j=false;rw [gg,h.ag j hj'];simp;lia,by lia,by lia⟩ rfl
  ·
   refine ⟨x,dy,dm,dk,dn,A,oP z tn,z.w,z.g,z.k,z.wi,z.kn,z.co,z.b,_,_,_,_,_,Kd,O,P3,.inr (.inr (.inl ⟨_,hp3',?_⟩))⟩;obtain ⟨s4,sp4,ey4⟩:=P3.W.ins;rw [<-h_u5,aq];generalize h_u6:aq _=u6;have b0:=J.B.b0;have bt:=J.B.bt;have fin: ∀(H4:Hp) (ck':V),H4 p'=some (.tup [.str "new",.int z.t,.str ""])->gQ aa ai ae H4 x y dy m dm d dk dn A (oP z tn) z.w z.g z.k z.wi z.kn z.co (d8 (.int z.b) (.int z.t) (.int z.e) (.int z.T.length) ck' (.bl z.hur) (.ref dk) (.ref dn)) Kd O->bq x A y m d dk dn H H4->ck'=(if z.b=z.t then .int (tn+z.w) else z.clk)->u6 {nx:=fun _ H'=>Q .non H',rt:=Q} [some (V.ref x),some (V.ref d),some (V.int tn),some (V.ref y),some (V.ref m),some (V.ref p'),some (V.ref p)] H4:=by
    intro H4 ck' hp4 p4 f4 eck;have p5:=p4.po (putK O (ik z.t) (.int tn));have p6:=p5.pd (dz (oP z tn) dk dn);have f6:=(f4.trans (bq.uo (o:= .dK (putK O (ik z.t) (.int tn))))).trans (bq.ud (o:= .dK (dz (oP z tn) dk dn)));have l5:=bY O (ik z.t) (.int tn);rw [<-h_u6,aq];generalize h_u7:aq _=u7;exists hp4,p4.hd,p4.ho,p5.hd;refine ⟨by rw [sizeLine_eq];lia,?_⟩;have ed:d8 (V.int z.b) (V.int (z.t+1)) (V.int z.e) (V.int z.T.length) ck' (V.bl z.hur) (V.ref dk) (V.ref dn)=dz (oP z tn) dk dn:=by rw [eck];rfl
    rw [ed];rw [<-h_u7,aq];walk_at "wps";refine q _ (oP z tn) _ f6 ⟨p6,J2,h.eK,fun j=>?_,fun _=>?_,fun j hj=>h.ag j (by have hj':z.t+1<=j:=hj;lia),by lia,by lia⟩ rfl
    ·
     rw [zu (z:=z) (z1:=oP z tn) (n:=tn) rfl rfl rfl rfl (by lia) (J.kn z.t (Int.le_refl _)) (h.ag z.t (Int.le_refl _)),iR,h.eO];by_cases c:j=z.t
     ·rw [if_pos c,if_pos (by rw [c])]
     ·rw [if_neg c,if_neg (xD c)]
    ·
     show∃i,(if z.b=z.t then V.int (tn+z.w) else z.clk)=V.int i;by_cases c:z.b=z.t
     ·rw [if_pos c];exact ⟨_,rfl⟩
     ·rw [if_neg c];exact h.ci (by lia)
   refine ⟨u6 {nx:=fun _ H'=>Q .non H',rt:=Q},?_,fun σ' H' hM=>hM⟩;exists hp3',P3.hd,ey4;by_cases cb:z.b=z.t
   ·
    rw [if_pos cb];exact fin _ _ (by rw [af (aF hp3' P3.hd (by simp))];exact hp3') (P3.pd _) (fr3.trans bq.ud) (by rw [if_pos cb])
   ·
    rw [if_neg cb];exact fin _ _ hp3' P3 fr3 (by rw [if_neg cb])
  ·
   refine ⟨x,dy,dm,dk,dn,A,pB z tn,z.w,z.g,z.k,z.wi,z.kn,z.co,z.b,_,_,_,_,_,Kd,O,P3,.inr (.inr (.inr ⟨hp3',fun H4 f4 p4=>?_⟩))⟩;have hp4:=f4 _ _ hp3' (P3.oft hp3');obtain ⟨s4,sp4,ey4⟩:=p4.W.ins;rw [<-h_u5,aq];generalize h_u6:aq _=u6;refine ⟨u6 {nx:=fun _ H'=>Q .non H',rt:=Q},?_,fun σ' H' hM=>hM⟩;exists hp4,p4.hd,ey4;rw [if_pos (by decide+kernel)];show u6 _ _ (upd H4 d (.dK (dz (pB z tn) dk dn)));have p5:=p4.pd (dz (pB z tn) dk dn);have hp5:=hp4;rw [<-af (H:=H4) (a:=d) (o:= .dK (dz (pB z tn) dk dn)) (aF hp4 p4.hd (by simp))] at hp5;have f5:=(fr3.trans f4).trans (bq.ud (o:= .dK (dz (pB z tn) dk dn)));generalize upd H4 d (.dK (dz (pB z tn) dk dn))=H5 at*
   rw [<-h_u6,aq];generalize h_u7:aq _=u7;exists hp5;rw [if_neg (by decide+kernel)];rw [<-h_u7,aq];walk_at "wps";exact q H5 (pB z tn) O f5 ⟨p5,J2,h.eK,h.eO,fun _=>⟨_,rfl⟩,h.ag,by lia,by lia⟩ rfl
 ·
  exists p2.hd,ey2;have nn:z2=z->ur {nx:=u3 {nx:=fun _ H'=>Q .non H',rt:=Q},rt:=Q} [some (V.ref x),some (V.ref d),some (V.int tn),some (V.ref y),some (V.ref m),some V.non,some V.non] H2:=fun e=>by
   subst e;rw [<-h_ur,aq];walk_at "wps";exact q H2 z2 O fr2 ⟨p2,J2,h.eK,h.eO,h.ci,h.ag,by lia,by lia⟩ rfl
  rcases cN with ⟨rfl,c1,c2,c3⟩|⟨e,c4⟩
  ·
   rw [if_pos c3,if_pos c2,if_pos c1];have p5:=p2.pd (dz (vY z tn) dk dn);rw [<-h_ur,aq];walk_at "wps";exact q _ (vY z tn) O (fr2.trans bq.ud) ⟨p5,J2,h.eK,h.eO,fun _=>⟨_,rfl⟩,h.ag,by lia,by lia⟩ rfl
  ·
   have n1:=nn e;by_cases d1:z.b=z.t
   ·
    rw [if_pos d1];by_cases d2:z.t<z.T.length
    ·rw [if_pos d2,if_neg (fun d3=>c4 ⟨d1,d2,d3⟩)];exact n1
    ·rw [if_neg d2];exact n1
   ·rw [if_neg d1];exact n1
include T in def qv:FnAt P w K mg base fz "_law_told" 4 ["_law_now","_law_places","_law_turn","_law_ways","_law_meter"] (gR aa ai ae):=by
 exists 0,T.jj,fu,qL,gR;rename_i d pl tn y m;refine ⟨_,(ah (aR (i:=5) fu.nd rfl (Or.inl rfl) ar)
 (ay (ah (h_ PassesOwn.never rfl (ia K rfl (pv 1)) (cg (i:=6) fu.nd rfl (Or.inl rfl)) (aw (bp (PW.pt (pw_and (aI d6 (pv 6) (ba HR.units (pv 0) aG (fun _ _=>rfl)) (nomark _)) (pw_and1 (lG (se HR.units (pv 6) (ba HR.units (pv 0) aG (fun _ _=>rfl))) (jo rfl))))) (ah (nJ HR.units (ba HR.units (pv 0) aG (fun _ _=>rfl)) (pv 6) gc)
 (ay (ah (aR (i:=5) fu.nd rfl (Or.inl rfl) (az (aN K rfl) (pv 5) ar))
 (ay (aw (bp (lG (w9 HR.units (pv 6) (ba HR.units (pv 0) aG (fun _ _=>rfl))) (jo rfl)) (aw (a_ (bG (pv 3) T.aM (gH T) HR (by decide) (aC (az dR (pv 2) (ze (ba HR.units (pv 0) aG (fun _ _=>rfl)) (pv 6))) aA)))) aO)))))) aO)))
 (ay (aw (a_ (bG (pv 4) T.aL (i7 T) HR (by decide) (aC (pv 5) aA)))))))),?_⟩
 obtain ⟨x,dy,dm,dk,dn,A,z,z',b,e,n,c,hu,Kd,O,ps,fs,p0,eL,emo,hl,npt,nd,ln,h0,efs,hk,eK,eO,tq,lK,q⟩:=h;generalize h_u1:aq _=u1;walk_at "wps";rw [<-h_u1,aq];generalize h_v1:aq _=v1;generalize h_u2:aq _=u2;walk_at "wps";obtain ⟨Pv,ePv⟩: ∃Pv:Nat->St->Hp->Prop,∀i σ H',Pv i σ H'↔(∃Kd' O' v,H' pl=some (.lst (ps.map V.int))/\bq x A y m d dk dn H H'/\gQ aa ai ae H' x y dy m dm d dk dn A z' (mall z tn (flt z ps i)).1 (mall z tn (flt z ps i)).2.1 (mall z tn (flt z ps i)).2.2 z.wi z.kn z.co (d8 b (.int z.t) e n c hu (.ref dk) (.ref dn)) Kd' O'/\(∀j:Int,knw Kd' j=(decide (j∈flt z ps i)||knw z.Kn j))/\(∀j:Int,aX O' (ik j)=if j∈flt z ps i then none else onc z j)/\Kd'.length<=Kd.length+(flt z ps i).length/\O'.length<=O.length/\σ= [some (V.ref d),some (V.ref pl),some (V.int tn),some (V.ref y),some (V.ref m),some (V.int (flt z ps i).length),v]):=⟨_,fun _ _ _=>Iff.rfl⟩;refine nk (xs:=ps.map V.int) (cQ.of hl) Pv ((ePv _ _ _).mpr ⟨Kd,O,none,hl,bq.same (cC.refl _),p0,fun j=>by rw [eK];simp [flt],fun j=>by rw [eO];simp [flt],by lia,Nat.le_refl _,rfl⟩) (fun i σ H' _ hp=>by obtain ⟨_,_,_,hh,_⟩:=(ePv _ _ _).mp hp;exact cQ.of hh) (fun i vv σ H3 hv hp=>?_) (fun σ H3 hp=>?_)
 ·
  obtain ⟨K3,O3,v3,l3,f3,p3,k3,o3,lk3,lo3,rfl⟩:=(ePv _ _ _).mp hp;clear hp;obtain ⟨cc,rfl,hci⟩:=gf hv;have c0:=h0 cc (List.mem_of_getElem? hci);have ncc:=zP (z:=z) nd hci;have ks:knw K3 cc=knw z.Kn cc:=by rw [k3];simp [ncc]
  have fle:=zQ (z:=z) (ps:=ps) (i:=i);rw [<-efs] at fle;have fsn:=xU (z:=z) hci;have old: ¬(decide (cc<z.t) && !knw z.Kn cc)=true->Pv (i+1) [some (V.ref d),some (V.ref pl),some (V.int tn),some (V.ref y),some (V.ref m),some (V.int (flt z ps i).length),some (V.int cc)] H3:=fun hn=>by
   rw [if_neg hn] at fsn;rw [ePv,fsn];exact ⟨K3,O3,_,l3,f3,p3,k3,o3,lk3,lo3,rfl⟩
  exists p3.hd,p3.hk;by_cases c1:cc<z.t
  ·
   rw [if_pos c1];cases c2:knw z.Kn cc
   ·
    have ks':(aX K3 (ik cc)).isSome=false:=ks.trans c2;rw [if_pos ks'];refine ⟨by rw [sizeLine_eq];lia,?_⟩;rw [if_pos (by rw [decide_eq_true c1,c2];rfl)] at fsn;have P4:=p3.pk (putK K3 (ik cc) (.bl true));have l4:upd H3 dk (.dK (putK K3 (ik cc) (.bl true))) pl=some (.lst (ps.map V.int)):=by rw [af (aF l3 p3.hk (by simp))];exact l3
    have f4:=f3.trans (bq.uk (o:= .dK (putK K3 (ik cc) (.bl true))));have lp:=bY K3 (ik cc) (.bl true);generalize upd H3 dk (.dK (putK K3 (ik cc) (.bl true)))=H4 at*
    have k4: ∀j:Int,knw (putK K3 (ik cc) (.bl true)) j=(decide (j∈flt z ps i++ [cc])||knw z.Kn j):=fun j=>by
     rw [gg,k3];by_cases cj:j=cc<;>simp [cj]
    have len4:(flt z ps i++ [cc]).length=(flt z ps i).length+1:=by rw [List.length_append,List.length_singleton]
    have lint:((flt z ps i).length:Int)+1=((flt z ps i++ [cc]).length:Int):=by rw [len4];lia
    have ms:=pS (z:=z) (tn:=tn) (c:=cc) (fs:=flt z ps i);have kle:(mall z tn (flt z ps i)).2.2<=z.k+(flt z ps i).length:=si (s:=(z.w,z.g,z.k));obtain ⟨ys,ysp,ey4⟩:=P4.W.ins;rw [<-h_v1,aq];generalize h_v2:aq _=v2;walk_at "wps";rw [<-h_v2,aq];exists P4.hd,P4.ho,ey4;cases ea:knw z.Ag cc
    ·have eo:aX O3 (ik cc)=some (.int (iL z cc)):=by
      rw [o3,if_neg ncc];unfold onc;rw [if_pos ⟨c0,c1,c2,ea⟩]
     obtain ⟨f,hf,g0,g1⟩:=tq cc c0 c1;have ff:iL z cc=f:=by unfold iL;rw [hf]
     rw [if_pos (by rw [eo];rfl)];refine ⟨_,eo,?_⟩;have P5:=P4.po (cS O3 (ik cc));have em1:rh z tn (mall z tn (flt z ps i)) cc=(mws z.L (mgs (mall z tn (flt z ps i)).2.1 (tn - iL z cc)),mgs (mall z tn (flt z ps i)).2.1 (tn - iL z cc),(mall z tn (flt z ps i)).2.2+1):=by
      unfold rh;rw [if_neg (by rw [ea];decide)]
     walk_at "wps";refine WS.meas (E:=E0) (Q:=fun _ H'=>(_:Hp->Prop) H') P5.W (by lia) (by lia) (by lia) (fun H6 hB6 W6=>?_);have P6:=P5.way hB6 W6;rw [ePv,fsn,ms,em1];rw [eL] at P6;refine ⟨_,_,_,hB6 _ _ (by rw [af (aF l4 P4.ho (by simp))];exact l4) (aF l4 ey4 (by simp)),(f4.trans bq.uo).trans (bq.uy hB6),P6,k4,fun j=>?_,by lia,Nat.le_trans oh lo3,by rw [lint]⟩;rw [sy,o3];by_cases cj:j=cc<;>simp [cj]
    ·have eo:aX O3 (ik cc)=none:=by
      rw [o3,if_neg ncc];unfold onc;rw [if_neg (fun q=>by rw [ea] at q;cases q.2.2.2)]
     have em1:rh z tn (mall z tn (flt z ps i)) cc=mall z tn (flt z ps i):=by
      unfold rh;rw [if_pos ea]
     rw [if_neg (by rw [eo];decide)];rw [ePv,fsn,ms,em1];refine ⟨_,O3,_,l4,f4,P4,k4,fun j=>?_,by lia,lo3,by rw [lint]⟩;rw [o3];by_cases cj:j=cc
     ·
      have o4:=o3 cc;rw [if_neg ncc,eo] at o4;rw [cj,if_neg ncc,if_pos (by simp)];exact o4.symm
     ·simp [cj]
   ·have ks': ¬(aX K3 (ik cc)).isSome=false:=by
     have e:(aX K3 (ik cc)).isSome=true:=ks.trans c2;rw [e];decide
    rw [if_neg ks'];exact old (by rw [c2];simp)
  ·
   rw [if_neg c1];exact old (by rw [decide_eq_false c1];simp)
 ·
  obtain ⟨K3,O3,v3,l3,f3,p3,k3,o3,lk3,lo3,rfl⟩:=(ePv _ _ _).mp hp;have e1:flt z ps (List.map V.int ps).length=fs:=by unfold flt;rw [List.length_map,List.take_length];exact efs.symm
  rw [e1] at p3 k3 o3 lk3⊢;have hin:=MeterM.inb (k:=z.kn) fs.length (z.wi,z.co) p3.M.2;have P4:=p3.met (MeterM.kn z'.mo z.kn fs.length (z.wi,z.co)).1 z.kn (MeterM.kn z'.mo z.kn fs.length (z.wi,z.co)).2 hin;show u2 _ _ _;rw [<-h_u2,aq];exists p3.M.1;refine ⟨by lia,dm,z'.mo,z.wi,z.kn,z.co,rfl,?_⟩;rw [Int.toNat_natCast];rw [emo] at P4⊢;exact q _ K3 O3 (f3.trans bq.um) P4 k3 o3 lk3 lo3
include T in def oN:FnAt P w K mg base fz "_law_heard" 5 ["_law_sender","_law_now","_law_cell","_law_turn","_law_ring","_law_ways","_law_meter"] (gm aa ai ae):=by
 exists 0,T.iB,bI,ph,gm;rename_i x d cc tn r y m;refine ⟨_,(ah (aR (i:=7) bI.nd rfl (Or.inr rfl) (ba HR.units (pv 1) aG (fun _ _=>rfl)))
 (ay (ah (aR (i:=8) bI.nd rfl (Or.inl rfl) (bW (nO T) HR (by decide) rfl (aC (bW (jW T) HR (by decide) rfl (aC (pv 2) (aC ar aA))) (aC (pv 7) (aC (ba HR.units (pv 1) aG (fun _ _=>rfl)) (aC (pv 4) aA))))))
 (ay (ah (aR (i:=9) bI.nd rfl (Or.inl rfl) (az bu (az bP (pv 2) ar) ar))
 (ay (ah (aR (i:=10) bI.nd rfl (Or.inr rfl) (bW (jW T) HR (by decide) rfl (aC (pv 2) (aC ar aA))))
 (ay (ah (aR (i:=11) bI.nd rfl (Or.inl rfl) (ib (rF K rfl) (by rfl) T.nr rH (aC (kP (N:=(["_law_k","_law_marks"]:List Str)) (nv:=1) (ix:=[10]) rfl (p_ (by kernel_rfl)) (lH rfl T.da (aC ar (aC ar aA))) (fun _ _ _ _ _=>(cg (i:=0) (show ((["_law_k","_law_marks"]:List Str)).Nodup by decide) rfl (Or.inl rfl))) (fun _ _ _ _ _=>(kN (aI (bX K rfl HR.units) (az bu (az kR (pv 1) (az tH ar (pv 0))) ar) ar (nomark _)))) (fun _ _ _ _ _=>(pv 0))) aA)))
 (ay (ah (a_ (bG (pv 0) T.aj (mE T) HR (by decide) (aC (pv 8) (aC (pv 9) (aC (pv 11) (aC (pv 3) aA))))))
 (ay (ah (aR (i:=12) bI.nd rfl (Or.inr rfl) (az bu (az dR (pv 8) (pv 7)) (pv 4)))
 (ay (ah (bp (aI pP (pv 12) (az dR (ba HR.units (pv 1) aG (fun _ _=>rfl)) (pv 7)) (nomark _)) (aw qr) aO)
 (ay (ah (fM HR.units (pv 1) aG (az (aN K rfl) (pv 7) (pv 12)))
 (ay (ah (aR (i:=13) bI.nd rfl (Or.inl rfl) (az (aN K rfl) (ib (oq K rfl rfl) (by rfl) T.qP tX (aC (tF rfl T.da (aC (pv 7) (aC (az (aN K rfl) (pv 7) (pv 12)) aA))) aA)) (kP (N:=(["_law_k","_law_base","_law_far"]:List Str)) (nv:=1) (ix:=[7,12]) rfl (p_ (by kernel_rfl)) (ia K rfl (pv 11)) (fun _ _ _ _ _=>(cg (i:=0) (show ((["_law_k","_law_base","_law_far"]:List Str)).Nodup by decide) rfl (Or.inl rfl))) (fun _ _ _ _ _=>y6) (fun _ _ _ _ _=>(az (aN K rfl) (az (aN K rfl) (pv 1) (pv 2)) (pv 0))))))
 (ay (ah (a_ (bW (qv T) HR (by decide) rfl (aC (pv 1) (aC (pv 13) (aC (pv 3) (aC (pv 5) (aC (pv 6) aA)))))))
 (ay (ah (fM HR.units (pv 1) aG (bC (jt rfl) (by rfl) T.qg qK (aC (ba HR.units (pv 1) aG (fun _ _=>rfl)) (aC (az (aN K rfl) (az (aN K rfl) (pv 7) (pv 12)) (pv 9)) aA))))
 (ay (aw (bp (aI pP (pv 12) ar (nomark _)) (ah (fM HR.units (pv 1) aG gc)
 (ah (fM HR.units (pv 1) aG bU)
 (ay (aw (bp (aI d6 (ba HR.units (pv 1) aG (fun _ _=>rfl)) (ba HR.units (pv 1) aG (fun _ _=>rfl)) (nomark _)) (aw (fM HR.units (pv 1) aG (az (aN K rfl) (pv 3) (au (pv 5) T.aM T.br rfl)))) aO))))) aO)))))))))))))))))))))))))),?_⟩
 obtain ⟨dy,dm,dk,dn,A,z,s,Kd,O,h,hs,q⟩:=h;have J:=h.J;have bt:=J.B.bt;generalize h_u1:aq _=u1;exists h.p.hd;rw [<-h_u1,aq];generalize h_u2:aq _=u2;exists h.p.hd;refine fun v1 hv1=>⟨⟨bt,J.r0⟩,fun nu=>?_⟩;rw [<-h_u2,aq];generalize h_u3:aq _=u3;walk_at "wps";rw [<-h_u3,aq];generalize h_u4:aq _=u4;walk_at "wps";intro mm hmm;rw [<-h_u4,aq];generalize h_u5:aq _=u5;walk_at "wps";refine sG (p:=fun v=>match v with | .int i=>decide (mm / (1*2 ^ i.toNat) % 2=1)|_=>false) (f:=fun v=>v) (bO (by decide)) ?_ ?_ ?_
 ·
  intro j hj Q' q';walk_at "wps";have ej:(1+(j:Int)).toNat=j+1:=by lia
  obtain ⟨g1,g2⟩:=GO ⟨j,hj⟩;refine ⟨⟨⟨by lia,by lia⟩,by decide+kernel,by decide+kernel⟩,?_,q'⟩;rw [ej];exact CJ g1 g2
 ·
  intro j hj _ Q' q';walk_at "wps";exact q'
 rw [tO (p:=fun i=>decide (mm / (1*2 ^ i.toNat) % 2=1))];obtain ⟨hlen,hnd,hs0⟩:=FP (p:=fun i=>decide (mm / (1*2 ^ i.toNat) % 2=1));generalize ((irg 1 15).filter fun i=>decide (mm / (1*2 ^ i.toNat) % 2=1))=hs' at*
 refine ⟨bO (by rw [List.length_map];lia),fun l hl=>⟨_,.inl ⟨cQ.of ax,fun l1 hl1=>?_⟩⟩⟩;have sm1:cC H (upd (upd H l (.lst (hs'.map V.int))) l1 (.tup (hs'.map V.int))):=fun b o e=>aW (aW e hl) hl1;have th:=ax (H:=upd H l (.lst (hs'.map V.int))) (a:=l1) (o:= .tup (hs'.map V.int));generalize upd (upd H l (.lst (hs'.map V.int))) l1 (.tup (hs'.map V.int))=H1 at*
 have p1:=h.p.same sm1;have S1:=p1.S;have e8:=J.tm;have e7:=J.tl;have e3:=J.s1;have eR:=J.R;have r0:=J.r0;have b0:=J.B.b0;have tqq:=J.tqq (by lia);rw [<-h_u5,aq];generalize h_u6:aq _=u6;exists S1.hx;refine ⟨A,z,hs',S1,J.B,by rw [eR];exact r0,th,by lia,hnd,hs0,tqq,by lia,by lia,J.k,fun p H2 hp f2 hq=>?_⟩;have far0:0<=far' z nu:=Int.emod_nonneg _ (by lia);have ef:(nu - z.b) % r=far' z nu:=by unfold far';rw [eR]
 have fr2:bq x A y m d dk dn H H2:=(bq.same sm1).trans (bq.seven f2);rw [<-h_u6,aq];generalize h_u7:aq _=u7;walk_at "wps";refine ⟨r0,?_⟩;rw [ef];rw [<-h_u7,aq];generalize h_u8:aq _=u8;rcases hq with ⟨cF,sm3,l3⟩|⟨cF,S3,l3⟩
 ·
  have p2:=p1.same sm3;exists p2.hd;rw [if_pos cF];have lK:=h.lK;have lO:=h.lO;exact q H2 z Kd O fr2 ⟨p2,J.more (Nat.le_succ _),h.eK,h.eO,h.ci,h.ag,by lia,by lia⟩ rfl
 have p2:=p1.IX f2 S3 rfl rfl;have th2:=f2.tup S1 th;exists p2.hd;rw [if_neg (by lia)];rw [<-h_u8,aq];generalize h_u9:aq _=u9;exists p2.hd;have p3:=p2.pd (d8 (V.int (z.b+far' z nu)) (V.int z.t) (V.int z.e) (V.int z.T.length) z.clk (V.bl z.hur) (V.ref dk) (V.ref dn));have f3:=fr2.trans (bq.ud (o:= .dK (d8 (V.int (z.b+far' z nu)) (V.int z.t) (V.int z.e) (V.int z.T.length) z.clk (V.bl z.hur) (V.ref dk) (V.ref dn))));have th3:upd H2 d (.dK (d8 (V.int (z.b+far' z nu)) (V.int z.t) (V.int z.e) (V.int z.T.length) z.clk (V.bl z.hur) (V.ref dk) (V.ref dn))) l1=some (.tup (hs'.map V.int)):=by rw [af (aF th2 p2.hd (by simp))];exact th2
 generalize upd H2 d (.dK (d8 (V.int (z.b+far' z nu)) (V.int z.t) (V.int z.e) (V.int z.T.length) z.clk (V.bl z.hur) (V.ref dk) (V.ref dn)))=H3 at*
 rw [<-h_u9,aq];generalize h_ua:aq _=ua;walk_at "wps";refine ⟨by lia,fun p4 hp4=>⟨by lia,by lia,fun l4 hl4=>?_⟩⟩;have sm4:cC H3 (upd (upd H3 p4 (.rng z.b (z.b+far' z nu))) l4 (.lst (fL z.b (z.b+far' z nu - z.b).toNat))):=fun b o e=>aW (aW e hp4) hl4;have l44:upd (upd H3 p4 (.rng z.b (z.b+far' z nu))) l4 (.lst (fL z.b (z.b+far' z nu - z.b).toNat)) l4=some (.lst ((irg z.b (far' z nu).toNat).map V.int)):=by rw [ax,show z.b+far' z nu - z.b=far' z nu by lia,sv]
 generalize upd (upd H3 p4 (.rng z.b (z.b+far' z nu))) l4 (.lst (fL z.b (z.b+far' z nu - z.b).toNat))=H4 at*
 have il:(irg z.b (far' z nu).toNat).length=(far' z nu).toNat:=by unfold irg;rw [List.length_map,List.length_range]
 refine yb (xs:=hs'.map V.int) (p:=fun _=>true) (f:=fun v=>match v with | .int i=> .int (z.b+far' z nu+i)|v=>v) (fx.of (sm4 _ _ th3)) (bO (by rw [List.length_map];lia)) (fun y hy Q' q'=>by walk_at "wps";exact q') ?_ ?_
 ·
  intro y hy _ Q' q';obtain ⟨i,_,rfl⟩:=List.mem_map.mp hy;walk_at "wps";exact q'
 have e5:List.map (fun v=>match v with|V.int i=>V.int (z.b+far' z nu+i)|v=>v) (List.filter (fun _=>true) (hs'.map V.int))=(hs'.map (fun k=>z.b+far' z nu+k)).map V.int:=by
  rw [show List.filter (fun _=>true) (hs'.map V.int)=hs'.map V.int from List.filter_eq_self.mpr fun _ _=>rfl,List.map_map,List.map_map];rfl
 rw [e5];have ksl:(hs'.map (fun k=>z.b+far' z nu+k)).length<=15:=by rw [List.length_map];exact hlen
 refine ⟨bO (by rw [List.length_map];lia),fun l5 hl5=>?_⟩;refine oB (aW l44 hl5) ax (bO (by rw [List.length_map,List.length_map];lia)) fun p6 hp6=>?_;have sm6:cC H3 (upd (upd H4 l5 (.lst ((hs'.map (fun k=>z.b+far' z nu+k)).map V.int))) p6 (.lst ((irg z.b (far' z nu).toNat).map V.int++(hs'.map (fun k=>z.b+far' z nu+k)).map V.int))):=fun b o e=>aW (aW (sm4 b o e) hl5) hp6;have npt:p6≠A.pt:=(av (aW (sm4 _ _ p3.S.ht) hl5) hp6).symm;have l6:upd (upd H4 l5 (.lst ((hs'.map (fun k=>z.b+far' z nu+k)).map V.int))) p6 (.lst ((irg z.b (far' z nu).toNat).map V.int++(hs'.map (fun k=>z.b+far' z nu+k)).map V.int)) p6=some (.lst ((irg z.b (far' z nu).toNat++hs'.map (fun k=>z.b+far' z nu+k)).map V.int)):=by rw [ax,List.map_append]
 generalize upd (upd H4 l5 (.lst ((hs'.map (fun k=>z.b+far' z nu+k)).map V.int))) p6 (.lst ((irg z.b (far' z nu).toNat).map V.int++(hs'.map (fun k=>z.b+far' z nu+k)).map V.int))=H6 at*
 have P6:=p3.same sm6;have f6:=f3.trans (bq.same sm6);have lK:=h.lK;have lO:=h.lO;have fk:=F3 J hnd hs0 far0 cF;rw [<-h_ua,aq];generalize h_ub:aq _=ub;walk_at "wps";refine ⟨x,dy,dm,dk,dn,A,z,hrd z nu (cc / 7 % 17) hs' tn,_,_,_,_,_,Kd,O,_,fsh z nu hs',P6,rfl,rfl,l6,npt,Dw hnd hs0 far0,by rw [List.length_append];lia,fun a ha=>?_,A_ hs0 far0 cF,fk,h.eK,h.eO,tqq,by lia,fun H7 K7 O7 f7 p7 k7 o7 lk7 lo7=>?_⟩
 ·
  rcases List.mem_append.mp ha with h1|h1
  ·
   have:=gh h1;lia
  ·
   obtain ⟨k,hk,rfl⟩:=List.mem_map.mp h1;have:=hs0 k hk;lia
 have J7:=J.hrd (by lia) hnd hs0 cF (FO (nu:=nu) (rm:=cc / 7 % 17) (tn:=tn) (hs:=hs') J.ck);have fin: ∀H',bq x A y m d dk dn H H'->gQ aa ai ae H' x y dy m dm d dk dn A (hrd z nu (cc / 7 % 17) hs' tn) (mall z tn (fsh z nu hs')).1 (mall z tn (fsh z nu hs')).2.1 (mall z tn (fsh z nu hs')).2.2 (MeterM.kn z.mo z.kn (fsh z nu hs').length (z.wi,z.co)).1 z.kn (MeterM.kn z.mo z.kn (fsh z nu hs').length (z.wi,z.co)).2 (dz (hrd z nu (cc / 7 % 17) hs' tn) dk dn) K7 O7->Q .non H':=fun H' f' p'=>by
  refine q H' (hrd z nu (cc / 7 % 17) hs' tn) K7 O7 f' ⟨p',J7,fun j=>by rw [k7,xK,qA],fun j=>by rw [o7,zv],fun hbt=>?_,h.ag,by lia,by lia⟩ rfl;have hbt':z.b+far' z nu<z.t:=hbt;show∃i,(if 0<far' z nu then (if z.b+far' z nu<z.t then V.int (tn+(mall z tn (fsh z nu hs')).1) else .non) else z.clk) = .int i;by_cases c0:0<far' z nu
  ·rw [if_pos c0,if_pos hbt'];exact ⟨_,rfl⟩
  ·rw [if_neg c0];exact h.ci (by lia)
 rw [<-h_ub,aq];generalize h_uc:aq _=uc;exists p7.hd;obtain ⟨e',he'⟩: ∃e':Int,e'=(if z.e<z.b+far' z nu+cc / 7 % 17 then z.b+far' z nu+cc / 7 % 17 else z.e):=⟨_,rfl⟩;rw [<-he'];have p8:=p7.pd (d8 (V.int (z.b+far' z nu)) (V.int z.t) (V.int e') (V.int z.T.length) z.clk (V.bl z.hur) (V.ref dk) (V.ref dn));have f8:=(f6.trans f7).trans (bq.ud (o:= .dK (d8 (V.int (z.b+far' z nu)) (V.int z.t) (V.int e') (V.int z.T.length) z.clk (V.bl z.hur) (V.ref dk) (V.ref dn))));generalize upd H7 d (.dK (d8 (V.int (z.b+far' z nu)) (V.int z.t) (V.int e') (V.int z.T.length) z.clk (V.bl z.hur) (V.ref dk) (V.ref dn)))=H8 at*
 have edz:dz (hrd z nu (cc / 7 % 17) hs' tn) dk dn=d8 (V.int (z.b+far' z nu)) (V.int z.t) (V.int (if z.e<z.b+far' z nu+cc / 7 % 17 then z.b+far' z nu+cc / 7 % 17 else z.e)) (V.int z.T.length) (if 0<far' z nu then (if z.b+far' z nu<z.t then V.int (tn+(mall z tn (fsh z nu hs')).1) else .non) else z.clk) (V.bl (if 0<far' z nu then false else z.hur)) (V.ref dk) (V.ref dn):=rfl;rw [<-he'] at edz;rw [<-h_uc,aq];generalize h_ud:aq _=ud;exists p8.hd;by_cases c0:0<far' z nu
 ·
  rw [if_pos c0];rw [if_pos c0,if_pos c0] at edz;have p9:=p8.pd (d8 (V.int (z.b+far' z nu)) (V.int z.t) (V.int e') (V.int z.T.length) .non (V.bl false) (V.ref dk) (V.ref dn));have f9:=f8.trans (bq.ud (o:= .dK (d8 (V.int (z.b+far' z nu)) (V.int z.t) (V.int e') (V.int z.T.length) .non (V.bl false) (V.ref dk) (V.ref dn))));generalize upd H8 d (.dK (d8 (V.int (z.b+far' z nu)) (V.int z.t) (V.int e') (V.int z.T.length) .non (V.bl false) (V.ref dk) (V.ref dn)))=H9 at*
  obtain ⟨ys,ysp,ey9⟩:=p9.W.ins;rw [<-h_ud,aq];exists p9.hd,ey9;by_cases c1:z.b+far' z nu<z.t
  ·
   rw [if_pos c1] at edz⊢;rw [<-edz];exact fin _ (f9.trans bq.ud) (p9.pd _)
  ·
   rw [if_neg c1] at edz⊢;rw [<-edz] at p9;exact fin _ f9 p9
 ·
  rw [if_neg c0];rw [if_neg c0,if_neg c0] at edz;rw [<-edz] at p8;exact fin _ f8 p8
def Gd {ns:List Int} (h:ns.length<=63): ∃ms:List Int,l8 (ns.map V.int) (some 3) (some 63)=ms.map V.int/\ms.length<=60:=by
 refine ⟨_,x_,?_⟩;have e:HT.dP ns.length 0 (some 3)=min 3 ns.length:=HT.yH ns.length 0 3;rw [List.length_take,List.length_drop,e];lia
def Bq (T:Txt K mg ae ai aa):FnAt P w K mg base fz "law" 6 ["_law_script"] (pI K):=by
 refine T.tU.fn cZ yg (fun vs H Q E h=>?_) fun f cdv A outer s H vs Q E HR h=>?_
 ·unfold pI at h;split at h<;>first|rfl|exact h.elim
 ·
  unfold pI at h;split at h
  ·
   rename_i a;obtain ⟨ns,hS,hl,_,q⟩:=h;refine ⟨_,(C5.h (cI ⟨(aR (i:=1) cZ.nd rfl (Or.inl rfl) (bW (cm T a ns) HR (by decide) rfl (aC (pv 0) (aC ar aA))))⟩
 (c9 (cI ⟨(aR (i:=2) cZ.nd rfl (Or.inl rfl) (bV (eN K rfl) (nM (aC (az (aN K rfl) ar (az bu (az bP (pv 1) ar) ar)) (aC (az (aN K rfl) ar (az bu (az bP (pv 1) ar) ar)) (aC ar (aC (az (aN K rfl) ar (az bu (az gw (az bP (pv 1) ar) ar) (az tI ar ar))) aA))))) (az bu (pv 1) ar) (fun _ _=>rfl)))⟩
 (c9 (cI ⟨(aR (i:=3) cZ.nd rfl (Or.inl rfl) (az (aN K rfl) ar (az bu (bW (cm T a ns) HR (by decide) rfl (aC (pv 0) (aC ar aA))) ar)))⟩
 (c9 (cI ⟨(aR (i:=4) cZ.nd rfl (Or.inl rfl) (bV (eN K rfl) (nM (aC (az (aN K rfl) (pv 3) (az bu (az bP (bW (cm T a ns) HR (by decide) rfl (aC (pv 0) (aC ar aA))) ar) ar)) (aC (az tI ar ar) aA))) (az bP (az bu (az bP (bW (cm T a ns) HR (by decide) rfl (aC (pv 0) (aC ar aA))) ar) ar) ar) (fun _ _=>rfl)))⟩
 (c9 (cI ⟨(aR (i:=5) cZ.nd rfl (Or.inl rfl) (az (aN K rfl) ar (az bu (bW (cm T a ns) HR (by decide) rfl (aC (pv 0) (aC ar aA))) (bV (eN K rfl) (nM (aC ar (aC ar aA))) (az bu (az bP (pv 1) ar) ar) (fun _ _=>rfl)))))⟩
 (c9 (cI ⟨(aR (i:=6) cZ.nd rfl (Or.inl rfl) (nL T.aj (kb T) HR (by decide) rfl (aC (pv 2) (aC (pv 3) (aC (pv 4) (aC (pv 5) aA))))))⟩
 (c9 (cI ⟨(aR (i:=7) cZ.nd rfl (Or.inl rfl) (nL T.aM (gI T) HR (by decide) rfl (aC (pv 3) (aC (pv 4) aA))))⟩
 (c9 (cI ⟨(aR (i:=8) cZ.nd rfl (Or.inl rfl) (nL T.aL (gd T) HR (by decide) rfl (aC (pv 5) aA)))⟩
 (c9 (cI (y4 (i:=9) cZ.nd rfl (Or.inl rfl) (wV ⟨aG⟩ ⟨ar⟩ ⟨aG⟩ ⟨ar⟩ ⟨aG⟩ ⟨ar⟩ ⟨aG⟩ ⟨ar⟩ ⟨aG⟩ ⟨bU⟩ ⟨aG⟩ ⟨gc⟩ ⟨aG⟩ ⟨i5⟩ ⟨aG⟩ ⟨i5⟩))
 (c9 (cI ⟨(aR (i:=10) cZ.nd rfl (Or.inl rfl) ar)⟩
 (c9 (cI ⟨(h_ PassesOwn.never rfl (ia K rfl (q_ (Dg K rfl) (pv 0) (qt ar) (qt ar))) (cg (i:=1) cZ.nd rfl (Or.inl rfl)) (ah (h_ PassesOwn.never rfl (gG rfl T.da (aC (az bu (pv 1) ar) aA)) (cg (i:=11) cZ.nd rfl (Or.inl rfl)) (ah (a_ (bG (pv 6) T.aj (jX T) HR (by decide) (aC (dt (aC aG (aC (bV (eN K rfl) aG (pv 11) (fun _ _=>rfl)) aA))) aA)))
 (ay (aw (fM HR.units (pv 9) aG (az (aN K rfl) (ba HR.units (pv 9) aG (fun _ _=>rfl)) ar))))))
 (ay (ah (h_ PassesOwn.never rfl (gG rfl T.da (aC (az (aN K rfl) ar (az bu (az bP (pv 1) ar) ar)) aA)) (cg (i:=11) cZ.nd rfl (Or.inl rfl)) (ah (aR (i:=10) cZ.nd rfl (Or.inl rfl) (az (aN K rfl) (az (aN K rfl) (pv 10) ar) (az eF (az bu (az bP (pv 1) ar) ar) (pv 11))))
 (ay (ah (bp (aI (bX K rfl HR.units) (az bu (az bP (pv 1) ar) ar) ar (nomark _)) (ah (a_ (bG (pv 6) T.aj (jX T) HR (by decide) (aC (dt (aC aG (aC aG aA))) aA)))
 (ay (aw (fM HR.units (pv 9) aG (az (aN K rfl) (ba HR.units (pv 9) aG (fun _ _=>rfl)) ar))))) aO)
 (ay (aw (h_ PassesOwn.never rfl (gG rfl T.da (aC (az (aN K rfl) ar (ib vE (by rfl) T.yi CU (aC (dQ (bX K rfl HR.units) (az bu (az bP (pv 1) ar) ar) ar (nomark _)) aA))) aA)) (cg (i:=12) cZ.nd rfl (Or.inl rfl)) (aw (bp (PW.pt (pw_or (lF (oM (bW (qw T) HR (by decide) rfl (aC (pv 6) (aC (pv 9) (aC (pv 10) (aC (pv 7) (aC (pv 8) aA)))))))) (pw_or1 (lF (oM (bW (kS T) HR (by decide) rfl (aC (pv 6) (aC (pv 7) (aC (pv 8) aA))))))))) (aw (aQ gc)) aO)))))))))
 (ay (aw (bp (aI pP (az bu (az bP (pv 1) ar) ar) ar (nomark _)) (ah (a_ (bW (oN T) HR (by decide) rfl (aC (pv 6) (aC (pv 9) (aC (pv 1) (aC (pv 10) (aC (pv 2) (aC (pv 7) (aC (pv 8) aA)))))))))
 (ay (aw (bp (lF (oM (bW (kS T) HR (by decide) rfl (aC (pv 6) (aC (pv 7) (aC (pv 8) aA)))))) (aw (aQ gc)) aO)))) aO)))))))⟩
 (y0 ⟨(aQ gc)⟩))))))))))))))))))))))),?_⟩
   generalize h_ua:aq _=ua;walk_at "wps";refine ⟨hS,fun c=>?_⟩;rw [<-h_ua,aq];generalize h_ub:aq _=ub;walk_at "wps";intro p hp;obtain ⟨r,hr,r0⟩: ∃r:Int,j4 [V.int (1+c / 4 % 9),V.int (16+c / 4 % 64),V.int 32,V.int (1+c / 4*48271 % 1000000000)] (c % 4)=some (.int r)/\0<r:=by
    have h4:c % 4=0\/c % 4=1\/c % 4=2\/c % 4=3:=by lia
    rcases h4 with e|e|e|e<;>rw [e]
    ·exact ⟨_,tZ,by lia⟩
    ·exact ⟨_,tY,by lia⟩
    ·exact ⟨_,AJ,by lia⟩
    ·exact ⟨_,AI,by lia⟩
   refine ⟨_,hr,?_⟩;have hS1:=eJ (aY (o:= .lst [V.int (1+c / 4 % 9),V.int (16+c / 4 % 64),V.int 32,V.int (1+c / 4*48271 % 1000000000)]) hp) hS;clear hr;generalize upd H p (.lst [V.int (1+c / 4 % 9),V.int (16+c / 4 % 64),V.int 32,V.int (1+c / 4*48271 % 1000000000)])=H1 at*
   rw [<-h_ub,aq];generalize h_uc:aq _=uc;walk_at "wps";refine ⟨hS1,fun n1=>?_⟩;rw [<-h_uc,aq];generalize h_ud:aq _=ud;walk_at "wps";refine ⟨hS1,fun n2 p1 hp1=>?_⟩;have hS2:=eJ (aY (o:= .lst [V.int (2+n1 % 30+n2 / 30 % 64),V.int 1000000]) hp1) hS1;generalize upd H1 p1 (.lst [V.int (2+n1 % 30+n2 / 30 % 64),V.int 1000000])=H2 at*
   refine ⟨hS2,fun n3=>?_⟩;obtain ⟨L,eL,L0⟩: ∃L:Int,j4 [V.int (2+n1 % 30+n2 / 30 % 64),V.int 1000000] (n3 / 1920 % 3 / 2)=some (.int L)/\2+n1 % 30<=L:=by
    have h4:n3 / 1920 % 3 / 2=0\/n3 / 1920 % 3 / 2=1:=by lia
    rcases h4 with e|e<;>rw [e]
    ·exact ⟨_,tZ,by lia⟩
    ·exact ⟨_,tY,by lia⟩
   refine ⟨_,eL,?_⟩;clear eL;rw [<-h_ud,aq];generalize h_ue:aq _=ue;walk_at "wps";refine ⟨hS2,fun c2 p3 hp3=>?_⟩;obtain ⟨m3,em3,m30⟩: ∃m3:Int,j4 [V.int 20,V.int 1000] (c / 3 % 2)=some (.int m3)/\0<m3:=by
    have h4:c / 3 % 2=0\/c / 3 % 2=1:=by lia
    rcases h4 with e|e<;>rw [e]
    ·exact ⟨_,tZ,by decide⟩
    ·exact ⟨_,tY,by decide⟩
   have mm3:=Int.emod_nonneg c2 (show m3≠0 by lia);refine ⟨_,em3,?_⟩;walk_at "wps";have hS3:=eJ (aY (o:= .lst [V.int 20,V.int 1000]) hp3) hS2;generalize upd H2 p3 (.lst [V.int 20,V.int 1000])=H3 at*
   refine ⟨m30,?_⟩;generalize hMo:1+c2 % m3=mo at*
   rw [<-h_ue,aq];generalize h_uf:aq _=uf;walk_at "wps";refine fun x dx nx ndx nex=>⟨⟨by lia,by lia,by lia⟩,dx,rfl,fun A H4 hB4 S4=>?_⟩;have sm4:cC H3 H4:=fun b o e=>hB4 b o (v_ nx ndx b o e) (av e nx);have hS4:=eJ sm4 hS3;have J4:Jw ⟨r,0,0,1,.non,false,[],[],[],[],L,2+n1 % 30,0,MeterM.mn 2 mo,none,mo,mo,0⟩ r 0 0:=⟨rfl,r0,⟨Int.le_refl _,Int.le_refl _,by show (0:Int)<=900;decide⟩,by show (0:Int)<=1;decide,Int.le_refl _,Nat.zero_le _,Nat.zero_le _,fun j _=>rfl,.inl rfl,fun j h0 h1=>absurd h1 (by show¬j<0;lia),Int.le_refl _,by decide,Nat.le_refl _,Nat.le_refl _,Nat.le_refl _⟩;rw [<-h_uf,aq];generalize h_ug:aq _=ug;walk_at "wps";intro y dy ny ndy ney;refine ⟨dy,rfl,?_⟩;have sm5:cC H4 (upd (upd H4 dy (HO.own y)) y (HO.ins ai dy (aK (V.int L) V.non V.non (V.int (2+n1 % 30))))):=fun b o e=>by rw [af (av e ny),af (av e ndy)];exact e
   have W5:WS ai (upd (upd H4 dy (HO.own y)) y (HO.ins ai dy (aK (V.int L) V.non V.non (V.int (2+n1 % 30))))) y dy L (2+n1 % 30) none 0:=⟨by lia,⟨by lia,by lia⟩,.inl ⟨rfl,rfl,ax⟩⟩;have S5:=S4.same sm5;have hS5:=eJ sm5 hS4;obtain ⟨s4,sp4,ew4⟩:=S4.ws.ins;have y1:y≠x:=(av S4.hx ny).symm;have y2:y≠A.pw:=(av ew4 ny).symm;have y3:y≠A.pm:=(av S4.ms.1 ny).symm;generalize upd (upd H4 dy (HO.own y)) y (HO.ins ai dy (aK (V.int L) V.non V.non (V.int (2+n1 % 30))))=H5 at*
   rw [<-h_ug,aq];generalize h_uh:aq _=uh;walk_at "wps";intro m dm nm ndm nem;refine ⟨dm,rfl,?_⟩;have sm6:cC H5 (upd (upd H5 dm (HO.own m)) m (HO.ins ae dm (aE (V.int mo) (V.int (MeterM.mn 2 mo)) (V.int mo) (V.int 0)))):=fun b o e=>by rw [af (av e nm),af (av e ndm)];exact e
   have M6:MS ae (upd (upd H5 dm (HO.own m)) m (HO.ins ae dm (aE (V.int mo) (V.int (MeterM.mn 2 mo)) (V.int mo) (V.int 0)))) m dm mo (MeterM.mn 2 mo) mo 0:=⟨ax,S5.ms.2⟩;have S6:=S5.same sm6;have hS6:=eJ sm6 hS5;have W6:=W5.keep (fun o q=>sm6 _ _ q) (fun t l q=>sm6 _ _ q);obtain ⟨s5,sp5,ew5⟩:=S5.ws.ins;obtain ⟨ys5,ysp5,ey5⟩:=W5.ins;have m1:m≠x:=(av S5.hx nm).symm;have m2:m≠A.pw:=(av ew5 nm).symm;have m3':m≠A.pm:=(av S5.ms.1 nm).symm;have ym:y≠m:=av ey5 nm;generalize upd (upd H5 dm (HO.own m)) m (HO.ins ae dm (aE (V.int mo) (V.int (MeterM.mn 2 mo)) (V.int mo) (V.int 0)))=H6 at*
   rw [<-h_uh,aq];generalize h_ui:aq _=ui;walk_at "wps";intro d hd0 dk hdk0 dn hdn0;have ndk:d≠dk:=fun e=>by rw [e,ax] at hdk0;cases hdk0
   have nkn:dk≠dn:=fun e=>by rw [e,ax] at hdn0;cases hdn0
   have hdk1:H6 dk=none:=by rw [af ndk.symm] at hdk0;exact hdk0
   rw [af nkn.symm] at hdn0;have ndn:d≠dn:=fun e=>by rw [e,ax] at hdn0;cases hdn0
   have hdn1:H6 dn=none:=by rw [af ndn.symm] at hdn0;exact hdn0
   have hdd:upd (upd (upd H6 d (.dK [])) dk (.dK [])) dn (.dK []) d=some (.dK []):=by rw [af ndn,af ndk];exact ax
   have smA:cC H6 (upd (upd (upd H6 d (.dK [])) dk (.dK [])) dn (.dK [])):=fun b o e=>by rw [af (av e hdn1),af (av e hdk1),af (av e hd0)];exact e
   refine ⟨hdd,[(sk "base",.int 0),(sk "top",.int 0),(sk "edge",.int 1),(sk "many",.int 0),(sk "clock",.non),(sk "hurried",.bl false),(sk "known",.ref dk),(sk "once",.ref dn)],rfl,by show 8<=15;decide,?_⟩;have emk:lM [] [(sk "base",V.int 0),(sk "top",V.int 0),(sk "edge",V.int 1),(sk "many",V.int 0),(sk "clock",V.non),(sk "hurried",V.bl false),(sk "known",V.ref dk),(sk "once",V.ref dn)]=d8 (.int 0) (.int 0) (.int 1) (.int 0) .non (.bl false) (.ref dk) (.ref dn):=by kernel_rfl
   rw [emk];have pA:gQ aa ai ae (upd (upd (upd H6 d (.dK [])) dk (.dK [])) dn (.dK [])) x y dy m dm d dk dn A ⟨r,0,0,1,.non,false,[],[],[],[],L,2+n1 % 30,0,MeterM.mn 2 mo,none,mo,mo,0⟩ (2+n1 % 30) none 0 (MeterM.mn 2 mo) mo 0 [] [] []:=
    ⟨S6.same smA,W6.keep (fun o q=>smA _ _ q) (fun t l q=>smA _ _ q),⟨smA _ _ M6.1,M6.2⟩,hdd,by rw [af nkn];exact ax,ax,⟨(av S6.hk hd0).symm,(av S6.hf hd0).symm,(av S6.ha hd0).symm⟩,⟨(av S6.hk hdk1).symm,(av S6.hf hdk1).symm,(av S6.ha hdk1).symm⟩,⟨(av S6.hk hdn1).symm,(av S6.hf hdn1).symm,(av S6.ha hdn1).symm⟩,ndk,ndn,nkn,y1,y2,y3,m1,m2,m3',ym⟩
   have hSA:=eJ smA hS6;generalize upd (upd (upd H6 d (.dK [])) dk (.dK [])) dn (.dK [])=HA at*
   have h7:qS aa ai ae (upd HA d (.dK (d8 (.int 0) (.int 0) (.int 1) (.int 0) .non (.bl false) (.ref dk) (.ref dn)))) x y dy m dm d dk dn A ⟨r,0,0,1,.non,false,[],[],[],[],L,2+n1 % 30,0,MeterM.mn 2 mo,none,mo,mo,0⟩ r 0 0 [] []:=
    ⟨pA.pd _,J4,fun j=>rfl,fun j=>by unfold onc;rw [if_neg (fun q=>by have q1:j<0:=q.2.1;lia)];rfl,fun q=>absurd q (Int.lt_irrefl _),fun j _=>rfl,Nat.le_refl _,Nat.le_refl _⟩
   have hS7:cQ K (upd HA d (.dK (d8 (.int 0) (.int 0) (.int 1) (.int 0) .non (.bl false) (.ref dk) (.ref dn)))) a (ns.map V.int):=eJ (fun b o e=>by rw [af (av e hd0)];exact smA _ _ e) hS6;generalize upd HA d (.dK (d8 (.int 0) (.int 0) (.int 1) (.int 0) .non (.bl false) (.ref dk) (.ref dn)))=H7 at*
   clear pA S6 S5 S4 W6 W5 M6 smA hdd J4;rw [<-h_ui,aq];generalize h_uj:aq _=uj;walk_at "wps";rw [<-h_uj,aq];generalize h_v1:aq _=v1;generalize h_v2:aq _=v2;walk_at "wps";refine uA hS7 fun p2 hp2=>?_;obtain ⟨ms,em,hms⟩:=Gd (ns:=ns) (by lia);rw [em];have g1:=ax (H:=H7) (a:=p2) (o:= .lst (ms.map V.int));have h8:=h7.same (aY (o:= .lst (ms.map V.int)) hp2);have np2:p2≠A.pt:=(av h7.p.S.ht hp2).symm;generalize upd H7 p2 (.lst (ms.map V.int))=H8 at*
   refine nk (xs:=ms.map V.int) (cQ.of g1) (fun i σ H'=> ∃v1 v2 v3,Lm aa ai ae x y dy m dm d dk dn p2 a A ms r (2+n1 % 30) L mo (20*i) (5*i) v1 v2 v3 σ H') ⟨_,none,none,_,0,0,_,_,⟨g1,h8,Nat.le_refl _,Nat.le_refl _⟩,rfl⟩ (fun i σ H' _ hp=>by obtain ⟨_,_,_,_,_,_,_,_,h,_⟩:=hp;exact cQ.of h.l) (fun i yy σ H9 hy hp=>?_) (fun σ H9 hp=>?_)
   ·
    obtain ⟨w1,w2,w3,z9,tn9,s9,K9,O9,L9,rfl⟩:=hp;obtain ⟨cc,rfl,_⟩:=gf hy;have hi:i<60:=by
     have:=(List.getElem?_eq_some_iff.mp hy).1;rw [List.length_map] at this;lia
    walk_at "wps";refine ⟨by lia,?_⟩;refine nY (lo:=0) (n:=(cc % 3).toNat) (fun j σ H'=> ∃v2,Lm aa ai ae x y dy m dm d dk dn p2 a A ms r (2+n1 % 30) L mo (20*i) (5*i+j) (some (.int cc)) v2 w3 σ H') ⟨_,z9,tn9,s9,K9,O9,L9,rfl⟩ (fun j σ H10 hj hp=>?_) (fun σ H10 hp=>?_)
    ·
     obtain ⟨v2',z10,tn10,s10,K10,O10,L10,rfl⟩:=hp;have h10:=L10.h;have hT10:=L10.hT;exists h10.p.S.hx;rw [wB];obtain ⟨ch,hch⟩: ∃ch,j4 (Str.ofString "ab").cps.toList (0+(j:Int))=some ch:=CZ (by lia) (by show 0+(j:Int)<2;lia);refine ⟨ch,by rw [sizeLine_eq];decide,hch,fun pu hpu=>⟨A,z10,h10.p.S.same (aY hpu),by lia,fun H11 hB11 S11=>?_⟩⟩;have h11:=(h10.same (aY hpu)).put (by lia) hB11 S11;have p11:=(h10.p.same (aY hpu)).put hB11 S11 rfl rfl;have l11:=hB11 _ _ (aW L10.l hpu) np2;have eT:(z10.T.length:Int)+1=((z10.T++ [V.ref pu]).length:Int):=by rw [List.length_append,List.length_singleton];lia
     rw [<-h_v1,aq];exists p11.hd;rw [eT];exact ⟨_,_,tn10,s10,K10,O10,⟨by rw [af (aF l11 p11.hd (by simp))];exact l11,h11,L10.hs,by show (z10.T++ [V.ref pu]).length<=_;rw [List.length_append,List.length_singleton];lia⟩,rfl⟩
    obtain ⟨v2',z10,tn10,s10,K10,O10,L10,rfl⟩:=hp;have hc3:(cc % 3).toNat<=2:=by lia
    rw [<-h_v2,aq];generalize h_t1:aq _=t1;generalize h_t2:aq _=t2;walk_at "wps";refine ⟨by lia,?_⟩;refine nY (lo:=0) (n:=(1+cc / 3 % 3).toNat) (fun j σ H'=> ∃v2 v3,Lm aa ai ae x y dy m dm d dk dn p2 a A ms r (2+n1 % 30) L mo (20*i+4*j) (5*i+2+j) (some (.int cc)) v2 v3 σ H') ⟨_,_,z10,tn10,s10,K10,O10,L10.up (by lia) (by lia),rfl⟩ (fun j σ H11 hj hp=>?_) (fun σ H11 hp=>?_)
    ·
     obtain ⟨v2'',v3'',z11,tn11,s11,K11,O11,L11,rfl⟩:=hp;have hs11:=L11.hs;have hT11:=L11.hT;have mb:=FD (q:=cc / 9 % 4) (j:=0+(j:Int)) (by lia) (by lia) (by lia) (by lia);walk_at "wps";refine ⟨xg ⟨by lia,by lia⟩,?_⟩;have L12:=L11.vJ (n':=tn11+1+cc / 9 % 4*(0+(j:Int))) (S':=20*i+4*j+1) (by lia) (by lia) (by lia);generalize tn11+1+cc / 9 % 4*(0+(j:Int))=tn12 at*
     rw [<-h_t1,aq];generalize h_t4:aq _=t4;obtain ⟨DD,eDD⟩: ∃DD:Ends,DD={nx:=fun σ H'=> ∃v2 v3,Lm aa ai ae x y dy m dm d dk dn p2 a A ms r (2+n1 % 30) L mo (20*i+4*(j+1)) (5*i+2+(j+1)) (some (V.int cc)) v2 v3 σ H',rt:=Q,bk:=t2 {nx:=fun σ H'=> ∃v1 v2 v3,Lm aa ai ae x y dy m dm d dk dn p2 a A ms r (2+n1 % 30) L mo (20*(i+1)) (5*(i+1)) v1 v2 v3 σ H',rt:=Q,bk:=AS (tC (V.bl true)) {nx:=fun x H'=>Q V.non H',rt:=Q},ct:=fun σ H'=> ∃v1 v2 v3,Lm aa ai ae x y dy m dm d dk dn p2 a A ms r (2+n1 % 30) L mo (20*(i+1)) (5*(i+1)) v1 v2 v3 σ H'},ct:=fun σ H'=> ∃v2 v3,Lm aa ai ae x y dy m dm d dk dn p2 a A ms r (2+n1 % 30) L mo (20*i+4*(j+1)) (5*i+2+(j+1)) (some (V.int cc)) v2 v3 σ H'}:=⟨_,rfl⟩;have tail: ∀z s Kd O H',Lv aa ai ae x y dy m dm d dk dn p2 A ms r (20*i+4*j+1) (5*i+2+(j+1)) z tn12 s Kd O H'->t4 DD [some (V.ref a),some (V.int cc),some (V.int r),some (V.int (2+n1 % 30)),some (V.int L),some (V.int mo),some (V.ref x),some (V.ref y),some (V.ref m),some (V.ref d),some (V.int tn12),some (V.int (0+(j:Int))),v3''] H':=by
      intro z s Kd O H' Lh;rw [<-h_t4,aq];walk_at "wps";refine .inr ⟨_,rfl,?_⟩;obtain ⟨bn,hbn,bn0,bn1⟩: ∃bn:Int,(1+if decide (cc / 144 % 8=1)=true then 1 else 0)=bn/\1<=bn/\bn<=2:=⟨_,rfl,by split<;>lia,by split<;>lia⟩
      rw [hbn];refine ⟨by lia,?_⟩;refine nY (lo:=0) (n:=bn.toNat) (fun l σ H'=> ∃v3,Lm aa ai ae x y dy m dm d dk dn p2 a A ms r (2+n1 % 30) L mo (20*i+4*j+1+l) (5*i+2+(j+1)) (some (V.int cc)) (some (V.int (0+(j:Int)))) v3 σ H') ⟨_,z,tn12,s,Kd,O,Lh,rfl⟩ (fun l σ H14 hl hp=>?_) (fun σ H14 hp=>?_)
      ·
       obtain ⟨v3',z14,tn14,s14,K14,O14,L14,rfl⟩:=hp;have hs14:=L14.hs;walk_at "wps";refine ⟨dy,dm,dk,dn,A,z14,r,s14,K14,O14,L14.h,by lia,fun H15 z15 O15 f15 h15 eT=>?_⟩;have L15:=L14.fr (S':=20*i+4*j+1+(l+1)) np2 f15 h15 (by lia) eT;refine ⟨dy,dm,d,dk,dn,A,z15,_,K14,O15,h15.p,fun H16 sm16=>?_⟩;exact ⟨_,z15,_,_,K14,O15,L15.same sm16,rfl⟩
      ·
       obtain ⟨v3',z14,tn14,s14,K14,O14,L14,rfl⟩:=hp;rw [eDD];exact ⟨_,_,z14,_,_,K14,O14,L14.up (by lia) (Nat.le_refl _),rfl⟩
     rw [<-eDD];exists L12.h.p.S.hx;by_cases ce:cc / 1152 % 8=1
     ·
      rw [if_pos ce];intro pu hpu;have h12:=L12.h;have hT12:=L12.hT;refine ⟨A,z11,h12.p.S.same (aY hpu),by lia,fun H13 hB13 S13=>?_⟩;have h13:=(h12.same (aY hpu)).put (by lia) hB13 S13;have p13:=(h12.p.same (aY hpu)).put hB13 S13 rfl rfl;have l13:=hB13 _ _ (aW L12.l hpu) np2;have eT:(z11.T.length:Int)+1=((z11.T++ [V.ref pu]).length:Int):=by rw [List.length_append,List.length_singleton];lia
      rw [<-h_v1,aq];exists p13.hd;rw [eT];exact tail _ _ K11 O11 _ ⟨by rw [af (aF l13 p13.hd (by simp))];exact l13,h13,L12.hs,by show (z11.T++ [V.ref pu]).length<=_;rw [List.length_append,List.length_singleton];lia⟩
     ·
      rw [if_neg ce];exact tail _ _ K11 O11 _ (L12.up (Nat.le_refl _) (by lia))
    obtain ⟨v2'',v3'',z11,tn11,s11,K11,O11,L11,rfl⟩:=hp;have hc5:(1+cc / 3 % 3).toNat<=3:=by lia
    rw [<-h_t2,aq];generalize h_t3:aq _=t3;walk_at "wps";by_cases c36:0<cc / 36 % 4
    ·
     rw [if_pos c36];have hs11:=L11.hs;refine ⟨dy,dm,dk,dn,A,z11,s11,K11,O11,L11.h,by lia,fun H12 z12 K12 O12 f12 h12 eT=>?_⟩;have L12:=L11.fr (S':=20*i+13) np2 f12 h12 (by lia) eT;rw [<-h_t3,aq];walk_at "wps";refine ⟨dy,dm,d,dk,dn,A,z12,_,K12,O12,L12.h.p,fun H13 sm13=>?_⟩;exact ⟨_,_,_,z12,_,_,K12,O12,(L12.same sm13).up (by lia) (by lia),rfl⟩
    ·
     rw [if_neg c36];exact ⟨_,_,_,z11,_,_,K11,O11,L11.up (by lia) (by lia),rfl⟩
   ·
    walk_at "wps";exact q _
  ·exact h.elim
end
def fin {P:Program} {w:World} {K:W.Frag} {h:Heap} {mg:Str->Option Value} {fa:Addr} {ae ai aa:Addr} (KX:K.In h) (G:h.Ns mainGlobals mg) (hmg:mg "law" = some (.ref fa)) (T:Txt K mg ae ai aa):
  ∃fd:FuncData,(∀(s:Shared) (u:Value),BindsTo s fd ⟨[u],[]⟩ [("_law_script",u)])/\∀base:Heap,K.In base->base.Ns mainGlobals mg->ml P w K mg base fz 6 fa fd ["_law_script"] (pI K):=
 law_fin hmg T.tU yg fun base=>Bq T
end K55
open PySem PySem.W PyProof.Rows
noncomputable def PySem.W.Fast.tw3747696396349533860:PySem.Program:=PySem.Challenge.pw_slowroad_k55_what_goes
theorem PySem.W.Fast.te3747696396349533860:PySem.Challenge.pw_slowroad_k55_what_goes=PySem.W.Fast.tw3747696396349533860:=rfl
set_option maxRecDepth 100000 in
set_option maxHeartbeats 0 in
theorem PySem.Challenge.cw_slowroad_k55_what_goes_holds : PySem.Challenge.rw_slowroad_k55_what_goes.Holds := by
 w_on;o_law
 refine holds_open (q:=K55.ij) (loose:=[]) (Xt:=fun s=>xlAt K55.ij [] s&&recOk (RowW.records (OpenRow.toRowW (OpenLaw.row Challenge.rw_slowroad_k55_what_goes))) s) (XP:=XL K55.ij []) (Yf:=Hook.obs (kHook K55.yu K55.j0 K55.kX)) (Ya:=Hook.val (kHook K55.yu K55.j0 K55.kX)) (YP:=Hook.says (kHook K55.yu K55.j0 K55.kX)) (N:=4234) K55.FX (Hook.of (kHook K55.yu K55.j0 K55.kX)) (Hook.keeps (kHook K55.yu K55.j0 K55.kX)) (fun s e=>xl_of s (Bool.and_eq_true_iff.mp e).1) XL.keeps (by rfl) (by rfl) (by rfl) (fun s e=>recFacts_of (Bool.and_eq_true_iff.mp e).2) (by rfl) (by first|assumption|decide+kernel) (by decide+kernel) ⟨rfl,rfl,rfl,rfl,rfl,by decide+kernel⟩ ?hw ?hc
 case hw=>w_witness2
 k_fill
 refine L2.xn (l:=Challenge.rw_slowroad_k55_what_goes) (k:=6) (x:="_law_script") rfl rfl ⟨rfl,by decide,by decide⟩ (fun w h Y=>W.kIn_of Y) ?F
 case F=>
  intro w mg fa h KX G hmg;refine' K55.fin KX G hmg ?TT
  case TT=>
   refine' K55.Txt.mk ?aL ?fw ?aT ?bH ?bc ?aM ?cK ?aP ?aZ ?br ?aj ?eG ?bh ?bj ?cn ?aJ ?aV ?cp ?bB ?bg ?bf ?bz ?bE ?eB ?gD ?eA ?iE ?fj ?fo ?qF ?oi ?fh ?fg ?dv ?dA ?dY ?fS ?d5 ?iD ?gC ?fT ?dF ?dE ?cM ?bM ?dB ?cL ?cA ?cz ?c8 ?jm ?dC ?dZ ?fi ?cB ?fR ?iA ?gA ?iC ?kE ?gB ?jl ?jj ?iB ?jk ?tU ?yj ?yi ?iJ ?oz ?qP ?qg ?rK ?da ?nr ?iF ?eC
   case aL|aM|aj=>refine' L2.xp KX G ?a ?pg ?hd ?po ?sa ?mk ?kc;(case a=>k_is);(case pg=>k_is);(case hd=>k_is);(case po=>k_is);(case sa=>k_is);(case mk=>k_is);(case kc=>k_is)
   case fw|aT|bH|bc|cK|aP|aZ|br|eG|bh|bj|cn|aJ|aV|cp|bB|bg|bf|bz|bE=>refine' L2.vb ?a;(case a=>k_is)
   case eB|gD|eA|iE|fj|fo|fh|fg|dv|dA|dY|fS|d5|iD|gC|fT|dF|dE|cM|bM|dB|cL|cA|cz|c8|jm|dC|dZ|fi|cB=>refine' L2.vd ?a ?i ?l ?c ?k;(case a=>k_is);(case i=>k_is);(case l=>k_is);(case c=>k_is);(case k=>k_is)
   case qF|oi|fR|iA|gA|iC|kE|gB|jl|jj|iB|jk|tU=>refine' L2.x2 KX G ?a ?l ?c ?k;(case a=>k_is);(case l=>k_is);(case c=>k_is);(case k=>k_is)
   case yj|yi|iJ|oz|qP|qg|rK|da|nr=>refine' W.mg_none_of KX G ?a;(case a=>k_is)
   case iF|eC=>refine' ⟨_,W.mg_of KX G ?a,?r⟩;(case a=>k_is);(case r=>exact ⟨_,rfl⟩)
#print axioms Challenge.cw_slowroad_k55_what_goes_holds
