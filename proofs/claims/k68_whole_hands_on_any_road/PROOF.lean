import PyProof.Rows.All
import Wide.All
import OpenK.AllK
import PySem.Challenge.RW_slowroad_k68_whole_hands_on_any_road
set_option maxRecDepth 100000
set_option maxHeartbeats 4000000
set_option Elab.async false
set_option genSizeOf false
set_option backward.eqns.nonrecursive false
set_option linter.all false
set_option compiler.extract_closed false
theorem a5:type_of% @if_neg:=@if_neg
theorem bc:type_of% @if_pos:=@if_pos
abbrev cc:=@PySem.wpAny_bind
abbrev cm:=@Nat.le_refl
abbrev cz:=@decide_eq_false
abbrev cF:=@List.length_map
abbrev cP:=@PySem.Heap.get?_push_of_some
theorem cR:type_of% @List.mem_cons:=@List.mem_cons
abbrev de:=@PySem.wpAny_pure
theorem d3:type_of% @List.not_mem_nil:=@List.not_mem_nil
abbrev ec:=@List.mem_singleton
abbrev ej:=@List.mem_append_right
abbrev ek:=@List.getElem?_eq_some_iff
theorem eu:type_of% @decide_eq_true_eq:=@decide_eq_true_eq
abbrev ey:=@List.length_append
abbrev ez:=@List.mem_append_left
abbrev eM:=@PySem.Heap.lt_size
theorem eT:type_of% @decide_eq_true:=@decide_eq_true
abbrev fv:=@Nat.le_trans
abbrev fx:=@PySem.Heap.get?_push_size
abbrev fy:=@Nat.lt_of_lt_of_le
abbrev fC:=@List.count_append
abbrev fR:=@PySem.sizeLine_eq
theorem gk:type_of% @Int.toNat_natCast:=@Int.toNat_natCast
abbrev gs:=@List.mem_append
abbrev hI:=@List.getElem?_eq_getElem
abbrev hL:=@List.append_nil
abbrev hQ:=@List.mem_cons_of_mem
theorem h6:type_of% @List.size_toArray:=@List.size_toArray
theorem h8:type_of% @Bool.and_eq_true:=@Bool.and_eq_true
abbrev ib:=@Nat.ne_of_lt
abbrev ij:=@List.nodup_append
abbrev j0:=@List.length_filter_le
abbrev j1:=@PySem.PassesOwn.never
abbrev ke:=@List.mem_map
abbrev ko:=@Int.le_of_lt
abbrev kv:=@Nat.zero_le
theorem lj:type_of% @or_false:=@or_false
abbrev lp:=@Array.toList_append
abbrev ly:=@PySem.wpAny_truthy_bool
theorem me:type_of% @List.length_singleton:=@List.length_singleton
abbrev mj:=@PySem.wpAny_mono
abbrev mu:=@List.getElem?_append_left
abbrev mx:=@List.exists_cons_of_length_eq_add_one
abbrev mP:=@PySem.Heap.get?_update_other
abbrev ni:=@Bool.or_eq_false_iff
abbrev nt:=@Int.emod_lt_of_pos
abbrev ny:=@Int.emod_nonneg
theorem nS:type_of% @Bool.false_and:=@Bool.false_and
abbrev n4:=@List.length_take
theorem pd:type_of% @Bool.true_and:=@Bool.true_and
abbrev p6:=@List.length_range
theorem qF:type_of% @Bool.false_eq_true:=@Bool.false_eq_true
theorem ri:type_of% @Bool.and_false:=@Bool.and_false
abbrev ro:=@Option.isSome_iff_exists
theorem r4:type_of% @List.mem_range:=@List.mem_range
theorem sj:type_of% @List.any_cons:=@List.any_cons
abbrev sm:=@List.mem_cons_self
abbrev sx:=@List.map_map
theorem tH:type_of% @List.length_cons:=@List.length_cons
abbrev t6:=@Int.le_refl
abbrev vp:=@Array.length_toList
abbrev vr:=@List.getElem?_map
abbrev xB:=@Int.mul_nonneg
abbrev yl:=@Bool.eq_iff_iff
abbrev zl:=@PySem.mem_of_lookup
theorem zp:type_of% @beq_iff_eq:=@beq_iff_eq
abbrev zT:=@Nat.two_pow_pos
abbrev AB:=@List.take_length
abbrev C2:=@PySem.Paired.length
abbrev L1:=@Ne.symm
abbrev L5:=@Int.eq_ofNat_of_zero_le
abbrev N0:=@Array.toList_push
abbrev ON:=@List.take_add_one
abbrev R1:=@List.mem_filter
theorem Sk:type_of% @List.nodup_cons:=@List.nodup_cons
abbrev Xg:=@PyProof.Rows.callWith_type1
abbrev Xh:=@List.map_append
abbrev Xi:=@beq_eq_false_iff_ne
abbrev Xj:=@List.take_of_length_le
abbrev Xk:=@List.getElem?_append_right
abbrev Xl:=@List.getD_eq_getElem?_getD
abbrev Xm:=@congrArg
abbrev Xn:=@PySem.wpAny_Call_Name_kw
abbrev Xo:=@Array.getElem?_eq_getElem
abbrev Xp:=@Option.some.inj
abbrev Xq:=@PySem.wpAny_holding
abbrev Xr:=@List.map_cons
theorem Xs:type_of% @if_false:=@if_false
theorem Xu:type_of% @List.all_eq_true:=@List.all_eq_true
theorem Xv:type_of% @Array.map_append:=@Array.map_append
abbrev Xw:=@PySem.W.kia_one
abbrev Xx:=@PySem.wpAny_passesOwn
abbrev Xy:=@PySem.Heap.get?_update_self
abbrev Xz:=@List.forIn_cons
abbrev XA:=@Array.getElem_mem
abbrev XB:=@List.mem_of_getElem?
abbrev XC:=@List.drop_eq_getElem_cons
abbrev XD:=@List.filter_cons
abbrev XE:=@List.getElem?_range
abbrev XF:=@List.filter_eq_self
abbrev XG:=@PySem.plainObj_wpAny_Assign_Attribute
theorem XH:type_of% @if_true:=@if_true
abbrev XI:=@PySem.wpAny_field
abbrev XJ:=@Int.mul_le_mul_of_nonneg_left
abbrev XM:=@Option.isSome_map
abbrev XN:=@PySem.wpAny_loadPart_at
abbrev XO:=@List.foldl_append
abbrev XQ:=@List.append_assoc
abbrev XR:=@List.length_replicate
theorem XS:type_of% @Nat.mul_comm:=@Nat.mul_comm
abbrev XT:=@List.getElem?_eq_none
abbrev XU:=@PySem.Heap.get?_none_of_le
theorem XW:type_of% @List.lookup_cons:=@List.lookup_cons
abbrev XX:=@Nat.pow_le_pow_right
abbrev XY:=@PySem.codeAny_call_builtin
abbrev XZ:=@Array.toList_reverse
abbrev X0:=@List.Pairwise.filter
abbrev X1:=@Nat.lt_irrefl
abbrev X2:=@PySem.wpAny_standAt
abbrev X4:=@PySem.W.looks_mroIn
theorem X6:type_of% @Nat.mul_assoc:=@Nat.mul_assoc
abbrev X7:=@List.filter_sublist
abbrev X8:=@PySem.wpAny_execs_nil
theorem X9:type_of% @Option.map_some:=@Option.map_some
abbrev X_:=@List.filter_map
abbrev Yb:=@PySem.W.methodCall_KW
abbrev Yc:=@Nat.le_max_left
abbrev Yd:=@Nat.ne_of_gt
abbrev Ye:=@Int.natCast_nonneg
abbrev Yg:=@PySem.codeAny_mono
abbrev Yh:=@PySem.W.callWith_K
abbrev Yi:=@Bool.false_ne_true
abbrev Yj:=@PySem.tupleKind_room_in1
abbrev Yk:=@Int.mul_comm
abbrev Yl:=@List.count_reverse
abbrev Ym:=@Nat.succ.inj
abbrev Yn:=@List.Nodup.sublist
abbrev Yo:=@PySem.wpAny_loadPart
abbrev Yp:=@PySem.W.looks_findIn
abbrev Yq:=@PySem.wpAny_call
theorem Yr:type_of% @Array.map_push:=@Array.map_push
abbrev Ys:=@List.Perm.refl
theorem Yt:type_of% @List.nodup_nil:=@List.nodup_nil
abbrev Yu:=@List.pairwise_map
abbrev Yv:=@Nat.pow_add
abbrev Yw:=@Nat.le_max_right
abbrev Yx:=@Array.toList_map
abbrev Yy:=@Nat.testBit_xor
abbrev Yz:=@Nat.pow_succ
abbrev YA:=@Int.natCast_mul
abbrev YB:=@Int.pow_add
local macro_rules | `(tactic| walk_at "q") => `(tactic| first|exact .inl rfl|exact .inr rfl|exact .inr (.inl rfl)|exact .inr (.inr rfl)|assumption)
theorem qqr0 (_:True:=by rfl):True:=trivial
def qqr:Lean.Syntax:=qqr0._auto_1
theorem qqd0 (_:True:=by decide):True:=trivial
def qqd:Lean.Syntax:=qqd0._auto_1
theorem qqx0 (_:True:=by exact rfl):True:=trivial
def qqx:Lean.Syntax:=qqx0._auto_1
theorem qqw0 (_:True:=by walk_at "q"):True:=trivial
def qqw:Lean.Syntax:=qqw0._auto_1
section
open Lean Parser.Tactic
variable {q:Prop}
theorem qqE7 {P:α->β->γ->δ->ε->ζ->η->Prop} (y:∀a b c d e f g,P a b c d e f g->q):(∃a b c d e f g,P a b c d e f g)->q|⟨_,_,_,_,_,_,_,h⟩=>y _ _ _ _ _ _ _ h
theorem qqE5 {P:α->β->γ->δ->ε->Prop} (y:∀a b c d e,P a b c d e->q):(∃a b c d e,P a b c d e)->q|⟨_,_,_,_,_,h⟩=>y _ _ _ _ _ h
theorem qqE4 {P:α->β->γ->δ->Prop} (y:∀a b c d,P a b c d->q):(∃a b c d,P a b c d)->q|⟨_,_,_,_,h⟩=>y _ _ _ _ h
theorem qqE3 {P:α->β->γ->Prop} (y:∀a b c,P a b c->q):(∃a b c,P a b c)->q|⟨_,_,_,h⟩=>y _ _ _ h
theorem qqE2 {P:α->β->Prop} (y:∀a b,P a b->q):(∃a b,P a b)->q|⟨_,_,h⟩=>y _ _ h
theorem qqE1 {P:α->Prop} (y:∀a,P a->q):(∃a,P a)->q|⟨_,h⟩=>y _ h
theorem qqA7 (y:a->b->c->d->e->f->g->i->q):a/\b/\c/\d/\e/\f/\g/\i->q|⟨a,b,c,d,e,f,g,i⟩=>y a b c d e f g i
theorem qqA5 (y:a->b->c->d->e->f->q):a/\b/\c/\d/\e/\f->q|⟨a,b,c,d,e,f⟩=>y a b c d e f
theorem qqA4 (y:a->b->c->d->e->q):a/\b/\c/\d/\e->q|⟨a,b,c,d,e⟩=>y a b c d e
theorem qqA3 (y:a->b->c->d->q):a/\b/\c/\d->q|⟨a,b,c,d⟩=>y a b c d
theorem qqA2 (y:a->b->c->q):a/\b/\c->q|⟨a,b,c⟩=>y a b c
theorem qqA1 (y:a->b->q):a/\b->q|⟨a,b⟩=>y a b
theorem qqO (y:a->q) (z:b->q) (h:a∨b):q:=h.elim y z
theorem qqI4 {P:α->β->γ->δ->Prop} (a:α) (b:β) (c:γ) (d:δ) (h:P a b c d):∃a b c d,P a b c d:=⟨_,_,_,_,h⟩
theorem qqI2 {P:α->β->Prop} (a:α) (b:β) (h:P a b):∃a b,P a b:=⟨_,_,h⟩
theorem qqI1 {P:α->Prop} (a:α) (h:P a):∃a,P a:=⟨_,h⟩
theorem qqC5 (A:a) (B:b) (C:c) (D:d) (E:e):a/\b/\c/\d/\e:=⟨A,B,C,D,E⟩
theorem qqC3 (A:a) (B:b) (C:c):a/\b/\c:=⟨A,B,C⟩
def qqF (o:TSyntaxArray ``rcasesPatLo):MacroM (TSyntax `tactic):=do
  if o.size<2 then Macro.throwUnsupported
  let mut r:=#[]
  for s in ["E","A"] do for c in [7,5,4,3,2,1] do
   if c<o.size then
    let y:=o.extract c
    let w<-if y.size<2 then `(rcasesPat| ($(y[0]!))) else `(rcasesPat| ⟨$y,*⟩)
    r:=r.push (<-`(tactic| (refine $(mkIdent (.mkSimple s!"qq{s}{c}")) ?_;$(<-(o.extract 0 c).foldrM (fun p z=>do `(tactic| rintro $(<-`(rcasesPat| ($p))):rcasesPat<;>$z)) (<-`(tactic| rintro $w:rcasesPat))))))
  `(tactic| first $[| $r:tactic]*)
def qqL (a:Array Syntax):MacroM (TSyntax `tactic):=do
  if a.size<2 then Macro.throwUnsupported
  let f:=fun b=>`(rcasesPat| ($(⟨mkNode ``rcasesPatLo #[mkNode ``rcasesPatMed #[mkNullNode (mkSepArray b (mkAtom "|"))],mkNullNode]⟩)))
  let h:=hash (<-Macro.addMacroScope `q)
  let x:=mkIdent (.mkSimple s!"x{h}")
  let y:=mkIdent (.mkSimple s!"y{h}")
  `(tactic| (refine qqO ?$x ?$y;(case' $y:ident=>rintro $(<-f (a.extract 1)):rcasesPat);case' $x:ident=>rintro $(<-f #[a[0]!]):rcasesPat))
def qqS (e:Array Term) (f:Term->MacroM (TSyntax `tactic)):MacroM (TSyntax `tactic):=do
 let n:=e.size
 if n<3 then Macro.throwUnsupported
 let t:=fun n a=>Syntax.mkApp (mkIdent (.mkSimple n)) a
 let z:=fun (b:Array Term)=>if b.size=1 then pure b[0]! else `(⟨$b,*⟩)
 let mut r:=#[]
 for j in [1:n+1] do
  let k:=n-j
  let b:=e.extract k n
  let mut s:=#[]
  for m in [5,3] do
   if m<=j then s:=s.push (t s!"qqC{m}" ((b.extract 0 (m-1)).push (<-z (b.extract (m-1) j))))
  if k>0 then s:=s.push (<-z b)
  for x in s do
   let mut x:=x
   let mut i:=k
   for m in [1,2,4,4,4] do
    if m<=i&&(m>2||i%(2*m)>=m) then
     x:=t s!"qqI{m}" ((e.extract (i-m) i).push x)
     i:=i-m
   if i=0 then r:=r.push (<-f x)
 `(tactic| first $[| $r:tactic]*)
end
open Lean Parser.Tactic in
local macro_rules
 | `(tactic| refine⟨$e,*⟩)=>qqS e fun t=>`(tactic| refine $t)
 | `(tactic| exact⟨$e,*⟩)=>qqS e fun t=>`(tactic| exact $t)
 | `(tactic| rintro $p:rcasesPat) => do
  match p with
  | `(rcasesPat| ⟨$e,*⟩)=>qqF e
  | `(rcasesPat| ($p))=>
   let c:=p.raw[0][0].getSepArgs
   if c.size<2 then `(tactic| rintro $(⟨c[0]!⟩):rcasesPat) else qqL c
  | _=>Macro.throwUnsupported
 | `(tactic| obtain⟨$e,*⟩:=$h:term) => do `(tactic| (refine (?f:_->_) $h;(try clear $h);$(<-qqF e)))
 | `(tactic| rcases $t:elimTarget with $p:rcasesPatLo) => do
  let h:Term:=⟨t.raw[1]⟩
  `(tactic| (refine (?f:_->_) $h;(try clear $h);$(<-qqL p.raw[0][0].getSepArgs)))
local macro_rules | `(mutual $c* end)=>return Lean.mkNullNode (c.map (·.raw.rewriteBottomUp fun|.atom _ v=>.atom .none v|.ident _ r n p=>.ident .none r n p|s=>s))
namespace Lake
mutual
open PySem PySem.Spec PyProof.Rows
noncomputable abbrev Key:=Sum Int Str
noncomputable def B_:Key->Value->Bool
 | .inl k,v=>Value.isInt k v
 | .inr x,v=>Value.isStrOf x v
noncomputable def WG (w:World):Key->Int
 | .inl k=>hashInt k
 | .inr x=>hashStr w x
theorem dj:∀{k:Key} {v:Value},B_ k v=true->(∃i t,k=Sum.inl i/\v=Value.int i t)\/(∃x t,k=Sum.inr x/\v=Value.str x t)
 | .inl i,v,h=>by
  obtain⟨t,e⟩:=Value.isInt_shape h;exact .inl ⟨i,t,rfl,e⟩
 | .inr x,v,h=>by
  obtain⟨t,e⟩:=Value.isStrOf_shape h;exact .inr ⟨x,t,rfl,e⟩
theorem KG (i:Int) (t:Tok):B_ (.inl i) (.int i t)=true:=by simp[B_,Value.isInt]
theorem KD (x:Str) (t:Tok):B_ (.inr x) (.str x t)=true:=by simp[B_,Value.isStrOf]
theorem SA (a b:Int):decide ((Sum.inl a:Key)=Sum.inl b)=(a == b):=by
 lia
theorem Sx (a b:Str):decide ((Sum.inr a:Key)=Sum.inr b)=decide (a=b):=by
 simp_all
theorem Sz (a:Int) (b:Str):decide ((Sum.inl a:Key)=Sum.inr b)=false:=cz (fun q=>nomatch q)
theorem Sy (a:Str) (b:Int):decide ((Sum.inr a:Key)=Sum.inl b)=false:=cz (fun q=>nomatch q)
noncomputable def fG (prog:Program) (w:World):PySem.KeyKind prog w Key where
 is:=B_
 hash:=WG w
 inj:=fun v a b ha z=>by
  rcases dj ha with⟨i,t,rfl,rfl⟩|⟨x,t,rfl,rfl⟩
  ·rcases dj z with⟨j,u,rfl,e⟩|⟨y,u,rfl,e⟩
   ·injection e with e1 _;rw[e1]
   ·exact nomatch e
  ·rcases dj z with⟨j,u,rfl,e⟩|⟨y,u,rfl,e⟩
   ·exact nomatch e
   ·injection e with e1 _;rw[e1]
 byValue:=fun k v h=>by
  rcases dj h with⟨i,t,rfl,rfl⟩|⟨x,t,rfl,rfl⟩<;>rfl
 pyHash:=fun q h=>by
  rcases dj q with⟨i,t,rfl,rfl⟩|⟨x,t,rfl,rfl⟩
  ·exact wpAny_pyHash_int h
  ·exact wpAny_pyHash_str h
 eqBool:=fun C q h=>by
  rcases dj C with⟨i,t,rfl,rfl⟩|⟨x,t,rfl,rfl⟩
  ·rcases dj q with⟨j,u,rfl,rfl⟩|⟨y,u,rfl,rfl⟩
   ·rw[SA] at h;exact wpAny_eqBool_int h
   ·rw[Sz] at h;exact SeqAt.EqAt.int_str i t y u _ _ _ _ h
  ·rcases dj q with⟨j,u,rfl,rfl⟩|⟨y,u,rfl,rfl⟩
   ·rw[Sy] at h;exact SeqAt.EqAt.str_int x t j u _ _ _ _ h
   ·rw[Sx] at h;exact wpAny_eqBool_str h
 «strs» :=fun k x t v h=>by
  rcases dj h with⟨i,u,rfl,e⟩|⟨y,u,rfl,e⟩
  ·exact nomatch e
  ·injection e with e1 _;subst e1;cases v<;>rfl
theorem Fe (prog:Program) (w:World) (i:Int) (t:Tok):(fG prog w).is (.inl i) (.int i t)=true:=KG i t
theorem Fd (prog:Program) (w:World) (x:Str) (t:Tok):(fG prog w).is (.inr x) (.str x t)=true:=KD x t
inductive V where
 |non|bl (b:Bool)|int (i:Int)|str (x:Str)|byt (b:Array UInt8)|flt (b:UInt64)|ref (a:Addr)|ty (n:String)
 deriving DecidableEq
def RelV:V->Value->Prop
 | .non,u=>u=Value.none
 | .bl b,u=>u=Value.bool b
 | .int i,u=> ∃t,u=Value.int i t
 | .str x,u=> ∃t,u=Value.str x t
 | .byt b,u=> ∃t,u=Value.bytes b t
 | .flt b,u=> ∃t,u=Value.float b t
 | .ref a,u=>u=Value.ref a
 | .ty n,u=>u=Value.type n
abbrev Vals:List V->List Value->Prop:=Paired RelV
theorem Vals.length (r:Vals xs us):xs.length=us.length:=C2 r
theorem Vals.get:∀{xs:List V} {us:List Value} {i:Nat} {x:V},Vals xs us->xs[i]?=some x->∃u,us[i]?=some u/\RelV x u
 |_,_,_,_,.nil,e=>by trivial
 |_,_,0,_,.cons r _,e=>by simp_all
 |_,_,i+1,x,.cons _ t,e=>by
  obtain⟨u,h1,q⟩:=Vals.get t (‹_›);exact⟨u,‹_›,q⟩
theorem Vals.set (r:RelV x u):∀{xs:List V} {us:List Value} (i:Nat),Vals xs us->Vals (xs.set i x) (us.set i u)
 |_,_,_,.nil=> .nil
 |_,_,0,.cons _ t=> .cons r t
 |_,_,i+1,.cons q t=> .cons q (Vals.set r i t)
theorem Vals.append:∀{xs i:List V} {us ws:List Value},Vals xs us->Vals i ws->Vals (xs++i) (us++ws)
 |_,_,_,_,.nil,s=>s
 |_,_,_,_,.cons r t,s=> .cons r (Vals.append t s)
theorem Vals.take:∀{xs:List V} {us:List Value} (n:Nat),Vals xs us->Vals (xs.take n) (us.take n)
 |_,_,0,_=> .nil
 |_,_,_+1,.nil=> .nil
 |_,_,n+1,.cons r t=> .cons r (Vals.take n t)
theorem Vals.drop:∀{xs:List V} {us:List Value} (n:Nat),Vals xs us->Vals (xs.drop n) (us.drop n)
 |_,_,0,r=>r
 |_,_,_+1,.nil=> .nil
 |_,_,n+1,.cons _ t=>Vals.drop n t
def qA:Option V->Option Value->Prop
 |some v,some u=>RelV v u
 |none,none=>True
 |_,_=>False
def KV {κ:Type}:List (κ×V)->List (κ×Value)->Prop:=Paired fun(p:κ×V) (q:κ×Value)=>p.1=q.1/\RelV p.2 q.2
noncomputable def kV:Key->V
 | .inl i=> .int i
 | .inr x=> .str x
inductive HO where
 |lst (xs:List V)
 |tup (xs:List V)
 |dK (kvs:List (Key×V))|dT (kvs:List (List Key×V))
 |set (S:Int->Bool) (n:Nat)
 |ins (C dx:Addr) (fs:List (Str×V))
 |own (x:Addr)
 |xd (fs:List (Str×V))
 |met (f x:Addr)
 |rng (lo hi:Int)
 |frz (o:Obj) (u:HO)
 |tbl (ps:Array Value)
 |ext (φ:Heap->Prop)
noncomputable abbrev Hp:=Addr->Option HO
set_option genInjectivity false
noncomputable def upd (H:Hp) (a:Addr) (o:HO):Hp:=fun b=>if b=a then some o else H b
theorem ag:upd H a o a=some o:=by unfold upd;rw[bc rfl]
theorem af (h:b≠a):upd H a o b=H b:=by unfold upd;rw[a5 h]
theorem OG:upd (upd H a o) a u=upd H a u:=by
 funext b;unfold upd;split<;>rfl
theorem bL {H:Hp} (h:H a=some o) (i:H b=some u) (d:o≠u):a≠b:=by
 lia
theorem ar {H:Hp} (h:H a=some o) (i:H b=none):a≠b:=by
 lia
end
section
variable (P:Program) (w:World)
def dJ (H:Hp) (h:Heap) (a:Addr):HO->Prop
 | .lst xs=>xs.length<=sizeLine/\∃(i:List Value) (n:Nat),Vals xs i/\h.get? a=some {cls:= .type "list",data:= .seq i.toArray n}
 | .tup xs=>xs.length<=sizeLine/\∃i:List Value,Vals xs i/\IsTup h a i.toArray
 | .dK y=>y.length<=sizeLine/\(a == sysModules)=false/\∃vs,KV y vs/\h.DictOf (fG P w) a vs
 |
   .dT y=>y.length<=sizeLine/\(a == sysModules)=false/\∃xs:List (List Key×Addr×Value),
   Paired (fun(p:List Key×V) (q:List Key×Addr×Value)=>p.1=q.1/\H q.2.1=some (.tup (p.1.map kV))/\RelV p.2 q.2.2) y xs/\
   ∃o es O,h.get? a=some o/\o.ExactDict/\o.data = .dict es O/\es.toList=xs.map (entryOfKey (tupleKind (fG P w)))/\(xs.map (·.1)).Nodup
 | .set S n=>h.SetOf (intKind P w) a S n
 |
   .ins C dx fs=>H dx=some (.own a)/\fs.length<=1000/\dx≠a/\h.get? a=some (W.instObj C dx)/\
   ∃z,h.Ns1 dx z/\(∀f,qA (fs.lookup f) (z f))/\PySem.Within z (fs.map (·.1))
 | .own _=> ∃o,h.get? a=some o
 | .xd fs=> ∃z,h.Ns1 a z/\∀f,qA (fs.lookup f) (z f)
 | .rng lo G=> ∃t u v,h.get? a=some {cls:= .type "range",data:= .fields #[.int lo t,.int G u,.int 1 v]}
 | .frz o u=>h.get? a=some o/\dJ H h a u
 | .tbl I=>h.get? a=some {cls:= .none,data:= .fields I}
 | .met f x=>h.get? a=some (W.methodObj (.ref f) (.ref x))
 | .ext E=>E h/\(∃o,h.get? a=some o)/\∀h1 F:Heap,E h1->(∀o,h1.get? a=some o->F.get? a=some o)->E F
def va (H:Hp) (h:Heap):Prop:= ∀a o,H a=some o->dJ P w H h a o
end
mutual
theorem dJ.lt (x:dJ P w H h a o):a<h.objs.size:=by
 cases o with
 |lst xs=>obtain⟨_,_,_,_,e⟩:=x;exact eM e
 |tup xs=>obtain⟨_,_,_,p⟩:=x;exact p.lt
 |dK i=>obtain⟨_,_,_,_,o,_,_,e,_⟩:=x;exact eM e
 |dT i=>obtain⟨_,_,_,_,o,_,_,e,_⟩:=x;exact eM e
 |set S n=>obtain⟨o,_,_,_,e,_⟩:=x;exact eM e
 |ins C dx fs=>obtain⟨_,_,_,e,_⟩:=x;exact eM e
 |own y=>obtain⟨_,e⟩:=x;exact eM e
 |xd fs=>obtain⟨_,⟨_,_,_,e,_⟩,_⟩:=x;exact eM e
 |rng lo q=>obtain⟨_,_,_,e⟩:=x;exact eM e
 |frz ob u=>obtain⟨e,_⟩:=x;exact eM e
 |tbl v=>exact eM ((x))
 |met f y=>exact eM ((x))
 |ext z=>obtain⟨_,⟨_,e⟩,_⟩:=x;exact eM e
theorem Paired.Si:∀{l₁:List α} {l₂:List β},Paired F l₁ l₂->(∀a b,F a b->G a b)->Paired G l₁ l₂
 |_,_,.nil,_=> .nil
 |_,_,.cons r t,f=> .cons (f _ _ r) (Paired.Si t f)
theorem dJ.stay (x:dJ P w H h a o) (k:∀b u,(b=a\/H b=some (.own a))->h.get? b=some u->h'.get? b=some u) (I:∀b,H b=some (.own a)->H' b=some (.own a)) (ht:∀b xs,H b=some (.tup xs)->H' b=some (.tup xs)):dJ P w H' h' a o:=by
 induction o with
 |lst xs=>obtain⟨z,E,n,r,e⟩:=x;exact⟨z,E,n,r,k _ _ (.inl rfl) e⟩
 |tup xs=>obtain⟨z,E,r,ob,e,c⟩:=x;exact⟨z,E,r,ob,k _ _ (.inl rfl) e,c⟩
 |dK G=>obtain⟨z,y,vs,r,ob,es,i,e,c⟩:=x;exact⟨z,y,vs,r,ob,es,i,k _ _ (.inl rfl) e,c⟩
 |dT G=>
  obtain⟨z,y,xs,r,ob,es,i,e,c⟩:=x;exact⟨z,y,xs,Paired.Si r fun p q z=>⟨z.1,ht _ _ z.2.1,z.2.2⟩,ob,es,i,k _ _ (.inl rfl) e,c⟩
 |set S n=>obtain⟨ob,es,i,t,e,c⟩:=x;exact⟨ob,es,i,t,k _ _ (.inl rfl) e,c⟩
 |ins C dx fs=>
  obtain⟨d,z,ne,e,F,⟨od,es,i,e2,c⟩,r⟩:=x;exact⟨I _ d,z,ne,k _ _ (.inl rfl) e,F,⟨od,es,i,k _ _ (.inr d) e2,c⟩,r⟩
 |own y=>obtain⟨ob,e⟩:=x;exact⟨ob,k _ _ (.inl rfl) e⟩
 |xd fs=>obtain⟨F,⟨od,es,i,e,c⟩,r⟩:=x;exact⟨F,⟨od,es,i,k _ _ (.inl rfl) e,c⟩,r⟩
 |rng lo Q=>obtain⟨t,u,v,e⟩:=x;exact⟨t,u,v,k _ _ (.inl rfl) e⟩
 |frz ob u O=>obtain⟨e,q⟩:=x;exact⟨k _ _ (.inl rfl) e,O q⟩
 |tbl U=>
  have e:=x;exact k a _ (.inl rfl) e
 |met f y=>
  have e:=x;exact k a _ (.inl rfl) e
 |ext W=>obtain⟨p,⟨o,e⟩,st⟩:=x;exact⟨st _ _ p fun o q=>k _ _ (.inl rfl) q,⟨o,k _ _ (.inl rfl) e⟩,st⟩
theorem va.lt (x:va P w H h) (e:H a=some o):a<h.objs.size:=(x a o e).lt
theorem va.fresh (x:va P w H h) (e:h.objs.size<=a):H a=none:=by
 cases q:H a with
 |none=>rfl
 |some u=>exact absurd (fy (x.lt q) e) (X1 _)
theorem va.kept (x:va P w H h) (k:∀b u,h.get? b=some u->h'.get? b=some u):va P w H h':=fun a o e=>
 (x a o e).stay (fun b u _ q=>k b u q) (fun _ q=>q) fun _ _ q=>q
theorem va.laid (x:va P w H h) (k:∀b u,h.get? b=some u->h'.get? b=some u) (hp:h.objs.size<=a) (new:dJ P w (upd H a o) h' a o):va P w (upd H a o) h':=fun b u e=>by
 have hn:=x.fresh hp;by_cases i:b=a
 ·subst i;rw[ag] at e;cases e;exact new
 ·rw[af i] at e;exact(x b u e).stay (fun c v _ q=>k c v q) (fun c q=>by rw[af (ar q hn)];exact q) fun c xs q=>by rw[af (ar q hn)];exact q
def Rd (H:Hp) (a:Addr) (u:HO):Prop:=H a=some u\/∃o,H a=some (.frz o u)
theorem Rd.ok (r:Rd H a u) (x:va P w H h):dJ P w H h a u:=by
 rcases r with r|⟨o,r⟩
 ·exact x a u r
 ·obtain⟨_,q⟩:=x a _ r;exact q
def VX:Option HO->Prop
 |some (.lst _)=>True
 |some (.dK _)=>True
 |some (.dT _)=>True
 |some (.set _ _)=>True
 |some (.ins _ _ _)=>True
 |some (.ext _)=>True
 |_=>False
theorem va.write (ok:va P w H h) (E:VX (H x)) (he:e=x\/H e=some (.own x)) (k:∀b u,b≠e->h.get? b=some u->h'.get? b=some u) (F:∃u,h'.get? e=some u) (new:dJ P w (upd H x o') h' x o'):va P w (upd H x o') h':=fun b u q=>by
 have i:∀c y,H c=some (.own y)->c≠x:=fun c y r z=>by subst z;rw[r] at E;exact E
 have C:∀c xs,H c=some (.tup xs)->c≠x:=fun c xs r z=>by subst z;rw[r] at E;exact E
 by_cases G:b=x
 ·subst G;rw[ag] at q;cases q;exact new
 ·rw[af G] at q;by_cases O:b=e
  ·have I:H b=some (.own x):=by
    simp_all
   rw[q] at I;cases I;obtain⟨v,Q⟩:=F;exact⟨v,by simp_all⟩
  ·refine(ok b u q).stay (fun c v hc r=>k c v ?_ r) (fun c r=>by rw[af (i c b r)];exact r) fun c xs r=>by rw[af (C c xs r)];exact r
   rcases hc with rfl|hc
   ·trivial
   ·grind
structure Un (fs ex:List Addr) (H H':Hp) (h h':Heap):Prop where
 keep:∀b o,h.get? b=some o->H b=none->b ∉ fs->b ∉ ex->h'.get? b=some o
 slot:∀b o,h.get? b=some o->H b=none->b∈fs->b ∉ ex->∃sl,h'.get? b=some {o with slots:=sl}
 free:∀b o,h.get? b=some o->H b=none->b ∉ ex->H' b=none
 there:∀b o,h.get? b=some o->b ∉ ex->∃o',h'.get? b=some o'
 tups:∀b xs,H b=some (.tup xs)->H' b=some (.tup xs)
 frzs:∀b o u,H b=some (.frz o u)->H' b=some (.frz o u)
 tbls:∀b ps,H b=some (.tbl ps)->∃more,H' b=some (.tbl (ps++more))
theorem Un.any {ob:Obj} (u:Un fs ex H H1 h h1) (q:h.get? b=some ob) (n:H b=none) (hx:b ∉ ex):∃sl,h1.get? b=some {ob with slots:=sl}:=by
 by_cases i:b∈fs
 ·exact u.slot b ob q n i hx
 ·exact⟨_,u.keep b ob q n i hx⟩
theorem Un.kept (k:∀b u,h.get? b=some u->h'.get? b=some u):Un fs ex H H h h':=
 ⟨fun b ob q _ _ _=>k b ob q,fun b ob q _ _ _=>⟨_,k b ob q⟩,fun _ _ _ n _=>n,fun b ob q _=>⟨ob,k b ob q⟩,fun _ _ q=>q,fun _ _ _ q=>q,fun _ i q=>⟨#[],‹_›⟩⟩
theorem Un.refl:Un fs ex H H h h:=Un.kept fun _ _ q=>q
theorem Un.laid (k:∀b u,h.get? b=some u->h'.get? b=some u) (hp:h.objs.size<=a) (hn:H a=none):Un fs ex H (upd H a o) h h' where
 keep:=fun b u q _ _ _=>k b u q
 slot:=fun b u q _ _ _=>⟨_,k b u q⟩
 free:=fun b u q n _=>by rw[af (ib (fy (eM q) hp))];exact n
 there:=fun b u q _=>⟨u,k b u q⟩
 tups:=fun b xs q=>by rw[af (ar q hn)];exact q
 frzs:=fun b u xs q=>by rw[af (ar q hn)];exact q
 tbls:=fun b i q=>⟨#[],by rw[af (ar q hn),q];simp⟩
theorem Un.write (v:VX (H x)) (he:e=x\/H e=some (.own x)) (k:∀b u,b≠e->h.get? b=some u->h'.get? b=some u) (C:∃u,h'.get? e=some u):Un fs ex H (upd H x o) h h':=by
 have hx:∀b,H b=none->b≠x:=fun b n z=>by subst z;rw[n] at v;exact v
 have y:∀b,H b=none->b≠e:=fun b n z=>by
  simp_all
 have hm:∀b u,H b=some u->¬VX (some u)->b≠x:=fun b u q nm z=>by simp_all
 refine⟨fun b u q n _ _=>k b u (y b n) q,fun b u q n _ _=>⟨_,k b u (y b n) q⟩,fun b u q n _=>by rw[af (hx b n)];exact n,fun b u q _=>?_,
  fun b xs q=>by rw[af (hm b _ q fun z=>z)];exact q,fun b u xs q=>by rw[af (hm b _ q fun z=>z)];exact q,fun b E q=>⟨#[],by rw[af (hm b _ q fun z=>z),q];simp⟩⟩
 by_cases i:b=e
 ·simp_all
 ·exact⟨u,k b u i q⟩
noncomputable def trk (h:Heap) (H:Hp):List Addr:=(List.range h.objs.size).filter fun a=>(H a).isSome
noncomputable def KR (h:Heap) (H:Hp):Heap:=W.hideAll h (trk h H)
theorem KQ (h:Heap) (H:Hp):(KR h H).objs.size=h.objs.size:=W.hideAll_size _ _
theorem Nl (e:h.get? b=some o) (n:H b=none):(KR h H).get? b=some o:=
 W.hideAll_get _ e fun hm=>by
  have q:=(R1.mp hm).2;rw[n] at q;simp at q
theorem PD (e:(KR h H).get? b=some o):h.get? b=some o/\H b=none:=by
 have i:=W.of_hideAll _ e;refine⟨i,?_⟩;cases q:H b with
 |none=>rfl
 |some x=>
  have hm:b∈trk h H:=R1.mpr ⟨r4.mpr (eM i),by simp[q]⟩;have z:(KR h H).get? b=none:=W.hideAll_none _ hm;rw[z] at e;cases e
structure Mod (K:W.Frag) (mg:Str->Option Value) (base:Heap):Prop where
 kin:K.In base
 glob:base.Ns mainGlobals mg
 blt:∃mb,base.Ns builtinsNs mb/\∀x:Str,x≠ "__name__" ->mb x=bootBuiltins x
 nolimit:base.NoLimit
structure Cx where
 prog:Program
 w:World
 K:W.Frag
 mg:Str->Option Value
 base:Heap
 A:Around
 N:List Str
 s₀:Shared
 H₀:Hp
 env:Env
 outer:List Env
 stack:List Env
 ex:List Addr
 fn:Str->Bool
 calm:Bool
 pn:List (Addr×Obj)
 xe:Value->Shared->Prop
noncomputable def frs (l:List Env):List Addr:=l.filterMap (·.frame)
noncomputable abbrev Cx.fs (X:Cx):List Addr:=frs X.outer
def Wf (sc:Scope) (x:Str):Prop:=sc.names.lookup x=some .local\/sc.names.lookup x=some .cell\/sc.names.lookup x=some .free
def Loc (sc:Scope) (x:Str):Prop:=sc.names.lookup x=some .local\/sc.names.lookup x=some .cell
def Look (env:Env) (h:Heap) (m:Str->Option Value) (x:Str) (u:Value):Prop:=
 (env.kindOf x=some .local/\m x=some u)\/((env.kindOf x=some .cell\/env.kindOf x=some .free)/\∃c,env.cells.lookup x=some c/\h.IsCell c (some u))
structure Cx.Ok (X:Cx):Prop where
 mod:Mod X.K X.mg X.base
 kind:X.env.scope.kind = .function
 glob:X.env.globals=mainGlobals
 blt:X.env.builtins=builtinsNs
 above:X.s₀.heap.objs.size<=X.env.locals
 inj:∀x y c,X.env.cells.lookup x=some c->X.env.cells.lookup y=some c->x=y
 has:∀x,(X.env.kindOf x=some .cell\/X.env.kindOf x=some .free)->∃c,X.env.cells.lookup x=some c
 cab:∀x c,X.fn x=true->X.env.cells.lookup x=some c->X.s₀.heap.objs.size<=c
 hd:X.calm=true->X.A.handled=none
 frames:X.A.frames=some X.stack
 stk:X.stack=X.outer\/(X.stack=X.env::X.outer/\X.env.frame=some X.env.locals)
 exf:∀b∈X.ex,b≠X.env.locals/\∀x c,X.env.cells.lookup x=some c->c≠b
 bs:∀b o,X.base.get? b=some o->X.s₀.heap.get? b=some o/\X.H₀ b=none
 bsz:X.base.objs.size<=X.s₀.heap.objs.size
 noex:∀b o,X.base.get? b=some o->b ∉ X.ex
 exfs:∀b∈X.ex,b ∉ X.fs
 funs:X.s₀.heap.FunFrames X.base X.outer
 frf:∀b∈X.fs,X.H₀ b=none
structure Inv (X:Cx) (pins:List (Addr×Obj)) (σ:List (Option V)) (H:Hp) (s:Shared):Prop where
 ok:X.Ok
 os:s.os=X.s₀.os
 bare:AllBare s.gens
 base:Un X.fs X.ex X.H₀ H X.s₀.heap s.heap
 loc:∃m,s.heap.Ns X.env.locals m/\∀(i:Nat) (x:Str) (v:V),X.N[i]?=some x->σ[i]?=some (some v)->Wf X.env.scope x->∃u,RelV v u/\Look X.env s.heap m x u
 cell:∀x c,X.env.cells.lookup x=some c->∃v,s.heap.IsCell c v
 free:H X.env.locals=none
 k9:∀x c,X.env.cells.lookup x=some c->H c=none
 pin:∀p∈X.pn++pins,s.heap.get? p.1=some p.2/\H p.1=none/\p.1≠X.env.locals/\p.1 ∉ X.fs/\∀v,p.2.data≠ .cell v
 hok:va X.prog X.w H s.heap
 len:σ.length=X.N.length
theorem Cx.Ok.nofr {X:Cx} (ok:X.Ok) (e:X.base.get? b=some o):b ∉ X.fs:=fun i=>by
 have:=(ok.funs.mem i).1;rw[e] at this;cases this
theorem Inv.bs (I:Inv X pins σ H s):∀b o,X.base.get? b=some o->s.heap.get? b=some o/\H b=none:=fun b o e=>
 ⟨I.base.keep b o (I.ok.bs b o e).1 (I.ok.bs b o e).2 (I.ok.nofr e) (I.ok.noex b o e),I.base.free b o (I.ok.bs b o e).1 (I.ok.bs b o e).2 (I.ok.noex b o e)⟩
theorem Inv.bk (I:Inv X pins σ H s):∀b o,X.base.get? b=some o->s.heap.get? b=some o:=fun b o e=>(I.bs b o e).1
theorem Inv.mod (I:Inv X pins σ H s):Mod X.K X.mg X.base:=I.ok.mod
theorem Inv.lV (I:Inv X pins σ H s):X.K.In s.heap:=I.ok.mod.kin.keeps I.bk
theorem Inv.lt (I:Inv X pins σ H s):X.env.locals<s.heap.objs.size:=let ⟨_,hn,_⟩:=I.loc;hn.lt
theorem Inv.sz (I:Inv X pins σ H s):X.s₀.heap.objs.size<=s.heap.objs.size:=fv I.ok.above (Nat.le_of_lt I.lt)
theorem Inv.nofs (I:Inv X pins σ H s) (h:s.heap.objs.size<=a):a ∉ X.fs:=fun q=>by
 obtain⟨_,o,i,_⟩:=I.ok.funs.mem q;exact absurd (fy (eM i) (fv I.sz h)) (X1 _)
theorem Inv.cne (I:Inv X pins σ H s):∀x c,X.env.cells.lookup x=some c->c≠X.env.locals:=fun x c e z=>by
 obtain⟨v,o,u,hd⟩:=I.cell x c e;obtain⟨m,⟨y,es,C,i,q,_⟩,_⟩:=I.loc;rw[z,i] at u;cases u;rw[q] at hd;cases hd
theorem Inv.funs (I:Inv X pins σ H s):s.heap.FunFrames X.base X.outer:=by
 have all:∀l,(∀b∈frs l,b∈X.fs)->X.s₀.heap.FunFrames X.base l->s.heap.FunFrames X.base l:=by
  intro l
  induction l with
  |nil=>intro _ _;trivial
  |cons env r x=>
   intro hs hl;obtain⟨hk,⟨L,o,hf,hn,v,hd⟩,u⟩:=hl;have i:=hs L (by unfold frs;rw[List.filterMap_cons,hf];exact sm);obtain⟨sl,e⟩:=I.base.slot L o v (I.ok.frf L i) i fun z=>I.ok.exfs L z i;exact⟨hk,⟨L,_,hf,hn,e,hd⟩,x (fun b q=>hs b (by unfold frs;rw[List.filterMap_cons,hf];exact hQ _ q)) u⟩
 exact all _ (fun _ q=>q) I.ok.funs
theorem Inv.stack (I:Inv X pins σ H s):s.heap.FunFrames X.base X.stack:=by
 rcases I.ok.stk with e|⟨e,hf⟩
 ·rw[e];exact I.funs
 ·rw[e];obtain⟨m,hn,_⟩:=I.loc;refine .cons (by rw[I.ok.kind];decide) hf hn ?_ I.funs;exact XU (fv I.ok.bsz I.ok.above)
theorem Inv.zW (I:Inv X pins σ H s):∀b∈frs X.stack,b∈X.env.locals::X.fs:=fun b i=>by
 rcases I.ok.stk with e|⟨e,hf⟩
 ·simp_all
 ·rw[e] at i;unfold frs at i;rw[List.filterMap_cons,hf] at i;exact i
theorem Inv.zB (I:Inv X pins σ H s):∀b∈frs X.stack,H b=none:=fun b i=>by
 rcases cR.mp (I.zW b i) with e|i
 ·rw[e];exact I.free
 ·obtain⟨_,o,q,_⟩:=I.ok.funs.mem i;exact I.base.free b o q (I.ok.frf b i) fun z=>I.ok.exfs b z i
theorem Inv.step {ch:List Addr} (I:Inv X pins σ H s) (C:∀b∈ch,(b∈X.ex\/X.s₀.heap.objs.size<=b)/\b≠X.env.locals/\(∀x c,X.env.cells.lookup x=some c->c≠b)/\∀p∈X.pn++pins,p.1≠b) (keep:∀b o,b≠X.env.locals->b ∉ X.fs->b ∉ ch->s.heap.get? b=some o->H b=none->G.get? b=some o) (slot:∀b o,b≠X.env.locals->b∈X.fs->b ∉ ch->s.heap.get? b=some o->H b=none->∃sl,G.get? b=some {o with slots:=sl}) (free:∀b o,b ∉ ch->s.heap.get? b=some o->H b=none->H' b=none) (there:∀b o,b ∉ ch->s.heap.get? b=some o->∃P,G.get? b=some P) (tups:∀b xs,H b=some (.tup xs)->H' b=some (.tup xs)) (frzs:∀b o u,H b=some (.frz o u)->H' b=some (.frz o u)) (tbls:∀b U,H b=some (.tbl U)->∃more,H' b=some (.tbl (U++more))) (ns:∀m,s.heap.Ns X.env.locals m->G.Ns X.env.locals m) (hok:va X.prog X.w H' G) (hg:AllBare Z):
  Inv X pins σ H' {s with heap:=G,gens:=Z,drawn:=d',toks:=t'}:=by
 have Q:∀b o,X.s₀.heap.get? b=some o->b≠X.env.locals:=fun b o e=>ib (fy (eM e) I.ok.above);have E:∀b o,X.s₀.heap.get? b=some o->b ∉ X.ex->b ∉ ch:=fun b o e hx F=>by
  rcases(C b F).1 with z|z
  ·trivial
  ·exact absurd (fy (eM e) z) (X1 _)
 have cellK:∀x c,X.env.cells.lookup x=some c->∀v,s.heap.IsCell c v->G.IsCell c v:=fun x c e v ⟨o,O,hd⟩=>by
  have y:=fun z=>(C c z).2.2.1 x c e rfl;by_cases hc:c∈X.fs
  ·obtain⟨sl,q⟩:=slot c o (I.cne x c e) hc y O (I.k9 x c e);exact⟨_,q,hd⟩
  ·exact⟨o,keep c o (I.cne x c e) hc y O (I.k9 x c e),hd⟩
 refine⟨I.ok,I.os,hg,⟨fun b o e n F hx=>?_,fun b o e n F hx=>?_,fun b o e n hx=>?_,fun b o e hx=>?_,fun b xs e=>tups b xs (I.base.tups b xs e),fun b o xs e=>frzs b o xs (I.base.frzs b o xs e),fun b U e=>?_⟩,?_,fun x c e=>?_,?_,fun x c e=>?_,fun p hp=>?_,hok,I.len⟩
 ·exact keep b o (Q b o e) F (E b o e hx) (I.base.keep b o e n F hx) (I.base.free b o e n hx)
 ·obtain⟨sl,e1⟩:=I.base.slot b o e n F hx;obtain⟨W,e2⟩:=slot b _ (Q b o e) F (E b o e hx) e1 (I.base.free b o e n hx);exact⟨W,e2⟩
 ·obtain⟨P,e1⟩:=I.base.there b o e hx;exact free b P (E b o e hx) e1 (I.base.free b o e n hx)
 ·obtain⟨P,e1⟩:=I.base.there b o e hx;exact there b P (E b o e hx) e1
 ·obtain⟨m1,e1⟩:=I.base.tbls b U e;obtain⟨m2,e2⟩:=tbls b _ e1;exact⟨m1++m2,by simp_all⟩
 ·obtain⟨m,hn,hl⟩:=I.loc;refine⟨m,ns m hn,fun i x v e1 e2 e3=>?_⟩;obtain⟨u,r,l⟩:=hl i x v e1 e2 e3;refine⟨u,r,?_⟩;rcases l with l|⟨k,c,e,z⟩
  ·exact .inl l
  ·exact .inr ⟨k,c,e,cellK x c e _ z⟩
 ·obtain⟨v,z⟩:=I.cell x c e;exact⟨v,cellK x c e v z⟩
 ·obtain⟨m,⟨o,_,_,O,_⟩,_⟩:=I.loc;exact free _ o (fun z=>(C _ z).2.1 rfl) O I.free
 ·obtain⟨v,o,O,hd⟩:=I.cell x c e;exact free c o (fun z=>(C c z).2.2.1 x c e rfl) O (I.k9 x c e)
 ·obtain⟨e,n,ne,Y,d⟩:=I.pin p hp;have y:=fun z=>(C _ z).2.2.2 p hp rfl;exact⟨keep _ _ ne Y y e n,free _ _ y e n,ne,Y,d⟩
theorem Inv.un (I:Inv X pins σ H s) (u:Un X.fs [] H H' s.heap y) (hok:va X.prog X.w H' y):Inv X pins σ H' {s with heap:=y,toks:=t'}:=by
 obtain⟨m,⟨o,es,F,C,r⟩,_⟩:=id I.loc;obtain⟨sl,E⟩:=u.any C I.free (by simp);exact I.step (ch:=[]) (fun _ z=>nomatch z) (fun b o _ x _ e n=>u.keep b o e n x (by simp)) (fun b o _ x _ e n=>u.slot b o e n x (by simp)) (fun b o _ e n=>u.free b o e n (by simp)) (fun b o _ e=>u.there b o e (by simp)) u.tups u.frzs u.tbls (fun m' hm=>by
  obtain⟨G,q,v,i,r'⟩:=hm;rw[C] at i;cases i;exact⟨_,q,v,E,r'⟩) hok I.bare
theorem Inv.call (I:Inv X pins σ H s) (u:Un (frs X.stack) ch H H' s.heap E) (hok:va X.prog X.w H' E) (hg:AllBare G) (q:∀b∈ch,(b∈X.ex\/X.s₀.heap.objs.size<=b)/\b≠X.env.locals/\(∀x c,X.env.cells.lookup x=some c->c≠b)/\∀p∈X.pn++pins,p.1≠b):
  Inv X pins σ H' {s with heap:=E,gens:=G,drawn:=d',toks:=t'}:=by
 obtain⟨m,⟨o,es,P,F,r⟩,_⟩:=id I.loc;obtain⟨sl,y⟩:=u.any F I.free fun z=>(q _ z).2.1 rfl;exact I.step q (fun b o y O hc e n=>u.keep b o e n (fun z=>(cR.mp (I.zW b z)).elim y O) hc) (fun b o _ _ hc e n=>u.any e n hc) (fun b o hc e n=>u.free b o e n hc) (fun b o hc e=>u.there b o e hc) u.tups u.frzs u.tbls (fun m' hm=>by
  obtain⟨Q,v,C,i,r'⟩:=hm;rw[F] at i;cases i;exact⟨_,v,C,y,r'⟩) hok hg
theorem Inv.turned (I:Inv X pins σ H s) (k:∀b o,b≠it->s.heap.get? b=some o->C.get? b=some o) (hn:H it=none) (i:it≠X.env.locals) (h1:it∈X.ex\/X.s₀.heap.objs.size<=it) (F:∀x c,X.env.cells.lookup x=some c->c≠it) (O:∀p∈X.pn++pins,p.1≠it):Inv X pins σ H {s with heap:=C,toks:=t'}:=by
 have y:∀b u,H b=some u->b≠it:=fun b u e z=>by simp_all
 refine I.step (ch:=[it]) (fun b P=>?_) (fun b o _ _ hc e _=>k b o (fun z=>hc (by simp[z])) e) (fun b o _ _ hc e _=>⟨_,k b o (fun z=>hc (by simp[z])) e⟩) (fun _ _ _ _ n=>n)
  (fun b o hc e=>⟨o,k b o (fun z=>hc (by simp[z])) e⟩) (fun _ _ e=>e) (fun _ _ _ e=>e) (fun b Q e=>⟨#[],‹_›⟩) (fun m hm=>?_) (fun b u e=>?_) I.bare
 ·have e:b=it:=by simp_all
  subst e;exact⟨h1,i,F,O⟩
 ·obtain⟨o,es,G,E,r⟩:=hm;exact⟨o,es,G,k _ o (L1 i) E,r⟩
 ·refine(I.hok b u e).stay (fun c v hc q=>k c v ?_ q) (fun _ q=>q) fun _ _ q=>q;rcases hc with z|z
  ·simp_all
  ·simp_all
theorem Inv.tok (I:Inv X pins σ H s) (t:Nat):Inv X pins σ H {s with toks:=t}:=I.un Un.refl I.hok
theorem Inv.kept (I:Inv X pins σ H s) (k:∀b u,s.heap.get? b=some u->i.get? b=some u):Inv X pins σ H {s with heap:=i,toks:=t'}:=I.un (Un.kept k) (I.hok.kept k)
theorem Inv.laid (I:Inv X pins σ H s) (k:∀b u,s.heap.get? b=some u->i.get? b=some u) (hp:s.heap.objs.size<=a) (new:dJ X.prog X.w (upd H a o) i a o):
  Inv X pins σ (upd H a o) {s with heap:=i,toks:=t'}:=I.un (Un.laid k hp (I.hok.fresh hp)) (I.hok.laid k hp new)
theorem Inv.write (I:Inv X pins σ H s) (v:VX (H x)) (he:e=x\/H e=some (.own x)) (k:∀b u,b≠e->s.heap.get? b=some u->q.get? b=some u) (i:∃u,q.get? e=some u) (new:dJ X.prog X.w (upd H x o) q x o):Inv X pins σ (upd H x o) {s with heap:=q,toks:=t'}:=I.un (Un.write v he k i) (I.hok.write v he k i new)
theorem Inv.zJ (I:Inv X pins σ H s) (h:∀p∈pins',s.heap.get? p.1=some p.2/\H p.1=none/\p.1≠X.env.locals/\p.1 ∉ X.fs/\∀v,p.2.data≠ .cell v):Inv X pins' σ H s:=
 ⟨I.ok,I.os,I.bare,I.base,I.loc,I.cell,I.free,I.k9,fun p hp=>(gs.mp hp).elim (fun z=>I.pin p (ez _ z)) (h p),I.hok,I.len⟩
theorem E_ {N:List Str} {j:Nat} (q:N.Nodup) (a:N[i]?=some x) (b:N[j]?=some x):i=j:=by
 obtain⟨h1,e1⟩:=ek.mp a;obtain⟨u,e2⟩:=ek.mp b;exact(List.getElem_inj q).mp (e1.trans e2.symm)
theorem BX (I:Inv X pins σ H s) (hN:X.N.Nodup) (Y:X.N[i]?=some x) (hx:Loc X.env.scope x) (r:RelV v u) (h:∀s',Inv X pins (σ.set i (some v)) H s'->(∃a,Heap.SameBut a s.heap s'.heap/\(a=X.env.locals\/X.env.cells.lookup x=some a))->Q () s') (hf:autoParam (X.fn x=true\/X.env.scope.names.lookup x=some .local) qqw):wpAny M A (storeName X.env x u) Q E s:=by
 obtain⟨m,hn,hl⟩:=id I.loc;have Z:(X.env.scope.kind == .class||(X.env.scope.kind == .module&&X.env.locals != X.env.globals))=false:=by rw[I.ok.kind];rfl
 have C:i<σ.length:=by rw[I.len];exact(ek.mp Y).1
 have cne:=I.cne;have tracked:∀{a:Addr} {U:Heap},(∃o,s.heap.get? a=some o/\H a=none)->Heap.SameBut a _ U->va _ _ H U:=fun{a U} ha hs b ob e=>by
  refine(I.hok b ob e).stay (fun c w' hc q=>(hs.2 c ?_).trans q) (fun _ q=>q) fun _ _ q=>q;rintro rfl;rcases hc with rfl|hc
  ·simp_all
  ·simp_all
 rcases hx with hk|hk
 ·refine wpAny_storeName_local hk hn (fun U hn' hs=>?_) Z;obtain⟨oL,_,_,hoL,_⟩:=id hn;refine h _ ⟨I.ok,I.os,I.bare,⟨fun b o e n G hx=>?_,fun b o e n G hx=>?_,I.base.free,fun b o e hx=>?_,I.base.tups,I.base.frzs,I.base.tbls⟩,⟨_,hn',fun j y v' e1 e2 e3=>?_⟩,fun y c e=>?_,I.free,I.k9,fun p hp=>?_,tracked ⟨oL,hoL,I.free⟩ hs,by simpa using I.len⟩ ⟨_,hs,.inl rfl⟩
  ·exact(hs.2 b (ib (fy (eM e) I.ok.above))).trans (I.base.keep b o e n G hx)
  ·obtain⟨sl,e1⟩:=I.base.slot b o e n G hx;exact⟨sl,(hs.2 b (ib (fy (eM e) I.ok.above))).trans e1⟩
  ·obtain⟨o',e1⟩:=I.base.there b o e hx;exact⟨o',(hs.2 b (ib (fy (eM e) I.ok.above))).trans e1⟩
  ·by_cases F:j=i
   ·subst F;rw[Y] at e1;cases e1;rw[List.getElem?_set_self C] at e2;cases e2;exact⟨u,r,.inl ⟨hk,by simp⟩⟩
   ·rw[List.getElem?_set_ne (L1 F)] at e2;obtain⟨u',r',q⟩:=hl j y v' e1 e2 e3;refine⟨u',r',?_⟩;rcases q with⟨k,e⟩|⟨k,c,e,z⟩
    ·refine .inl ⟨k,?_⟩;have:y≠x:=fun e=>F (E_ hN e1 (e▸Y));simp[this,e]
    ·exact .inr ⟨k,c,e,z.sameBut hs (cne y c e)⟩
  ·obtain⟨w',z⟩:=I.cell y c e;exact⟨w',z.sameBut hs (cne y c e)⟩
  ·obtain⟨e,n,ne,nf,d⟩:=I.pin p hp;exact⟨(hs.2 _ ne).trans e,n,ne,nf,d⟩
 ·have O:X.fn x=true:=by
   simp_all
  obtain⟨c,hc⟩:=I.ok.has x (.inl hk);obtain⟨w',z⟩:=I.cell x c hc;refine wpAny_storeName_cell I.ok.kind hk hc z (fun U P hs=>?_);obtain⟨oc,hoc,hocd⟩:=id z;refine h _ ⟨I.ok,I.os,I.bare,⟨fun b o e n G hx=>?_,fun b o e n G hx=>?_,I.base.free,fun b o e hx=>?_,I.base.tups,I.base.frzs,I.base.tbls⟩,⟨m,hn.sameBut hs (L1 (cne x c hc)),fun j y v' e1 e2 e3=>?_⟩,fun y c' e=>?_,I.free,I.k9,fun p hp=>?_,tracked ⟨oc,hoc,I.k9 x c hc⟩ hs,by simpa using I.len⟩ ⟨c,hs,.inr hc⟩
  ·exact(hs.2 b (ib (fy (eM e) (I.ok.cab x c O hc)))).trans (I.base.keep b o e n G hx)
  ·obtain⟨sl,e1⟩:=I.base.slot b o e n G hx;exact⟨sl,(hs.2 b (ib (fy (eM e) (I.ok.cab x c O hc)))).trans e1⟩
  ·obtain⟨o',e1⟩:=I.base.there b o e hx;exact⟨o',(hs.2 b (ib (fy (eM e) (I.ok.cab x c O hc)))).trans e1⟩
  ·by_cases F:j=i
   ·subst F;rw[Y] at e1;cases e1;rw[List.getElem?_set_self C] at e2;cases e2;exact⟨u,r,.inr ⟨.inl hk,c,hc,P⟩⟩
   ·rw[List.getElem?_set_ne (L1 F)] at e2;obtain⟨u',r',q⟩:=hl j y v' e1 e2 e3;refine⟨u',r',?_⟩;rcases q with q|⟨k,c',e,z'⟩
    ·exact .inl q
    ·refine .inr ⟨k,c',e,z'.sameBut hs ?_⟩;rintro rfl;exact F (E_ hN e1 (I.ok.inj _ _ _ e hc▸Y))
  ·by_cases W:c'=c
   ·subst W;exact⟨_,P⟩
   ·obtain⟨w2,z2⟩:=I.cell y c' e;exact⟨w2,z2.sameBut hs W⟩
  ·obtain⟨e,n,ne,nf,d⟩:=I.pin p hp;refine⟨(hs.2 _ ?_).trans e,n,ne,nf,d⟩;intro q;exact d w' (by simp_all)
theorem EH (I:Inv X pins σ H s) (y:X.N.Nodup) (z:X.N[i]?=some x) (hx:Loc X.env.scope x) (r:RelV v u) (h:∀q,Inv X pins (σ.set i (some v)) H q->Q () q) (hf:autoParam (X.fn x=true\/X.env.scope.names.lookup x=some .local) qqw):wpAny M A (storeName X.env x u) Q E s:=
 BX I y z hx r (fun q C _=>h q C) hf
theorem Inv.call' (I:Inv X pins σ H s) (q:s'.os=s.os) (u:Un (frs X.stack) ch H H' s.heap s'.heap) (hok:va X.prog X.w H' s'.heap) (hg:AllBare s'.gens) (i:∀b∈ch,(b∈X.ex\/X.s₀.heap.objs.size<=b)/\b≠X.env.locals/\(∀x c,X.env.cells.lookup x=some c->c≠b)/\∀p∈X.pn++pins,p.1≠b):Inv X pins σ H' s':=by
 obtain⟨v,y,d',t',z⟩:=s';have e:=q;subst e;exact I.call u hok hg i
noncomputable abbrev XK:=Value->Option Addr->Hp->Prop
noncomputable abbrev St:=List (Option V)
noncomputable abbrev VK:=V->Hp->Prop
noncomputable abbrev TE:=St->Hp->VK->Prop
noncomputable abbrev TT:=St->Hp->(Bool->Hp->Prop)->Prop
noncomputable abbrev TA:=St->Hp->(List V->Hp->Prop)->Prop
structure Ends where
 nx:St->Hp->Prop
 rt:VK
 bk:St->Hp->Prop:=fun _ _=>False
 ct:St->Hp->Prop:=fun _ _=>False
noncomputable abbrev TS:=Ends->St->Hp->Prop
def EP (X:Cx) (i:List (Addr×Obj)) (σ:St) (Q:VK) (u:Value) (q:Shared):Prop:= ∃v H',Inv X i σ H' q/\RelV v u/\Q v H'
def TP (X:Cx) (i:List (Addr×Obj)) (σ:St) (Q:Bool->Hp->Prop) (b:Bool) (q:Shared):Prop:= ∃H',Inv X i σ H' q/\Q b H'
def AP (X:Cx) (i:List (Addr×Obj)) (σ:St) (Q:List V->Hp->Prop) (us:List Value) (q:Shared):Prop:= ∃vs H',Inv X i σ H' q/\Vals vs us/\Q vs H'
def SP (X:Cx) (q:List (Addr×Obj)) (D:Ends) (f:Flow) (x:Shared):Prop:=
 match f with
 | .next=> ∃i H',Inv X q i H' x/\D.nx i H'
 | .brk=> ∃i H',Inv X q i H' x/\D.bk i H'
 | .cont=> ∃i H',Inv X q i H' x/\D.ct i H'
 | .ret u=> ∃v i H',Inv X q i H' x/\RelV v u/\D.rt v H'
def PE (X:Cx) (e:Expr) (t:TE):Prop:=
 ∀(i:List (Addr×Obj)) (s:Shared) (σ:St) (H:Hp) (Q:VK),Inv X i σ H s->t σ H Q->wpAny (model X.prog X.w) X.A (eval e X.env) (EP X i σ Q) X.xe s
def PT (X:Cx) (e:Expr) (t:TT):Prop:=
 ∀(i:List (Addr×Obj)) (s:Shared) (σ:St) (H:Hp) (Q:Bool->Hp->Prop),Inv X i σ H s->t σ H Q->wpAny (model X.prog X.w) X.A (isTrue e X.env (eval e X.env)) (TP X i σ Q) X.xe s
def PW (X:Cx) (e:Expr) (t:TT):Prop:=
 ∀(whole:Sem Value) (i:List (Addr×Obj)) (s:Shared) (σ:St) (H:Hp) (Q:Bool->Hp->Prop),Inv X i σ H s->t σ H Q->wpAny (model X.prog X.w) X.A (isTrue e X.env whole) (TP X i σ Q) X.xe s
theorem PW.pt (h:PW X e t):PT X e t:=h _
def PA (X:Cx) (es:List Expr) (t:TA):Prop:=
 ∀(pos:Pos) (i:List (Addr×Obj)) (s:Shared) (σ:St) (H:Hp) (Q:List V->Hp->Prop),Inv X i σ H s->t σ H Q->wpAny (model X.prog X.w) X.A (spliced (backTo pos (starEach es X.env))) (AP X i σ Q) X.xe s
def PS (X:Cx) (st:Stmt) (t:TS):Prop:=
 ∀(i:List (Addr×Obj)) (s:Shared) (σ:St) (H:Hp) (D:Ends),Inv X i σ H s->t D σ H->wpAny (model X.prog X.w) X.A (exec st X.env) (SP X i D) X.xe s
def zU (X:Cx) (st:List Stmt) (t:TS):Prop:=
 ∀(i:List (Addr×Obj)) (s:Shared) (σ:St) (H:Hp) (D:Ends),Inv X i σ H s->t D σ H->wpAny (model X.prog X.w) X.A (execs st X.env) (SP X i D) X.xe s
theorem thn {i:α->Shared->Prop} (h:wpAny M A t Q E s) (q:∀a s,Q a s->i a s):wpAny M A t i E s:=mj h q fun _ _ x=>x
theorem fL {α β i:Type} {t:Sem α} {F:α->Shared->β->i->Prop} {G:α->Shared->β->i->Prop} {J:α->Shared->β->i->Prop} {Q:α->Shared->Prop} {M:Model} {A:Around} {E:Value->Shared->Prop} {s:Shared} (h:wpAny M A t (fun a s=> ∃x y,F a s x y/\G a s x y/\J a s x y) E s) (k:∀a s x y,F a s x y->G a s x y->J a s x y->Q a s):wpAny M A t Q E s:=thn h fun a s ⟨x,y,f,g,j⟩=>k a s x y f g j
end
section
mutual
variable {X:Cx} {a b:Expr} {pos:Pos} {tA tB':TT} {rest:List Expr}
def zV (i:Nat):TE:=fun σ H Q=>match σ[i]? with
 |some (some v)=>Q v H
 |_=>False
theorem OO (h:zV i σ H Q):∃v,σ[i]?=some (some v)/\Q v H:=by
 unfold zV at h;split at h
 ·exact⟨_,by assumption,h⟩
 ·exact h.elim
def tC (v:V):TE:=fun _ H Q=>Q v H
theorem RT (E:X.N[i]?=some x) (C:Wf X.env.scope x) (hd:autoParam ((x == ("__debug__":Str))=false) qqd) (y:autoParam ((x == ("__classdict__":Str))=false) qqd):PE X (.Name x pos) (zV i):=by
 intro z s σ H Q I h;obtain⟨v,e,h⟩:=OO h;obtain⟨m,hn,hl⟩:=I.loc;obtain⟨u,r,l⟩:=hl i x v E e C;have fin:EP X _ σ Q u s:=⟨v,H,I,r,h⟩;rcases l with⟨hk,hm⟩|⟨hk,c,hc,q⟩
 ·exact wpAny_Name (wpAny_loadName_local I.ok.kind hk hn hm fin) hd
 ·rcases hk with hk|hk
  ·exact wpAny_Name (wpAny_loadName_cell I.ok.kind hk hc q fin) hd
  ·exact wpAny_Name (wpAny_loadName_free I.ok.kind hk hc q fin y) hd
theorem aa {i j pos}:PE X (.Constant (.int i) j pos) (tC (.int i)):=fun _ _ _ H _ I h=>wpAny_Constant_int ⟨.int i,H,I.tok _,⟨_,rfl⟩,h⟩
theorem dg {b j pos}:PE X (.Constant (.bool b) j pos) (tC (.bl b)):=fun _ _ _ H _ I h=>Constant_bool ⟨.bl b,H,I,rfl,h⟩
theorem bW {j pos}:PE X (.Constant .none j pos) (tC .non):=fun _ _ _ H _ I h=>Constant_none ⟨.non,H,I,rfl,h⟩
theorem aU {x j pos}:PE X (.Constant (.str x) j pos) (tC (.str x)):=fun _ _ _ H _ I h=>Calls.Constant_str ⟨.str x,H,I.tok _,⟨_,rfl⟩,h⟩
def Gl (X:Cx) (x:Str):Prop:=X.env.kindOf x=some .globalImplicit
theorem kz (I:Inv X pins σ H s) (hg:Gl X x) (hm:X.mg x=some u) (h:Q u s) (hd:autoParam ((x == ("__debug__":Str))=false) qqd):wpAny (model X.prog X.w) X.A (eval (.Name x pos) X.env) Q E s:=
 Calls.Name_function_global I.ok.kind hg (Calls.loadGlobal_global (by rw[I.ok.glob];exact I.mod.glob.keeps I.bk) hm h) hd
theorem uJ (I:Inv X pins σ H s) (hg:Gl X x) (hm:X.mg x=none) (q:bootBuiltins x=some u) (h:Q u s) (hn:autoParam (x≠ "__name__" ) qqd) (hd:autoParam ((x == ("__debug__":Str))=false) qqd):wpAny (model X.prog X.w) X.A (eval (.Name x pos) X.env) Q E s:=by
 obtain⟨v,h1,i⟩:=I.mod.blt;exact Calls.Name_function_global I.ok.kind hg (Calls.loadGlobal_builtin (by rw[I.ok.glob];exact I.mod.glob.keeps I.bk) hm (by rw[I.ok.blt];exact h1.keeps I.bk) ((i x hn).trans q) h) hd
theorem Pm (hg:Gl X x) (hm:X.mg x=some u) (r:RelV v u) (hd:autoParam ((x == ("__debug__":Str))=false) qqd):PE X (.Name x pos) (tC v):=
 fun _ _ _ H _ I h=>kz I hg hm ⟨v,H,I,r,h⟩ hd
theorem Pp (hg:Gl X x) (hm:X.mg x=none) (i:bootBuiltins x=some u) (r:RelV v u) (hn:autoParam (x≠ "__name__" ) qqd) (hd:autoParam ((x == ("__debug__":Str))=false) qqd):PE X (.Name x pos) (tC v):=
 fun _ _ _ H _ I h=>uJ I hg hm i ⟨v,H,I,r,h⟩ hn hd
def PC (X:Cx) (op:CmpOp) (a b:Expr) (t:TE):Prop:=
 ∀(i:List (Addr×Obj)) (s:Shared) (σ:St) (H:Hp) (Q:VK),Inv X i σ H s->t σ H Q->
  wpAny (model X.prog X.w) X.A (eval a X.env) (fun v x=>wpAny (model X.prog X.w) X.A (eval b X.env) (fun u q=>wpAny (model X.prog X.w) X.A (compareOp op v u) (EP X i σ Q) X.xe q) X.xe x) X.xe s
def tB (t:TE):TT:=fun σ H Q=>t σ H fun x i=> ∃c,x = .bl c/\Q c i
theorem wY {op:CmpOp} {t:TE} (h:PC X op a b t) (h1:behindInMarks op b=false:=by first|exact nobehind _ (by decide) (by decide)|rfl):PT X (.Compare a [op] [b] pos) (tB t):=by
 intro i s σ H Q I hw;refine wpAny_isTrue_Compare1 (thn (h _ s σ H _ I hw) fun v s1 h1=>thn h1 fun u s2 E=>thn E fun c s3 ⟨x,y,z,C,F⟩=>?_) h1;obtain⟨d,rfl,q⟩:=F;cases C;exact ly ⟨y,z,q⟩
theorem RJ (h:PE X e t) (he:∀whole,isTrue e X.env whole=(do let v<-whole;standAt e.pos;holding [v] (truthy v)):=by intro _;rfl):PT X e (tB t):=by
 intro i s σ H Q I hw;refine isTrue_plain (fL (h _ s σ H _ I hw) fun v s1 x u y z C=>?_) (he _);obtain⟨d,rfl,q⟩:=C;cases z;exact ly ⟨u,y,q⟩
def Ui (t u:TT):TT:=fun σ H Q=>t σ H fun c i=>if c=true then u σ i Q else Q false i
def WZ (t u:TT):TT:=fun σ H Q=>t σ H fun c i=>if c=true then Q true i else u σ i Q
def Uc (t:TT):TT:=fun σ H Q=>t σ H fun c i=>Q (!c) i
theorem pw_and1 (ha:PT X a tA):PW X (.BoolOp .And [a] pos) tA:=by
 intro wh i s σ H Q I h;refine isTrue_and (thn (ha _ s σ H Q I h) fun c s1 e=>?_);cases c with
 |true=>exact isTrue_and_nil e
 |false=>exact e
theorem pw_or1 (ha:PT X a tA):PW X (.BoolOp .Or [a] pos) tA:=by
 intro wh i s σ H Q I h;refine isTrue_or (thn (ha _ s σ H Q I h) fun c s1 e=>?_);cases c with
 |false=>exact isTrue_or_nil e
 |true=>exact e
theorem pw_and (ha:PT X a tA) (v:PW X (.BoolOp .And (b::rest) pos) tB'):PW X (.BoolOp .And (a::b::rest) pos) (Ui tA tB'):=by
 intro wh i s σ H Q I h;refine isTrue_and (thn (ha _ s σ H _ I h) fun c s1 ⟨q,u,x⟩=>?_);cases c with
 |true=>exact v wh _ s1 σ q Q u x
 |false=>trivial
theorem pw_or (ha:PT X a tA) (v:PW X (.BoolOp .Or (b::rest) pos) tB'):PW X (.BoolOp .Or (a::b::rest) pos) (WZ tA tB'):=by
 intro wh i s σ H Q I h;refine isTrue_or (thn (ha _ s σ H _ I h) fun c s1 ⟨q,u,x⟩=>?_);cases c with
 |true=>trivial
 |false=>exact v wh _ s1 σ q Q u x
theorem dE (ha:PT X a tA):PT X (.UnaryOp .Not a pos) (Uc tA):=by
 intro i s σ H Q I h;exact isTrue_not (ha _ s σ H _ I h)
def QN (u q:TE):TE:=fun σ H Q=>u σ H fun x i=> ∃c,x = .bl c/\if c=true then q σ i Q else Q (.bl false) i
def QM (q:TE):TE:=fun σ H Q=>q σ H fun x i=> ∃c,x = .bl c/\Q (.bl (!c)) i
theorem o8 {op} {t:TE} (h:PE X a t):PE X (.BoolOp op [a] pos) t:=fun i s σ H Q I hw=>BoolOp_one (h _ s σ H Q I hw)
theorem eU {z y:TE} (ha:PE X a z) (F:PE X (.BoolOp .And (b::rest) pos) y):PE X (.BoolOp .And (a::b::rest) pos) (QN z y):=by
 intro C s σ H Q I h;refine BoolOp_and (fL (ha _ s σ H _ I h) fun v s1 x q u E i=>?_);obtain⟨c,rfl,i⟩:=i;cases E;refine ly ?_;cases c with
 |true=>exact F _ s1 σ q Q u i
 |false=>exact⟨.bl _,q,u,rfl,i⟩
theorem MB {u:TE} (ha:PE X a u):PE X (.UnaryOp .Not a pos) (QM u):=by
 intro q s σ H Q I h;refine UnaryOp_ (fL (ha _ s σ H _ I h) fun v s1 x y z C i=>?_);obtain⟨c,rfl,i⟩:=i;cases C;exact not_of (ly ⟨.bl _,y,z,rfl,i⟩)
def W0 (t:TT) (u q:TE):TE:=fun σ H Q=>t σ H fun c i=>if c=true then u σ i Q else q σ i Q
theorem jq {q x:TE} {c:Expr} (hc:PT X c tA) (ha:PE X a q) (z:PE X b x):PE X (.IfExp c a b pos) (W0 tA q x):=by
 intro i s σ H Q I h;refine wpAny_IfExp (thn (hc _ s σ H _ I h) fun d s1 ⟨u,v,y⟩=>?_);cases d with
 |true=>exact ha _ s1 σ u Q v y
 |false=>exact z _ s1 σ u Q v y
end
end
mutual
def cI (K:W.Frag) (H:Hp) (a:Addr) (xs:List V):Prop:=
 Rd H a (.lst xs)\/
  ∃(o:Obj) (i:Array Value) (n:Nat),K.lookup a=some o/\o.cls = .type "list" /\o.dict=none/\o.data = .seq i n/\i.size<=sizeLine/\Vals xs i.toList
def du (K:W.Frag) (H:Hp) (a:Addr) (xs:List V):Prop:=
 Rd H a (.tup xs)\/
  ∃(o:Obj) (i:Array Value) (n:Nat),K.lookup a=some o/\o.cls = .type "tuple" /\o.data = .seq i n/\i.size<=sizeLine/\Vals xs i.toList
noncomputable def WQ:Value->Option V
 | .none=>some .non
 | .bool b=>some (.bl b)
 | .int i _=>some (.int i)
 | .str x _=>some (.str x)
 | .bytes b _=>some (.byt b)
 | .float b _=>some (.flt b)
 | .ref a=>some (.ref a)
 | .type n=>some (.ty n)
 |_=>none
theorem RelV.abs (r:RelV x u):WQ u=some x:=by
 cases x with
 |non=>cases r;rfl
 |bl _=>cases r;rfl
 |int _=>obtain⟨t,rfl⟩:=r;rfl
 |str _=>obtain⟨t,rfl⟩:=r;rfl
 |byt _=>obtain⟨t,rfl⟩:=r;rfl
 |flt _=>obtain⟨t,rfl⟩:=r;rfl
 |ref _=>cases r;rfl
 |ty _=>cases r;rfl
theorem RelV.inj (r:RelV x u) (q:RelV y u):x=y:=Xp (r.abs.symm.trans q.abs)
theorem Vals.inj:∀{xs i:List V} {us:List Value},Vals xs us->Vals i us->xs=i
 |_,_,_,.nil,.nil=>rfl
 |_,_,_,.cons r t,.cons r' t'=>by rw[r.inj r',Vals.inj t t']
theorem cI.of {K:W.Frag} (h:H a=some (.lst xs)):cI K H a xs:= .inl (.inl h)
theorem du.of {K:W.Frag} (h:H a=some (.tup xs)):du K H a xs:= .inl (.inl h)
theorem Inv.list (I:Inv X pins σ H s) (h:cI X.K H a xs):∃i:List Value,Vals xs i/\PlainL s.heap a i.toArray/\xs.length<=sizeLine:=by
 rcases h with h|⟨o,i,n,hk,hc,hd,hs,q,r⟩
 ·obtain⟨z,i,n,r,e⟩:=h.ok I.hok;exact⟨i,r,⟨_,n,e,rfl,rfl,rfl⟩,z⟩
 ·refine⟨_,r,⟨o,n,I.lV a o hk,hc,hd,‹_›⟩,?_⟩;have e:=r.length;simp at e;lia
theorem Inv.tuple (I:Inv X pins σ H s) (h:du X.K H a xs):∃i:List Value,Vals xs i/\IsTup s.heap a i.toArray/\xs.length<=sizeLine:=by
 rcases h with h|⟨o,i,n,hk,hc,hs,q,r⟩
 ·obtain⟨z,i,r,p⟩:=h.ok I.hok;exact⟨i,r,p,z⟩
 ·refine⟨_,r,⟨o,I.lV a o hk,hc,n,‹_›⟩,?_⟩;have e:=r.length;simp at e;lia
theorem Inv.Fl (I:Inv X pins σ H s) (h:cI X.K H a xs) (v:cI X.K H a ys):xs=ys:=by
 obtain⟨q,r,⟨o,n,e,_,_,d⟩,_⟩:=I.list h;obtain⟨i,r',⟨y,x,u,_,_,d'⟩,_⟩:=I.list v;rw[e] at u;cases u;have:q=i:=by simp_all
 subst this;exact r.inj r'
theorem Inv.BU (I:Inv X pins σ H s) (h:du X.K H a xs) (v:du X.K H a ys):xs=ys:=by
 obtain⟨q,r,⟨o,e,_,n,d⟩,_⟩:=I.tuple h;obtain⟨i,r',⟨y,u,_,x,d'⟩,_⟩:=I.tuple v;rw[e] at u;cases u;have:q=i:=by simp_all
 subst this;exact r.inj r'
noncomputable abbrev Cx.wish (X:Cx) (E:Value->Shared->Prop):Cx:={X with xe:=E}
noncomputable abbrev Cx.nox (X:Cx):Cx:=X.wish fun _ _=>False
theorem Cx.Ok.wish {X:Cx} (ok:X.Ok) (E:Value->Shared->Prop):(X.wish E).Ok:=
 ⟨ok.mod,ok.kind,ok.glob,ok.blt,ok.above,ok.inj,ok.has,ok.cab,ok.hd,ok.frames,ok.stk,ok.exf,ok.bs,ok.bsz,ok.noex,ok.exfs,ok.funs,ok.frf⟩
theorem Cx.Ok.unwish {X:Cx} (ok:(X.wish E).Ok):X.Ok:=
 ⟨ok.mod,ok.kind,ok.glob,ok.blt,ok.above,ok.inj,ok.has,ok.cab,ok.hd,ok.frames,ok.stk,ok.exf,ok.bs,ok.bsz,ok.noex,ok.exfs,ok.funs,ok.frf⟩
theorem Inv.wish (I:Inv X pins σ H s) (E:Value->Shared->Prop):Inv (X.wish E) pins σ H s:=⟨I.ok.wish E,I.os,I.bare,I.base,I.loc,I.cell,I.free,I.k9,I.pin,I.hok,I.len⟩
theorem Inv.unwish (I:Inv (X.wish E) pins σ H s):Inv X pins σ H s:=⟨I.ok.unwish,I.os,I.bare,I.base,I.loc,I.cell,I.free,I.k9,I.pin,I.hok,I.len⟩
theorem SP.unwish (h:SP (X.wish E) pins D f s'):SP X pins D f s':=by
 cases f with
 |next=>obtain⟨i,H',I,q⟩:=h;exact⟨i,H',I.unwish,q⟩
 |brk=>obtain⟨i,H',I,q⟩:=h;exact⟨i,H',I.unwish,q⟩
 |cont=>obtain⟨i,H',I,q⟩:=h;exact⟨i,H',I.unwish,q⟩
 |ret u=>obtain⟨v,i,H',I,r,q⟩:=h;exact⟨v,i,H',I.unwish,r,q⟩
theorem PT.nox (h:PT X.nox e t):PT X e t:=fun i s σ H Q I hw=>
 mj (h _ s σ H Q (I.wish _) hw) (fun _ _ ⟨H',u,q⟩=>⟨H',u.unwish,q⟩) fun _ _ z=>False.elim z
theorem zU.nox {st:List Stmt} (h:zU X.nox st t):zU X st t:=fun i s σ H D I hw=>
 mj (h _ s σ H D (I.wish _) hw) (fun _ _ q=>q.unwish) fun _ _ z=>False.elim z
end
section
mutual
variable {X:Cx} {st:Stmt} {e:Expr} {te:TE} {pos:Pos}
def HL:TS:=fun D σ H=>D.nx σ H
def Ro (t u:TS):TS:=fun D σ H=>t {D with nx:=u D} σ H
theorem aC:zU X [] HL:=fun _ _ σ H _ I h=>X8 ⟨σ,H,I,h⟩
theorem ae {rest:List Stmt} (h1:PS X st t) (z:zU X rest u):zU X (st::rest) (Ro t u):=by
 intro i s σ H D I h;refine wpAny_execs_cons (thn (h1 _ s σ H _ I h) fun f s1 q=>?_);cases f with
 |next=>
  obtain⟨x,H',y,q⟩:=q;exact z _ s1 _ H' D y q
 |ret v=>exact q
 |brk=>exact q
 |cont=>exact q
theorem ah (h1:PS X st t):zU X [st] t:=by
 intro i s σ H D I h;refine wpAny_execs_cons (thn (h1 _ s σ H D I h) fun f s1 q=>?_);cases f with
 |next=>exact X8 q
 |ret v=>exact q
 |brk=>exact q
 |cont=>exact q
theorem Inv.quiet (I:Inv X pins σ H s):interactive X.env=false:=by simp[interactive,I.ok.kind]
def Lz (te:TE):TS:=fun D σ H=>te σ H fun _ i=>D.nx σ i
theorem Pd (he:PE X e te) (hs:autoParam (swapsWith e none pos.line X.env=pure false) qqr):PS X (.Expr e pos) (Lz te):=by
 intro i s σ H D I h;exact wpAny_Expr_any (fL (he _ s σ H _ I h) fun v s1 x q u z y=>⟨σ,q,u,y⟩) I.quiet hs
def Rp (te:TE):TS:=fun D σ H=>te σ H D.rt
theorem aq (he:PE X e te):PS X (.Return (some e) pos) (Rp te):=by
 intro i s σ H D I h;exact wpAny_Return_some (fL (he _ s σ H _ I h) fun v s1 x q u y z=>⟨x,σ,q,u,y,z⟩)
def QK:TS:=fun D _ H=>D.rt .non H
theorem Ig:PS X (.Return none pos) QK:=fun _ _ σ H _ I h=>wpAny_Return_none ⟨.non,σ,H,I,rfl,h⟩
def OP (c:TT) (t u:TS):TS:=fun D σ H=>c σ H fun b i=>if b=true then t D σ i else u D σ i
theorem aW {t u:TS} {c:Expr} {a b:List Stmt} {v:TT} (hc:PT X c v) (ha:zU X a t) (z:zU X b u):PS X (.If c a b pos) (OP v t u):=by
 intro y s σ H D I h;refine wpAny_If (thn (hc _ s σ H _ I h) fun d s1 ⟨i,q,x⟩=>?_);cases d with
 |true=>exact ha _ s1 σ i D q x
 |false=>exact z _ s1 σ i D q x
def Rq:TS:=fun _ _ _=>False
theorem vx:PS X st Rq:=fun _ _ _ _ _ _ h=>h.elim
end
end
mutual
noncomputable abbrev TG:=V->St->Hp->(St->Hp->Prop)->Prop
noncomputable abbrev Rf:=List V->St->Hp->(St->Hp->Prop)->Prop
def PG (X:Cx) (target:Expr) (t:TG):Prop:=
 ∀(i:List (Addr×Obj)) (s:Shared) (σ:St) (H:Hp) (v:V) (u:Value) (Q:St->Hp->Prop),Inv X i σ H s->RelV v u->t v σ H Q->
  wpAny (model X.prog X.w) X.A (assign target X.env u) (fun _ x=> ∃q H',Inv X i q H' x/\Q q H') X.xe s
def Oy (X:Cx) (ts:List Expr) (t:Rf):Prop:=
 ∀(i:List (Addr×Obj)) (s:Shared) (σ:St) (H:Hp) (vs:List V) (us:List Value) (Q:St->Hp->Prop),Inv X i σ H s->Vals vs us->t vs σ H Q->
  wpAny (model X.prog X.w) X.A (assignInOrder ((assignEach ts X.env).map (·.2)) us) (fun _ u=> ∃q H',Inv X i q H' u/\Q q H') X.xe s
noncomputable abbrev VS:=V->V->V->Hp->(Hp->Prop)->Prop
def QB (X:Cx) (t:VS):Prop:=
 ∀(q:List (Addr×Obj)) (s:Shared) (σ:St) (H:Hp) (o i v:V) (x y u:Value) (Q:Hp->Prop),Inv X q σ H s->RelV o x->RelV i y->RelV v u->t o i v H Q->
  wpAny (model X.prog X.w) X.A (setItem x y u) (fun _ z=> ∃H',Inv X q σ H' z/\Q H') X.xe s
def nQ (i:Nat):TG:=fun v σ H Q=>Q (σ.set i (some v)) H
theorem Pg (y:X.N.Nodup) (z:X.N[i]?=some x) (hx:Loc X.env.scope x) (hf:autoParam (X.fn x=true\/X.env.scope.names.lookup x=some .local) qqw):PG X (.Name x pos) (nQ i):=by
 intro q s σ H v u Q I r h;exact wpAny_assign_Name (EH I y z hx r (fun E C=>⟨_,H,C,h⟩) hf)
def Vy:Rf:=fun vs σ H Q=>vs= []/\Q σ H
def Ny (t:TG) (u:Rf):Rf:=fun vs σ H Q=> ∃v r,vs=v::r/\t v σ H fun i H'=>u r i H' Q
theorem Il:Oy X [] Vy:=by
 intro i s σ H vs us Q I r h;obtain⟨e,h⟩:=h;exact assignInOrder_nil ⟨σ,H,I,h⟩
theorem My (h1:PG X e t) (z:Oy X es u) (hs:autoParam ((assignEach (e::es) X.env).map (·.2)=assign e X.env::(assignEach es X.env).map (·.2)) qqr):Oy X (e::es) (Ny t u):=by
 intro i s σ H vs us Q I r h;obtain⟨v,F,e1,h⟩:=h;subst e1;cases r with
 |cons r E=>
  rw[hs];refine assignInOrder_cons (thn (h1 _ s σ H _ _ _ I r h) fun _ s1 ⟨y,q,x,C⟩=>?_);exact z _ s1 _ q _ _ Q x E C
def SU (K:W.Frag) (n:Nat) (t:Rf):TG:=fun v σ H Q=> ∃a xs,v = .ref a/\du K H a xs/\xs.length=n/\t xs σ H Q
theorem RQ (hc:X.calm=true) (h:Oy X es t) (hn:autoParam ((assignEach es X.env).length=n) qqr) (i:autoParam ((assignEach es X.env).findIdx? (·.1)=none) qqr):PG X (.Tuple es k pos) (SU X.K n t):=by
 intro q s σ H v u Q I r hw;obtain⟨a,xs,e1,z,hl,hw⟩:=hw;subst e1;cases r;obtain⟨y,C,ht,E⟩:=I.tuple z;refine assign_Tuple_tuple (I.ok.hd hc) ht (by simp[hn,<-hl,C.length]) i fun F hx=>?_;have x:=I.kept (t':=s.toks) fun b o e=>hx b o (ib (eM e)) e;exact h _ _ σ H xs _ Q x (‹_›) hw
def SV (to u:TE) (t:VS):TG:=fun v σ H Q=>to σ H fun o x=>u σ x fun i y=>t o i v y fun q=>Q σ q
theorem RR (W:PE X o to) (Y:PE X i ti) (hs:QB X t) (ha:∀v,assign (.Subscript o i pos) X.env v=(do
   let q<-holding [v] (eval o X.env);let z<-holding [v,q] (eval i X.env)
   standAt pos
   holding [v,q,z] (setItem q z v)
   release [v,q,z] []):=by intro _;rfl):PG X (.Subscript o i pos) (SV to ti t):=by
 intro C s σ H v u Q I r h;rw[ha];refine cc (Xq (fL (W _ s σ H _ I h) fun q s1 x F G O Z=>?_));refine cc (Xq (fL (Y _ s1 σ F _ G Z) fun z s2 y H2 I2 r2 q2=>?_));refine cc (X2 (cc (Xq (thn (hs _ s2 σ H2 x y v q z u _ I2 O r2 r q2) fun _ s3 ⟨U,P,E⟩=>?_))));exact wpAny_release ⟨σ,U,P,E⟩
def Gy (te:TE) (g:TG):TS:=fun D σ H=>te σ H fun x i=>g x σ i D.nx
theorem RL (he:PE X e te) (hg:PG X tg g) (hs:autoParam (swapsWithSole [tg] e pos.line X.env=pure false) qqr) (hw:autoParam (swappedStores [tg] e X.env=pure none) qqr) (h1:autoParam ((assignEach [tg] X.env).map (·.2)= [assign tg X.env]) qqr):PS X (.Assign [tg] e pos) (Gy te g):=by
 intro i s σ H D I h;refine wpAny_Assign_stores (fL (he _ s σ H _ I h) fun v s1 x u y z C=>?_) hs hw;rw[h1];exact thn (hg _ s1 σ u x v _ y z C) fun _ s2 q=>q
theorem RK (O:X.N.Nodup) (E:X.N[i]?=some x) (hx:Loc X.env.scope x) (he:PE X e te) (hs:autoParam (swapsWith e (some (.Name x pos')) pos.line X.env=pure false) qqr) (hf:autoParam (X.fn x=true\/X.env.scope.names.lookup x=some .local) qqw):
  PS X (.Assign [.Name x pos'] e pos) (Gy te (nQ i)):=by
 intro q s σ H D I h;refine wpAny_Assign_Name (fL (he _ s σ H _ I h) fun v s1 y u z C F=>?_) hs;exact EH z O E hx C (fun s2 G=>⟨_,u,G,F⟩) hf
def Rl (c:TT) (u:TS):TS:=fun D σ H=> ∃W:Nat->St->Hp->Prop,(∃m,W m σ H)/\∀m σ H,W m σ H->
 c σ H fun b q=>if b=true then∃N:St->Hp->Prop,(∀i H',N i H'->∃m',m'<m/\W m' i H')/\u {D with nx:=N,ct:=N,bk:=D.nx} σ q else D.nx σ q
theorem EZ (hp:PassesOwn (model X.prog X.w) X.A X.env X.xe) (hc:PT X c tc) (hb:zU X body tb):PS X (.While c body [] pos) (Rl tc tb):=by
 intro O s σ H D I h;obtain⟨W,⟨m0,w0⟩,turn⟩:=h;refine wpAny_While (codeAny_whileLoop (fun n Z=> ∃u H',Inv X _ u H' Z/\W n u H') ?_ m0 ⟨σ,H,I,w0⟩);rintro n s1 ⟨E,G,Y,w1⟩;refine Xx hp (thn (hc _ s1 _ G _ Y (turn n _ G w1)) fun b s2 ⟨Q,P,y⟩=>?_);cases b with
 |true=>
  obtain⟨N,U,y⟩:=y;refine Xx hp (thn (hb _ s2 _ Q _ P y) fun f s3 x=>?_);cases f with
  |next=>
   obtain⟨i,q,C,F⟩:=x;obtain⟨m',hm,z⟩:=U _ q F;exact⟨m',hm,i,q,C,z⟩
  |cont=>
   obtain⟨i,q,C,F⟩:=x;obtain⟨m',hm,z⟩:=U _ q F;exact⟨m',hm,i,q,C,z⟩
  |brk=>exact x
  |ret v=>exact x
 |false=>
  exact X8 ⟨E,Q,P,y⟩
structure It where
 go:Nat->Hp->Prop
 yld:Nat->Hp->V->Hp->Prop
 stop:Nat->Hp->Prop
def A8 (X:Cx) (i:List (Addr×Obj)) (H:Hp) (b:Addr):Prop:=
 H b=none/\b≠X.env.locals/\b ∉ X.fs/\(b∈X.ex\/X.s₀.heap.objs.size<=b)/\(∀x c,X.env.cells.lookup x=some c->c≠b)/\∀p∈X.pn++i,p.1≠b
theorem Inv.Hj (I:Inv X pins σ H s) (i:s.heap.objs.size<=b) (hn:H' b=none):A8 X pins H' b:=by
 refine⟨hn,Yd (fy I.lt i),I.nofs i,.inr (fv I.sz i),fun x c e z=>?_,fun p hp z=>?_⟩
 ·obtain⟨v,q⟩:=I.cell x c e;exact absurd (fy q.lt (by simp_all)) (X1 _)
 ·exact absurd (fy (eM (I.pin p hp).1) (by simp_all)) (X1 _)
structure Turn (P:Program) (w:World) (K:W.Frag) (tg:Expr) (J:It) (fp:List Addr) (it:Addr) (tn:Nat->Heap->Prop):Prop where
 mem:it∈fp
 obj:∀i h,tn i h->∀b∈fp,∃o,h.get? b=some o/\∀v,o.data≠ .cell v
 keep:∀i h h',tn i h->(∀b∈fp,∀o,h.get? b=some o->h'.get? b=some o)->tn i h'
 item:∀(X:Cx),X.prog=P->X.w=w->X.K=K->X.calm=true->∀(i:Nat) (pins:List (Addr×Obj)) (s:Shared) (σ:St) (H:Hp) (E:Value->Shared->Prop),Inv X pins σ H s->(∀b∈fp,A8 X pins H b)->tn i s.heap->J.go i H->
  wpAny (model P w) X.A (pyNext (.ref it)) (fun r s1=> ∃u,r=some u/\
   wpAny (model P w) X.A (letOwnedTupleGo tg (.ref it) u) (fun _ s2=> ∃x H',Inv X pins σ H' s2/\RelV x u/\J.yld i H x H'/\tn (i+1) s2.heap/\∀b∈fp,H' b=none) E s1) E s
 done:∀(X:Cx),X.prog=P->X.w=w->X.K=K->X.calm=true->∀(i:Nat) (pins:List (Addr×Obj)) (s:Shared) (σ:St) (H:Hp) (E:Value->Shared->Prop),Inv X pins σ H s->(∀b∈fp,A8 X pins H b)->tn i s.heap->J.stop i H->
  wpAny (model P w) X.A (pyNext (.ref it)) (fun r s1=>r=none/\Inv X pins σ H s1) E s
 self:∀(A:Around) (i:Nat) (s:Shared) (Q:Value->Shared->Prop) (E:Value->Shared->Prop),tn i s.heap->Q (.ref it) s->wpAny (model P w) A (pyIter (.ref it)) Q E s
noncomputable abbrev TI:=St->Hp->(It->Hp->Prop)->Prop
def WU (X:Cx) (i:List (Addr×Obj)) (σ:St) (v:Expr) (R:It->Hp->Prop) (q:Value) (s2:Shared):Prop:=
 ∃(it:Addr) (u:List Addr) (tn:Nat->Heap->Prop) (J:It) (H':Hp),q = .ref it/\Inv X i σ H' s2/\Turn X.prog X.w X.K v J u it tn/\tn 0 s2.heap/\(∀b∈u,A8 X i H' b)/\R J H'
def PI (X:Cx) (q iter:Expr) (wi:TI):Prop:=
 ∀(i:List (Addr×Obj)) (s:Shared) (σ:St) (H:Hp) (R:It->Hp->Prop),Inv X i σ H s->wi σ H R->
  wpAny (model X.prog X.w) X.A (eval iter X.env) (fun v s1=>wpAny (model X.prog X.w) X.A (pyIter v) (WU X i σ q R) X.xe s1) X.xe s
theorem Fv (q:s.heap.get? it=some o) (hc:o.cls = .type n) (hd:o.data = .fields vs) (hn: ["enumerate","zip","dict_itemiterator","dict_reverseitemiterator","odict_iterator","itertools.zip_longest","itertools.pairwise"].contains n=false) (i:Q () s):wpAny M A (letOwnedTupleGo tg (.ref it) u) Q E s:=by
  cases tg<;>first
    |exact de i
    |(cases u<;>first
        |exact de i
        |(
           refine cc (wpAny_load q ?_);rw[hc,hd];show wpAny M A (if(["enumerate","zip","dict_itemiterator","dict_reverseitemiterator","odict_iterator","itertools.zip_longest","itertools.pairwise"].contains n&&vs[0]? == some _)=true then _ else _) Q E s;rw[a5 (by lia)];exact de i))
noncomputable def V0 (K:W.Frag) (a:Addr):It:=
 ⟨fun i H=> ∃xs x,cI K H a xs/\xs[i]?=some x,fun i H x H'=>H'=H/\∀xs,cI K H a xs->xs[i]?=some x,fun i H=> ∃xs,cI K H a xs/\xs.length<=i⟩
noncomputable def VZ (K:W.Frag) (a:Addr):It:=
 ⟨fun i H=> ∃xs x,du K H a xs/\xs[i]?=some x,fun i H x H'=>H'=H/\∀xs,du K H a xs->xs[i]?=some x,fun i H=> ∃xs,du K H a xs/\xs.length<=i⟩
noncomputable def Ol (lo:Int) (n:Nat):It:=⟨fun i _=>i<n,fun i H x H'=>H'=H/\x = .int (lo+i),fun i _=>n<=i⟩
theorem Jm {P:Program} {w:World} {K:W.Frag} {tg:Expr} (a it:Addr):Turn P w K tg (V0 K a) [it] it (fun i h=>h.IsListIter it a i) where
 mem:=by simp
 obj:=fun i h st b q=>by
  have e:b=it:=by simp_all
  subst e;obtain⟨o,e,c,d⟩:=st;exact⟨o,e,fun v z=>by simp_all⟩
 keep:=fun i h h' st k=>st.at fun o e=>k it (by simp) o e
 item:=by
  intro X hP hw Q hc i y s σ H E I hf st hg;subst hP hw Q;obtain⟨xs,x,F,hx⟩:=hg;obtain⟨O,U,p,hz⟩:=I.list F;obtain⟨u,hu,ru⟩:=U.get hx;obtain⟨f0,f1,f2,Y,Z,G⟩:=hf it (by simp);refine wpAny_pyNext_list_item st p.isList (x:=u) (by simp_all) fun h' C sb=>?_;have I1:=I.turned (t':=s.toks) (fun b o q e=>(sb.2 b q).trans e) f0 f1 Y Z G;obtain⟨o,e,c,d⟩:=id C;exact⟨u,rfl,Fv e c d (by decide) ⟨x,H,I1,ru,⟨rfl,fun ys hy=>by rw[I.Fl hy F];exact hx⟩,C,fun b q=>(hf b q).1⟩⟩
 done:=by
  intro X hP hw Q hc i y s σ H E I hf st hg;subst hP hw Q;obtain⟨xs,F,hx⟩:=hg;obtain⟨O,U,p,hz⟩:=I.list F;obtain⟨f0,f1,f2,Y,Z,G⟩:=hf it (by simp);have hl:=U.length;exact wpAny_pyNext_list_end (I.ok.hd hc) st p.isList (by simp_all) fun h' eb=>⟨rfl,I.turned (fun b o q e=>eb b o q e) f0 f1 Y Z G⟩
 self:=fun _ _ _ _ _ st h=>wpAny_pyIter_listiter st h
theorem Gn {P:Program} {w:World} {K:W.Frag} {tg:Expr} (a it:Addr):Turn P w K tg (VZ K a) [it] it (fun i h=>h.IsTupleIter it a i) where
 mem:=by simp
 obj:=fun i h st b q=>by
  have e:b=it:=by simp_all
  subst e;obtain⟨o,e,c,d⟩:=st;exact⟨o,e,fun v z=>by simp_all⟩
 keep:=fun i h h' st k=>st.at fun o e=>k it (by simp) o e
 item:=by
  intro X hP hw Q hc i y s σ H E I hf st hg;subst hP hw Q;obtain⟨xs,x,F,hx⟩:=hg;obtain⟨O,U,p,hz⟩:=I.tuple F;obtain⟨u,hu,ru⟩:=U.get hx;obtain⟨f0,f1,f2,Y,Z,G⟩:=hf it (by simp);refine wpAny_pyNext_tuple_item st ((p)) (x:=u) (by simp_all) fun h' C sb=>?_;have I1:=I.turned (t':=s.toks) (fun b o q e=>(sb.2 b q).trans e) f0 f1 Y Z G;obtain⟨o,e,c,d⟩:=id C;exact⟨u,rfl,Fv e c d (by decide) ⟨x,H,I1,ru,⟨rfl,fun ys hy=>by rw[I.BU hy F];exact hx⟩,C,fun b q=>(hf b q).1⟩⟩
 done:=by
  intro X hP hw Q hc i y s σ H E I hf st hg;subst hP hw Q;obtain⟨xs,F,hx⟩:=hg;obtain⟨O,U,p,hz⟩:=I.tuple F;obtain⟨f0,f1,f2,Y,Z,G⟩:=hf it (by simp);have hl:=U.length;exact wpAny_pyNext_tuple_end (I.ok.hd hc) st ((p)) (by simp_all) fun h' eb=>⟨rfl,I.turned (fun b o q e=>eb b o q e) f0 f1 Y Z G⟩
 self:=fun _ _ _ _ _ st h=>wpAny_pyIter_tupleiter st h
theorem Gp {P:Program} {w:World} {K:W.Frag} {Y:Expr} (it:Addr) (lo:Int) (n:Nat):Turn P w K Y (Ol lo n) [it] it (fun i h=>IsRangeIter h it (lo+(i:Nat)*1) ((n:Int)-(i:Nat)) 1) where
 mem:=by simp
 obj:=fun i h st b q=>by
  simp_all
 keep:=fun i h z st k=>k it (by simp) _ st
 item:=by
  intro X U hw Q hc i u s σ H E I hf st hg;subst U hw Q;obtain⟨G,O,f2,C,F,y⟩:=hf it (by simp);have W:=Walks.range (prog:=X.prog) (w:=X.w) (I.ok.hd hc) it lo 1 n;refine W.item i s _ _ hg st fun v z tk hv x kk=>?_;obtain⟨t,rfl⟩:=hv;have Z:Inv X _ σ H {s with heap:=z,toks:=tk}:=I.turned (fun b o q e=>kk b o (by simp_all) e) G O C F y;refine⟨_,rfl,Fv x rfl rfl (by decide) ⟨.int _,H,Z,⟨t,?_⟩,⟨rfl,rfl⟩,x,fun b q=>(hf b q).1⟩⟩;rw[Int.mul_one]
 done:=by
  intro X U hw Q hc i u s σ H E I hf st hg;obtain⟨G,O,f2,C,F,y⟩:=hf it (by simp);exact wpAny_pyNext_range_end (I.ok.hd hc) st (by have:n<=i:=hg;lia) fun z eb=>⟨rfl,I.turned (fun b o q e=>eb b o q e) G O C F y⟩
 self:=fun _ _ _ _ _ st h=>wpAny_pyIter_rangeiter st h
theorem EO {X:Cx} {z:Expr} {x:List (Addr×Obj)} {σ:St} {H:Hp} {s:Shared} {R:It->Hp->Prop} {E:Value->Shared->Prop} {lo i:Int} {t u v:Tok} {tk:Nat} (I:Inv X x σ H s) (h1 : -(2 ^ 62)<=lo) (F:lo<2 ^ 62) (G : -(2 ^ 62)<=i) (C:i<2 ^ 62)
  (q:R (Ol lo (i-lo).toNat) H):wpAny (model X.prog X.w) X.A (pyIter (.ref s.heap.objs.size)) (WU X x σ z R) E {s with heap:=s.heap.push {cls:= .type "range",data:= .fields #[.int lo t,.int i u,.int 1 v]},toks:=tk}:=by
 refine wpAny_pyIter_range (IsRange.new ..) (small_one h1 F G C) ?_;have y:Inv X _ σ H {s with heap:=s.heap.push {cls:= .type "range",data:= .fields #[.int lo t,.int i u,.int 1 v]},toks:=tk}:=I.kept fun b o e=>cP _ e;refine⟨_,_,_,_,H,rfl,
  y.kept fun b o e=>cP _ e,Gp _ lo _,?_,fun b O=>?_,q⟩
 ·have e1:lo+((0:Nat))*1=lo:=by simp
  have e2:(((i-lo).toNat))-((0:Nat))=Builtin.Range.rangeSize lo i 1:=by rw[rangeSize_one];split<;>lia
  rw[e1,e2];exact fx _ rfl
 ·have e:b=(s.heap.push {cls:= .type "range",data:= .fields #[.int lo t,.int i u,.int 1 v]}).objs.size:=by simp_all
  subst e;exact y.Hj (cm _) (y.hok.fresh (cm _))
def Ly (wi:TI) (g:TG) (y:TS):TS:=fun D σ H=>wi σ H fun J v=> ∃W:Nat->Nat->St->Hp->Prop,(∃m,W 0 m σ v)/\∀i m σ H,W i m σ H->
 (J.stop i H/\D.nx σ H)\/(J.go i H/\∃N:St->Hp->Prop,(∀q H',N q H'->∃m',m'<m/\W (i+1) m' q H')/\∀x H',J.yld i H x H'->g x σ H' fun u z=>y {D with nx:=N,ct:=N,bk:=D.nx} u z)
noncomputable def Dh (i:List Addr) (h:Heap):List (Addr×Obj):=i.filterMap fun b=>(h.get? b).map fun o=>(b,o)
theorem pA (i:b∈fp) (e:h.get? b=some o):(b,o)∈Dh fp h:=List.mem_filterMap.mpr ⟨b,i,by simp_all⟩
theorem Kh (hp:p∈Dh fp h):p.1∈fp/\h.get? p.1=some p.2:=by
 obtain⟨b,i,e⟩:=List.mem_filterMap.mp hp;cases q:h.get? b<;>grind
theorem Inv.pinned (I:Inv X pins σ H s) (hf:∀b∈fp,A8 X pins H b) (y:∀b∈fp,∃o,s.heap.get? b=some o/\∀v,o.data≠ .cell v):Inv X (pins++Dh fp s.heap) σ H s:=
 I.zJ fun p hp=>(gs.mp hp).elim (fun z=>I.pin p (ej _ z)) fun z=>by
  obtain⟨i,e⟩:=Kh z;obtain⟨u,x,C,_⟩:=hf _ i;obtain⟨o,q,d⟩:=y _ i;rw[e] at q;cases q;exact⟨e,u,x,C,d⟩
theorem Inv.unpinned (I:Inv X (pins++pl) σ H s):Inv X pins σ H s:=I.zJ fun p hp=>I.pin p (ej _ (ez _ hp))
theorem eS (hp:PassesOwn (model X.prog X.w) X.A X.env X.xe) (hc:X.calm=true) (hi:PI X tg iter wi) (hg:PG X tg g) (z:zU X body tb) (hs:∀x,foldedSetIterable iter X.env x=pure x:=by intro _;rfl):PS X (.For tg iter body [] pos) (Ly wi g tb):=by
 intro P s σ H D I h;refine wpAny_For (thn (hi _ s σ H _ I h) fun v s1 h1=>thn h1 fun itv s2 h2=>?_) hs;obtain⟨it,Y,tn,J,H2,e,I2,T,st2,f2,W,⟨m0,w0⟩,turn⟩:=h2;subst e
 have y:∀{H':Hp},(∀b∈Y,H' b=none)->∀b∈Y,A8 X _ H' b:=fun hn b z=>⟨hn b z,(f2 b z).2⟩;refine codeAny_forLoop_any (fun n s'=> ∃i E H',Inv X _ E H' s'/\tn i s'.heap/\(∀b∈Y,H' b=none)/\W i n E H') ?_ m0 ⟨0,σ,H2,I2,st2,fun b z=>(f2 b z).1,w0⟩;rintro n s3 ⟨i,σ3,Z,I3,U,Q,w3⟩;rcases turn i n _ Z w3 with⟨stop,qn⟩|⟨go,N,hN,step⟩
 ·refine Xx hp (thn (T.done X rfl rfl rfl hc i _ s3 _ Z _ I3 (y Q) U stop) fun r s4 ⟨hr,I4⟩=>?_);subst hr;exact X8 ⟨σ3,Z,I4,qn⟩
 ·refine Xx hp (thn (T.item X rfl rfl rfl hc i _ s3 _ Z _ I3 (y Q) U go) fun r s4 ⟨u,hr,h4⟩=>?_);subst hr;refine Xx hp (thn h4 fun _ s5 ⟨x,H5,I5,r5,y5,O,fr5⟩=>?_);have I5':=I5.pinned (y fr5) (T.obj _ _ O);refine Xx hp (thn (hg _ s5 _ H5 x u _ I5' r5 (step x H5 y5)) fun _ s6 ⟨σ6,H6,I6,q6⟩=>?_);refine Xx hp (thn (z _ s6 _ H6 _ I6 q6) fun f s7 G=>?_);have again:∀{q:St} {C:Hp},Inv X _ _ C s7->N _ C->∃m,m<n/\∃i E H',Inv X P E H' s7/\tn i _/\(∀b∈Y,H' b=none)/\W i m E H':=fun{q C} F n7=>by
   obtain⟨m',hm,w7⟩:=hN _ C n7;refine⟨m',hm,_,q,C,F.unpinned,T.keep _ _ _ O fun b z o e=>(F.pin _ (ej _ (ej _ (pA z e)))).1,fun b z=>?_,w7⟩;obtain⟨o,e,d⟩:=T.obj _ _ O b z;exact(F.pin _ (ej _ (ej _ (pA z e)))).2.1
  cases f with
  |next=>obtain⟨q,C,F,n7⟩:=G;exact again F n7
  |cont=>obtain⟨q,C,F,n7⟩:=G;exact again F n7
  |brk=>obtain⟨q,C,F,G⟩:=G;exact⟨q,C,F.unpinned,G⟩
  |ret v=>obtain⟨x7,q,C,F,r7,G⟩:=G;exact⟨x7,q,C,F.unpinned,r7,G⟩
theorem NB {K:W.Frag} {g:TG} {E:TS} {D:Ends} (Pv:Nat->St->Hp->Prop) (h0:Pv 0 σ H) (hl:∀i σ H,i<=xs.length->Pv i σ H->cI K H a xs) (hs:∀i x σ H,xs[i]?=some x->Pv i σ H->g x σ H fun v z=>E {D with nx:=Pv (i+1),ct:=Pv (i+1),bk:=D.nx} v z) (hd:∀σ H,Pv xs.length σ H->D.nx σ H):
  ∃W:Nat->Nat->St->Hp->Prop,(∃m,W 0 m σ H)/\∀i m σ H,W i m σ H->
   ((V0 K a).stop i H/\D.nx σ H)\/((V0 K a).go i H/\∃N:St->Hp->Prop,(∀u H',N u H'->∃m',m'<m/\W (i+1) m' u H')/\∀x H',(V0 K a).yld i H x H'->g x σ H' fun v z=>E {D with nx:=N,ct:=N,bk:=D.nx} v z):=by
 refine⟨fun i m σ H=>m=xs.length-i/\i<=xs.length/\Pv i σ H,⟨_,rfl,kv _,h0⟩,?_⟩;rintro i m σ H ⟨rfl,G,p⟩;have q:=hl i σ H G p;by_cases C:i<xs.length
 ·refine .inr ⟨⟨xs,xs[i],q,by simp_all⟩,_,fun u H' F=>⟨_,by lia,rfl,C,F⟩,fun x H' y=>?_⟩;obtain⟨e,y⟩:=y;subst e;exact hs i x σ _ (y xs q) p
 ·have e:i=xs.length:=by lia
  subst e;exact .inl ⟨⟨xs,q,cm _⟩,hd σ H p⟩
theorem Qg {K:W.Frag} {g:TG} {E:TS} {D:Ends} (Pv:Nat->St->Hp->Prop) (h0:Pv 0 σ H) (hl:∀i σ H,i<=xs.length->Pv i σ H->du K H a xs) (hs:∀i x σ H,xs[i]?=some x->Pv i σ H->g x σ H fun v z=>E {D with nx:=Pv (i+1),ct:=Pv (i+1),bk:=D.nx} v z) (hd:∀σ H,Pv xs.length σ H->D.nx σ H):
  ∃W:Nat->Nat->St->Hp->Prop,(∃m,W 0 m σ H)/\∀i m σ H,W i m σ H->
   ((VZ K a).stop i H/\D.nx σ H)\/((VZ K a).go i H/\∃N:St->Hp->Prop,(∀u H',N u H'->∃m',m'<m/\W (i+1) m' u H')/\∀x H',(VZ K a).yld i H x H'->g x σ H' fun v z=>E {D with nx:=N,ct:=N,bk:=D.nx} v z):=by
 refine⟨fun i m σ H=>m=xs.length-i/\i<=xs.length/\Pv i σ H,⟨_,rfl,kv _,h0⟩,?_⟩;rintro i m σ H ⟨rfl,G,p⟩;have q:=hl i σ H G p;by_cases C:i<xs.length
 ·refine .inr ⟨⟨xs,xs[i],q,by simp_all⟩,_,fun u H' F=>⟨_,by lia,rfl,C,F⟩,fun x H' y=>?_⟩;obtain⟨e,y⟩:=y;subst e;exact hs i x σ _ (y xs q) p
 ·have e:i=xs.length:=by lia
  subst e;exact .inl ⟨⟨xs,q,cm _⟩,hd σ H p⟩
theorem K3 {lo:Int} {g:TG} {C:TS} {D:Ends} (Pv:Nat->St->Hp->Prop) (h0:Pv 0 σ H) (hs:∀i σ H,i<n->Pv i σ H->g (.int (lo+i)) σ H fun v z=>C {D with nx:=Pv (i+1),ct:=Pv (i+1),bk:=D.nx} v z) (hd:∀σ H,Pv n σ H->D.nx σ H):
  ∃W:Nat->Nat->St->Hp->Prop,(∃m,W 0 m σ H)/\∀i m σ H,W i m σ H->
   ((Ol lo n).stop i H/\D.nx σ H)\/((Ol lo n).go i H/\∃N:St->Hp->Prop,(∀q H',N q H'->∃m',m'<m/\W (i+1) m' q H')/\∀x H',(Ol lo n).yld i H x H'->g x σ H' fun v z=>C {D with nx:=N,ct:=N,bk:=D.nx} v z):=by
 refine⟨fun i m σ H=>m=n-i/\i<=n/\Pv i σ H,⟨n,rfl,kv _,h0⟩,?_⟩;rintro i m σ H ⟨rfl,F,p⟩;by_cases u:i<n
 ·refine .inr ⟨u,_,fun q H' E=>⟨_,by lia,rfl,u,E⟩,fun x H' y=>?_⟩;obtain⟨e,y⟩:=y;subst e y;exact hs i σ _ u p
 ·have e:i=n:=by lia
  subst e;exact .inl ⟨cm _,hd σ H p⟩
noncomputable abbrev R2:=V->V->Hp->VK->Prop
def gq (X:Cx) (f:Value->Value->Sem Value) (r:R2):Prop:=
 ∀(i:List (Addr×Obj)) (s:Shared) (σ:St) (H:Hp) (x y:V) (v u:Value) (Q:VK),Inv X i σ H s->RelV x v->RelV y u->r x y H Q->
  wpAny (model X.prog X.w) X.A (f v u) (EP X i σ Q) X.xe s
def WT (X:Cx) (f:Value->Sem Value) (r:V->Hp->VK->Prop):Prop:=
 ∀(i:List (Addr×Obj)) (s:Shared) (σ:St) (H:Hp) (x:V) (v:Value) (Q:VK),Inv X i σ H s->RelV x v->r x H Q->
  wpAny (model X.prog X.w) X.A (f v) (EP X i σ Q) X.xe s
def bM (X:Cx) (f:Value) (r:List V->Hp->VK->Prop):Prop:=
 ∀(i:List (Addr×Obj)) (s:Shared) (σ:St) (H:Hp) (xs:List V) (us:List Value) (Q:VK),Inv X i σ H s->Vals xs us->r xs H Q->
  wpAny (model X.prog X.w) X.A (call f us) (EP X i σ Q) X.xe s
def Er (r:R2) (v u:TE):TE:=fun σ H Q=>v σ H fun x i=>u σ i fun y q=>r x y q Q
def WX (r:V->Hp->VK->Prop) (q:TE):TE:=fun σ H Q=>q σ H fun x i=>r x i Q
def rI (C:Int->Int->Prop) (g:Int->Int->V):R2:=fun x y H Q=>match x,y with
 | .int i,.int j=>C i j/\Q (g i j) H
 |_,_=>False
theorem UA (h:rI C g x y H Q):∃i j,x = .int i/\y = .int j/\C i j/\Q (g i j) H:=by
 unfold rI at h;split at h
 ·exact⟨_,_,rfl,rfl,h⟩
 ·exact h.elim
def GJ (g:Int->Int->V):R2:=fun x y H Q=>match x,y with
 | .int i,.int j=>Q (g i j) H
 |_,_=>False
theorem Ml (h:GJ g x y H Q):∃i j,x = .int i/\y = .int j/\Q (g i j) H:=by
 unfold GJ at h;split at h
 ·exact⟨_,_,rfl,rfl,h⟩
 ·exact h.elim
def rU (g:Int->V):V->Hp->VK->Prop:=fun x H Q=>match x with
 | .int i=>Q (g i) H
 |_=>False
theorem Us (h:rU g x H Q):∃i,x = .int i/\Q (g i) H:=by
 unfold rU at h;split at h
 ·exact⟨_,rfl,h⟩
 ·exact h.elim
theorem TB {X:Cx} {a b:Expr} {G F:TE} (ha:PE X a G) (U:PE X b F) {i:List (Addr×Obj)} {s:Shared} {σ:St} {H:Hp} {R:V->V->Hp->Prop} (I:Inv X i σ H s)
  (h:G σ H fun x E=>F σ E fun y q=>R x y q) {Q:Value->Shared->Prop} {f:Value->Value->Sem Value}
  (hf:∀v u s2 x y q,Inv X i σ q s2->RelV x v->RelV y u->R x y q->wpAny (model X.prog X.w) X.A (f v u) Q X.xe s2):
  wpAny (model X.prog X.w) X.A (eval a X.env) (fun v z=>wpAny (model X.prog X.w) X.A (eval b X.env) (fun u C=>wpAny (model X.prog X.w) X.A (f v u) Q X.xe C) X.xe z) X.xe s:=by
 refine fL (ha _ s σ H _ I h) fun v s1 x E O P W=>?_;refine fL (U _ s1 σ E _ O W) fun u s2 y q Y r2 Z=>?_;exact hf v u s2 x y q Y P r2 Z
theorem au (E:gq X (binaryOp op) r) (ha:PE X a ta) (F:PE X b tb):PE X (.BinOp a op b pos) (Er r ta tb):=by
 intro i s σ H Q I h;exact wpAny_BinOp (TB ha F I h fun v u s2 x y O G z C q=>E _ s2 σ O x y v u Q G z C q)
theorem Mz (q:WT X (unaryOp op) r) (ha:PE X a ta):PE X (.UnaryOp op a pos) (WX r ta):=by
 intro i s σ H Q I h;exact UnaryOp_ (fL (ha _ s σ H _ I h) fun v s1 x u y z C=>q _ s1 σ u x v Q y z C)
theorem R_ {g:Int->Int->Int} (rule:∀(i j:Int) (t u:Tok) (s:Shared) (Q:Value->Shared->Prop) (E:Value->Shared->Prop),C i j->Q (.int (g i j) s.toks) {s with toks:=s.toks+1}->wpAny (model X.prog X.w) X.A (f (.int i t) (.int j u)) Q E s):
  gq X f (rI C fun i j=> .int (g i j)):=by
 intro z s σ H x y v u Q I F G h;obtain⟨i,j,rfl,rfl,hc,q⟩:=UA h;obtain⟨t,rfl⟩:=F;obtain⟨t',rfl⟩:=G;exact rule i j t t' s _ _ hc ⟨.int _,H,I.tok _,⟨_,rfl⟩,q⟩
theorem Kg {g:Int->Int->Int} (rule:∀(i j:Int) (t u:Tok) (s:Shared) (Q:Value->Shared->Prop) (E:Value->Shared->Prop),Q (.int (g i j) s.toks) {s with toks:=s.toks+1}->wpAny (model X.prog X.w) X.A (f (.int i t) (.int j u)) Q E s):
  gq X f (GJ fun i j=> .int (g i j)):=by
 intro z s σ H x y v u Q I C F h;obtain⟨i,j,rfl,rfl,q⟩:=Ml h;obtain⟨t,rfl⟩:=C;obtain⟨t',rfl⟩:=F;exact rule i j t t' s _ _ ⟨.int _,H,I.tok _,⟨_,rfl⟩,q⟩
theorem Py {g:Int->Int->Bool} (rule:∀(i j:Int) (t u:Tok) (s:Shared) (Q:Value->Shared->Prop) (E:Value->Shared->Prop),Q (.bool (g i j)) s->wpAny (model X.prog X.w) X.A (f (.int i t) (.int j u)) Q E s):
  gq X f (GJ fun i j=> .bl (g i j)):=by
 intro z s σ H x y v u Q I C F h;obtain⟨i,j,rfl,rfl,q⟩:=Ml h;obtain⟨t,rfl⟩:=C;obtain⟨t',rfl⟩:=F;exact rule i j t t' s _ _ ⟨.bl _,H,I,rfl,q⟩
def V3 (i j:Int):Prop:=0<j/\j<1073741824
def Ot (i j:Int):Prop:=(-(2 ^ 64)<i/\i<2 ^ 64)\/(-(2 ^ 64)<j/\j<2 ^ 64)
theorem Ot.ok (h:Ot i j):IntMulOk i j:=by
 rcases h with⟨h1,q⟩|⟨h1,q⟩
 ·exact .of_left (intBits_le_64 h1 q)
 ·exact .of_right (intBits_le_64 h1 q)
theorem Gj (k:Nat):(0:Int)<=2 ^ k:=by
 rw[two_pow_cast];exact Ye _
theorem R9:gq X (binaryOp .Add) (GJ fun i j=> .int (i+j)):=Kg fun _ _ _ _ _ _ _ q=>add_int q
theorem cM:gq X (binaryOp .Sub) (GJ fun i j=> .int (i-j)):=Kg fun _ _ _ _ _ _ _ q=>sub_int q
theorem gV:gq X (binaryOp .Mult) (rI Ot fun i j=> .int (i*j)):=R_ fun _ _ _ _ _ _ _ hc q=>mul_int q hc.ok
theorem bJ:gq X (binaryOp .FloorDiv) (rI V3 fun i j=> .int (i / j)):=R_ fun i j _ _ _ _ _ hc q=>by
 have h1:=hc.1;have u:=hc.2;exact floordiv_int (by lia) (by rw[Int.fdiv_eq_ediv_of_nonneg i (by lia)];exact q) (.inl (PyProof.noPylong_small (by lia)))
theorem bp:gq X (binaryOp .Mod) (rI (fun _ j=>0<j) fun i j=> .int (i % j)):=R_ fun i j _ _ _ _ _ hc q=>by
 exact mod_int' (by lia) (by rw[Int.fmod_eq_emod_of_nonneg i (by lia)];exact q)
theorem j2:gq X (binaryOp .RShift) (rI (fun _ j=>0<=j) fun i j=> .int (i / 2 ^ j.toNat)):=R_ fun i j _ _ _ _ _ hc q=>
 rshift_int hc (by rw[Int.fdiv_eq_ediv_of_nonneg i (Gj _)];exact q)
theorem ux:gq X (binaryOp .BitAnd) (GJ fun i j=> .int (Builtin.bitAnd i j)):=Kg fun _ _ _ _ _ _ _ q=>and_int q
theorem tw:gq X (binaryOp .BitOr) (GJ fun i j=> .int (Builtin.bitOr i j)):=Kg fun _ _ _ _ _ _ _ q=>or_int q
theorem MH:gq X (binaryOp .BitXor) (GJ fun i j=> .int (Builtin.bitXor i j)):=Kg fun _ _ _ _ _ _ _ q=>xor_int q
theorem pD:gq X (inplaceOp .Add) (GJ fun i j=> .int (i+j)):=Kg fun _ _ _ _ _ _ _ q=>iadd_int q
theorem Xa {g:Int->Int} (rule:∀(i:Int) (t:Tok) (s:Shared) (Q:Value->Shared->Prop) (E:Value->Shared->Prop),Q (.int (g i) s.toks) {s with toks:=s.toks+1}->wpAny (model X.prog X.w) X.A (f (.int i t)) Q E s):
  WT X f (rU fun i=> .int (g i)):=by
 intro u s σ H x v Q I y h;obtain⟨i,rfl,q⟩:=Us h;obtain⟨t,rfl⟩:=y;exact rule i t s _ _ ⟨.int _,H,I.tok _,⟨_,rfl⟩,q⟩
theorem Gi:WT X (unaryOp .USub) (rU fun i=> .int (-i)):=Xa fun _ _ _ _ _ q=>neg_int q
noncomputable def scal:V->V->Bool
 | .non,.non=>true | .non,.int _=>true | .int _,.non=>true | .non,.bl _=>true | .bl _,.non=>true | .non,.str _=>true | .str _,.non=>true
 | .int _,.int _=>true | .bl _,.bl _=>true | .str _,.str _=>true | .byt _,.byt _=>true
 | .int _,.str _=>true | .str _,.int _=>true | .bl _,.str _=>true | .str _,.bl _=>true
 |_,_=>false
def UB:R2:=fun x y H Q=>scal x y=true/\Q (.bl (decide (x=y))) H
def Uv:R2:=fun x y H Q=>scal x y=true/\Q (.bl (!decide (x=y))) H
theorem IT:decide (V.int i=V.int j)=(i == j):=by
 rw[yl];simp
theorem NU:decide (V.bl i=V.bl j)=(i == j):=by
 rw[yl];simp
theorem IS:decide (V.str i=V.str j)=(i == j):=by
 rw[yl];simp
theorem IU:decide (V.byt i=V.byt j)=(i.toList == j.toList):=by
 rw[yl];cases i;cases j;simp
theorem bQ (I:Inv X pins σ H s) (q:Q (.bl k) H) (e:k=k'):EP X pins σ Q (.bool k') s:=by
 subst e;exact⟨.bl k,H,I,rfl,q⟩
theorem UJ:gq X (compareOp .Eq) UB:=by
 intro E s σ H x y v u Q I C z h;obtain⟨hs,q⟩:=h;cases x with
 |non=>
  cases C;cases y with
  |non=>cases z;exact PySem.EqNone.eq_none_none (bQ I q (rfl))
  |bl j=>cases z;exact PySem.EqNone.eq_none_bool (bQ I q (rfl))
  |int j=>obtain⟨t',rfl⟩:=z;exact PySem.EqNone.eq_none_int (bQ I q (rfl))
  |str j=>obtain⟨t',rfl⟩:=z;exact PySem.EqNone.eq_none_str (bQ I q (rfl))
  |_=>trivial
 |bl i=>
  cases C;cases y with
  |non=>cases z;exact PySem.EqNone.eq_bool_none (bQ I q (rfl))
  |bl j=>cases z;exact eq_bool (bQ I q NU)
  |str j=>obtain⟨t',rfl⟩:=z;exact PySem.EqMixed.eq_bool_str (bQ I q (rfl))
  |_=>trivial
 |int i=>
  obtain⟨t,rfl⟩:=C;cases y with
  |non=>cases z;exact PySem.EqNone.eq_int_none (bQ I q (rfl))
  |int j=>obtain⟨t',rfl⟩:=z;exact eq_int (bQ I q IT)
  |str j=>obtain⟨t',rfl⟩:=z;exact PySem.EqMixed.eq_int_str (bQ I q (rfl))
  |_=>trivial
 |str i=>
  obtain⟨t,rfl⟩:=C;cases y with
  |non=>cases z;exact PySem.EqNone.eq_str_none (bQ I q (rfl))
  |bl j=>cases z;exact PySem.EqMixed.eq_str_bool (bQ I q (rfl))
  |int j=>obtain⟨t',rfl⟩:=z;exact PySem.EqMixed.eq_str_int (bQ I q (rfl))
  |str j=>obtain⟨t',rfl⟩:=z;exact eq_str (bQ I q IS)
  |_=>trivial
 |byt i=>
  obtain⟨t,rfl⟩:=C;cases y with
  |byt j=>obtain⟨t',rfl⟩:=z;exact W.eq_bytes (bQ I q IU)
  |_=>trivial
 |_=>trivial
theorem UI:gq X (compareOp .NotEq) Uv:=by
 intro E s σ H x y v u Q I C z h;obtain⟨hs,q⟩:=h;cases x with
 |non=>
  cases C;cases y with
  |non=>cases z;exact PySem.EqNone.ne_none_none (bQ I q (rfl))
  |bl j=>cases z;exact PySem.EqNone.ne_none_bool (bQ I q (rfl))
  |int j=>obtain⟨t',rfl⟩:=z;exact PySem.EqNone.ne_none_int (bQ I q (rfl))
  |str j=>obtain⟨t',rfl⟩:=z;exact PySem.EqNone.ne_none_str (bQ I q (rfl))
  |_=>trivial
 |bl i=>
  cases C;cases y with
  |non=>cases z;exact PySem.EqNone.ne_bool_none (bQ I q (rfl))
  |bl j=>cases z;exact ne_bool (bQ I q (Xm _ NU))
  |str j=>obtain⟨t',rfl⟩:=z;exact PySem.EqMixed.ne_bool_str (bQ I q (rfl))
  |_=>trivial
 |int i=>
  obtain⟨t,rfl⟩:=C;cases y with
  |non=>cases z;exact PySem.EqNone.ne_int_none (bQ I q (rfl))
  |int j=>obtain⟨t',rfl⟩:=z;exact ne_int (bQ I q (Xm _ IT))
  |str j=>obtain⟨t',rfl⟩:=z;exact PySem.EqMixed.ne_int_str (bQ I q (rfl))
  |_=>trivial
 |str i=>
  obtain⟨t,rfl⟩:=C;cases y with
  |non=>cases z;exact PySem.EqNone.ne_str_none (bQ I q (rfl))
  |bl j=>cases z;exact PySem.EqMixed.ne_str_bool (bQ I q (rfl))
  |int j=>obtain⟨t',rfl⟩:=z;exact PySem.EqMixed.ne_str_int (bQ I q (rfl))
  |str j=>obtain⟨t',rfl⟩:=z;exact ne_str (bQ I q (Xm _ IS))
  |_=>trivial
 |byt i=>
  obtain⟨t,rfl⟩:=C;cases y with
  |byt j=>obtain⟨t',rfl⟩:=z;exact W.ne_bytes (bQ I q (Xm _ IU))
  |_=>trivial
 |_=>trivial
theorem jr:gq X (compareOp .Lt) (GJ fun i j=> .bl (decide (i<j))):=Py fun _ _ _ _ _ _ _ q=>lt_int q
theorem pW:gq X (compareOp .LtE) (GJ fun i j=> .bl (decide (i<=j))):=Py fun _ _ _ _ _ _ _ q=>le_int q
theorem qY:gq X (compareOp .Gt) (GJ fun i j=> .bl (decide (j<i))):=Py fun _ _ _ _ _ _ _ q=>gt_int q
theorem Ah:gq X (compareOp .GtE) (GJ fun i j=> .bl (decide (j<=i))):=Py fun _ _ _ _ _ _ _ q=>ge_int q
theorem Ke:gq X (compareOp .In) (fun x y H Q=> ∃i j,x = .str i/\y = .str j/\Q (.bl (!(Builtin.Str.occurrences j i 0 j.length 1).isEmpty)) H):=by
 intro z s σ H x y v u Q I C E h;obtain⟨i,j,rfl,rfl,q⟩:=h;obtain⟨t,rfl⟩:=C;obtain⟨t',rfl⟩:=E;exact in_str (bQ I q rfl)
theorem R5:gq X (compareOp .Is) (fun x y H Q=>y = .non/\Q (.bl (decide (x = .non))) H):=by
 intro i s σ H x y v u Q I z C h;obtain⟨rfl,q⟩:=h;cases C;refine is_none_gen (bQ I q ?_);cases x<;>first
  |rfl
  |(obtain⟨t,rfl⟩:=z;rfl)
theorem Pr:gq X (compareOp .IsNot) (fun x y H Q=>y = .non/\Q (.bl (!decide (x = .non))) H):=by
 intro i s σ H x y v u Q I z C h;obtain⟨rfl,q⟩:=h;cases C;refine isnot_none_gen (bQ I q ?_);cases x<;>first
  |rfl
  |(obtain⟨t,rfl⟩:=z;rfl)
theorem gq.or (h:gq X f r) (E:gq X f r'):gq X f (fun x y H Q=>r x y H Q\/r' x y H Q):=by
 intro i s σ H x y v u Q I z C q;rcases q with q|q
 ·exact h _ s σ H x y v u Q I z C q
 ·exact E _ s σ H x y v u Q I z C q
theorem nomark (b:Expr) {op:CmpOp} (h:autoParam (op≠ .In) qqd) (i:autoParam (op≠ .NotIn) qqd):behindInMarks op b=false:=by
 have e1:(op == CmpOp.In)=false:=by simp_all
 have e2:(op == CmpOp.NotIn)=false:=by simp_all
 cases b<;>simp[behindInMarks,e1,e2]
theorem zK (E:gq X (compareOp op) r) (ha:PE X a ta) (F:PE X b tb) (hm:behindInMarks op b=false):PE X (.Compare a [op] [b] pos) (Er r ta tb):=by
 intro i s σ H Q I h;exact wpAny_Compare1 (TB ha F I h fun v u s2 x y O G z C q=>E _ s2 σ O x y v u Q G z C q) hm
def ve (t:TE):TT:=fun σ H Q=>t σ H fun x H'=> ∃k,x = .bl k/\Q k H'
theorem zG (P:gq X (compareOp op) r) (ha:PE X a ta) (U:PE X b tb) (hm:behindInMarks op b=false):PT X (.Compare a [op] [b] pos) (ve (Er r ta tb)):=by
 intro i s σ H Q I h;refine wpAny_isTrue_Compare1 (fL (ha _ s σ H _ I h) fun v s1 x C E F W=>fL (U _ s1 σ C _ E W) fun u s2 y Z Y r2 q2=>
  thn (P _ s2 σ Z x y v u _ Y F r2 q2) fun c s3 ⟨z,O,G,r3,k,e,q⟩=>?_) hm
 subst e;cases r3;exact ly ⟨O,G,q⟩
def Gx (r r':R2) (G F q:TE):TE:=fun σ H Q=>G σ H fun x u=>F σ u fun y v=>r x y v fun z i=> ∃k,z = .bl k/\
 (if k=true then q σ i fun E C=>r' y E C Q else Q (.bl false) i)
theorem E2 (ho:gq X (compareOp op) r) (i:gq X (compareOp op') r') (ha:PE X a ta) (hb:PE X b tb) (hc:PE X c tc) (hm:lastMarks [op,op'] [b,c]=false:=by with_unfolding_all rfl):PE X (.Compare a [op,op'] [b,c] pos) (Gx r r' ta tb tc):=by
 intro F s σ H Q I h;refine Compare_chain (fL (ha _ s σ H _ I h) fun v s1 x O U Z q1=>chain_link (fL (hb _ s1 σ O _ U q1) fun u s2 y H2 I2 r2 q2=>
  thn (ho _ s2 σ H2 x y v u _ I2 Z r2 q2) fun d s3 ⟨z,E,C,r3,k,e,q⟩=>?_)) hm
 subst e;cases r3;refine ly ?_;cases k with
 |false=>exact ite_ff ⟨.bl _,E,C,rfl,q⟩
 |true=>exact ite_tt (chain_last (fL (hc _ s3 σ E _ C q) fun Y P z' H4 I4 G W=>i _ P σ H4 y z' u Y Q I4 r2 G W))
theorem EY (ho:gq X (compareOp op) r) (i:gq X (compareOp op') r') (ha:PE X a ta) (hb:PE X b tb) (hc:PE X c tc) (hm:lastMarks [op,op'] [b,c]=false:=by with_unfolding_all rfl):PT X (.Compare a [op,op'] [b,c] pos) (ve (Gx r r' ta tb tc)):=by
 intro F s σ H Q I h;refine isTrue_chain (fL (ha _ s σ H _ I h) fun v s1 x O U r1 q1=>test_link (fL (hb _ s1 σ O _ U q1) fun u s2 y H2 I2 r2 q2=>
  thn (ho _ s2 σ H2 x y v u _ I2 r1 r2 q2) fun d s3 ⟨z,E,C,r3,k,e,q⟩=>?_)) hm
 subst e;cases r3;refine ly ?_;cases k with
 |false=>
  obtain⟨k',e',q'⟩:=q;cases e';exact ite_ff ⟨E,C,q'⟩
 |true=>
  refine ite_tt (test_last (fL (hc _ s3 σ E _ C q) fun Z P z' H4 I4 G W=>thn (i _ P σ H4 y z' u Z _ I4 r2 G W) fun d' s5 ⟨z2,H5,I5,Y,k2,e2,q5⟩=>?_));subst e2;cases Y;exact ly ⟨H5,I5,q5⟩
theorem xC:(sizeLine:Nat)<2 ^ 63:=by rw[fR];decide
theorem GS:gq X (binaryOp .Add) (fun x y H Q=> ∃i j,x = .str i/\y = .str j/\i.length+j.length<=sizeLine/\Q (.str (i++j)) H):=by
 intro z s σ H x y v u Q I C E h;obtain⟨i,j,rfl,rfl,F,q⟩:=h;obtain⟨t,rfl⟩:=C;obtain⟨t',rfl⟩:=E;exact add_str (fun t' tk=>⟨.str _,H,I.tok _,⟨_,rfl⟩,q⟩) F
theorem vals1 (r:Vals [x] us):∃u,us= [u]/\RelV x u:=by
 cases r with
 |cons i r2=>cases r2;exact⟨_,rfl,i⟩
theorem vals2 (r:Vals [x,y] us):∃u i,us= [u,i]/\RelV x u/\RelV y i:=by
 cases r with
 |cons v r2=>
  cases r2 with
  |cons z q=>cases q;exact⟨_,_,rfl,v,z⟩
theorem N6:bM X (.builtin "abs") (fun xs H Q=> ∃i,xs= [.int i]/\Q (.int (if i<0 then -i else i)) H):=by
 intro v s σ H xs us Q I r h;obtain⟨i,rfl,q⟩:=h;obtain⟨u,rfl,t,rfl⟩:=vals1 r;exact call_abs_int fun u tk=>⟨.int _,H,I.tok _,⟨_,rfl⟩,q⟩
theorem La (hc:X.calm=true):bM X (.builtin "max") (fun xs H Q=> ∃i j,xs= [.int i,.int j]/\Q (.int (if j > i then j else i)) H):=by
 intro x s σ H xs us Q I r h;obtain⟨i,j,rfl,q⟩:=h;obtain⟨u,y,rfl,⟨t,rfl⟩,⟨t',rfl⟩⟩:=vals2 r;refine max_two_ints (I.ok.hd hc) fun z tk k=>⟨_,H,I.kept k,?_,q⟩;by_cases v:j > i
 ·rw[bc v,bc v];exact⟨_,rfl⟩
 ·rw[a5 v,a5 v];exact⟨_,rfl⟩
theorem K_ (hc:X.calm=true):bM X (.builtin "min") (fun xs H Q=> ∃i j,xs= [.int i,.int j]/\Q (.int (if j<i then j else i)) H):=by
 intro x s σ H xs us Q I r h;obtain⟨i,j,rfl,q⟩:=h;obtain⟨u,y,rfl,⟨t,rfl⟩,⟨t',rfl⟩⟩:=vals2 r;refine min_two_ints (I.ok.hd hc) fun z tk k=>⟨_,H,I.kept k,?_,q⟩;by_cases v:j<i
 ·rw[bc v,bc v];exact⟨_,rfl⟩
 ·rw[a5 v,a5 v];exact⟨_,rfl⟩
structure HD (h:Heap) (x dx C:Addr) (mA:Str->Option Value):Prop where
 obj:h.get? x=some (W.instObj C dx)
 ns:h.Ns1 dx mA
 ne:dx≠x
theorem Kv {h:Heap} (n:h.Ns1 dx mA):∃od,h.get? dx=some od/\∀name,W.lookIn name od=some (mA name):=by
 obtain⟨o,es,x,v,hd,hk,_,hm⟩:=n;refine⟨o,v,fun name=>?_⟩;have e:=hm name;unfold nsFind findBy at e;rw[<-Array.find?_toList] at e;unfold W.lookIn;rw[hd];dsimp only;split
 ·simp_all
 ·rename_i q;rw[q] at e;have a:es.toList.any (·.refKey)=false:=by
   rw[List.any_eq_false];intro y hy;obtain⟨z,t,i⟩:=hk y (Array.mem_toList_iff.mp hy);simp[DictEntry.refKey,i]
  have u: ¬es.toList.any (·.refKey)=true:=by lia
  rw[a5 u];exact Xm _ e
theorem HD.look (I:HD h x dx C mA):∃od,W.InstAt h x (W.instObj C dx) C (some od)/\∀name,W.lookIn name od=some (mA name):=
 let ⟨od,ho,hl⟩:=Kv I.ns
 ⟨od,⟨I.obj,rfl,rfl,ho⟩,hl⟩
end
section
mutual
variable {K:W.Frag}
theorem get_map (X:K.In s.heap) (I:HD s.heap x dx C mA) (hg:W.plainGet K C name=true) (hh:W.hasDictIn K C=true) (ha:W.findIn K (.ref C) name=some none) (q:mA name=some v) (i:W.handedIn v=true) (h:Q v {s with toks:=s.toks+1}):
  wpAny (model prog w) A (getAttr (.ref x) name expr) Q E s:=by
 obtain⟨od,J,hl⟩:=I.look;exact W.get_value X J (W.plainGet_of hg).1 (W.findObj_own hh ha rfl (by simp_all)) i h
theorem Nq (X:K.In s.heap) (I:HD s.heap x dx C mA) (hg:W.plainGet K C name=true) (hf:W.findIn K (.ref C) name=some (some (.ref f))) (ht:W.isFn K (.ref f)=true) (i:mA name=none) (h:Q (.ref f,[.ref x]) s):
  wpAny (model prog w) A (getMethod (.ref x) name pl) Q E s:=by
 obtain⟨od,J,hl⟩:=I.look;exact W.method_fn X J (W.plainGet_of hg).1 (W.plainGet_of hg).2 hf (zp.mp ht) (by show(W.lookIn _ od).map _=some _;rw[hl,i];rfl) h
theorem OU (X:K.In s.heap) (I:HD s.heap x dx C mA) (hs:W.findIn K (.ref C) "__setattr__" = some (some (.builtin "object.__setattr__"))) (hp:W.plainOver K C=true) (ht:W.takerIn K C name=some none) (hh:W.hasDictIn K C=true) (hw:PySem.Within mA ns) (hsz:ns.length<=sizeLine) (h:∀u,HD u x dx C (fun y=>if y=name then some v else mA y)->Heap.SameBut dx s.heap u->Q () {s with heap:=u,toks:=s.toks+2}):
  wpAny (model prog w) A (setAttr (.ref x) name v) Q E s:=by
 obtain⟨od,J,hl⟩:=I.look;refine W.set_plain X J hs (W.osa_open X J hp ht fun b=>?_);obtain⟨cd,hc,H⟩:=W.any_some hh;have hx:=I.obj;refine cc (de (cc (cc (Yo hx (cc (W.Looks.here (W.looks_clsIn X hc) ?_))))));rw[H];refine de (cc (de (cc ?_)));refine wpAny_nsSet1 I.ns fun u i q=>?_;obtain⟨U,O,P,G,z,F⟩:=i.count (PySem.Within.cons _ v hw);refine cc (wpAny_lookBehind G (by rw[z];exact pastItsLine_dict (fv F (by simp_all))) ?_);exact de (h _ ⟨(q.2 _ (L1 I.ne)).trans I.obj,i,I.ne⟩ q)
theorem MY {R:Result->Shared->Prop} (X:K.In s.heap) (hm:W.makesIn K C=true) (i:W.findIn K (.ref C) "__init__" = some (some (.ref f))) (hf:W.typeIn K (.ref f)=some (.type "function")) (h:codeAny (model prog w) (A.under (.builtin "type.__call__" ⟨.ref C::vs,kw⟩)) (.call (.ref f) ⟨.ref (s.heap.objs.size+1)::vs,kw⟩) (W.InitBack (s.heap.objs.size+1) R)
   {s with heap:=(s.heap.push W.emptyDict).push (W.instObj C s.heap.objs.size)}):
  codeAny (model prog w) A (.call (.ref C) ⟨vs,kw⟩) R s:=by
 exact W.make_core (W.makes_of X hm) (Yp X i) (fun self=>W.bind_fn X _ hf) (.inl rfl) h
theorem Ku {R:Result->Shared->Prop} (X:K.In s.heap) (hm:W.makesIn K C=true) (i:W.findIn K (.ref C) "__init__" = some (some (.builtin "object.__init__"))) (q:∀self,W.Looks (model prog w) s.heap (bindSpecial (.builtin "object.__init__") self) (.builtin "object.__init__",[self])) (h:codeAny (model prog w) (A.under (.builtin "type.__call__" ⟨[.ref C],[]⟩)) (.call (.builtin "object.__init__") ⟨[.ref (s.heap.objs.size+1)],[]⟩) (W.InitBack (s.heap.objs.size+1) R)
   {s with heap:=(s.heap.push W.emptyDict).push (W.instObj C s.heap.objs.size)}):
  codeAny (model prog w) A (.call (.ref C) ⟨[],[]⟩) R s:=by
 exact W.make_core (W.makes_of X hm) (Yp X i) q (.inr ⟨rfl,rfl⟩) h
end
end
mutual
noncomputable def bH (f:Str) (v:V):List (Str×V)->List (Str×V)
 | []=>[(f,v)]
 |(g,x)::r=>if g=f then(g,v)::r else(g,x)::bH f v r
theorem ym (f g:Str) (v:V):∀fs:List (Str×V),(bH f v fs).lookup g=if g=f then some v else fs.lookup g
 | []=>by
  show List.lookup g [(f,v)]=_;by_cases h:g=f
  ·simp_all
  ·simp_all
 |(k,x)::r=>by
  have q:=ym f g v r;rw[show bH f v _=(if k=f then(k,v)::r else(k,x)::bH f v r) from rfl];by_cases hk:k=f
  ·rw[bc hk];by_cases h:g=k
   ·simp_all
   ·have i:=Xi.mpr h;simp only[List.lookup,i,a5 (fun e:g=f=>h (e.trans hk.symm))]
  ·rw[a5 hk];by_cases h:g=k
   ·simp_all
   ·have i:=Xi.mpr h;simp only[List.lookup,i];exact q
theorem xE (f:Str) (v:V):∀fs:List (Str×V),f∈(bH f v fs).map (·.1)/\∀g,g∈fs.map (·.1)->g∈(bH f v fs).map (·.1)
 | []=>⟨by simp[bH],fun g h=>by simp_all⟩
 |(k,x)::r=>by
  obtain⟨i,i2⟩:=xE f v r;rw[show bH f v _=(if k=f then(k,v)::r else(k,x)::bH f v r) from rfl];by_cases hk:k=f
  ·simp_all
  ·grind
theorem yn (f:Str) (v:V):∀fs:List (Str×V),(bH f v fs).length<=fs.length+1
 | []=>by simp[bH]
 |(k,x)::r=>by
  have i:=yn f v r;rw[show bH f v _=(if k=f then(k,v)::r else(k,x)::bH f v r) from rfl];by_cases hk:k=f
  ·simp_all
  ·simp_all
theorem qA.some_of (r:qA (some v) o):∃u,o=some u/\RelV v u:=by
 cases o with
 |none=>trivial
 |some u=>exact⟨u,rfl,r⟩
theorem qA.none_of (r:qA none o):o=none:=by
 cases o with
 |none=>rfl
 |some u=>trivial
theorem KW (r:RelV v u):W.handedIn u=true:=by
 cases v with
 |non=>cases((r));rfl
 |bl b=>cases((r));rfl
 |int i=>obtain⟨t,e⟩:=((r));cases e;rfl
 |str x=>obtain⟨t,e⟩:=((r));cases e;rfl
 |byt b=>obtain⟨t,e⟩:=((r));cases e;rfl
 |flt b=>obtain⟨t,e⟩:=((r));cases e;rfl
 |ref a=>cases((r));rfl
 |ty n=>cases((r));rfl
theorem zM (hok:va P w H h) (e:H a=some (.ins C dx fs)):∃i,HD h a dx C i/\(∀f,qA (fs.lookup f) (i f))/\PySem.Within i (fs.map (·.1))/\fs.length<=1000/\H dx=some (.own a):=by
 obtain⟨d,z,ne,ob,i,n,r,q⟩:=((hok a _ e));exact⟨i,⟨ob,n,ne⟩,r,q,z,d⟩
structure Ri (K:W.Frag) (C:Addr):Prop where
 pg:W.plainGet K C Str.empty=true
 hd:W.hasDictIn K C=true
 po:W.plainOver K C=true
 sa:W.findIn K (.ref C) "__setattr__" = some (some (.builtin "object.__setattr__"))
theorem Ri.get {K:W.Frag} (c:Ri K C) (f:Str):W.plainGet K C f=true:=c.pg
def a8 (K:W.Frag) (C:Addr) (f:Str):Prop:=W.findIn K (.ref C) f=some none
theorem a8.taker {K:W.Frag} (n:a8 K C f):W.takerIn K C f=some none:=by
 unfold W.takerIn;rw[(n)];rfl
structure Meth (K:W.Frag) (C:Addr) (m:Str) (f:Addr):Prop where
 at_:W.findIn K (.ref C) m=some (some (.ref f))
 fn:W.isFn K (.ref f)=true
 kp:W.keepIn K (.ref f)=true
theorem Aw (I:Inv X pins σ H s) (e:H a=some (.ins C dx fs)) (c:Ri X.K C) (n:a8 X.K C f) (l:fs.lookup f=some v) (h:∀u q,Inv X pins σ H q->RelV v u->Q u q):wpAny (model X.prog X.w) A (getAttr (.ref a) f b) Q E s:=by
 obtain⟨y,O,r,_,_,_⟩:=zM I.hok e;obtain⟨u,x,i⟩:=qA.some_of (by rw[<-l];exact r f);exact get_map I.lV O (c.get f) c.hd n x (KW i) (h u _ (I.tok _) i)
theorem k7 (I:Inv X pins σ H s) (e:H a=some (.ins C dx fs)) (c:Ri X.K C) (k:Meth X.K C m g) (l:fs.lookup m=none) (h:Q (.ref g,[.ref a]) s):wpAny (model X.prog X.w) A (getMethod (.ref a) m pl) Q E s:=by
 obtain⟨i,O,r,_,_,_⟩:=zM I.hok e;have hn:=qA.none_of (by rw[<-l];exact r m);exact Nq I.lV O (c.get m) k.at_ k.fn hn h
theorem z9 (I:Inv X pins σ H s) (e:H a=some (.ins C dx fs)) (c:Ri X.K C) (n:a8 X.K C f) (hl:fs.length<1000) (F:RelV y u) (h:∀v,Inv X pins σ (upd H a (.ins C dx (bH f y fs))) v->Q () v):wpAny (model X.prog X.w) A (setAttr (.ref a) f u) Q E s:=by
 obtain⟨Y,O,r,wi,_,x⟩:=zM I.hok e;have G:(fs.map (·.1)).length<=sizeLine:=by rw[cF,fR];lia
 refine OU I.lV O c.sa c.po n.taker c.hd wi G fun P i U=>h _ ?_;have hd:∃o,P.get? dx=some o:=let ⟨o,_,_,e',_⟩:=i.ns;⟨o,e'⟩;refine I.write (by rw[e];exact True.intro) (.inr x) (fun b q W z=>(U.2 b W).trans z) hd ?_;refine⟨by rw[af O.ne];exact x,?_,O.ne,i.obj,_,i.ns,fun g=>?_,fun g hg=>?_⟩
 ·have:=yn f y fs;lia
 ·rw[ym];by_cases q:g=f
  ·rw[bc q,bc q];exact F
  ·simp_all
 ·by_cases q:g=f
  ·rw[q];exact(xE f y fs).1
  ·refine(xE f y fs).2 g (wi g fun z=>hg ?_);show(if g=f then some u else Y g)=none;rw[a5 q];exact z
theorem Inv.made (I:Inv X pins σ H s):Inv X pins σ (upd (upd H s.heap.objs.size (.own (s.heap.objs.size+1))) (s.heap.objs.size+1) (.ins C s.heap.objs.size []))
  {s with heap:=(s.heap.push W.emptyDict).push (W.instObj C s.heap.objs.size)}:=by
 have e1:(s.heap.push _).get? _=some W.emptyDict:=fx _ rfl;have e2:=by
  have:=fx (s.heap.push W.emptyDict) (o:=W.instObj C s.heap.objs.size) rfl;rwa [Heap.size_push] at this
 have e3:(s.heap.push _).Ns _ _:=⟨_,#[],_,e1,rfl,(fun e he=>absurd he (by simp)),fun _=>rfl⟩;have i:=I.laid (o:= .own (s.heap.objs.size+1)) (t':=s.toks) (fun b u q=>cP _ q) (cm _) ⟨_,e1⟩;refine i.laid (fun b u q=>cP _ q) (Nat.le_of_eq (Heap.size_push _ _)) ?_;have ne:s.heap.objs.size≠s.heap.objs.size+1:=ib (Nat.lt_succ_self _);refine⟨by rw[af ne,ag],kv _,ne,e2,_,(Heap.Ns1.of_empty e3).at fun o q=>cP _ q,fun _=>True.intro,fun y hy=>absurd rfl hy⟩
theorem Qt (q:attributeBase e f env (eval e env)=eval e env) (h:wpAny (model prog w) A (eval e env) (fun o i=>wpAny (model prog w) A (getAttr o f true) Q E i) E s):wpAny (model prog w) A (eval (.Attribute e f pos) env) Q E s:=
 Attribute_any_ h (by rw[arm_eval_Attribute,q])
inductive wA (K:W.Frag) (H:Hp):V->Value->Prop where
 |non:wA K H .non (.type "NoneType")
 |bl (x:Bool):wA K H (.bl x) (.type "bool")
 |int (i:Int):wA K H (.int i) (.type "int")
 |str (x:Str):wA K H (.str x) (.type "str")
 |flt (x:UInt64):wA K H (.flt x) (.type "float")
 |lst {a:Addr} {xs:List V} (e:H a=some (.lst xs)):wA K H (.ref a) (.type "list")
 |frz {a:Addr} {o:Obj} {xs:List V} (e:H a=some (.frz o (.lst xs))):wA K H (.ref a) (.type "list")
 |tup {a:Addr} {xs:List V} (e:H a=some (.tup xs)):wA K H (.ref a) (.type "tuple")
 |dK {a:Addr} {kvs:List (Key×V)} (e:H a=some (.dK kvs)):wA K H (.ref a) (.type "dict")
 |dT {a:Addr} {kvs:List (List Key×V)} (e:H a=some (.dT kvs)):wA K H (.ref a) (.type "dict")
 |
   ins {a C dx:Addr} {fs:List (Str×V)} (e:H a=some (.ins C dx fs)) (cl:Ri K C) (ha:W.findIn K (.ref C) "__class__" = some (some (.builtin "object.__class__")))
   (hn:W.specialIn K (.builtin "object.__class__") "__get__" = some (some (.builtin "getset_descriptor.__get__"))) (htk:W.takesIn K (.builtin "object.__class__")=some true)
   (hm:W.mroIn K C (.type "object")=some true):wA K H (.ref a) (.ref C)
theorem KI (I:Inv X pins σ H s) (F:RelV x u) (ty:wA X.K H x t) (e:W.kitOne X.K t c=some b) (h:∀tk,Q (.bool b) {s with toks:=tk}):
  wpAny (model X.prog X.w) A (call (.builtin "isinstance") [u,c]) Q E s:=by
 cases ty with
 |non=>cases((F));exact Xw W.kitx_none I.lV True.intro e (fun z=>nomatch z) h
 |bl y=>cases((F));exact Xw W.kitx_bool I.lV True.intro e (fun z=>nomatch z) h
 |int i=>obtain⟨t,q⟩:=((F));cases q;exact Xw W.kitx_int I.lV True.intro e (fun z=>nomatch z) h
 |str y=>obtain⟨t,q⟩:=((F));cases q;exact Xw W.kitx_str I.lV True.intro e (fun z=>nomatch z) h
 |flt y=>obtain⟨t,q⟩:=((F));cases q;exact Xw W.kitx_float I.lV True.intro e (fun z=>nomatch z) h
 | @lst a xs v=>
  cases((F));obtain⟨_,_,n,_,h1⟩:=((I.hok a _ v));exact Xw W.kitx_list I.lV ⟨_,h1,rfl⟩ e (fun z=>nomatch z) h
 | @frz a ob xs v=>
  cases((F));obtain⟨_,_,_,n,_,h1⟩:=((I.hok a _ v));exact Xw W.kitx_list I.lV ⟨_,h1,rfl⟩ e (fun z=>nomatch z) h
 | @tup a xs v=>
  cases((F));obtain⟨_,_,_,p⟩:=((I.hok a _ v));obtain⟨o,h1,G,_⟩:=p;exact Xw W.kitx_tuple I.lV ⟨o,h1,G⟩ e (fun z=>nomatch z) h
 | @dK a P v=>
  cases((F));obtain⟨_,_,vs,_,p⟩:=((I.hok a _ v));obtain⟨o,es,U,h1,G,_⟩:=p;exact Xw W.kitx_dict I.lV ⟨o,h1,G.1⟩ e (fun z=>nomatch z) h
 | @dT a P v=>
  cases((F));obtain⟨_,_,xs,_,o,es,U,h1,G,_⟩:=((I.hok a _ v));exact Xw W.kitx_dict I.lV ⟨o,h1,G.1⟩ e (fun z=>nomatch z) h
 | @ins a C dx fs v cl ha hn htk hm=>
  cases((F));obtain⟨Y,O,_⟩:=zM I.hok v;obtain⟨od,J,_⟩:=O.look;exact Xw (W.kitx_own (cl.get _) cl.hd ha hn htk hm) I.lV J e (fun z=>nomatch z) h
structure cY (k:Nat) (A:Around):Prop where
 hd:A.handled=none
 dp:A.depth+3*k+5<recursionLimit
 un:A.units+16*k+200<cLine
theorem cY.mono (r:cY k A) (h:j<=k):cY j A:=⟨r.hd,by have:=r.dp;lia,by have:=r.un;lia⟩
theorem cY.deeper (r:cY (k+1) A) (env:Env):cY k (A.deeper env):=
 ⟨r.hd,by have:=r.dp;show A.depth+1+3*k+5<_;lia,by have:=r.un;show A.units+3+16*k+200<_;lia⟩
theorem Ha {A:Around}:(A.under (.builtin "type.__call__" ⟨.ref C::us,kw⟩)).depth=A.depth+1:=rfl
theorem G_ {A:Around}:(A.under (.builtin "type.__call__" ⟨.ref C::us,kw⟩)).units=A.units+1:=rfl
theorem cY.make (r:cY (k+1) A) (C:Addr) (us:List Value) (kw:List (Str×Value)):cY k (A.under (.builtin "type.__call__" ⟨.ref C::us,kw⟩)):=
 ⟨r.hd,by have:=r.dp;rw[Ha];lia,by have:=r.un;rw[G_];lia⟩
theorem cY.depth (r:cY k A):A.depth<recursionLimit:=by have:=r.dp;lia
theorem cY.units (r:cY k A):A.units+64<cLine:=by have:=r.un;lia
def Bc:TA:=fun _ H Q=>Q [] H
def vf (v:TE) (i:TA):TA:=fun σ H Q=>v σ H fun x q=>i σ q fun xs u=>Q (x::xs) u
theorem gU:PA X [] Bc:=fun _ _ _ _ H Q I h=>Calls.spliced_nil ⟨[],H,I,.nil,h⟩
theorem Iv (ha:PE X e te) (z:PA X es t) (hs:autoParam (starEach (e::es) X.env=(false,eval e X.env)::starEach es X.env) qqr):PA X (e::es) (vf te t):=by
 intro pos i s σ H Q I h;rw[hs];refine Calls.spliced_cons (fL (ha _ s σ H _ I h) fun u s1 x q v y C=>?_);exact fL (z _ _ s1 σ q _ v C) fun us s2 xs F E r2 G=>⟨_,F,E,.cons y r2,G⟩
def Rn (t:TA):TE:=fun σ H Q=>t σ H fun xs i=>xs.length<=sizeLine/\∀p,i p=none->Q (.ref p) (upd i p (.tup xs))
def Ue (t:TA):TE:=fun σ H Q=>t σ H fun xs i=>xs.length<=sizeLine/\∀p,i p=none->Q (.ref p) (upd i p (.lst xs))
theorem bw {x1} (h:PA X es t):PE X (.Tuple es x1 pos) (Rn t):=by
 intro v s σ H Q I x;refine wpAny_Tuple_spliced (thn (h _ _ s σ H _ I x) fun us s1 ⟨xs,y,i,r,z,q⟩=>⟨by rw[<-r.length];exact z,?_⟩);have hf:=i.hok.fresh (cm _);refine⟨.ref _,_,i.laid (fun b u e=>cP _ e) (cm _) ?_,rfl,q _ hf⟩;exact⟨z,us,r,⟨_,fx _ rfl,rfl,_,rfl⟩⟩
theorem fh (h:PA X es t):PE X (.List es pos) (Ue t):=by
 intro v s σ H Q I x;refine wpAny_List_spliced (thn (h _ _ s σ H _ I x) fun us s1 ⟨xs,y,i,r,z,q⟩=>⟨by rw[<-r.length];exact z,?_⟩);have hf:=i.hok.fresh (cm _);refine⟨.ref _,_,i.laid (fun b u e=>cP _ e) (cm _) ?_,rfl,q _ hf⟩;exact⟨z,us,0,r,fx _ rfl⟩
noncomputable abbrev Sp:=List V->Hp->VK->XK->Prop
noncomputable abbrev Ga:=List Env->Hp->Shared->XK->Value->Shared->Prop
structure HE (P:Program) (w:World) (K:W.Frag) (mg:Str->Option Value) (base:Heap) (A:Around) (outer:List Env) (s:Shared) (H:Hp):Prop where
 frames:A.frames=some outer
 mod:Mod K mg base
 bs:∀b o,base.get? b=some o->s.heap.get? b=some o/\H b=none
 bsz:base.objs.size<=s.heap.objs.size
 funs:s.heap.FunFrames base outer
 frf:∀b∈frs outer,H b=none
 hok:va P w H s.heap
 bare:AllBare s.gens
def CE (outer:List Env) (P:Program) (w:World) (H:Hp) (s:Shared) (Q:VK) (u:Value) (i:Shared):Prop:=
 ∃v H',i.os=s.os/\AllBare i.gens/\Un (frs outer) [] H H' s.heap i.heap/\va P w H' i.heap/\RelV v u/\Q v H'
def CR (CX:Ga) (outer:List Env) (P:Program) (w:World) (H:Hp) (s:Shared) (Q:VK) (E:XK) (r:Result) (i:Shared):Prop:=
 match r with
 | .ok (.ret u)=>CE outer P w H s Q u i
 | .ok _=>False
 | .error e=>CX outer H s E e i
structure wD (P:Program) (w:World) (K:W.Frag) (mg:Str->Option Value) (base:Heap) (CX:Ga) (k:Nat) (f:Addr) (fd:FuncData) (ps:List Str) (sp:Sp):Prop where
 len:∀vs H Q E,sp vs H Q E->vs.length=ps.length
 run:∀(A:Around) (outer:List Env) (s:Shared) (H:Hp) (args:Args) (us:List Value) (vs:List V) (Q:VK) (E:XK),cY k A->HE P w K mg base A outer s H->BindsTo s fd args (ps.zip us)->Vals vs us->sp vs H Q E->
  codeAny (model P w) A (.call (.ref f) args) (CR CX outer P w H s Q E) s
theorem HE.make {K:W.Frag} (e:HE P w K mg base A outer s H) (C:Addr) (us:List Value) (kw:List (Str×Value)):
  HE P w K mg base (A.under (.builtin "type.__call__" ⟨.ref C::us,kw⟩)) outer s H:=⟨by first|exact e.frames|rfl,e.mod,e.bs,e.bsz,e.funs,e.frf,e.hok,e.bare⟩
theorem Inv.Qj (I:Inv X pins σ H s):HE X.prog X.w X.K X.mg X.base X.A X.stack s H:=
 ⟨I.ok.frames,I.ok.mod,I.bs,fv I.ok.bsz I.sz,I.stack,I.zB,I.hok,I.bare⟩
theorem Inv.after (I:Inv X pins σ H s) (h:CE X.stack X.prog X.w H s Q u s'):EP X pins σ Q u s':=by
 obtain⟨v,H',os,bare,un,hok,r,q⟩:=h;obtain⟨hh,g,d,t,i⟩:=s';obtain rfl:i=s.os:=os;exact⟨v,H',I.call un hok bare (fun b z=>absurd z (by simp)),r,q⟩
def BW (sp:Sp) (i:List V) (E:XK) (t:TA):TE:=fun σ H Q=>t σ H fun vs q=>sp (vs++i) q Q E
def Lw (C:Addr) (sp:Sp) (q:List V) (E:XK) (t:TA):TE:=fun σ H Q=>t σ H fun vs i=> ∀x dx,i x=none->i dx=none->dx≠x->
 sp (.ref x::(vs++q)) (upd (upd i dx (.own x)) x (.ins C dx [])) (fun v u=>v = .non/\Q (.ref x) u) E
def Binds (K:W.Frag) (q:FuncData) (i:List Str) (ds:List Value):Prop:=
 ∀(s:Shared) (us:List Value),K.In s.heap->(us++ds).length=i.length->BindsTo s q ⟨us,[]⟩ (i.zip (us++ds))
theorem Binds.all {K:W.Frag} (h:∀us:List Value,us.length=ps.length->bindArgs fd ⟨us,[]⟩=pure (ps.zip us)):Binds K fd ps []:=fun s us _ hl=>by
 rw[hL] at hl⊢;exact .of_eq (h us hl)
def Passes (CX:Ga) (X:Cx) (E:XK):Prop:= ∀(i:List (Addr×Obj)) (σ:St) (H:Hp) (s:Shared) (e:Value) (q:Shared),Inv X i σ H s->CX X.stack H s E e q->X.xe e q
theorem C5 (F:wD X.prog X.w X.K X.mg X.base CX k f fd ps sp) (v:cY k X.A) (q:Binds X.K fd ps ds) (hd:Vals dvs ds) (hx:Passes CX X E) (I:Inv X pins σ H s) (r:Vals vs us) (h:sp (vs++dvs) H Q E):wpAny (model X.prog X.w) X.A (call (.ref f) us) (EP X pins σ Q) X.xe s:=by
 have r2:=r.append hd;have hl:(us++ds).length=ps.length:=by rw[<-r2.length];exact F.len _ _ _ _ h
 refine Yq (Yg (F.run _ _ s H _ _ _ Q E v I.Qj (q s us I.lV hl) r2 h) fun r x i=>?_);cases r with
 |error e=>exact hx _ σ H s e x I i
 |ok y=>
  cases y with
  |ret u=>exact I.after i
  |next=>trivial
  |brk=>trivial
  |cont=>trivial
theorem Iu (F:wD X.prog X.w X.K X.mg X.base CX k f fd ps sp) (z:cY k X.A) (hg:Gl X x) (hm:X.mg x=some (.ref f)) (hk:W.keepIn X.K (.ref f)=true) (C:Binds X.K fd ps ds) (hd:Vals dvs ds) (hx:Passes CX X E) (ha:PA X (e::es) t) (u:autoParam ((x == ("__debug__":Str))=false) qqd) (he:autoParam (starEach (e::es) X.env=(false,eval e X.env)::starEach es X.env) qqr) (i:autoParam ((backTo pos (starEach es X.env)).any (·.1)=false) qqr):
  PE X (.Call (.Name x p) (e::es) [] pos) (BW sp dvs E t):=by
 intro y s σ H Q I h;refine Xn (kz I hg hm ?_ u);refine Yh I.ok.mod.kin hk (fL (ha _ _ s σ H _ I h) fun us s1 vs G v r q=>⟨v.lV,?_⟩) he i;exact C5 F z C hd hx v r q
structure Mk (K:W.Frag) (C f:Addr):Prop where
 makes:W.makesIn K C=true
 init:W.findIn K (.ref C) "__init__" = some (some (.ref f))
 fn:W.isFn K (.ref f)=true
 kp:W.keepIn K (.ref C)=true
theorem LV (M:Mk X.K C f) (F:wD X.prog X.w X.K X.mg X.base CX k f fd ps sp) (G:cY (k+1) X.A) (U:Binds X.K fd ps ds) (hd:Vals dvs ds) (hx:Passes CX X E) (I:Inv X pins σ H s) (r:Vals vs us) (h:∀x dx,H x=none->H dx=none->dx≠x->sp (.ref x::(vs++dvs)) (upd (upd H dx (.own x)) x (.ins C dx [])) (fun v Y=>v = .non/\Q (.ref x) Y) E):
  wpAny (model X.prog X.w) X.A (call (.ref C) us) (EP X pins σ Q) X.xe s:=by
 have y:=h _ _ (I.hok.fresh (Nat.le_succ _)) (I.hok.fresh (cm _)) (ib (Nat.lt_succ_self _));have q:=Inv.made (C:=C) I;have r2:Vals (V.ref (s.heap.objs.size+1)::(vs++dvs)) _:= .cons rfl (r.append hd);have hl:=by
  have e:=r2.length;rw[F.len _ _ _ _ y] at e;exact e.symm
 refine Yq (MY I.lV M.makes M.init (zp.mp M.fn) (Yg (F.run _ _ _ _ _ _ _ _ E (G.make C us [])
  (q.Qj.make C us []) (U _ _ q.lV hl) r2 y) fun r O i=>?_))
 cases r with
 |error e=>exact hx _ σ _ _ e O q i
 |ok W=>
  cases W with
  |ret u=>
   obtain⟨v,H',P,Z,ev,z⟩:=q.after i;subst ev;exact⟨Z,⟨V.ref _,H',P,rfl,z⟩⟩
  |next=>trivial
  |brk=>trivial
  |cont=>trivial
theorem Pl (M:Mk X.K C f) (F:wD X.prog X.w X.K X.mg X.base CX k f fd ps sp) (z:cY (k+1) X.A) (hg:Gl X x) (hm:X.mg x=some (.ref C)) (G:Binds X.K fd ps ds) (hd:Vals dvs ds) (hx:Passes CX X E) (ha:PA X (e::es) t) (u:autoParam ((x == ("__debug__":Str))=false) qqd) (he:autoParam (starEach (e::es) X.env=(false,eval e X.env)::starEach es X.env) qqr) (i:autoParam ((backTo pos (starEach es X.env)).any (·.1)=false) qqr):
  PE X (.Call (.Name x p) (e::es) [] pos) (Lw C sp dvs E t):=by
 intro y s σ H Q I h;refine Xn (kz I hg hm ?_ u);refine Yh I.ok.mod.kin M.kp (fL (ha _ _ s σ H _ I h) fun us s1 vs O v r q=>⟨v.lV,?_⟩) he i;exact LV M F z G hd hx v r q
structure jl (N P:List Str) (sc:Scope):Prop where
 kind:sc.kind = .function
 co:sc.isCoroutine=false
 gen:sc.isGenerator=false
 nd:N.Nodup
 pre:N.take P.length=P
 par:∀x∈P,sc.names.lookup x=some .local\/sc.names.lookup x=some .cell
 nofree:∀y∈sc.names,y.2≠ .free
theorem CD {kindOf:Str->Option NameKind}:∀{binds:List (Str×Value)} {m:Str->Option Value},(∀v,(x,v) ∉ binds)->bindL kindOf binds m x=m x
 | [],_,_=>rfl
 |(n,v)::r,m,h=>by
  unfold bindL;rw[CD fun w hw=>h w (hQ _ hw)];split
  ·grind
  ·rfl
theorem CG {kindOf:Str->Option NameKind}:∀{binds:List (Str×Value)} {m:Str->Option Value},(∀v,(x,v) ∉ binds)->bindC kindOf binds m x=m x
 | [],_,_=>rfl
 |(n,v)::r,m,h=>by
  unfold bindC;rw[CG fun w hw=>h w (hQ _ hw)];split
  ·rfl
  ·grind
theorem CF {kindOf:Str->Option NameKind}:∀{P:List Str} {vs:List Value} {i:Nat} {m:Str->Option Value},P.Nodup->P[i]?=some x->vs[i]?=some v->kindOf x=some .local->
  bindL kindOf (P.zip vs) m x=some v
 | [],_,_,_,_,h,_,_=>by trivial
 |_::_,[],_,_,_,_,h,_=>by trivial
 |p::P,w::vs,0,m,nd,h1,h2,hk=>by
  simp at h1 h2;subst h1;subst h2;show bindL _ ((p,w)::P.zip vs) m p=_;unfold bindL;rw[CD fun v q=>(Sk.mp nd).1 (List.of_mem_zip q).1,bc hk];simp
 |p::P,w::vs,i+1,m,nd,h1,h2,hk=>by
  unfold bindL;exact CF (Sk.mp nd).2 (‹_›) (‹_›) hk
theorem CI {kindOf:Str->Option NameKind}:∀{P:List Str} {vs:List Value} {i:Nat} {m:Str->Option Value},P.Nodup->P[i]?=some x->vs[i]?=some v->kindOf x≠some .local->
  bindC kindOf (P.zip vs) m x=some v
 | [],_,_,_,_,h,_,_=>by trivial
 |_::_,[],_,_,_,_,h,_=>by trivial
 |p::P,w::vs,0,m,nd,h1,h2,hk=>by
  simp at h1 h2;subst h1;subst h2;show bindC _ ((p,w)::P.zip vs) m p=_;unfold bindC;rw[CG fun v q=>(Sk.mp nd).1 (List.of_mem_zip q).1,a5 hk];simp
 |p::P,w::vs,i+1,m,nd,h1,h2,hk=>by
  unfold bindC;exact CI (Sk.mp nd).2 (‹_›) (‹_›) hk
noncomputable def start (N:List Str) (vs:List V):St:=vs.map some++List.replicate (N.length-vs.length) none
noncomputable def AV (CX:Ga) (P:Program) (w:World) (K:W.Frag) (mg:Str->Option Value) (base:Heap) (N:List Str) (qual:Str) (scope:Scope) (f:Addr) (cd:Value) (A:Around) (outer:List Env) (s:Shared) (H:Hp) (E:XK):Cx where
 prog:=P
 w:=w
 K:=K
 mg:=mg
 base:=base
 A:=A.deeper (envOfC qual scope s.heap.objs.size f cd)
 N:=N
 s₀:=s
 H₀:=H
 env:=envOfC qual scope s.heap.objs.size f cd
 outer:=outer
 stack:=envOfC qual scope s.heap.objs.size f cd::outer
 ex:=[]
 calm:=true
 fn:=fun _=>true
 pn:=[]
 xe:=fun e q=>wpAny (model P w) (A.deeper (envOfC qual scope s.heap.objs.size f cd)) (leaving (envOfC qual scope s.heap.objs.size f cd) e) (fun _ i=>CX outer H s E e i) (fun u i=>CX outer H s E u i) q
theorem FU {sc:Scope} {n:Nat} {x:Str} (h:sc.names.lookup x=some .cell):∃c,(cellsFrom n sc.names []).lookup x=some c:=by
 have q:=W.cellsFrom_some _ n [] (.inl h);exact ro.mp q
theorem KN {CX:Ga} {P:Program} {w:World} {K:W.Frag} {mg:Str->Option Value} {base:Heap} {N G:List Str} {qual:Str} {scope:Scope} {f:Addr} {cd:Value} {A:Around} {outer:List Env} {s s1:Shared} {H:Hp} {E:XK} {us:List Value} {vs:List V}
  (S:jl N G scope) (hd:A.handled=none) (e0:HE P w K mg base A outer s H) (hl:vs.length=G.length) (r:Vals vs us)
  (x:InCallC s s.heap.objs.size (bindL (envOfC qual scope s.heap.objs.size f cd).kindOf (G.zip us) fun _=>none) (cellsFrom (s.heap.objs.size+1) scope.names []) (bindC (envOfC qual scope s.heap.objs.size f cd).kindOf (G.zip us) fun _=>none) s1):
  Inv (AV CX P w K mg base N qual scope f cd A outer s H E) [] (start N vs) H s1:=by
 have U:G.length<=N.length:=by have:=Xm List.length S.pre;rw[n4] at this;lia
 obtain⟨h1,tk,rfl,hk⟩:=x.done;have F:∀b,b ∉ (AV CX P w K mg base N qual scope f cd A outer s H E).ex:=fun b z=>absurd (show b∈([]) from z) (by simp);refine⟨⟨e0.mod,S.kind,rfl,rfl,cm _,fun y z c h1 C=>?_,fun y hy=>?_,fun y c _ h=>?_,fun _=>hd,Around.frames_deeper e0.frames,.inr ⟨rfl,rfl⟩,fun b z=>absurd z (F b),e0.bs,e0.bsz,fun b _ _=>F b,fun b z=>absurd z (F b),e0.funs,e0.frf⟩,
  rfl,e0.bare,Un.kept hk,⟨_,x.toInCall.ns,fun i y v h1 C Y=>?_⟩,fun y c h=>⟨_,x.cell y c h⟩,e0.hok.fresh (cm _),fun y c h=>?_,fun p hp=>absurd (show p∈([]) from hp) (by simp),e0.hok.kept hk,?_⟩
 ·exact name_of_addr x.apart (zl h1) (zl C)
 ·rcases hy with hy|hy
  ·exact FU hy
  ·exact absurd rfl (S.nofree _ (zl hy))
 ·exact Nat.le_of_lt (x.above y c (zl h))
 ·have O:i<vs.length:=by
   unfold start at C;by_cases O:i<vs.length
   ·exact O
   ·rw[Xk (by simpa using O)] at C;rw[List.getElem?_replicate] at C;split at C<;>cases C
  have ha:vs[i]?=some v:=by
   unfold start at C;rw[mu (by simpa using O)] at C;cases e:vs[i]?<;>simp_all
  obtain⟨u,Q,X⟩:=r.get ha;have hp:G[i]?=some y:=by
   rw[<-S.pre,List.getElem?_take_of_lt (by lia)];exact h1
  have I:G.Nodup:=by rw[<-S.pre];exact S.nd.sublist (List.take_sublist _ _)
  refine⟨u,X,?_⟩;rcases S.par y (XB hp) with k|k
  ·exact .inl ⟨k,CF I hp Q k⟩
  ·obtain⟨c,e⟩:=FU k;refine .inr ⟨.inl k,c,e,?_⟩;have q:=x.cell y c e;rw[CI I hp Q (by show scope.names.lookup y≠_;rw[k];decide)] at q;exact q
 ·exact e0.hok.fresh (Nat.le_of_lt (x.above y c (zl h)))
 ·unfold start;show _=N.length;rw[ey,cF,XR];lia
theorem IJ {CX:Ga} {P:Program} {w:World} {K:W.Frag} {mg:Str->Option Value} {base:Heap} {k:Nat} {f:Addr} {name qual:Str} {params:Arguments} {body:List Stmt} {scope:Scope} {dV kV doc pm i ct oc:Value} {an od:Option Addr}
  {Y:Array (Option Value)} {N G:List Str} {sp:Sp} (lk:K.lookup f=some ⟨oc,od,.func (W.fnOf name qual params body scope dV kV doc pm an i ct),Y⟩) (O:W.codeIn K i qual=true) (S:jl N G scope)
  (len:∀vs H Q E,sp vs H Q E->vs.length=G.length)
  (
   hbody:∀(A:Around) (outer:List Env) (s:Shared) (H:Hp) (vs:List V) (Q:VK) (E:XK),cY k (A.deeper (envOfC qual scope s.heap.objs.size f i))->sp vs H Q E->
   ∃t,zU (AV CX P w K mg base N qual scope f i A outer s H E) body t/\t {nx:=fun _ H'=>Q .non H',rt:=Q} (start N vs) H):
  wD P w K mg base CX (k+1) f (W.fnOf name qual params body scope dV kV doc pm an i ct) G sp:=by
 refine⟨len,fun A outer s H args us vs Q E U e0 hb r F=>?_⟩;have hl:=len _ _ _ _ F;have KX:=e0.mod.kin.keeps fun b o e=>(e0.bs b o e).1;have lim:=e0.mod.nolimit.keeps fun b o e=>(e0.bs b o e).1;have C:∀y∈G.zip us,scope.names.lookup y.1=some _\/(scope.names.lookup y.1=some _/\((cellsFrom (s.heap.objs.size+1) _ []).lookup y.1).isSome=true):=fun⟨n,v⟩ hy=>by
  rcases S.par n (List.of_mem_zip hy).1 with q|q
  ·exact .inl q
  ·exact .inr ⟨q,W.cellsFrom_some _ _ _ (.inl q)⟩
 refine codeAny_call_function U.depth (KX _ _ lk) rfl S.co S.gen rfl (W.codeRec_of KX O) (hb _ _ _ _ ?_);refine wpAny_newFunctionEnv_cells S.kind C fun env he s1 x=>?_;subst he;refine⟨lim.keeps x.toInCall.keep,codeAny_func ?_⟩;obtain⟨t,ht,hq⟩:=hbody A _ s H vs Q E (U.deeper _) F;have I:Inv (AV CX P w K mg _ N _ _ f _ A _ s H E) [] _ H s1:=KN S U.hd e0 hl r x;refine mj (ht [] s1 _ H _ I hq) (fun fl X hs=>?_) fun e X hs=>hs;have fin:∀{z:St} {H':Hp} {v:V} {u:Value},Inv (AV CX P w K mg base N qual scope f i A _ s H E) [] z H' X->RelV v u->Q v H'->CE outer P w H s Q u X:=
  fun{z H' v u} J Z q=>⟨v,H',J.os,J.bare,J.base,J.hok,Z,q⟩
 cases fl with
 |ret u=>
  obtain⟨v,z,H',J,Z,q⟩:=hs;exact fin J Z q
 |next=>
  obtain⟨z,H',J,q⟩:=hs;exact fin (v:=V.non) J rfl q
 |brk=>
  obtain⟨_,_,_,q⟩:=hs;exact False.elim q
 |cont=>
  obtain⟨_,_,_,q⟩:=hs;exact False.elim q
def Ug (r:List V->Hp->VK->Prop) (t:TA):TE:=fun σ H Q=>t σ H fun vs i=>r vs i Q
theorem MD {X:Cx} {x:Str} {p pos:Pos} {e:Expr} {es:List Expr} {t:TA} {id:String} {r:List V->Hp->VK->Prop} (hc:bM X (.builtin id) r) (hg:Gl X x) (hm:X.mg x=none) (C:bootBuiltins x=some (.builtin id)) (ha:PA X (e::es) t) (hn:autoParam (x≠ "__name__" ) qqd) (q:autoParam ((x == ("__debug__":Str))=false) qqd)
  (he:autoParam (starEach (e::es) X.env=(false,eval e X.env)::starEach es X.env) qqr) (i:autoParam ((backTo pos (starEach es X.env)).any (·.1)=false) qqr):PE X (.Call (.Name x p) (e::es) [] pos) (Ug r t):=by
 intro u s σ H Q I h;refine Xn (uJ I hg hm C ?_ hn q);exact PyProof.Rows.callWith_builtin1 (fL (ha _ _ s σ H _ I h) fun us s1 vs v y z E=>hc _ s1 σ v vs us Q y z E) he i
theorem Ka (hc:bM X (.type T) r) (hg:Gl X x) (hm:X.mg x=none) (C:bootBuiltins x=some (.type T)) (ha:PA X (e::es) t) (hn:autoParam (x≠ "__name__" ) qqd) (q:autoParam ((x == ("__debug__":Str))=false) qqd) (he:autoParam (starEach (e::es) X.env=(false,eval e X.env)::starEach es X.env) qqr) (i:autoParam ((backTo pos (starEach es X.env)).any (·.1)=false) qqr):PE X (.Call (.Name x p) (e::es) [] pos) (Ug r t):=by
 intro u s σ H Q I h;refine Xn (uJ I hg hm C ?_ hn q);exact Xg (fL (ha _ _ s σ H _ I h) fun us s1 vs v y z E=>hc _ s1 σ v vs us Q y z E) he i
end
end Lake
namespace HT
open PySem PyProof.Rows
section
open PySem.SeqAt
open PySem.AutoSeq1 (wpAny_loadPart')
open PySem.MeetsSeq PySem.MeetsSeq2 PySem.MeetsSeq3
end
mutual
theorem Qq (ht:IsTup s.heap t vs.toArray) (G:IsTup s.heap b ws.toArray) (H:vs≠[]) (h1:ws= []->Q (.ref t) s) (C:ws≠[]->Q (.ref s.heap.objs.size) {s with heap:=s.heap.push {cls:= .type "tuple",data:= .seq (vs++ws).toArray}}) (hsz:vs.length+ws.length<=sizeLine):wpAny (model prog w) A (binaryOp .Add (.ref t) (.ref b)) Q E s:=by
 obtain⟨⟨cls,dd,data,sl⟩,q,hc,n,hd⟩:=id ht;obtain⟨⟨v,y,data2,z⟩,i,u,x,hd2⟩:=id G;subst hc hd u hd2;have e:vs.toArray++ws.toArray=(vs++ws).toArray:=by simp
 by_cases hw:ws= []
 ·exact concat_meets ⟨_,q,rfl⟩ ⟨_,i,rfl⟩ noFill_tuple_add seq_tuple_add PySem.F.slot_tuple_add PySem.F.entry_tuple_add (PySem.F.args_tuple_add_2 _ _)
   (tuple_addW1 t b _ _ n x dd _ sl _ (by simp_all) (by simp_all)) ⟨q,i,h1 hw⟩
 ·refine concat_meets ⟨_,q,rfl⟩ ⟨_,i,rfl⟩ noFill_tuple_add seq_tuple_add PySem.F.slot_tuple_add PySem.F.entry_tuple_add (PySem.F.args_tuple_add_2 _ _)
   (tuple_addW2 t b _ _ n x dd _ sl _ (by simp_all) (by simp_all) (by trivial)) ⟨q,i,?_⟩
  rw[e];exact C hw
noncomputable def oq (n d:Nat):Option Int->Nat
 |none=>d
 |some v=>if v<0 then(v+(n:Int)).toNat else min v.toNat n
theorem LP (n d:Nat):oq n d none=d:=rfl
theorem C1 (n d k:Nat):oq n d (some (k:Int))=min k n:=rfl
theorem Wr (n d:Nat) (hd:d<=n) (o:Option Int):oq n d o<=n:=by
 cases o with
 |none=>exact hd
 |some v=>
  show(if v<0 then(v+(n)).toNat else min _ n)<=n;by_cases i:v<0
  ·lia
  ·rw[a5 i];exact Nat.min_le_right _ _
theorem I_ (v:Int) (n d:Nat):(if v<0 then max (v+(n:Int)) 0 else min v (n:Int))=((oq n d (some v):Nat):Int):=by
 show _=((if v<0 then(v+(n)).toNat else min v.toNat n:Nat):Int);by_cases i:v<0
 ·rw[bc i,bc i];exact (Int.toNat_eq_max _).symm
 ·rw[a5 i,a5 i];obtain⟨k,rfl⟩:=Int.eq_ofNat_of_zero_le (Int.not_lt.mp i);show min (k:Int) n=((min k n:Nat):Int);omega
theorem Hz (lo i:Option Int) (n:Nat):Builtin.Slice.sliceAdjust lo i 1 (n:Int)=(((oq n 0 lo:Nat):Int),((oq n n i:Nat):Int)):=by
 refine Prod.ext ?_ ?_
 ·cases lo with
  |none=>rfl
  |some v=>exact I_ v n 0
 ·cases i with
  |none=>rfl
  |some v=>exact I_ v n n
theorem GN (i j:Nat):Builtin.Slice.slicePlaces (i:Int) (j:Int) 1=j-i:=by
 unfold Builtin.Slice.slicePlaces;have h1:(1:Int) > 0:=by lia
 simp;split<;>lia
theorem zZ (p:IsPart v o) (h:Q o s):wpAny (model prog w) A (Builtin.Slice.slicePartIndex v) Q E s:=by
 cases p with
 |none=>exact slicePart_none h
 |int i t=>exact slicePart_int h
theorem wN {lo:Option Int} {Q:Int×Int×Nat->Shared->Prop} (hs:s.heap.IsSliceOf sl vl vu .none) (pl:IsPart vl lo) (pu:IsPart vu hi) (h:Q (((oq n 0 lo:Nat):Int),1,oq n n hi-oq n 0 lo) s):wpAny (model prog w) A (Builtin.Slice.sliceApplied (.ref sl) (pure (n:Int))) Q E s:=by
 obtain⟨os,i,u,q⟩:=id hs;refine cc (cc (XI i q (x:=vl) rfl (cc (XI i q (x:=vu) rfl (cc (XI i q rfl (de ?_)))))));refine cc (slicePart_none ?_);refine cc (zZ pl (cc (zZ pu (cc (de ?_)))));show wpAny _ _ (match Builtin.Slice.sliceAdjust lo hi 1 _ with|(lo,hi)=>pure (lo,(1:Int),Builtin.Slice.slicePlaces lo hi 1)) _ _ s
 rw[Hz lo hi n];show wpAny _ _ (pure _) _ _ s;rw[GN];exact de h
theorem Mv (xs:Array Value) (i k:Nat):((List.range k).filterMap fun(m:Nat)=>xs[((i:Int)+(m:Int)*1).toNat]?).toArray=((xs.toList.drop i).take k).toArray:=by
 have e:(fun(m:Nat)=>xs[((i)+(m:Int)*1).toNat]?)=fun m=>xs[i+m]?:=by
  grind
 rw[e];have:=pick_run xs i k;rw[List.filterMap_map] at this;have e2:((fun x=>xs[x]?)∘fun x=>i+x)=fun m=>xs[i+m]?:=rfl;rw[e2] at this;rw[this]
theorem vP {lo:Option Int} (ht:IsTup s.heap t items) (hs:s.heap.IsSliceOf sl vl vu .none) (pl:IsPart vl lo) (pu:IsPart vu q) (hw: ¬(oq items.size 0 lo=0/\oq items.size items.size q=items.size)) (h:Q (.ref s.heap.objs.size) {s with heap:=s.heap.push {cls:= .type "tuple",data:= .seq ((items.toList.drop (oq items.size 0 lo)).take (oq items.size items.size q-oq items.size 0 lo)).toArray}}) (hsz:items.size<=sizeLine):wpAny (model prog w) A (getItem (.ref t) (.ref sl)) Q E s:=by
 have i:=by
  show((items.toList.drop (oq items.size 0 lo)).take (oq items.size items.size q-oq items.size 0 lo)).toArray.size<=sizeLine;rw[h6,n4,List.length_drop,vp];exact fv (Nat.min_le_right _ _) (fv (Nat.sub_le _ _) hsz)
 obtain⟨os,x,y,z⟩:=id hs;have v:s.TypeIs (.ref sl) _:=⟨os,x,y⟩;unfold getItem
 try with_reducible refine Xq ?_
 refine cc (wpAny_sequenceKey ht.typeIs (rfl) ?_);refine cc (wpAny_callSpecial?_slot ht.typeIs PyProof.Rows.slot_tuple_getitem
  (wpAny_call_entry PyProof.Rows.slot_tuple_getitem ht.typeIs entry_tuple_getitem ?_ (args_tuple_getitem _ _)))
 show wpAny _ _ (Builtin.Tuple.tupleItemsOf _ >>= _) _ _ s;refine cc (tupleItemsOf_ ht ?_);refine cc (wpAny_typeOf v ?_);refine cc (wN hs pl pu ?_);have u: ¬((((oq items.size 0 lo):Int) == 0&&(1:Int) == 1&&(oq items.size items.size q-oq items.size 0 lo) == items.size)=true):=by
  simp_all
 show wpAny _ _ (if(((oq _ 0 lo):Int) == 0&&(1) == 1&&(oq _ _ q-oq _ 0 lo) == items.size)=true then _ else _) _ _ s;rw[a5 u,Mv]
 first
  |omega
  |exact cc (wpAny_newObj_type (cc (de (de ⟨_,rfl,de h⟩))) i)
  |rfl
  |rfl
end
end HT
namespace Lake
mutual
open PySem PySem.Spec PyProof.Rows
noncomputable abbrev TO:=St->Hp->(Option Int->Hp->Prop)->Prop
def PO (X:Cx) (e:Option Expr) (t:TO):Prop:=
 ∀(i:List (Addr×Obj)) (s:Shared) (σ:St) (H:Hp) (Q:Option Int->Hp->Prop),Inv X i σ H s->t σ H Q->
  wpAny (model X.prog X.w) X.A (evalPart e X.env) (fun u q=> ∃o H',Inv X i σ H' q/\IsPart u o/\Q o H') X.xe s
def HK:TO:=fun _ H Q=>Q none H
def QL (t:TE):TO:=fun σ H Q=>t σ H fun x q=> ∃i,x = .int i/\Q (some i) q
theorem zI:PO X none HK:=by
 intro i s σ H Q I h;exact de ⟨_,H,I,.none,h⟩
theorem mf (h:PE X e te):PO X (some e) (QL te):=by
 intro v s σ H Q I hw;refine fL (h _ s σ H _ I hw) fun u s1 x y z C E=>?_;obtain⟨i,rfl,q⟩:=E;obtain⟨t,rfl⟩:=C;exact⟨_,y,z,.int i t,q⟩
def Jg (X:Cx) (r:V->Option Int->Option Int->Hp->VK->Prop):Prop:=
 ∀(i:List (Addr×Obj)) (s:Shared) (σ:St) (H:Hp) (x:V) (v u q:Value) (lo y:Option Int) (sl:Addr) (Q:VK),Inv X i σ H s->RelV x v->s.heap.IsSliceOf sl u q .none->IsPart u lo->IsPart q y->r x lo y H Q->
  ∃T id,typeLookup (.type T) "__getitem__" = pure (some (.builtin id))/\s.TypeIs v T/\wpAny (model X.prog X.w) X.A (getItem v (.ref sl)) (EP X i σ Q) X.xe s
theorem Jg.or (h:Jg X r) (E:Jg X r'):Jg X (fun x lo i H Q=>r x lo i H Q\/r' x lo i H Q):=by
 intro z s σ H x v y C lo i sl Q I u hs pl pu q;rcases q with q|q
 ·exact h _ s σ H x v y C lo i sl Q I u hs pl pu q
 ·exact E _ s σ H x v y C lo i sl Q I u hs pl pu q
def WY (r:V->Option Int->Option Int->Hp->VK->Prop) (te:TE) (tl th:TO):TE:=fun σ H Q=>te σ H fun x q=>tl σ q fun l v=>th σ v fun u i=>r x l u i Q
theorem nI {X:Cx} {e:Expr} {te:TE} {lo z:Option Expr} {tl th:TO} {pos Z:Pos} {r:V->Option Int->Option Int->Hp->VK->Prop} (U:Jg X r) (he:PE X e te) (hl:PO X lo tl) (hu:PO X z th):PE X (.Subscript e (.Slice lo z none Z) pos) (WY r te tl th):=by
 intro C s σ H Q I h;refine Subscript_ (fL (he _ s σ H _ I h) fun v s1 x G O P q1=>?_);refine wpAny_Slice (fL (hl _ s1 σ G _ O q1) fun i s2 l H2 I2 pl q2=>fL (hu _ s2 σ H2 _ I2 q2) fun E s3 u y Y pu F=>?_);refine de ?_;have I4:Inv X _ σ y {s3 with heap:=s3.heap.push {cls:= .type "slice",data:= .fields #[i,E,.none]}}:=Y.kept fun b ob q=>cP _ q;obtain⟨T,id,W,ht,hg⟩:=U _ _ σ y x v i E l u _ Q I4 P (Heap.IsSliceOf.new ..) pl pu F;exact tail_any ht W hg (rfl)
noncomputable def AX (xs:List V) (lo i:Option Int):List V:=(xs.drop (HT.oq xs.length 0 lo)).take (HT.oq xs.length xs.length i-HT.oq xs.length 0 lo)
theorem yN (xs:List V) (lo i:Option Int):(AX xs lo i).length<=xs.length:=by
 unfold AX;rw[n4,List.length_drop];exact fv (Nat.min_le_right _ _) (Nat.sub_le _ _)
def Ut (K:W.Frag):V->Option Int->Option Int->Hp->VK->Prop:=fun x lo i H Q=> ∃a xs,x = .ref a/\du K H a xs/\
 ¬(HT.oq xs.length 0 lo=0/\HT.oq xs.length xs.length i=xs.length)/\∀p,H p=none->Q (.ref p) (upd H p (.tup (AX xs lo i)))
theorem Rw:Jg X (Ut X.K):=by
 intro u s σ H x v E F lo C sl Q I y hs pl pu h;obtain⟨a,xs,rfl,hx,hw,q⟩:=h;cases y;obtain⟨i,r,ht,z⟩:=I.tuple hx;have hlen:i.toArray.size=xs.length:=by exact r.length.symm
 refine⟨_,_,rfl,ht.typeIs,?_⟩;refine HT.vP ht hs pl pu (by rw[hlen];exact hw) ?_ (by simp_all);rw[hlen];refine⟨.ref _,_,I.laid (fun b ob q=>cP _ q) (cm _) ?_,rfl,q _ (I.hok.fresh (cm _))⟩;exact⟨fv (yN xs lo C) z,_,(r.drop _).take _,IsTup.new _ _⟩
def QU (K:W.Frag):R2:=fun x y H Q=> ∃a b xs i,x = .ref a/\y = .ref b/\du K H a xs/\du K H b i/\xs≠[]/\xs.length+i.length<=sizeLine/\
 (i= []->Q (.ref a) H)/\(i≠[]->∀p,H p=none->Q (.ref p) (upd H p (.tup (xs++i))))
theorem Vals.DH (r:Vals xs us):us= []↔xs= []:=by
 cases r<;>simp_all
theorem Pu:gq X (binaryOp .Add) (QU X.K):=by
 intro E s σ H x y v u Q I F G h;obtain⟨a,b,xs,ys,rfl,rfl,ha,W,hx,O,Y,Z⟩:=h;cases F;cases G;obtain⟨P,i,p1,_⟩:=I.tuple ha;obtain⟨C,r2,U,_⟩:=I.tuple W;refine HT.Qq p1 U (fun z=>hx (i.DH.mp z)) (fun z=>⟨.ref a,H,I,rfl,Y (r2.DH.mp z)⟩) (fun z=>?_) (by rw[<-i.length,<-r2.length];exact O);refine⟨.ref _,_,I.laid (fun b ob q=>cP _ q) (cm _) ?_,rfl,Z (fun w=>z (r2.DH.mpr w)) _ (I.hok.fresh (cm _))⟩;exact⟨by simp_all,_,i.append r2,IsTup.new _ _⟩
noncomputable def Li (n:Nat) (i:Int):Option Nat:=if 0<=i then(if i<n then some i.toNat else none) else if -(n:Int)<=i then some (i+n).toNat else none
noncomputable def iN {α:Type} (xs:List α) (i:Int):Option α:=(Li xs.length i).bind fun j=>xs[j]?
theorem ID (h:Li n i=some j):seqIndex? i n=some j/\j<n/\-(n:Int)<=i/\i<n:=by
 unfold Li at h;by_cases h0:0<=i
 ·rw[bc h0] at h;by_cases h1:i<n
  ·rw[bc h1] at h;have e:=Xp h;exact⟨by rw[seqIndex_of h0 h1,e],by lia,by lia,h1⟩
  ·simp_all
 ·rw[a5 h0] at h;by_cases h1 : -(n)<=i
  ·rw[bc h1] at h;have e:=Xp h;exact⟨by rw[seqIndex_neg (by lia) h1,e],by lia,h1,by lia⟩
  ·simp_all
theorem Eh {v:α} (h:iN xs i=some v):∃j,seqIndex? i xs.length=some j/\xs[j]?=some v/\j<xs.length/\-(xs.length:Int)<=i/\i<xs.length:=by
 unfold iN at h;cases e:Li xs.length i with
 |none=>simp_all
 |some j=>
  rw[e] at h;obtain⟨h1,x,q,u⟩:=ID e;exact⟨j,h1,h,x,q,u⟩
theorem Qu {j:Nat} {v:α} (h:xs[j]?=some v):iN xs (j:Int)=some v:=by
 have i:=(ek.mp h).1;have e:Li xs.length (j)=some j:=by
  unfold Li;rw[bc (by lia),bc (by lia)];simp
 unfold iN;rw[e];exact h
def Eo (b:Expr):Prop:= ∀o i,subscripted b false o i=operate [o,i] (getItem o i)
def F9 (X:Cx) (r:R2):Prop:=
 ∀(value slice:Expr) (i:List (Addr×Obj)) (s:Shared) (σ:St) (H:Hp) (x y:V) (v u:Value) (Q:VK),Inv X i σ H s->RelV x v->RelV y u->r x y H Q->
  subscripted slice false v u=operate [v,u] (getItem v u)->wpAny (model X.prog X.w) X.A (subscriptTail value slice v u) (EP X i σ Q) X.xe s
def Oj (X:Cx) (id:String) (r:V->List V->Hp->VK->Prop):Prop:=
 ∀(i:List (Addr×Obj)) (s:Shared) (σ:St) (H:Hp) (x:V) (xs:List V) (v:Value) (us:List Value) (Q:VK),Inv X i σ H s->RelV x v->Vals xs us->r x xs H Q->
  wpAny (model X.prog X.w) X.A (call (.builtin id) (v::us)) (EP X i σ Q) X.xe s
end
section
mutual
variable {X:Cx} {o:Expr} {to:TE} {name:Str} {apos cpos:Pos} {T id:String} {r:V->List V->Hp->VK->Prop}
theorem F9.or {r r':R2} (h:F9 X r) (E:F9 X r'):F9 X (fun x y H Q=>r x y H Q\/r' x y H Q):=by
 intro value slice C s σ H x y v u Q I i z q hs;rcases q with q|q
 ·exact h _ _ _ s σ H x y v u Q I i z q hs
 ·exact E _ _ _ s σ H x y v u Q I i z q hs
theorem QV {a b:Expr} {z i:TE} {pos:Pos} {r:R2} (E:F9 X r) (ha:PE X a z) (O:PE X b i) (hs:Eo b):PE X (.Subscript a b pos) (Er r z i):=by
 intro C s σ H Q I h;exact Subscript_ (TB ha O I h fun v u s2 x y U P F G q=>E a b _ s2 σ U x y v u Q P F G q (hs _ _))
def Uz (K:W.Frag):R2:=fun x y H Q=> ∃p xs i v,x = .ref p/\y = .int i/\cI K H p xs/\iN xs i=some v/\Q v H
def Ux (K:W.Frag):R2:=fun x y H Q=> ∃p xs i v,x = .ref p/\y = .int i/\du K H p xs/\iN xs i=some v/\Q v H
def Uy:R2:=fun x y H Q=> ∃z i c,x = .str z/\y = .int i/\z.length<=sizeLine/\iN z.cps.toList i=some c/\Q (.str ⟨#[c]⟩) H
theorem PX:F9 X (Uz X.K):=by
 intro value slice O s σ H x y v u Q I P W h hs;obtain⟨p,xs,i,z,rfl,rfl,Z,he,q⟩:=h;cases P;obtain⟨t,rfl⟩:=W;obtain⟨C,r,pl,hz⟩:=I.list Z;obtain⟨j,h1,Y,h3,U,h5⟩:=Eh he;obtain⟨w,G,F⟩:=r.get Y;have hl:=r.length;have hn:=xC;have fin:EP X _ σ Q w s:=⟨z,H,I,F,q⟩;by_cases h0:0<=i
 ·have E:=by
   rw[seqIndex_of h0 h5] at h1;exact Xp h1
  exact item_listR pl.isList h0 (by lia) (by rw[E];simpa using G) fin hs
 ·have E:(i+(C.toArray.size)).toNat=j:=by
   rw[seqIndex_neg (by lia) U] at h1;rw[h6,<-hl];exact Xp h1
  exact subscriptTail_builtinR pl.isList.typeIs slot_list_getitem.lookup
   (wpAny_getItem_list_neg pl.isList (by lia) (by simp_all) (by lia) (by rw[E];simpa using G) ⟨rfl,fin⟩) hs
theorem SE:F9 X (Ux X.K):=by
 intro value slice E s σ H x y v u Q I F G h hs;obtain⟨p,xs,i,z,rfl,rfl,W,he,q⟩:=h;cases F;obtain⟨t,rfl⟩:=G;obtain⟨P,r,pl,Z⟩:=I.tuple W;obtain⟨j,h1,U,h3,Y,h5⟩:=Eh he;obtain⟨w,O,C⟩:=r.get U;have hl:=r.length;have hn:=xC;have fin:EP X _ σ Q w s:=⟨z,H,I,C,q⟩;exact subscriptTail_builtinR pl.typeIs slot_tuple_getitem.lookup
  (getItem_tuple (j:=j) pl (by lia) (by lia) (by simp_all) (by simpa using O) ⟨rfl,fin⟩) hs
theorem SF:F9 X Uy:=by
 intro value slice C s σ H x y v u Q I E G h hs;obtain⟨z,i,c,rfl,rfl,U,he,q⟩:=h;obtain⟨t,rfl⟩:=E;obtain⟨t',rfl⟩:=G;obtain⟨j,h1,O,W,F,P⟩:=Eh he;have hl:z.cps.toList.length=z.length:=rfl;rw[hl] at h1 F P;have hn:=xC;exact tail_any (typeIs_str s z t) slot_str_getitem.lookup (getItem_str (by
  lia) (by rw[h1];simpa using O) ⟨.str _,H,I.tok _,⟨_,rfl⟩,q⟩) hs
def Xb (K:W.Frag):R2:=fun x y H Q=>Uz K x y H Q\/Ux K x y H Q\/Uy x y H Q
theorem SG:F9 X (Xb X.K):=PX.or (SE.or SF)
theorem G9 (i:List Value) (n j:Nat) (u:Value):Obj.mapSeq (·.setIfInBounds j u) {cls:= .type "list",data:= .seq i.toArray n}={cls:= .type "list",data:= .seq (i.set j u).toArray n}:=by
 simp[Obj.mapSeq]
theorem Inv.lst (I:Inv X pins σ H s) (h:H p=some (.lst xs)):
  ∃(i:List Value) (n:Nat),Vals xs i/\s.heap.get? p=some {cls:= .type "list",data:= .seq i.toArray n}/\xs.length<=sizeLine:=by
 obtain⟨z,i,n,r,e⟩:=I.hok p _ h;exact⟨i,n,r,e,z⟩
theorem Inv.Sl {i:List Value} (I:Inv X pins σ H s) (h:H p=some (.lst xs)) (x:s.heap.get? p=some {cls:= .type "list",data:= .seq i.toArray n}) (hf:f {cls:= .type "list",data:= .seq i.toArray n}={cls:= .type "list",data:= .seq its'.toArray n'}) (r:Vals ys its') (v:ys.length<=sizeLine) (t:Nat):
  Inv X pins σ (upd H p (.lst ys)) {s with heap:=s.heap.update p f,toks:=t}:=by
 have e:(s.heap.update p f).get? p=some {cls:= .type "list",data:= .seq its'.toArray n'}:=by
  rw[Xy f x (by rw[hf]<;>rfl),hf]
 refine I.write (by rw[h];trivial) (.inl rfl) (fun b u y q=>(mP _ _ (L1 y)).trans q) ⟨_,e⟩ ?_;exact⟨v,_,n',r,e⟩
def Uu:V->V->V->Hp->(Hp->Prop)->Prop:=fun o i v H Q=> ∃p xs k j,o = .ref p/\i = .int k/\H p=some (.lst xs)/\Li xs.length k=some j/\Q (upd H p (.lst (xs.set j v)))
theorem set_list:QB X Uu:=by
 intro C s σ H o i v Y iv u Q I P E U h;obtain⟨p,xs,k,j,rfl,rfl,hp,G,q⟩:=h;cases P;obtain⟨t,rfl⟩:=E;obtain⟨x,n,r,y,Z⟩:=I.lst hp;obtain⟨h1,h2,O,F⟩:=ID G;have hl:=r.length;have hn:=xC;have z:=
  I.Sl hp y (G9 _ n j u) (r.set U j) (by simp_all) s.toks
 by_cases h0:0<=k
 ·have hk:=by
   rw[seqIndex_of h0 F] at h1;exact Xp h1
  exact W.ki_setAt y h0 (by lia) (by simp_all) (by rw[hk];exact⟨_,z,q⟩)
 ·have hk:(k+(x.toArray.size)).toNat=j:=by
   rw[seqIndex_neg (by lia) O] at h1;rw[h6,<-hl];exact Xp h1
  exact W.ki_setBack y (by lia) (by simp_all) (by lia) (by rw[hk];exact⟨_,z,q⟩)
theorem qqz (i:Int) (n:Nat):max 0 (min (if i<0 then i+n else i) n)=if i<0 then max (i+n) 0 else min i n:=by
 by_cases h:i<0
 ·rw[bc h,bc h,Int.min_eq_left (by omega),Int.max_comm]
 ·rw[a5 h,a5 h,Int.max_eq_right (Int.le_min.mpr ⟨Int.not_lt.mp h,Int.natCast_nonneg n⟩)]
theorem CZ (lo q:Option Int) (n:Nat):(sliceBounds lo q none n).1=((HT.oq n 0 lo:Nat):Int)/\(sliceBounds lo q none n).2.1=((HT.oq n n q:Nat):Int)/\(sliceBounds lo q none n).2.2=1:=by
 refine⟨?_,?_,rfl⟩
 ·cases lo with
  |none=>rfl
  |some i=>rw[<-HT.I_ i n 0];simp only[sliceBounds,Option.getD_none,show(1:Int) > 0 by decide,XH];exact qqz i n
 ·cases q with
  |none=>rfl
  |some i=>rw[<-HT.I_ i n n];simp only[sliceBounds,Option.getD_none,show(1:Int) > 0 by decide,XH];exact qqz i n
theorem Be (i:List Value) (lo q:Option Int):slicePick i.toArray lo q none=((i.drop (HT.oq i.length 0 lo)).take (HT.oq i.length i.length q-HT.oq i.length 0 lo)).toArray:=by
 obtain⟨h1,v,u⟩:=CZ lo q _;unfold slicePick;rw[h1,v,u];simp only[sliceRange_one,pick_run]<;>rfl
def Wv (K:W.Frag):V->Option Int->Option Int->Hp->VK->Prop:=fun x lo i H Q=> ∃a xs,x = .ref a/\cI K H a xs/\∀p,H p=none->Q (.ref p) (upd H p (.lst (AX xs lo i)))
theorem OT:Jg X (Wv X.K):=by
 intro i s σ H x v E F lo C sl Q I u hs pl pu h;obtain⟨a,xs,rfl,hx,q⟩:=h;cases u;obtain⟨z,r,ht,y⟩:=I.list hx;have hlen:=r.length;refine⟨_,_,rfl,ht.isList.typeIs,?_⟩;refine wpAny_getItem_list_slice ht.isList hs pl pu .none (by simp) ?_ (by simp_all);rw[Be,<-hlen];refine⟨.ref _,_,I.laid (fun b ob q=>cP _ q) (cm _) ?_,rfl,q _ (I.hok.fresh (cm _))⟩;exact⟨fv (yN xs lo C) y,_,0,(r.drop _).take _,fx _ rfl⟩
noncomputable def p_:V->Bool
 | .non=>true
 | .bl _=>true
 | .int _=>true
 | .str _=>true
 |_=>false
noncomputable def Qi:V->V->Bool
 | .non,.non=>true
 | .bl a,.bl b=>a == b
 | .bl a,.int b=>(if a then 1 else 0) == b
 | .int a,.bl b=>a == (if b then 1 else 0)
 | .int a,.int b=>a == b
 | .str a,.str b=>a == b
 |_,_=>false
theorem Ti (q:RelV y u) (i:RelV x v) (z:p_ y=true) (C:p_ x=true):SeqAt.EqAt A s u v (Qi y x):=by
 cases y with
 |non=>
  cases q;cases x with
  |non=>cases i;exact SeqAt.EqAt.same _
  |bl b=>cases i;exact SeqAt.EqAt.none_bool b
  |int b=>obtain⟨t,rfl⟩:=i;exact SeqAt.EqAt.none_int b t
  |str b=>obtain⟨t,rfl⟩:=i;exact SeqAt.EqAt.none_str b t
  |_=>trivial
 |bl a=>
  cases q;cases x with
  |non=>cases i;exact SeqAt.EqAt.bool_none a
  |bl b=>cases i;exact SeqAt.EqAt.bool_bool a b
  |int b=>obtain⟨t,rfl⟩:=i;exact SeqAt.EqAt.bool_int a b t
  |str b=>obtain⟨t,rfl⟩:=i;exact SeqAt.EqAt.bool_str a b t
  |_=>trivial
 |int a=>
  obtain⟨t',rfl⟩:=q;cases x with
  |non=>cases i;exact SeqAt.EqAt.int_none a t'
  |bl b=>cases i;exact SeqAt.EqAt.int_bool a t' b
  |int b=>obtain⟨t,rfl⟩:=i;exact SeqAt.EqAt.int_int a t' b t
  |str b=>obtain⟨t,rfl⟩:=i;exact SeqAt.EqAt.int_str a t' b t
  |_=>trivial
 |str a=>
  obtain⟨t',rfl⟩:=q;cases x with
  |non=>cases i;exact SeqAt.EqAt.str_none a t'
  |bl b=>cases i;exact SeqAt.EqAt.str_bool a t' b
  |int b=>obtain⟨t,rfl⟩:=i;exact SeqAt.EqAt.str_int a t' b t
  |str b=>obtain⟨t,rfl⟩:=i;exact SeqAt.EqAt.str_str a t' b t
  |_=>trivial
 |_=>trivial
noncomputable def VA (x:V) (u:Value):Bool:=match u with
 | .none=>Qi .non x
 | .bool b=>Qi (.bl b) x
 | .int i _=>Qi (.int i) x
 | .str z _=>Qi (.str z) x
 |_=>false
theorem NF (r:RelV y u) (f:p_ y=true):VA x u=Qi y x:=by
 cases y with
 |non=>cases r;rfl
 |bl b=>cases r;rfl
 |int i=>obtain⟨t,rfl⟩:=r;rfl
 |str z=>obtain⟨t,rfl⟩:=r;rfl
 |_=>trivial
theorem Ei:∀{xs:List V} {us:List Value},Vals xs us->xs.all p_=true->us.any (VA x)=xs.any fun y=>Qi y x
 |_,_,.nil,_=>rfl
 |y::xs,u::us,.cons r t,f=>by
  rw[List.all_cons,h8] at f;rw[sj,sj,NF r f.1,Ei t f.2]
theorem Aq (q:RelV x v) (z:p_ x=true):∀{xs:List V} {us:List Value},Vals xs us->xs.all p_=true->∀u∈us,SeqAt.EqAt A s u v (VA x u)
 |_,_,.nil,_=>fun u i=>by cases i
 |y::xs,u::us,.cons r t,f=>fun C i=>by
  rw[List.all_cons,h8] at f;rcases cR.mp i with rfl|i
  ·rw[NF r f.1];exact Ti r q f.1 z
  ·exact Aq q z t f.2 C i
noncomputable def Cd (x:V) (xs:List V):Bool:=xs.any fun y=>Qi y x
def Xc (K:W.Frag) (neg:Bool):R2:=fun x y H Q=> ∃p xs,y = .ref p/\(cI K H p xs\/du K H p xs)/\p_ x=true/\xs.all p_=true/\Q (.bl (if neg then !Cd x xs else Cd x xs)) H
theorem Kf:gq X (compareOp .In) (Xc X.K false):=by
 intro F s σ H x y v u Q I E G h;obtain⟨p,xs,rfl,z,C,fs,q⟩:=h;cases G;rcases z with z|z
 ·obtain⟨i,r,pl,O⟩:=I.list z;refine SeqAt.in_listAt _ pl.isList (fun w hw=>Aq E C r fs w (by simp_all)) ⟨.bl _,H,I,rfl,?_⟩;rw[show i.toArray.any _=i.any (VA x) by simp,Ei r fs];exact q
 ·obtain⟨i,r,pl,O⟩:=I.tuple z;refine SeqAt.in_tupleAt _ pl (fun w hw=>Aq E C r fs w (by simp_all)) ⟨.bl _,H,I,rfl,?_⟩;rw[show i.toArray.any _=i.any (VA x) by simp,Ei r fs];exact q
theorem Ed:bM X (.builtin "len") (fun xs H Q=> ∃p v,xs= [.ref p]/\(cI X.K H p v\/du X.K H p v)/\Q (.int v.length) H):=by
 intro y s σ H xs us Q I r h;obtain⟨p,v,rfl,i,q⟩:=h;obtain⟨u,rfl,z⟩:=vals1 r;cases z;have hn:=xC;rcases i with i|i
 ·obtain⟨x,r',pl,C⟩:=I.list i;have hlen:=r'.length;exact Calls.call_len_list pl.isList (by simp only[h6]<;>lia) ⟨.int _,H,I.tok _,⟨s.toks+1,by simp_all⟩,q⟩
 ·obtain⟨x,r',pl,C⟩:=I.tuple i;have hlen:=r'.length;exact len_tuple pl (by simp only[h6]<;>lia) ⟨.int _,H,I.tok _,⟨s.toks+1,by simp_all⟩,q⟩
theorem Ec:bM X (.builtin "len") (fun xs H Q=> ∃z,xs= [.str z]/\z.length<=sizeLine/\Q (.int z.length) H):=by
 intro i s σ H xs us Q I r h;obtain⟨z,rfl,v,q⟩:=h;obtain⟨u,rfl,t,rfl⟩:=vals1 r;have hn:=xC;exact len_str (by lia) ⟨.int _,H,I.tok _,⟨_,rfl⟩,q⟩
theorem bM.or {f:Value} {r r':List V->Hp->VK->Prop} (h:bM X f r) (u:bM X f r'):bM X f (fun xs H Q=>r xs H Q\/r' xs H Q):=by
 intro i s σ H xs us Q I rs q;rcases q with q|q
 ·exact h _ s σ H xs us Q I rs q
 ·exact u _ s σ H xs us Q I rs q
theorem Eb:bM X (.type "list") (fun xs H Q=> ∃p x,xs= [.ref p]/\(cI X.K H p x\/du X.K H p x)/\∀l,H l=none->Q (.ref l) (upd H l (.lst x))):=by
 intro G s σ H xs us Q I r h;obtain⟨p,x,rfl,C,q⟩:=h;obtain⟨u,rfl,O⟩:=vals1 r;cases O;have fin:∀i,Vals x i->x.length<=sizeLine->∀v y,(∀b F,s.heap.get? b=some F->v.get? b=some F)->
   v.get? s.heap.objs.size=some _->EP X _ σ Q _ {s with heap:=v}:=fun i r' z v y kp e=>
  ⟨.ref _,_,I.laid kp (cm _) (show dJ _ _ _ v _ (.lst x) from⟨z,i,y,r',e⟩),rfl,q _ (I.hok.fresh (cm _))⟩
 rcases C with C|C
 ·obtain⟨i,r',pl,z⟩:=I.list C;have hlen:=r'.length;obtain⟨o,E,hc,n,hd⟩:=pl.isList;exact call_list_seq p (.inl rfl) E hc hd (fun v y kp e=>fin _ r' z v y kp e) (by simp_all)
 ·obtain⟨i,r',pl,z⟩:=I.tuple C;have hlen:=r'.length;obtain⟨o,E,hc,n,hd⟩:=pl;exact call_list_seq p (.inr rfl) E hc hd (fun v y kp e=>fin _ r' z v y kp e) (by simp_all)
theorem BJ:bM X (.type "tuple") (fun xs H Q=> ∃p i,xs= [.ref p]/\((cI X.K H p i/\∀l,H l=none->Q (.ref l) (upd H l (.tup i)))\/(du X.K H p i/\Q (.ref p) H))):=by
 intro C s σ H xs us Q I r h;obtain⟨p,i,rfl,h⟩:=h;obtain⟨u,rfl,E⟩:=vals1 r;cases E;rcases h with⟨x,q⟩|⟨x,q⟩
 ·obtain⟨v,r',pl,z⟩:=I.list x;have hlen:=r'.length;refine call_tuple_list pl.isList (fun G kp=>?_) (by simp_all);have y:=I.kept (t':=s.toks) kp;have F:=
   y.laid (t':=s.toks) (fun b o e=>cP _ e) (cm _) (show dJ _ _ _ _ _ (.tup i) from⟨z,v,r',IsTup.new _ _⟩)
  exact⟨.ref _,_,F,rfl,q _ (y.hok.fresh (cm _))⟩
 ·obtain⟨v,r',pl,z⟩:=I.tuple x;exact call_tuple_same pl ⟨.ref p,H,I,rfl,q⟩
def Rk (K:W.Frag) (T:String) (x:V) (H:Hp):Prop:=match x with
 | .str _=>T = "str"
 | .int _=>T = "int"
 |
   .ref p=>(T = "list" /\∃xs,cI K H p xs)\/(T = "tuple" /\∃o,K.lookup p=some o/\o.cls = .type "tuple" /\o.dict=none)\/
   (T = "dict" /\((∃i,H p=some (.dK i))\/∃i,H p=some (.dT i)))\/(T = "set" /\∃S n,H p=some (.set S n))
 |_=>False
theorem Lr (I:Inv X pins σ H s) (r:RelV x v) (ty:Rk X.K T x H):
  s.TypeIs v T/\∀a,v = .ref a->∃ob,s.heap.get? a=some ob/\ob.dict=none:=by
 cases x with
 |str z=>
  obtain⟨t,rfl⟩:=r;cases((ty));exact⟨rfl,fun _ e=>nomatch e⟩
 |int i=>
  obtain⟨t,rfl⟩:=r;cases((ty));exact⟨rfl,fun _ e=>nomatch e⟩
 |ref p=>
  cases r;rcases ty with⟨rfl,xs,y⟩|⟨rfl,o,hk,hc,hd⟩|⟨rfl,hk⟩|⟨rfl,S,n,hk⟩
  ·obtain⟨u,_,pl,_⟩:=I.list y;refine⟨pl.isList.typeIs,fun a e=>?_⟩;cases e;obtain⟨o,n,e,c,hd,_⟩:=pl;exact⟨o,e,hd⟩
  ·refine⟨⟨o,I.lV p o hk,hc⟩,fun a e=>?_⟩;cases e;exact⟨o,I.lV _ o hk,hd⟩
  ·have z:∃o,s.heap.get? p=some o/\o.ExactDict:=by
    rcases hk with⟨q,hk⟩|⟨q,hk⟩
    ·obtain⟨_,_,_,_,o,_,_,e,ex,_⟩:=I.hok p _ hk;exact⟨o,e,ex⟩
    ·obtain⟨_,_,_,_,o,_,_,e,ex,_⟩:=I.hok p _ hk;exact⟨o,e,ex⟩
   obtain⟨o,e,ex⟩:=z;refine⟨⟨o,e,ex.1⟩,fun a e2=>?_⟩;cases e2;exact⟨o,e,ex.2.1⟩
  ·obtain⟨o,_,_,_,e,ex,_⟩:=I.hok p _ hk;refine⟨⟨o,e,ex.1⟩,fun a e2=>?_⟩;cases e2;exact⟨o,e,ex.2.1⟩
 |_=>trivial
def OQ (K:W.Frag) (T:String) (r:V->List V->Hp->VK->Prop) (to:TE):TE:=fun σ H Q=>to σ H fun x i=>Rk K T x i/\r x [] i Q
def Uh (K:W.Frag) (T:String) (r:V->List V->Hp->VK->Prop) (to:TE) (t:TA):TE:=fun σ H Q=>to σ H fun x i=>Rk K T x i/\t σ i fun xs q=>r x xs q Q
theorem RZ (pa:PlainAttrs T) (slot:Slot T name id) (u:typeOf (.builtin id)=pure (.type "method_descriptor")) (hm:Oj X id r) (F:PE X o to)
  (i:autoParam (attributeBase o name X.env (eval o X.env)=eval o X.env) qqr) (q:autoParam ((apos.endLine == cpos.line)=true) qqr):PE X (.Call (.Attribute o name apos) [] [] cpos) (OQ X.K T r to):=by
 intro C s σ H Q I h;refine wpAny_Call_method0_late i q (thn (F _ s σ H _ I h) fun v s1 ⟨x,E,y,z,ty,O⟩=>?_);obtain⟨h1,G⟩:=Lr y z ty;exact⟨T,id,pa,slot,u,h1,G,Calls.callWith_builtin rfl (PySem.evalArgs_none (hm _ s1 σ E x [] v [] Q y z .nil O))⟩
theorem ME {e:Expr} {es:List Expr} {t:TA} (pa:PlainAttrs T) (slot:Slot T name id) (y:typeOf (.builtin id)=pure (.type "method_descriptor")) (hm:Oj X id r) (O:PE X o to) (ha:PA X (e::es) t)
  (i:autoParam (attributeBase o name X.env (eval o X.env)=eval o X.env) qqr)
  (
   hfew:((backTo cpos (starEach (e::es) X.env)).all (fun x=>!x.1)&&(backToKw cpos (keywordEach [] X.env)).all (fun x=>x.1.isSome)
   &&decide ((e::es).length+([]:List Keyword).length+(if([]:List Keyword).isEmpty then 0 else 1)<30))=true:=by rfl)
  (q:autoParam ((apos.endLine == cpos.line)=true) qqr) (hs:autoParam (starEach (e::es) X.env=(false,eval e X.env)::starEach es X.env) qqr) (u:autoParam ((backTo cpos (starEach es X.env)).any (·.1)=false) qqr):
  PE X (.Call (.Attribute o name apos) (e::es) [] cpos) (Uh X.K T r to t):=by
 intro E s σ H Q I h;refine wpAny_Call_method_late i hfew q rfl (thn (O _ s σ H _ I h) fun v s1 ⟨x,G,z,C,ty,U⟩=>?_);obtain⟨h1,P⟩:=Lr z C ty;refine⟨T,id,pa,slot,y,h1,P,?_⟩;have F:=ha cpos _ s1 σ G _ z U;rw[hs] at F⊢;refine Calls.callWith_builtin (‹_›) (Calls.evalArgs_plain ?_);exact thn F fun us s2 ⟨vs,Y,W,r2,Z⟩=>hm _ s2 σ Y x vs v us Q W C r2 Z
end
end
mutual
def W7 (X:Cx) (id:String) (r:V->List V->Hp->VK->Prop):Prop:=
 ∀(i:List (Addr×Obj)) (s:Shared) (σ:St) (H:Hp) (x:V) (xs:List V) (v:Value) (us:List Value) (Q:VK),Inv X i σ H s->RelV x v->Vals xs us->r x xs H Q->
  wpAny (model X.prog X.w) X.A (call (.builtin id) (v::us)) (EP X i σ Q) X.xe s
theorem Vals.one:∀{x:V} {us:List Value},Vals [x] us->∃u,us= [u]/\RelV x u
 |_,_,.cons r .nil=>⟨_,rfl,r⟩
theorem Vals.zero:∀{us:List Value},Vals [] us->us= []
 |_,.nil=>rfl
theorem Inv.lset {i:List Value} (I:Inv X pins σ H s) (x:H l=some (.lst xs)) (e:s.heap.get? l=some {cls:= .type "list",data:= .seq i.toArray n}) (hf:f i.toArray=its'.toArray) (v:Vals ys its') (y:ys.length<=sizeLine):
  Inv X pins σ (upd H l (.lst ys)) {s with heap:=s.heap.update l (Obj.mapSeq f),toks:=t'}:=by
 have q:=PySem.IsL.update e f;rw[hf] at q;refine I.write (by rw[x];exact trivial) (.inl rfl) (fun b' u z C=>(mP _ _ (L1 z)).trans C) ⟨_,q⟩ ?_;exact⟨y,_,_,v,q⟩
theorem Inv.lnew (I:Inv X pins σ H s) (v:Vals ys i) (u:ys.length<=sizeLine):
  Inv X pins σ (upd H s.heap.objs.size (.lst ys)) {s with heap:=s.heap.push {cls:= .type "list",data:= .seq i.toArray},toks:=t'}:=
 I.laid (fun _ _ q=>cP _ q) (cm _) ⟨u,i,0,v,fx _ rfl⟩
theorem Inv.fresh (I:Inv X pins σ H s):H s.heap.objs.size=none:=I.hok.fresh (cm _)
theorem Inv.MZ (I:Inv X pins σ H s) (q:H l=some (.lst xs)):xs.length<=sizeLine/\∃(i:List Value) (n:Nat),Vals xs i/\xs.length=i.length/\s.heap.get? l=some {cls:= .type "list",data:= .seq i.toArray n}:=by
 obtain⟨z,i,n,r,e⟩:=I.hok l _ q;exact⟨z,i,n,r,r.length,e⟩
theorem MN (h:n<=sizeLine):Builtin.List.listTooLong n=false:=by
 exact cz (by lia)
def O_:V->List V->Hp->VK->Prop:=fun x vs H Q=> ∃l xs y,x = .ref l/\vs= [y]/\H l=some (.lst xs)/\xs.length<sizeLine/\Q .non (upd H l (.lst (xs++ [y])))
theorem Kr:W7 X "list.append" O_:=by
 intro C s σ H x vs v us Q I G P h;obtain⟨l,xs,y,rfl,rfl,i,U,q⟩:=h;cases G;obtain⟨u,rfl,E⟩:=P.one;obtain⟨z,O,n,r,hl,e⟩:=I.MZ i;refine call_meets F.slot_list_append ⟨_,e,rfl⟩ F.entry_list_append (F.args_list_append_2 _ _) (PySem.list_append l _ n u (by simp_all)) ⟨e,?_⟩;refine⟨.non,_,I.lset i e (by simp) (r.append (.cons E .nil)) ?_,rfl,q⟩;rw[ey,me];lia
def O7:V->List V->Hp->VK->Prop:=fun x vs H Q=> ∃l b xs zs,x = .ref l/\vs= [.ref b]/\H l=some (.lst xs)/\H b=some (.lst zs)/\xs.length+zs.length<=sizeLine/\Q .non (upd H l (.lst (xs++zs)))
theorem Ko:W7 X "list.extend" O7:=by
 intro G s σ H x vs v us Q I W Z h;obtain⟨l,b,xs,zs,rfl,rfl,E,P,hz,q⟩:=h;cases W;obtain⟨u,rfl,O⟩:=Z.one;cases O;obtain⟨z,y,n,r,hl,e⟩:=I.MZ E;obtain⟨z2,i,U,r2,Y,e2⟩:=I.MZ P;have hsz:y.toArray.size+i.toArray.size<=sizeLine:=by simp_all
 have C: ¬(!y.toArray.isEmpty&&Builtin.List.listTooLong (y.toArray.size+i.toArray.size))=true:=by
  rw[MN hsz,ri];exact Yi
 refine call_meets F.slot_list_extend ⟨_,e,rfl⟩ F.entry_list_extend (F.args_list_extend_2 _ _)
  (AutoSeq1.list_extend_list_list_0 l _ n b _ U C (by simp_all) (by lia)) ⟨e,e2,?_⟩
 refine⟨.non,_,I.lset E e (by simp) (r.append r2) ?_,rfl,q⟩;rw[ey];lia
def UC:R2:=fun x y H Q=> ∃l b xs zs,x = .ref l/\y = .ref b/\H l=some (.lst xs)/\H b=some (.lst zs)/\xs.length+zs.length<=sizeLine/\∀p,H p=none->Q (.ref p) (upd H p (.lst (xs++zs)))
theorem R8:gq X (binaryOp .Add) UC:=by
 intro E s σ H x y v u Q I U W h;obtain⟨l,b,xs,zs,rfl,rfl,O,G,hz,q⟩:=h;cases U;cases W;obtain⟨z,C,n,r,hl,e⟩:=I.MZ O;obtain⟨Z,i,n2,r2,Y,e2⟩:=I.MZ G;refine PySem.P.add_list e e2 ?_ (by simp_all);have F:C.toArray++i.toArray=(C++i).toArray:=by simp
 rw[F];exact⟨.ref _,_,I.lnew (r.append r2) (by simp_all),rfl,q _ I.fresh⟩
end
end Lake
namespace Att
open PySem PySem.W PySem.Calls PyProof.Rows
theorem zh:∀(ns:List Int) (vs:List Value),WellAll P h vs (ns.map WData.int)->IntsAre vs ns:=by
 intro ns
 induction ns with
 |nil=>
  intro vs w;cases w;exact .nil
 |cons n ns i=>
  intro vs w;cases w with
  |cons a b=>
   cases a;exact .cons _ _ (i _ b)
theorem JB {l:OpenLaw} {vals:List Value} (hn:l.most=some n) (i:l.row.toRowW.claim.pre args=true) (x:WellAll P h vals args):
  ∃a vs ns,vals= [Value.ref a]/\args= [WData.list (ns.map WData.int)]/\h.get? a=some {cls:= .type "list",data:= .seq vs.toArray}/\IntsAre vs ns/\ns.length<=n:=by
 have v:=(pre_splitW i).1;have hc:=(pre_splitW i).2;obtain⟨d,r,rfl,h1,C⟩:=hasAllW_cons v;obtain rfl:=hasAllW_nil C;obtain⟨xs,rfl,E⟩:=hasW_list h1;obtain⟨ns,rfl⟩:=items_int E;have hlen:ns.length<=n:=by
  have u:=by
   have u:=(holds_andW hc).1;rw[hn] at u;exact u
  have F:=condW_of u (w_not (w_lt w_lit (w_len_list (w_arg rfl))))
  first
   |simp_all
   |simp_all
 cases x with
 |cons y w2=>
  cases w2;cases y with
  |list z q=>exact⟨_,_,ns,rfl,rfl,z,zh ns _ q,hlen⟩
theorem J7 (l:OpenLaw) (args:List WData):l.row.toRowW.claim.post args (.bool true) args=true:=
 postW_of
  ((rfl))
  ((w_eq_bool (w_res rfl) w_lit)) rfl
theorem F2 {l:OpenLaw} (hn:l.most=some n) (F:d.params.defaults= []) (call:∀(w:World) (s₀ i:Shared) (mg C:Str->Option Value) (fa:Addr) (o:Obj) (pm cd doc:Value) (a:Addr) (vs:List Value) (ns:List Int),
   Ground q loose [] XP w s₀ mg C i.heap->YP w i.heap->
   i.heap.get? fa=some o->o.data = .func (docDef d.name d.params d.body d.scope pm cd doc)->i.heap.CodeRec cd d.name->mg d.name=some (.ref fa)->
   i.heap.get? a=some {cls:= .type "list",data:= .seq vs.toArray}->IntsAre vs ns->ns.length<=n->i.gens = #[]->
   codeAny (model l.prog w) callerA (.call (.ref fa) ⟨[.ref a],[]⟩) (fun r x=>r = .ok (.ret (.bool true))/\OldK i.heap x.heap/\x.os=i.os/\AllBare x.gens) i):
  WalkO q loose XP YP l.row.toRowW d [] (fun f vs=>PySem.call f vs):=by
 intro w s₀ i mg C G Y fa o pm cd doc I kV Q hd y hD z hg args vals as u H hrd E O;obtain rfl:I = .none:=Dflts.none hD F;obtain rfl:kV = .none:=Dflts.noKw hD;obtain⟨a,vs,ns,rfl,rfl,v,hints,hlen⟩:=JB hn u E;refine enter_call (Yg (call w _ _ mg C fa o pm cd _ a vs ns G Y Q (fd_plain hd) y z v hints hlen hg) fun r x X=>?_);obtain⟨rfl,U,W,P⟩:=X;exact⟨.inl ⟨_,_,[],rfl,fun _=>rfl,.bool _,J7 l _,fun _=>⟨List.Pairwise.nil,fun _ hm=>(nomatch hm)⟩⟩,U,W,P⟩
end Att
namespace Lake
mutual
open PySem PySem.Spec PyProof.Rows
theorem BR:∀{vs:List Value} {ns:List Int},IntsAre vs ns->Vals (ns.map V.int) vs
 |_,_,.nil=> .nil
 |_,_,.cons n t h=> .cons ⟨t,rfl⟩ (BR h)
def Oi (H:Hp):Prop:= ∀b,H b=none\/∃o xs,H b=some (.frz o (.lst xs))
theorem M_ {K:W.Frag} (KX:K.In s₁.heap) (Q:s₁.heap.Ns mainGlobals mg) (G:s₁.heap.Ns builtinsNs mb) (hbb:∀x:Str,x≠ "__name__" ->mb x=bootBuiltins x) (O:s₁.heap.NoLimit) (hg:s₁.gens = #[]) (ha:s₁.heap.get? a=some {cls:= .type "list",data:= .seq vs.toArray}) (hi:IntsAre vs ns) (hl:ns.length<=sizeLine) (hr:cY k callerA) (F:∀base:Heap,K.In base->base.Ns mainGlobals mg->wD P w K mg base CX k fa fd [x] sp) (E:∀(s:Shared) (u:Value),BindsTo s fd ⟨[u],[]⟩ [(x,u)]) (Z:∀H:Hp,Oi H->cI K H a (ns.map V.int)->sp [.ref a] H (fun v _=>v = .bl true) fun _ _ _=>False) (hCX:∀H e y,CX [] H s₁ (fun _ _ _=>False) e y->False):
  codeAny (model P w) callerA (.call (.ref fa) ⟨[.ref a],[]⟩) (fun r y=>r = .ok (.ret (.bool true))/\OldK s₁.heap y.heap/\y.os=s₁.os/\AllBare y.gens) s₁:=by
 have rv:=BR hi;have lenV:=hi.length
 have core:∀H,Oi H->cI K H a (ns.map V.int)->va P w H s₁.heap->(∀b,H b≠none->b=a)->(H a≠none->K.lookup a=none)->
   codeAny (model P w) callerA (.call (.ref fa) ⟨[.ref a],[]⟩) (fun r y=>r = .ok (.ret (.bool true))/\OldK s₁.heap y.heap/\y.os=s₁.os/\AllBare y.gens) s₁:=by
  intro H hO hS hok hA hK;have i:∀{b:Addr} {o:Obj},s₁.heap.get? b=some o->H b=none->(KR _ H).get? b=some o:=fun e n=>Nl e n;have Y:∀{b:Addr} {o:Obj} {es:Array _} {X:Nat},s₁.heap.get? b=some o->o.data = .dict es X->H b=none:=fun{b o es X} e d=>by
   grind
  have C:∀{b:Addr} {m:Str->Option _},s₁.heap.Ns b m->(KR _ H).Ns b m:=fun{b m} ⟨o,es,X,e,d,r⟩=>⟨o,es,X,i e (Y e d),d,r⟩;have U:=fun b o e=>i (KX b o e) (by
   grind)
  have hM:Mod K mg _:=⟨U,C Q,⟨mb,C G,hbb⟩,let ⟨mc,h1,h2⟩:=O;⟨mc,C h1,h2⟩⟩;have e0:HE P w K mg _ callerA [] _ H:=⟨rfl,hM,fun b o e=>PD e,Nat.le_of_eq (KQ _ _),trivial,fun b G=>absurd (show b∈([]) from G) (by simp),hok,.of_eq hg⟩;refine Yg ((F _ U (C Q)).run _ [] _ H _ [.ref a] [.ref a] _ _ hr e0 (E _ _) (.cons rfl .nil) (Z H hO hS)) fun r y h=>?_;cases r with
  |error e=>exact(hCX H e y h).elim
  |ok fl=>
   cases fl with
   |next=>trivial
   |brk=>trivial
   |cont=>trivial
   |ret u=>
    obtain⟨v,H',os,bare,un,I,r',q⟩:=h;have q':=q;subst q';obtain rfl:u=Value.bool _:=r';refine⟨rfl,OldK.of_keep fun b o e=>?_,os,bare⟩;cases q:H b with
    |none=>exact un.keep b o e q (by intro z;exact absurd (show b∈([]) from z) (by simp)) (by simp)
    |some u=>
     rcases hO b with z|⟨ob,xs,z⟩
     ·simp_all
     ·have z2:=un.frzs b ob _ z;obtain⟨e1,_⟩:=hok b _ z;obtain⟨e2,_⟩:=I b _ z2;rw[e] at e1;cases e1;exact e2
 cases hk:K.lookup a with
 |some o=>
  have e:=KX a o hk;rw[ha] at e;cases e;refine core _ (fun _=> .inl rfl) (.inr ⟨_,_,_,hk,rfl,rfl,rfl,by simp_all,by trivial⟩) (fun b u z=>by trivial) (fun b z=>absurd rfl z) fun z=>absurd rfl z
 |none=>
  refine core (fun b=>if b=a then some _ else none) (fun b=>?_) (.inl (.inr ⟨{cls:= .type "list",data:= .seq vs.toArray},bc rfl⟩)) (fun b u z=>?_) (fun b z=>?_) fun _=>hk
  ·grind
  ·by_cases G:b=a
   ·have z':=(bc G).symm.trans z;cases z';subst G;exact⟨ha,by simp_all,vs,_,rv,ha⟩
   ·simp_all
  ·simp_all
theorem OE {l:W.OpenLaw} {K:Params->W.Frag} {CX:World->Ga} {sp:World->Sp} (hn:l.most=some n) (z:n<=sizeLine) (I:d.params.defaults= []) (Z:cY k callerA) (hY:∀(w:World) (h:Heap),YP w h->(K w.params).In h) (F:∀(w:World) (mg:Str->Option Value) (fa:Addr) (h:Heap),(K w.params).In h->h.Ns mainGlobals mg->mg d.name=some (.ref fa)->
   ∃O:FuncData,(∀(s:Shared) (u:Value),BindsTo s O ⟨[u],[]⟩ [(x,u)])/\
    ∀base:Heap,(K w.params).In base->base.Ns mainGlobals mg->wD l.prog w (K w.params) mg base (CX w) k fa O [x] (sp w)) (E:∀(w:World) (H:Hp) (a:Addr) (ns:List Int),ns.length<=n->Oi H->cI (K w.params) H a (ns.map V.int)->sp w [.ref a] H (fun v _=>v = .bl true) fun _ _ _=>False) (P:∀(w:World) (H:Hp) (s:Shared) (e:Value) (C:Shared),CX w [] H s (fun _ _ _=>False) e C->False):
  W.WalkO q loose XP YP l.row.toRowW d [] (fun f vs=>PySem.call f vs):=by
 refine Att.F2 hn I fun w s₀ U mg mb fa o pm cd doc a vs ns G Y ho hd X y i hints hlen hg=>?_;have Q:=hY w _ Y;obtain⟨O,hb,hF⟩:=F w mg fa _ Q G.T.g y;exact M_ Q G.T.g G.T.b G.T.builtins G.T.nolimit hg i hints (fv hlen z) Z hF hb (fun H hO hS=>E w H a ns hlen hO hS) fun H e C=>P w H _ e C
theorem Lk {l:W.OpenLaw} {K:Params->W.Frag} {sp:W.Frag->Sp} (hn:l.most=some n) (i:n<=sizeLine) (C:d.params.defaults= []) (I:cY k callerA) (O:∀(w:World) (h:Heap),YP w h->(K w.params).In h) (F:∀(w:World) (mg:Str->Option Value) (fa:Addr) (h:Heap),(K w.params).In h->h.Ns mainGlobals mg->mg d.name=some (.ref fa)->
   ∃G:FuncData,(∀(s:Shared) (u:Value),BindsTo s G ⟨[u],[]⟩ [(x,u)])/\
    ∀base:Heap,(K w.params).In base->base.Ns mainGlobals mg->wD l.prog w (K w.params) mg base CX k fa G [x] (sp (K w.params))) (z:∀(K:W.Frag) (H:Hp) (a:Addr) (ns:List Int),ns.length<=n->Oi H->cI K H a (ns.map V.int)->sp K [.ref a] H (fun v _=>v = .bl true) fun _ _ _=>False) (E:∀(H:Hp) (s:Shared) (e:Value) (y:Shared),CX [] H s (fun _ _ _=>False) e y->False):
  W.WalkO q loose XP YP l.row.toRowW d [] (fun f vs=>PySem.call f vs):=
 OE hn i C I O F (fun w H a ns h1 P Q=>z _ H a ns h1 P Q) fun _ H s e y=>E H s e y
noncomputable def inClass (s:Stmt) (j:Nat):Stmt:=match s with
 | .ClassDef _ _ _ body _ _ _ _ _ _ _=>body.getD j (.Pass ⟨0,0,0,0⟩)
 |_=> .Pass ⟨0,0,0,0⟩
noncomputable def eY (s:Stmt):Arguments:=match s with
 | .FunctionDef _ a _ _ _ _ _ _ _ _=>a
 |_=>{posonlyargs:=[],args:=[],vararg:=none,kwonlyargs:=[],kw_defaults:=[],kwarg:=none,defaults:=[]}
noncomputable def c7 (s:Stmt):List Stmt:=match s with
 | .FunctionDef _ _ b _ _ _ _ _ _ _=>b
 |_=>[]
noncomputable def a9 (s:Stmt):Scope:=match s with
 | .FunctionDef _ _ _ _ _ _ sc _ _ _=>sc
 |_=>{kind:= .function,names:=[],isGenerator:=false,isCoroutine:=false}
abbrev T7:Ga:=fun _ _ _ _ _ _=>False
abbrev E0:XK:=fun _ _ _=>False
theorem UE:Passes T7 X E0:=fun _ _ _ _ _ _ _ h=>h.elim
structure V2 (K:W.Frag) (x qual:Str) (st:Stmt) (f:Addr) (fd:FuncData):Prop where
 ex:∃(oc:Value) (od:Option Addr) (kV doc pm:Value) (an:Option Addr) (cdv ct:Value) (osl:Array (Option Value)),
  fd=W.fnOf x qual (eY st) (c7 st) (a9 st) .none kV doc pm an cdv ct/\K.lookup f=some ⟨oc,od,.func fd,osl⟩/\W.codeIn K cdv qual=true
 kp:W.keepIn K (.ref f)=true
end
section
variable {K:W.Frag}
theorem V2.binds {st:Stmt} (F:V2 K x qual st f fd) (h:∀(kV doc pm:Value) (an:Option Addr) (i ct:Value) (us:List Value),us.length=ps.length->bindArgs (W.fnOf x qual (eY st) (c7 st) (a9 st) .none kV doc pm an i ct) ⟨us,[]⟩=pure (ps.zip us)):Binds K fd ps []:=by
 obtain⟨v,od,kV,doc,pm,an,i,ct,u,rfl,lk,q⟩:=F.ex;exact .all (h kV _ pm an _ ct)
theorem Nz {st:Stmt} {kV:Value} (l:K.lookup f=some ⟨oc,od,.func (W.fnOf x qual (eY st) (c7 st) (a9 st) .none kV doc pm an cdv ct),osl⟩) (c:W.codeIn K cdv qual=true) (k:W.keepIn K (.ref f)=true):V2 K x qual st f (W.fnOf x qual (eY st) (c7 st) (a9 st) .none kV doc pm an cdv ct):=⟨⟨oc,od,kV,doc,pm,an,cdv,ct,osl,rfl,l,c⟩,k⟩
end
mutual
theorem pv (i:Nat) (u:autoParam (X.N[i]?=some x) qqr) (v:Wf X.env.scope x:=by first|exact Or.inl rfl|exact Or.inr (.inl rfl)|exact Or.inr (.inr rfl)) (hd:autoParam ((x == ("__debug__":Str))=false) qqd) (q:autoParam ((x == ("__classdict__":Str))=false) qqd):PE X (.Name x pos) (zV i):=RT u v hd q
def aE (H H':Hp):Prop:= ∀b o,H b=some o->H' b=some o
theorem aE.refl (H:Hp):aE H H:=fun _ _ h=>h
theorem aE.trans (a:aE H H1) (b:aE H1 H2):aE H H2:=fun c o h=>b c o (a c o h)
theorem aE.seq {K:W.Frag} (e:aE H H') (h:cI K H a xs):cI K H' a xs:=by
 rcases h with(h|⟨o,h⟩)|h
 ·exact .inl (.inl (e _ _ h))
 ·exact .inl (.inr ⟨o,e _ _ h⟩)
 ·exact .inr h
end
section
mutual
variable {κ:Type} [DecidableEq κ]
noncomputable def bj (i:List (κ×V)) (k:κ):Option V:=(i.find? fun q=>decide (q.1=k)).map (·.2)
noncomputable def putK (i:List (κ×V)) (k:κ) (v:V):List (κ×V):=
 if(i.any fun q=>decide (q.1=k))=true then i.map (fun q=>if q.1=k then(q.1,v) else q) else i++ [(k,v)]
noncomputable def rG (i:List (κ×V)) (k:κ):List (κ×V):=i.filter fun q=>decide (q.1≠k)
theorem eZ {k:κ} (e:p.1=k):bj (p::r) k=some p.2:=by simp[bj,e]
theorem e_ {k:κ} (e: ¬p.1=k):bj (p::r) k=bj r k:=by simp[bj,e]
theorem ng (k:κ):∀i:List (κ×V),(i.any fun q=>decide (q.1=k))=(bj i k).isSome
 | []=>rfl
 |p::r=>by
  rw[sj];by_cases e:p.1=k
  ·simp only[eZ e,eT e,Bool.true_or,Option.isSome_some]
  ·rw[e_ e,cz e];exact ng k r
theorem Ez (k j:κ) (y:V):∀i:List (κ×V),bj (i.map fun q=>if q.1=k then(q.1,y) else q) j=(bj i j).map fun x=>if j=k then y else x
 | []=>rfl
 |p::r=>by
  have u:=Ez k j y r;rw[Xr];by_cases h:p.1=k
  ·rw[bc h];by_cases e:p.1=j
   ·rw[eZ (p:=(p.1,y)) e,eZ e,X9,bc (e.symm.trans h)]
   ·rw[e_ (p:=(p.1,y)) e,e_ e,u]
  ·rw[a5 h];by_cases e:p.1=j
   ·rw[eZ e,eZ e,X9,a5 (fun z=>h (e.trans z))]
   ·rw[e_ e,e_ e,u]
theorem BS (k j:κ) (y:V):∀i:List (κ×V),bj i k=none->bj (i++ [(k,y)]) j=if j=k then some y else bj i j
 | [],_=>by
  by_cases e:k=j
  ·rw[bc e.symm];exact eZ e
  ·rw[a5 (fun z=>e z.symm)];exact e_ e
 |p::r,hn=>by
  rw[List.cons_append];have hk: ¬p.1=k:=fun z=>by rw[eZ z] at hn;cases hn
  rw[e_ hk] at hn;have q:=BS k j y r hn;by_cases e:p.1=j
  ·rw[eZ e,eZ e,a5 (fun z=>hk (e.trans z))]
  ·rw[e_ e,e_ e,q]
theorem vd (i:List (κ×V)) (k j:κ) (y:V):bj (putK i k y) j=if j=k then some y else bj i j:=by
 unfold putK;by_cases a:(i.any fun u=>decide (u.1=k))=true
 ·rw[bc a,Ez];rw[ng] at a;by_cases e:j=k
  ·obtain⟨x,hx⟩:=ro.mp a;rw[bc e,e,hx,X9,bc rfl]
  ·simp_all
 ·rw[a5 a];refine BS k j y _ ?_;rw[ng] at a;cases q:bj _ k<;>simp_all
theorem js (i:List (κ×V)) (k:κ) (v:V):(putK i k v).length<=i.length+1:=by
 unfold putK;split
 ·simp_all
 ·simp_all
theorem EX {k:κ} (v:V) (h:bj kvs k=none):putK kvs k v=kvs++ [(k,v)]:=by
 unfold putK;rw[ng,h];exact a5 (by decide)
theorem qA.nO (r:qA o u):o.isSome=u.isSome:=by
 cases o with
 |none=>cases u with
  |none=>rfl
  |some _=>trivial
 |some _=>cases u with
  |none=>trivial
  |some _=>rfl
theorem KV.val (r:KV kvs vs) (k:κ):qA (bj kvs k) (valueAt vs k):=by
 induction r with
 |nil=>trivial
 | @cons p q x qs h t v=>
  obtain⟨h1,u⟩:=h;by_cases e:p.1=k
  ·have i:=h1.symm.trans e;have b:valueAt (q::qs) k=some q.2:=by simp[valueAt,i]
   rw[eZ e,b];exact u
  ·have i: ¬q.1=k:=fun z=>e (h1.trans z);have b:valueAt (q::qs) k=valueAt qs k:=by simp[valueAt,i]
   rw[e_ e,b];exact v
theorem KV.any (r:KV kvs vs) (k:κ):(kvs.any fun i=>decide (i.1=k))=vs.any fun i=>decide (i.1=k):=by
 induction r<;>simp_all
theorem KV.repl (r:KV kvs vs) (k:κ) (z:RelV y u):
  KV (kvs.map fun i=>if i.1=k then(i.1,y) else i) (vs.map fun i=>if i.1=k then(i.1,u) else i):=by
 induction r with
 |nil=>exact .nil
 | @cons p q x qs h t v=>
  refine .cons ?_ v;by_cases e:p.1=k
  ·simp_all
  ·simp_all
theorem KV.put (r:KV kvs vs) (k:κ) (i:RelV y u):KV (putK kvs k y) (stored vs k u):=by
 unfold putK stored;rw[r.any k];by_cases e:(vs.any fun q=>decide (q.1=k))=true
 ·rw[bc e,bc e];exact r.repl k i
 ·rw[a5 e,a5 e];exact Paired.snoc r ⟨rfl,i⟩
theorem KV.drop (r:KV kvs vs) (k:κ):KV (rG kvs k) (without vs k):=by
 unfold rG without
 induction r with
 |nil=>exact .nil
 | @cons p q v qs h t u=>
  obtain⟨h1,i⟩:=h;rw[XD,XD];by_cases e:p.1=k
  ·simp_all
  ·have a:decide (p.1≠k)=true:=by simp[e]
   have b:decide (q.1≠k)=true:=by simp_all
   rw[bc a,bc b];exact .cons ⟨h1,i⟩ u
theorem KV.length {i:List (κ×V)} {vs:List (κ×Value)} (r:KV i vs):i.length=vs.length:=C2 r
theorem NH (i:List (κ×V)) (k:κ):(rG i k).length<=i.length:=j0 _ _
end
end
mutual
theorem Ca (r:RelV (kV k) u):(fG P w).is k u=true:=by
 cases k with
 |inl i=>obtain⟨t,e⟩:=((r));subst e;exact Fe P w i t
 |inr x=>obtain⟨t,e⟩:=((r));subst e;exact Fd P w x t
theorem Cb:∀{i:List Key} {us:List Value},Vals (i.map kV) us->ItemsAre (fG P w) i us
 | [],_,r=>by cases r;exact .nil
 |k::i,_,r=>by
  cases r with
  |cons h t=>exact .cons (Ca h) (Cb t)
abbrev KT (H:Hp):List (List Key×V)->List (List Key×Addr×Value)->Prop:=Paired fun p q=>p.1=q.1/\H q.2.1=some (.tup (p.1.map kV))/\RelV p.2 q.2.2
theorem KT.val (r:KT H kvs xs) (k:List Key):qA (bj kvs k) ((atKey xs k).map (·.2)):=by
 induction r with
 |nil=>trivial
 | @cons p q x qs h t v=>
  obtain⟨h1,_,u⟩:=h;by_cases e:p.1=k
  ·have i:=h1.symm.trans e;have b:atKey (q::qs) k=some q.2:=by simp[atKey,i]
   rw[eZ e,b];exact u
  ·have i: ¬q.1=k:=fun z=>e (h1.trans z);have b:atKey (q::qs) k=atKey qs k:=by simp[atKey,i]
   rw[e_ e,b];exact v
theorem KT.repl (r:KT H kvs xs) (k:List Key) (z:RelV y u):
  KT H (kvs.map fun i=>if i.1=k then(i.1,y) else i) (xs.map (putAt k u)):=by
 induction r with
 |nil=>exact .nil
 | @cons p q x qs h t v=>
  refine .cons ?_ v;unfold putAt;by_cases e:p.1=k
  ·simp_all
  ·simp_all
theorem KT.put (r:KT H kvs xs) (k:List Key) (x:H b=some (.tup (k.map kV))) (i:RelV y u):
  KT H (putK kvs k y) (storedH xs k b u):=by
 have e:(kvs.any fun v=>decide (v.1=k))=(atKey xs k).isSome:=by
  rw[ng,(r.val k).nO,XM]
 unfold putK storedH;rw[e];by_cases q:(atKey xs k).isSome=true
 ·rw[bc q,bc q];exact r.repl k i
 ·rw[a5 q,a5 q];exact Paired.snoc r ⟨rfl,x,i⟩
theorem KT.keeps (r:KT H kvs xs) (ht:∀b i,H b=some (.tup i)->H' b=some (.tup i)):KT H' kvs xs:=
 Paired.Si r fun _ _ z=>⟨z.1,ht _ _ z.2.1,z.2.2⟩
theorem QR (ok:va P w H h) (e:Rd H a u):dJ P w H h a u:=e.ok ok
theorem Cm (ok:va P w H h) (e:Rd H a (.dK kvs)):kvs.length<=sizeLine/\(a == sysModules)=false/\∃vs,KV kvs vs/\h.DictOf (fG P w) a vs:=
 (QR ok e)
theorem Q8 (ok:va P w H h) (e:H a=some (.dK kvs)):kvs.length<=sizeLine/\(a == sysModules)=false/\∃vs,KV kvs vs/\h.DictOf (fG P w) a vs:=Cm ok (.inl e)
theorem As (ok:va P w H h) (e:H a=some (.tup (ks.map kV))):(tupleKind (fG P w)).is h ks a:=by
 obtain⟨_,i,r,o,h1,u,n,q⟩:=((ok a _ e));exact⟨o,_,n,h1,u,q,by simpa using Cb r⟩
theorem Ck (ok:va P w H h) (e:Rd H a (.dT kvs)):kvs.length<=sizeLine/\(a == sysModules)=false/\
  ∃xs,KT H kvs xs/\h.DictOfH (tupleKind (fG P w)) a xs:=by
 obtain⟨z,y,xs,r,o,es,v,h1,u,C,i,E⟩:=((QR ok e));refine⟨z,y,xs,r,o,es,v,h1,u,C,i,fun x hx=>?_,E⟩;have all:∀{l:List _} {m:List _},KT H l m->∀x∈m,(tupleKind (fG P w)).is h x.1 x.2.1:=by
  intro l m q
  induction q with
  |nil=>intro x hx;exact nomatch hx
  | @cons p q G qs I t F=>
   intro x hx;rcases cR.mp hx with e|hx
   ·exact As ok (by simp_all)
   ·exact F x hx
 exact all r x hx
theorem VB (ok:va P w H h) (e:H a=some (.dT kvs)):kvs.length<=sizeLine/\(a == sysModules)=false/\
  ∃xs,KT H kvs xs/\h.DictOfH (tupleKind (fG P w)) a xs:=Ck ok (.inl e)
def Ep (H:Hp) (a:Addr) (y:V) (r:Option V):Prop:=
 (∃i k,Rd H a (.dK i)/\y=kV k/\r=bj i k)\/∃i k b,Rd H a (.dT i)/\y = .ref b/\H b=some (.tup (k.map kV))/\r=bj i k
def QC (H:Hp) (a:Addr) (y v:V) (H':Hp):Prop:=
 (∃i k,H a=some (.dK i)/\y=kV k/\i.length<sizeLine/\H'=upd H a (.dK (putK i k v)))\/
 ∃i k b,H a=some (.dT i)/\y = .ref b/\H b=some (.tup (k.map kV))/\i.length<sizeLine/\H'=upd H a (.dT (putK i k v))
theorem Ep.k {k:Key} (e:H a=some (.dK kvs)):Ep H a (kV k) (bj kvs k):= .inl ⟨kvs,k,.inl e,rfl,rfl⟩
theorem QC.k {k:Key} (e:H a=some (.dK kvs)) (hl:kvs.length<sizeLine):QC H a (kV k) v (upd H a (.dK (putK kvs k v))):= .inl ⟨kvs,k,e,rfl,hl,rfl⟩
theorem Inv.big (I:Inv X pins σ H s):sysModules<s.heap.objs.size:=by
 have h:=(I.mod.glob.keeps I.bk).lt;exact Nat.lt_trans (by decide) h
theorem K7 (P:A.units+1<cLine) (I:Inv X pins σ H s) (g:Ep H a y (some v)) (O:RelV y u) (h:∀q G,Inv X pins σ H G->RelV v q->Q q G):
  wpAny (model X.prog X.w) A (getItem (.ref a) u) Q E s:=by
 rcases g with⟨F,k,e,x,l⟩|⟨F,k,b,e,x,eb,l⟩
 ·subst x;obtain⟨z,hd,vs,rel,dd⟩:=Cm I.hok e;obtain⟨q,hw,i⟩:=qA.some_of (by rw[l];exact rel.val k);exact wpAny_getItem_of (Ca O) dd.mapOf hw (h q _ (I.tok _) i)
 ·subst x;cases((O));obtain⟨z,hd,xs,rel,dd⟩:=Ck I.hok e;obtain⟨q,hw,i⟩:=qA.some_of (by rw[l];exact rel.val k);obtain⟨p,hp,C⟩:=Option.map_eq_some_iff.mp hw;refine wpAny_getItem_heap (Yj P) (As I.hok eb) dd hp ?_;rw[C];exact h q _ (I.tok _) i
theorem WK (F:A.units+1<cLine) (I:Inv X pins σ H s) (g:Ep H a y o) (C:RelV y u) (h:∀x,Inv X pins σ H x->Q (.bool o.isSome) x):
  wpAny (model X.prog X.w) A (compareOp .In u (.ref a)) Q E s:=by
 rcases g with⟨v,k,e,i,l⟩|⟨v,k,b,e,i,eb,l⟩
 ·subst i;obtain⟨z,hd,vs,rel,dd⟩:=Cm I.hok e;refine wpAny_in_of (Ca C) hd dd.mapOf ?_;rw[<-(rel.val k).nO,<-l];exact h _ (I.tok _)
 ·subst i;cases((C));obtain⟨z,hd,xs,rel,dd⟩:=Ck I.hok e;refine wpAny_in_heap (Yj F) (As I.hok eb) hd dd ?_;have q:=(rel.val k).nO;rw[XM] at q;rw[<-q,<-l];exact h _ (I.tok _)
theorem Qo (F:A.units+1<cLine) (I:Inv X pins σ H s) (g:Ep H a y o) (C:RelV y u) (h:∀x,Inv X pins σ H x->Q (.bool (!o.isSome)) x):
  wpAny (model X.prog X.w) A (compareOp .NotIn u (.ref a)) Q E s:=by
 rcases g with⟨v,k,e,i,l⟩|⟨v,k,b,e,i,eb,l⟩
 ·subst i;obtain⟨z,hd,vs,rel,dd⟩:=Cm I.hok e;refine wpAny_notIn_of (Ca C) hd dd.mapOf ?_;rw[<-(rel.val k).nO,<-l];exact h _ (I.tok _)
 ·subst i;cases((C));obtain⟨z,hd,xs,rel,dd⟩:=Ck I.hok e;refine wpAny_notIn_heap (Yj F) (As I.hok eb) hd dd ?_;have q:=(rel.val k).nO;rw[XM] at q;rw[<-q,<-l];exact h _ (I.tok _)
theorem D6 {ob:HO} (I:Inv X pins σ H s) (u:VX (H a)) (hs:Heap.SameBut a s.heap i) (he:∃q,i.get? a=some q) (new:dJ X.prog X.w (upd H a ob) i a ob):
  Inv X pins σ (upd H a ob) {s with heap:=i,toks:=t'}:=
 I.write u (.inl rfl) (fun b q v z=>(hs.2 b v).trans z) he new
theorem NM (z:kvs.length<=sizeLine) (hd:(a == sysModules)=false) (rel:KV kvs vs) (dd:h'.DictOf (fG P w) a vs):
  dJ P w H' h' a (.dK kvs):=⟨z,hd,vs,rel,dd⟩
theorem K6 (hu:A.units+1<cLine) (I:Inv X pins σ H s) (g:QC H a y v H') (P:RelV y u) (Y:RelV v r) (h:∀O,Inv X pins σ H' O->Q () O):
  wpAny (model X.prog X.w) A (setItem (.ref a) u r) Q E s:=by
 rcases g with⟨i,k,e,F,l,G⟩|⟨i,k,b,e,F,eb,l,G⟩
 ·subst F G;obtain⟨z,hd,vs,rel,dd⟩:=Q8 I.hok e;have hz:vs.length<=sizeLine:=by rw[<-rel.length];exact z
  have hl:(putK i k v).length<=sizeLine:=by have:=js i k v;lia
  refine wpAny_setItem_pairs (Ca P) dd fun U x hs=>h _ ?_;have he:∃q,U.get? a=some q:=let ⟨q,_,_,C,_⟩:=x;⟨q,C⟩;exact D6 I (by rw[e];exact True.intro) hs he (NM hl hd (rel.put k Y) x)
 ·subst F G;cases((P));obtain⟨z,hd,xs,rel,dd⟩:=VB I.hok e;have hz:xs.length<=sizeLine:=by rw[<-C2 rel];exact z
  have hl:(putK i k v).length<=sizeLine:=by have:=js i k v;lia
  refine wpAny_setItem_heap (Yj hu) (As I.hok eb) dd fun U x hs=>h _ ?_;obtain⟨q,es,ep,C,h2,h3,Z,_,h5⟩:=x;refine D6 I (by rw[e];exact True.intro) hs ⟨q,C⟩ ⟨hl,hd,_,(rel.put k eb Y).keeps fun c ys W=>?_,q,es,ep,C,h2,h3,Z,h5⟩;rw[af (bL W e (fun z=>nomatch z))];exact W
theorem VE (I:Inv X pins σ H s) (e:H a=some (.dK kvs)) (G:RelV (kV k) u) (l:bj kvs k=some v) (hm:more= []\/∃x,more= [x]) (h:∀C P,Inv X pins σ (upd H a (.dK (rG kvs k))) P->RelV v C->Q C P):wpAny (model X.prog X.w) A (call (.builtin "dict.pop") (.ref a::u::more)) Q E s:=by
 obtain⟨z,hd,vs,rel,dd⟩:=Q8 I.hok e;obtain⟨C,hw,O⟩:=qA.some_of (by rw[<-l];exact rel.val k);have hp:(keyPart u).isSome=true:=by
  cases k with
  |inl i=>obtain⟨t,q⟩:=((G));subst q;rfl
  |inr x=>obtain⟨t,q⟩:=((G));subst q;rfl
 have ha:argsOk "dict.pop" ⟨.ref a::u::more,[]⟩:=by
  rcases hm with q|⟨x,q⟩
  ·subst q;exact PySem.F.args_dict_pop_2 _ _
  ·subst q;exact PySem.F.args_dict_pop_3 _ _ _
 refine call_meetsIn PySem.F.slot_dict_pop dd.typeIs PySem.F.entry_dict_pop ha (meets_dict_pop_there _ a (Ca G) _ hm hp)
  ⟨vs,C,dd,by rw[<-rel.length];exact z,hw,fun U y hs=>h C _ ?_ O⟩
 have he:∃q,U.get? a=some q:=let ⟨q,_,_,hq,_⟩:=y;⟨q,hq⟩;exact D6 I (by rw[e];exact True.intro) hs he (NM (fv (NH _ k) z) hd (rel.drop k) y)
def VW (i:Expr):Prop:= ∀q u,subscripted i false q u=operate [q,u] (getItem q u)
theorem OR {prog:Program} {w:World} {A:Around} {E:Value->Shared->Prop} {s:Shared} {env:Env} {value slice:Expr} {pos:Pos} {T id:String} {Q:Value->Shared->Prop}
  (hl:typeLookup (.type T) "__getitem__" = pure (some (.builtin id))) (hs:VW slice)
  (h:wpAny (model prog w) A (eval value env) (fun o v=>wpAny (model prog w) A (eval slice env) (fun i q=>q.TypeIs o T/\wpAny (model prog w) A (getItem o i) Q E q) E v) E s):
  wpAny (model prog w) A (eval (.Subscript value slice pos) env) Q E s:=by
 refine Subscript_ (mj h (fun o v C=>mj C (fun i q u=>?_) fun _ _ x=>x) fun _ _ x=>x);obtain⟨F,u⟩:=u;refine cc ?_;refine cc (wpAny_specialOf F hl ?_);have fin:wpAny (model prog w) A (subscripted slice false o i) (fun r y=>wpAny (model prog w) A (letTemporaryGo value o r >>= fun _=>pure r) Q E y) E q:=by
  rw[hs o i];exact wpAny_operating (mj u (fun r y z=>cc (wpAny_letTemporaryGo (de z))) fun _ _ x=>x)
 first
  |exact de (cc fin)
  |rfl
  |rfl
theorem FJ (I:Inv X pins σ H s) (g:Ep H a y o):s.TypeIs (.ref a) "dict" :=by
 rcases g with⟨i,k,e,_,_⟩|⟨i,k,b,e,_,_,_⟩
 ·obtain⟨_,_,vs,_,dd⟩:=Cm I.hok e;exact dd.typeIs
 ·obtain⟨_,_,xs,_,dd⟩:=Ck I.hok e;exact dd.typeIs
theorem NN (h:Heap) (i:sysModules<h.objs.size):dJ P w H (h.push {cls:= .type "dict",data:= .dict #[]}) h.objs.size (.dK []):=
 ⟨kv _,Xi.mpr (L1 (ib i)),[],.nil,Heap.DictOf.new h⟩
def LB:TE:=fun _ H Q=> ∀p,H p=none->Q (.ref p) (upd H p (.dK []))
theorem vA:PE X (.Dict [] [] pos) LB:=fun i s σ H Q I h=>
 wpAny_Dict_empty ⟨.ref _,_,I.laid (fun _ _ q=>cP _ q) (cm _) (NN _ I.big),rfl,h _ (I.hok.fresh (cm _))⟩
def Xe (H:Hp) (a:Addr):Prop:=(∃i,Rd H a (.dK i))\/∃i,Rd H a (.dT i)
theorem SH (I:Inv X pins σ H s) (d:Xe H a):
  s.TypeIs (.ref a) "dict" /\(∀b,Value.ref a = .ref b->∃ob,s.heap.get? b=some ob/\ob.dict=none)/\(a == sysModules)=false:=by
 rcases d with⟨i,e⟩|⟨i,e⟩
 ·obtain⟨_,hd,vs,_,dd⟩:=Cm I.hok e;refine⟨dd.typeIs,fun b q=>?_,hd⟩;cases q;obtain⟨ob,_,_,h1,u,_⟩:=dd;exact⟨ob,h1,u.2.1⟩
 ·obtain⟨_,hd,xs,_,dd⟩:=Ck I.hok e;refine⟨dd.typeIs,fun b q=>?_,hd⟩;cases q;obtain⟨ob,_,_,h1,u,_⟩:=dd;exact⟨ob,h1,u.2.1⟩
end
section
variable {κ:Type} [DecidableEq κ]
theorem Ll {k:κ} (h:bj kvs k=none): ¬k∈kvs.map (·.1):=by
 intro m;obtain⟨p,hp,e⟩:=ke.mp m;have q:(kvs.any fun i=>decide (i.1=k))=true:=List.any_eq_true.mpr ⟨p,hp,eT e⟩;rw[ng,h] at q;exact absurd q (by simp)
theorem PK:∀{l:List κ} {k:κ},l.Nodup->¬k∈l->(l++ [k]).Nodup
 | [],k,_,_=>by simp
 |a::r,k,h,hk=>by
  grind
theorem PL {k:κ} (v:V) (hn:(kvs.map (·.1)).Nodup) (h:bj kvs k=none):((putK kvs k v).map (·.1)).Nodup:=by
 rw[EX v h,Xh];exact PK hn (Ll h)
end
mutual
def FnAt (P:Program) (w:World) (K:W.Frag) (mg:Str->Option Value) (base:Heap) (CX:Ga) (x:Str) (k:Nat) (u:List Str) (sp:Sp):Prop:=
 ∃f q,wD P w K mg base CX k f q u sp/\mg x=some (.ref f)/\W.keepIn K (.ref f)=true/\Binds K q u []/\∃v od i,K.lookup f=some ⟨v,od,.func q,i⟩
def yS (K:W.Frag) (mg:Str->Option Value) (x:Str) (st:Stmt):Prop:= ∃f i,V2 K x x st f i/\mg x=some (.ref f)
class Quiet (CX:Ga):Prop where
 pass:∀(X:Cx),Passes CX X E0
noncomputable instance:Quiet T7:=⟨fun _=>UE⟩
theorem NT {K:W.Frag} {st:Stmt} {kV:Value} (X:K.In h) (G:h.Ns mainGlobals mg) (a:W.nsIn K mainGlobals x=some (some (.ref f))) (l:K.lookup f=some ⟨oc,od,.func (W.fnOf x x (eY st) (c7 st) (a9 st) .none kV doc pm an cdv ct),osl⟩) (c:W.codeIn K cdv x=true) (k:W.keepIn K (.ref f)=true):yS K mg x st:=
 ⟨f,_,Nz l c k,W.mg_of X G a⟩
theorem yS.fn {K:W.Frag} {st:Stmt} (F:yS K mg x st) (S:jl N ps (a9 st)) (I:∀(kV doc pm:Value) (an:Option Addr) (i ct:Value) (us:List Value),us.length=ps.length->bindArgs (W.fnOf x x (eY st) (c7 st) (a9 st) .none kV doc pm an i ct) ⟨us,[]⟩=pure (ps.zip us)) (len:∀vs H Q E,sp vs H Q E->vs.length=ps.length) (u:∀(f:Addr) (i:Value) (A:Around) (outer:List Env) (s:Shared) (H:Hp) (vs:List V) (Q:VK) (E:XK),cY k (A.deeper (envOfC x (a9 st) s.heap.objs.size f i))->sp vs H Q E->
   ∃t,zU (AV CX P w K mg base N x (a9 st) f i A outer s H E).nox (c7 st) t/\t {nx:=fun _ H'=>Q .non H',rt:=Q} (start N vs) H):FnAt P w K mg base CX x (k+1) ps sp:=by
 obtain⟨f,O,F,hm⟩:=F;have bd:=F.binds I;have kp:=F.kp;obtain⟨G,od,kV,doc,pm,an,i,ct,z,rfl,lk,v⟩:=F.ex;refine⟨f,_,IJ lk v S len fun A outer s H vs Q E C y=>?_,hm,kp,bd,G,od,z,lk⟩;obtain⟨t,h,q⟩:=u f _ A _ s H vs Q E C y;exact⟨t,h.nox,q⟩
theorem UD [Quiet CX] (G:FnAt X.prog X.w X.K X.mg X.base CX x k ps sp) (u:cY n X.A) (hk:k<=n) (hg:Gl X x) (ha:PA X (e::es) t) (i:autoParam ((x == ("__debug__":Str))=false) qqd) (he:autoParam (starEach (e::es) X.env=(false,eval e X.env)::starEach es X.env) qqr) (q:autoParam ((backTo pos (starEach es X.env)).any (·.1)=false) qqr):
  PE X (.Call (.Name x p) (e::es) [] pos) (BW sp [] E0 t):=by
 obtain⟨f,v,F,hm,kp,b,_⟩:=G;exact Iu F (u.mono hk) hg hm kp b .nil (Quiet.pass X) ha i he q
def gA (mg:Str->Option Value) (x:Str) (v:V):Prop:= ∃u,mg x=some u/\RelV v u
theorem bX (hg:Gl X x) (h:gA X.mg x v) (hd:autoParam ((x == ("__debug__":Str))=false) qqd):PE X (.Name x pos) (tC v):=by
 obtain⟨u,hm,r⟩:=h;exact Pm hg hm r hd
noncomputable def F_ (lo c:Int) (n:Nat):It:=⟨fun i _=>i<n,fun i H x H'=>H'=H/\x = .int (lo+i*c),fun i _=>n<=i⟩
theorem EB {P:Program} {w:World} {K:W.Frag} {Y:Expr} (it:Addr) (lo c:Int) (n:Nat):Turn P w K Y (F_ lo c n) [it] it (fun i h=>IsRangeIter h it (lo+(i:Nat)*c) ((n:Int)-(i:Nat)) c) where
 mem:=by simp
 obj:=fun i h st b q=>by
  simp_all
 keep:=fun i h z st k=>k it (by simp) _ st
 item:=by
  intro X U hw Q hc i u s σ H E I hf st hg;subst U hw Q;obtain⟨G,O,f2,C,F,y⟩:=hf it (by simp);have W:=Walks.range (prog:=X.prog) (w:=X.w) (I.ok.hd hc) it lo c n;refine W.item i s _ _ hg st fun v z tk hv x kk=>?_;obtain⟨t,rfl⟩:=hv;have Z:Inv X _ σ H {s with heap:=z,toks:=tk}:=I.turned (fun b o q e=>kk b o (by simp_all) e) G O C F y;exact⟨_,rfl,Fv x rfl rfl (by decide) ⟨.int _,H,Z,⟨t,rfl⟩,⟨rfl,rfl⟩,x,fun b q=>(hf b q).1⟩⟩
 done:=by
  intro X U hw Q hc i u s σ H E I hf st hg;obtain⟨G,O,f2,C,F,y⟩:=hf it (by simp);exact wpAny_pyNext_range_end (I.ok.hd hc) st (by have:n<=i:=hg;lia) fun z eb=>⟨rfl,I.turned (fun b o q e=>eb b o q e) G O C F y⟩
 self:=fun _ _ _ _ _ st h=>wpAny_pyIter_rangeiter st h
noncomputable def rcount (lo i c:Int):Nat:=(Builtin.Range.rangeSize lo i c).toNat
theorem EM (lo i c:Int) (hc:0<c):0<=Builtin.Range.rangeSize lo i c:=by
 unfold Builtin.Range.rangeSize;rw[bc hc];split
 ·have:=Int.ediv_nonneg (a:=i-lo-1) (b:=c) (by lia) (by lia);lia
 ·trivial
theorem OS (ha : -(2 ^ 61)<=a) (u:a<2 ^ 61) (v : -(2 ^ 61)<=b) (i:b<2 ^ 61) (hc:0<c) (q:c<2 ^ 61):Builtin.Range.small a b c=true:=by
 have h0:=EM a b c hc;have h1:Builtin.Range.rangeSize a b c<=2 ^ 62:=by
  unfold Builtin.Range.rangeSize;rw[bc hc];split
  ·have:=Int.ediv_le_self (a:=b-a-1) c (by lia);lia
  ·decide
 unfold Builtin.Range.small;simp only[Builtin.Range.rangeFitsLong,h8,Bool.or_eq_true];rw[bc hc];simp only[h8,eu];lia
theorem JG {X:Cx} {z:Expr} {x:List (Addr×Obj)} {σ:St} {H:Hp} {s:Shared} {R:It->Hp->Prop} {E:Value->Shared->Prop} {lo i c:Int} {t u v:Tok} {tk:Nat} (I:Inv X x σ H s) (hs:Builtin.Range.small lo i c=true) (hc:0<c)
  (q:R (F_ lo c (rcount lo i c)) H):wpAny (model X.prog X.w) X.A (pyIter (.ref s.heap.objs.size)) (WU X x σ z R) E {s with heap:=s.heap.push {cls:= .type "range",data:= .fields #[.int lo t,.int i u,.int c v]},toks:=tk}:=by
 refine wpAny_pyIter_range (IsRange.new ..) hs ?_;have y:Inv X _ σ H {s with heap:=s.heap.push {cls:= .type "range",data:= .fields #[.int lo t,.int i u,.int c v]},toks:=tk}:=I.kept fun b o e=>cP _ e;refine⟨_,_,_,_,H,rfl,
  y.kept fun b o e=>cP _ e,EB _ lo c _,?_,fun b C=>?_,q⟩
 ·have e1:lo+((0:Nat))*c=lo:=by simp
  have e2:((rcount lo i c))-((0:Nat))=Builtin.Range.rangeSize lo i c:=by
   have:=EM lo i c hc;unfold rcount;lia
  rw[e1,e2];exact fx _ rfl
 ·have e:b=(s.heap.push {cls:= .type "range",data:= .fields #[.int lo t,.int i u,.int c v]}).objs.size:=by simp_all
  subst e;exact y.Hj (cm _) (y.hok.fresh (cm _))
theorem Hl {lo:Int} {g:TG} {y:TS} {D:Ends} (Pv:Nat->St->Hp->Prop) (h0:Pv 0 σ H) (hs:∀(i:Nat) σ H,i<n->Pv i σ H->g (.int (lo+i*c)) σ H fun u v=>y {D with nx:=Pv (i+1),ct:=Pv (i+1),bk:=D.nx} u v) (hd:∀σ H,Pv n σ H->D.nx σ H):
  ∃W:Nat->Nat->St->Hp->Prop,(∃m,W 0 m σ H)/\∀i m σ H,W i m σ H->
   ((F_ lo c n).stop i H/\D.nx σ H)\/((F_ lo c n).go i H/\∃N:St->Hp->Prop,(∀q H',N q H'->∃m',m'<m/\W (i+1) m' q H')/\∀x H',(F_ lo c n).yld i H x H'->g x σ H' fun u v=>y {D with nx:=N,ct:=N,bk:=D.nx} u v):=by
 refine⟨fun i m σ H=>i<=n/\m=n-i/\Pv i σ H,⟨n,kv _,rfl,h0⟩,fun i m σ H ⟨z,hm,hp⟩=>?_⟩;by_cases e:i=n
 ·subst e;exact .inl ⟨cm _,hd σ H hp⟩
 ·refine .inr ⟨(by show i<n;lia),_,fun q H' h=>⟨_,by lia,by lia,rfl,h⟩,fun x H' ⟨e1,e2⟩=>?_⟩;subst e1 e2;exact hs i σ _ (by lia) hp
theorem O4:GJ g (.int i) (.int j) H Q=Q (g i j) H:=rfl
theorem RF:rI C g (.int i) (.int j) H Q=(C i j/\Q (g i j) H):=rfl
theorem RB:rU f (.int i) H Q=Q (f i) H:=rfl
theorem Vz {P:Bool->Prop}:(∃k,V.bl b = .bl k/\P k)=P b:=by
 simp_all
theorem O9:UB (.int i) (.int j) H Q=Q (.bl (decide (i=j))) H:=by
 have e:decide (V.int i=V.int j)=decide (i=j):=by
  simp_all
 unfold UB;rw[e];apply propext;exact⟨fun h=>h.2,fun h=>⟨rfl,h⟩⟩
theorem OY:Uv (.int i) (.int j) H Q=Q (.bl (!decide (i=j))) H:=by
 have e:decide (V.int i=V.int j)=decide (i=j):=by
  simp_all
 unfold Uv;rw[e];apply propext;exact⟨fun h=>h.2,fun h=>⟨rfl,h⟩⟩
theorem O8:UB (.str a) (.str b) H Q=Q (.bl (decide (a=b))) H:=by
 have e:decide (V.str a=V.str b)=decide (a=b):=by
  simp_all
 unfold UB;rw[e];apply propext;exact⟨fun h=>h.2,fun h=>⟨rfl,h⟩⟩
theorem OX:Uv (.str a) (.str b) H Q=Q (.bl (!decide (a=b))) H:=by
 have e:decide (V.str a=V.str b)=decide (a=b):=by
  simp_all
 unfold Uv;rw[e];apply propext;exact⟨fun h=>h.2,fun h=>⟨rfl,h⟩⟩
theorem gq.imp (h:gq X f r) (i:∀x y H Q,r' x y H Q->r x y H Q):gq X f r':=
 fun z s σ H x y v u Q I C E q=>h _ s σ H x y v u Q I C E (i _ _ _ _ q)
theorem bM.imp (h:bM X f r) (i:∀xs H Q,r' xs H Q->r xs H Q):bM X f r':=
 fun u s σ H xs us Q I rs q=>h _ s σ H xs us Q I rs (i _ _ _ q)
def Ae (K:W.Frag):R2:=fun x y H Q=>match x,y with
 | .int i,.int j=>Q (.int (i+j)) H
 | .str a,.str b=>a.length+b.length<=sizeLine/\Q (.str (a++b)) H
 | .ref l,.ref b=>UC (.ref l) (.ref b) H Q\/QU K (.ref l) (.ref b) H Q
 |_,_=>False
theorem Px:gq X (binaryOp .Add) (Ae X.K):=by
 refine gq.imp (R9.or (GS.or (R8.or Pu))) fun x y H Q h=>?_;unfold Ae at h;split at h
 ·exact .inl h
 ·simp_all
 ·exact .inr (.inr h)
 ·trivial
def Oo (i j:Int):Prop:=(0<=j/\j<=1000000)/\-(2 ^ 512)<i/\i<2 ^ 512
theorem Oo.bits (h:Oo i j):(Builtin.Int.intBits i:Int)+j<=2 ^ 27:=by
 have x:Builtin.Int.intBits i<=512:=by
  unfold Builtin.Int.intBits;split
  ·lia
  ·rename_i u;have v:i≠0:=fun q=>u (by rw[q];rfl);have:i.natAbs.log2<512:=(Nat.log2_lt (by lia)).mpr (by have:=h.2;lia);lia
 have:=h.1.2;lia
theorem gD:gq X (binaryOp .LShift) (rI Oo fun i j=> .int (i*2 ^ j.toNat)):=R_ fun _ _ _ _ _ _ _ hc q=>lshift_int hc.1.1 hc.bits q
def yf (K:W.Frag):List V->Hp->VK->Prop:=fun xs H Q=>match xs with
 | [.str z]=>z.length<=sizeLine/\Q (.int z.length) H
 | [.ref p]=> ∃i,(cI K H p i\/du K H p i)/\Q (.int i.length) H
 |_=>False
theorem Lb:bM X (.builtin "len") (yf X.K):=by
 refine bM.imp (Ed.or Ec) fun xs H Q h=>?_;unfold yf at h;split at h
 ·exact .inr ⟨_,rfl,h.1,h.2⟩
 ·simp_all
 ·simp_all
def L_:List V->Hp->VK->Prop:=fun xs H Q=>match xs with
 | [.int i,.int j]=>Q (.int (if j<i then j else i)) H
 |_=>False
def Ma:List V->Hp->VK->Prop:=fun xs H Q=>match xs with
 | [.int i,.int j]=>Q (.int (if i<j then j else i)) H
 |_=>False
theorem oh (hc:X.calm=true):bM X (.builtin "min") L_:=by
 refine bM.imp (K_ hc) fun xs H Q h=>?_;unfold L_ at h;split at h
 ·exact⟨_,_,rfl,h⟩
 ·trivial
theorem oi (hc:X.calm=true):bM X (.builtin "max") Ma:=by
 refine bM.imp (La hc) fun xs H Q h=>?_;unfold Ma at h;split at h
 ·exact⟨_,_,rfl,h⟩
 ·trivial
noncomputable def UW:V->String->Option Bool
 | .int _,"int" =>some true
 | .int _,"bool" =>some false
 | .int _,"str" =>some false
 | .bl _,"int" =>some true
 | .bl _,"bool" =>some true
 | .str _,"str" =>some true
 | .str _,"int" =>some false
 |_,_=>none
def wO (K:W.Frag):List V->Hp->VK->Prop:=fun xs H Q=>match xs with
 | [x,.ty T]=>(match UW x T with
  |some b=>Q (.bl b) H
  |none=> ∃t b,wA K H x t/\W.kitOne K t (.type T)=some b/\Q (.bl b) H)
 |_=>False
theorem Sr (K:W.Frag):W.kitOne K (.type "int") (.type "int")=some true:=rfl
theorem Su (K:W.Frag):W.kitOne K (.type "int") (.type "bool")=some false:=rfl
theorem kit_is (K:W.Frag):W.kitOne K (.type "int") (.type "str")=some false:=rfl
theorem Sv (K:W.Frag):W.kitOne K (.type "bool") (.type "int")=some true:=rfl
theorem Sw (K:W.Frag):W.kitOne K (.type "bool") (.type "bool")=some true:=rfl
theorem So (K:W.Frag):W.kitOne K (.type "str") (.type "str")=some true:=rfl
theorem Sq (K:W.Frag):W.kitOne K (.type "str") (.type "int")=some false:=rfl
theorem WE (K:W.Frag):W.kitOne K (.type "list") (.type "list")=some true:=rfl
theorem Sn (K:W.Frag):W.kitOne K (.type "tuple") (.type "tuple")=some true:=rfl
theorem N4:bM X (.builtin "isinstance") (wO X.K):=by
 intro i s σ H xs us Q I rs q;unfold wO at q;split at q
 ·rename_i x T;obtain⟨u,c,rfl,v,rc⟩:=vals2 rs;obtain rfl:c=Value.type T:=rc;have key:∀{t b},wA _ H x t->W.kitOne _ t _=some b->Q _ H->wpAny _ X.A (call _ [u,.type T]) (EP X _ σ Q) X.xe s:=fun{t b} ty e h=>
   KI I v ty e fun tk=>⟨.bl b,H,I.tok tk,rfl,h⟩
  split at q
  ·rename_i b e;have h:=q;unfold UW at e;split at e<;>cases e
   ·exact key (.int _) (Sr _) h
   ·exact key (.int _) (Su _) h
   ·exact key (.int _) (kit_is _) h
   ·exact key (.bl _) (Sv _) h
   ·exact key (.bl _) (Sw _) h
   ·exact key (.str _) (So _) h
   ·exact key (.str _) (Sq _) h
  ·obtain⟨t,b,ty,e,h⟩:=q;exact key ty e h
 ·trivial
theorem yh (hg:Gl X x) (hm:X.mg x=none) (i:bootBuiltins x=some (.type T)) (hn:autoParam (x≠ "__name__" ) qqd) (hd:autoParam ((x == ("__debug__":Str))=false) qqd):PE X (.Name x pos) (tC (.ty T)):=
 Pp hg hm i rfl hn hd
theorem gj:bootBuiltins "len" = some (.builtin "len"):=by decide+kernel
theorem A3:bootBuiltins "min" = some (.builtin "min"):=by decide+kernel
theorem yc:bootBuiltins "max" = some (.builtin "max"):=by decide+kernel
theorem Tz:bootBuiltins "abs" = some (.builtin "abs"):=by decide+kernel
theorem Tw:bootBuiltins "sum" = some (.builtin "sum"):=by decide+kernel
theorem Hy:bootBuiltins "all" = some (.builtin "all"):=by decide+kernel
theorem cQ:bootBuiltins "isinstance" = some (.builtin "isinstance"):=by decide+kernel
theorem Tx:bootBuiltins "int" = some (.type "int"):=by decide+kernel
theorem Qs:bootBuiltins "bool" = some (.type "bool"):=by decide+kernel
theorem N7:bootBuiltins "str" = some (.type "str"):=by decide+kernel
theorem Qr:bootBuiltins "list" = some (.type "list"):=by decide+kernel
theorem oj:bootBuiltins "tuple" = some (.type "tuple"):=by decide+kernel
end
section
mutual
variable {K:W.Frag}
theorem J0:Ae K (.int i) (.int j) H Q=Q (.int (i+j)) H:=rfl
theorem JZ:Ae K (.str i) (.str j) H Q=(i.length+j.length<=sizeLine/\Q (.str (i++j)) H):=rfl
theorem JO:yf K [.str z] H Q=(z.length<=sizeLine/\Q (.int z.length) H):=rfl
theorem JP:yf K [.ref p] H Q=(∃i,(cI K H p i\/du K H p i)/\Q (.int i.length) H):=rfl
theorem O1:wO K [.int i,.ty "int"] H Q=Q (.bl true) H:=rfl
theorem O2:wO K [.int i,.ty "bool"] H Q=Q (.bl false) H:=rfl
theorem O0:wO K [.str i,.ty "str"] H Q=Q (.bl true) H:=rfl
theorem JK:L_ [.int i,.int j] H Q=Q (.int (if j<i then j else i)) H:=rfl
theorem JL:Ma [.int i,.int j] H Q=Q (.int (if i<j then j else i)) H:=rfl
end
end
mutual
theorem Tt {CX:Ga} {P:Program} {w:World} {K:W.Frag} {mg:Str->Option Value} {base:Heap} {N:List Str} {qual:Str} {scope:Scope} {f:Addr} {cd:Value} {A:Around} {outer:List Env} {s:Shared} {H:Hp} {E:XK}:
  (AV CX P w K mg base N qual scope f cd A outer s H E).K=K:=rfl
theorem law_fin {K:W.Frag} {st:Stmt} (q:mg nm=some (.ref fa)) (D:yS K mg nm st) (I:∀(kV doc pm:Value) (an:Option Addr) (i ct:Value) (us:List Value),us.length=([x]:List Str).length->bindArgs (W.fnOf nm nm (eY st) (c7 st) (a9 st) .none kV doc pm an i ct) ⟨us,[]⟩=pure (([x]:List Str).zip us)) (ok:∀base:Heap,FnAt P w K mg base CX nm k [x] sp):
  ∃z:FuncData,(∀(s:Shared) (u:Value),BindsTo s z ⟨[u],[]⟩ [(x,u)])/\∀base:Heap,K.In base->base.Ns mainGlobals mg->wD P w K mg base CX k fa z [x] sp:=by
 obtain⟨f,z,F,hm⟩:=D;rw[q] at hm;cases hm;obtain⟨U,od,kV,doc,pm,an,i,ct,Q,e,lk,E⟩:=F.ex;refine⟨z,fun s u=>?_,fun base _ _=>?_⟩
 ·rw[e];exact .of_eq (I kV doc pm an i ct [u] rfl)
 ·obtain⟨X,O,h,y,_,_,G,H,C,v⟩:=ok base;rw[q] at y;cases y;rw[lk] at v;cases v;exact h
def BY (K:W.Frag):Sp:=fun vs H Q _=>match vs with
 | [.ref a]=> ∃ns:List Int,cI K H a (ns.map V.int)/\ns.length<=63/\Oi H/\∀H',Q (.bl true) H'
 |_=>False
theorem M9 {l:W.OpenLaw} {K:Params->W.Frag} (hn:l.most=some 63) (i:d.params.defaults= []) (y:cY k callerA) (E:∀(w:World) (h:Heap),YP w h->(K w.params).In h) (F:∀(w:World) (mg:Str->Option Value) (fa:Addr) (h:Heap),(K w.params).In h->h.Ns mainGlobals mg->mg d.name=some (.ref fa)->
   ∃v:FuncData,(∀(s:Shared) (u:Value),BindsTo s v ⟨[u],[]⟩ [(x,u)])/\∀base:Heap,(K w.params).In base->base.Ns mainGlobals mg->wD l.prog w (K w.params) mg base T7 k fa v [x] (BY (K w.params))):
  W.WalkO q loose XP YP l.row.toRowW d [] (fun f vs=>PySem.call f vs):=
 Lake.Lk (n:=63) (CX:=T7) (sp:=BY) hn (by decide) i y E F (fun K H a ns hl C G=>⟨ns,G,hl,C,fun _=>rfl⟩) fun _ _ _ _ z=>z
noncomputable def Cx.comp (X:Cx) (scope:Scope) (cl:List (Str×Addr)) (C:Addr) (N:List Str) (s:Shared) (H:Hp) (ex:List Addr):Cx:=
 {prog:=X.prog,w:=X.w,K:=X.K,mg:=X.mg,base:=X.base,A:=X.A,N:=N,s₀:=s,H₀:=H,env:=compEnvC scope cl C X.env,outer:=X.stack,stack:=X.stack,ex:=ex,fn:=fun _=>false,calm:=X.calm,pn:=[],xe:=fun _ _=>False}
theorem Hu (h:∀y∈scope.names,y.2 = .free->∃c,env.cells.lookup y.1=some c):
  ∃cl,closureFor scope env=pure cl/\(∀y c,cl.lookup y=some c->env.cells.lookup y=some c)/\∀y∈scope.names,y.2 = .free->∃c,cl.lookup y.1=some c:=by
 have key:∀(l:List _) (acc:List (Str×Addr)),(∀y∈l,y.2 = .free->∃c,env.cells.lookup y.1=some c)->(∀y c,acc.lookup y=some c->env.cells.lookup y=some c)->
   ∃cl,(forIn l acc fun(x:Str×NameKind) (cs:List (Str×Addr))=>if(x.2 == NameKind.free)=true then do let a<-cellOf env x.1;pure (ForInStep.yield ((x.1,a)::cs)) else pure (ForInStep.yield cs))=(pure cl:Sem (List (Str×Addr)))/\
    (∀y c,cl.lookup y=some c->env.cells.lookup y=some c)/\(∀y c,acc.lookup y=some c->∃c,cl.lookup y=some c)/\∀y∈l,y.2 = .free->∃c,cl.lookup y.1=some c:=by
  intro l
  induction l with
  |nil=>intro acc _ ha;exact⟨acc,rfl,ha,fun y c e=>⟨c,e⟩,fun y hy=>nomatch hy⟩
  |cons x r C=>
   intro acc hl ha;obtain⟨n,k⟩:=x;by_cases hk:k = .free
   ·subst hk;obtain⟨c,hc⟩:=hl (n,.free) sm rfl;have v:∀y d,((n,c)::acc).lookup y=some d->env.cells.lookup y=some d:=fun y d e=>by
     simp only[XW] at e;cases q:y == n<;>simp_all
    obtain⟨cl,e,h1,u,i⟩:=C ((n,c)::acc) (fun y hy=>hl y (hQ _ hy)) v;have top:∃d,cl.lookup n=some d:=u n c (by simp_all);refine⟨cl,?_,h1,fun y d q=>?_,fun y hy hf=>?_⟩
    ·rw[Xz];have F:cellOf env n=pure c:=by unfold cellOf;rw[hc]
     show((if(NameKind.free == NameKind.free)=true then(do let a<-cellOf env n;pure (ForInStep.yield ((n,a)::acc))) else _) >>= _)=_;rw[F];exact e
    ·cases z:y == n with
     |true=>simp_all
     |false=>exact u y d (by simp only[XW,z];exact q)
    ·rcases cR.mp hy with rfl|hy
     ·trivial
     ·exact i y hy hf
   ·have E:(k == NameKind.free)=false:=by simpa using hk
    obtain⟨cl,e,h1,u,i⟩:=C acc (fun y hy=>hl y (hQ _ hy)) ha;refine⟨cl,?_,h1,u,fun y hy hf=>?_⟩
    ·rw[Xz];show((if(k == NameKind.free)=true then _ else pure (ForInStep.yield acc)) >>= _)=_;rw[E,a5 Yi];exact e
    ·rcases cR.mp hy with rfl|hy
     ·exact absurd hf hk
     ·exact i y hy hf
 obtain⟨cl,e,h1,_,i⟩:=key scope.names [] h (fun y c q=>by simp at q);refine⟨cl,?_,h1,i⟩;unfold closureFor;exact(bind_congr (fun _=>rfl)).trans (by rw[e];rfl)
theorem o3 (h:(relabel scope env).names.lookup x=some k):scope.names.lookup x=some k\/(scope.names.lookup x=some .free/\k = .cell):=by
 have key:∀l:List _,(l.map fun(n,k)=>if(k == NameKind.free&&env.scope.kind == .function&&env.kindOf n == some .cell) then(n,NameKind.cell) else(n,k)).lookup x=some k->l.lookup x=some k\/(l.lookup x=some .free/\k = .cell):=by
  intro l
  induction l with
  |nil=>simp
  |cons y r u=>
   obtain⟨n,j⟩:=y;intro h;rw[Xr] at h;simp only[XW];cases q:x == n with
   |true=>
    by_cases hc:(j == NameKind.free&&env.scope.kind == .function&&env.kindOf n == some .cell)=true
    ·simp_all
    ·simp_all
   |false=>
    by_cases hc:(j == NameKind.free&&env.scope.kind == .function&&env.kindOf n == some .cell)=true
    ·simp only[hc,XH,XW,q] at h;exact u h
    ·have i:(j == NameKind.free&&env.scope.kind == .function&&env.kindOf n == some .cell)=false:=by simpa using hc
     simp only[i,qF,Xs,XW,q] at h;exact u h
 exact key _ h
theorem Fg {h:Heap} (e:h.get? b=some o) (hn:h.objs.size<=n):b≠n:=ib (fy (eM e) hn)
structure A9 (X:Cx) (scope:Scope) (N:List Str) (nv:Nat) (ix:List Nat):Prop where
 kind:scope.kind = .function
 nocell:∀y∈scope.names,y.2≠ .cell
 names:∀y∈scope.names,y.2 = .local->scope.names.lookup y.1=some .local
 fre:∀y∈scope.names,y.2 = .free->X.env.kindOf y.1=some .cell\/X.env.kindOf y.1=some .free
 len:N.length=nv+ix.length
 at_:∀j y,N[nv+j]?=some y->∃i,ix[j]?=some i/\X.N[i]?=some y/\(X.env.kindOf y=some .cell\/X.env.kindOf y=some .free)/\scope.names.lookup y=some .free
noncomputable def iE (nv:Nat) (ix:List Nat) (σ:St):St:=List.replicate nv none++ix.map fun i=>(σ[i]?).join
theorem Hs {nv:Nat} (S:A9 X scope N nv ix) (I:Inv X pins σ H s) (F:∀y c,cl.lookup y=some c->X.env.cells.lookup y=some c) (O:∀y∈scope.names,y.2 = .free->∃c,cl.lookup y.1=some c) (G:∀b∈fp,A8 X pins H b) (hob:∀b∈fp,b<s.heap.objs.size) (hC:s.heap.objs.size<=C) (hD:s.heap.objs.size<=D) (hDC:D≠C) (old:∀b o,s.heap.get? b=some o->h1.get? b=some o) (hm:h1.Ns C m) (Z:h1.get? D=some oD) (W:∀v,oD.data≠ .cell v):
  Inv (X.comp scope cl C N s H fp) [(D,oD)] (iE nv ix σ) H {s with heap:=h1,toks:=tk}:=by
 refine⟨⟨I.ok.mod,S.kind,I.ok.glob,I.ok.blt,hC,fun x y c e1 e2=>I.ok.inj x y c (F x c e1) (F y c e2),fun x hx=>?_,fun _ _ z=>absurd z Yi,I.ok.hd,I.ok.frames,.inl rfl,fun b Q=>⟨fun z=>?_,fun x c e=>(G b Q).2.2.2.2.1 x c (F x c e)⟩,I.bs,
  fv I.ok.bsz I.sz,fun b o e Q=>?_,fun b Q z=>?_,I.stack,I.zB⟩,rfl,I.bare,Un.kept old,⟨m,hm,fun i x v e1 e2 e3=>?_⟩,fun x c e=>?_,I.hok.fresh hC,fun x c e=>I.k9 x c (F x c e),fun p hp=>?_,I.hok.kept old,?_⟩
 ·have hx':=hx;have fr:scope.names.lookup x=some .free:=by
   rcases hx' with z|z
   ·rcases o3 z with q|q
    ·exact absurd rfl (S.nocell _ (zl q))
    ·exact q.1
   ·rcases o3 z with q|q
    ·exact q
    ·simp_all
  exact O (x,.free) (zl fr) rfl
 ·exact ib (fy (hob b Q) hC) z
 ·rcases(G b Q).2.2.2.1 with z|z
  ·exact I.ok.noex b o e z
  ·exact Fg e (fv I.ok.bsz z) rfl
 ·rcases cR.mp (I.zW b z) with q|q
  ·exact(G b Q).2.1 q
  ·exact(G b Q).2.2.1 q
 ·have Y:N[i]?=some x:=e1;by_cases hi:i<nv
  ·have E:(iE nv ix σ)[i]?=some (some v):=e2;unfold iE at E;rw[mu (by simp_all),List.getElem?_replicate,bc hi] at E;cases E
  ·obtain⟨j,rfl⟩:∃j,i=nv+j:=⟨i-nv,by lia⟩;obtain⟨k,hk,hN,hkd,hsc⟩:=S.at_ j x Y;have E:(iE nv ix σ)[nv+j]?=some (some v):=e2;unfold iE at E;rw[Xk (by simp),XR,Nat.add_sub_cancel_left,vr,hk] at E;have e4:σ[k]?=some (some v):=by
    have e5:(σ[k]?).join=some v:=by simp_all
    cases q:σ[k]?<;>(simp_all)
   obtain⟨m0,_,hl⟩:=I.loc;have vis:Wf X.env.scope x:=by
    rcases hkd with z|z
    ·exact .inr (.inl z)
    ·exact .inr (.inr z)
   obtain⟨u,r,l⟩:=hl k x v hN e4 vis;refine⟨u,r,?_⟩;rcases l with⟨z,_⟩|⟨_,c,hc,P⟩
   ·simp_all
   ·obtain⟨c',U⟩:=O (x,.free) (zl hsc) rfl;have:=F x c' U;rw[hc] at this;cases this;refine .inr ⟨?_,c,U,P.keeps old⟩;rcases e3 with z|z|z
    ·rcases o3 z with q|q
     ·simp_all
     ·cases q.2
    ·exact .inl z
    ·exact .inr z
 ·obtain⟨v,q⟩:=I.cell x c (F x c e);exact⟨v,q.keeps old⟩
 ·have hp':p∈[(D,oD)]:=hp;have e:p=(D,oD):=by simp_all
  subst e;refine⟨Z,I.hok.fresh hD,hDC,fun z=>?_,W⟩;rcases cR.mp (I.zW D z) with q|q
  ·exact Yd (fy I.lt hD) q
  ·exact I.nofs hD q
 ·show(iE nv ix σ).length=N.length;unfold iE;rw[ey,XR,cF,S.len]
theorem NY {X:Cx} {i:List (Addr×Obj)} {σ:St} {H:Hp} {s:Shared} {scope:Scope} {N:List Str} {cl:List (Str×Addr)} {W:List Addr} {C D:Addr} {x:List Value} {G:List V} {n:Nat} {P:St} {H':Hp} {Q:Shared} (I:Inv X i σ H s) (y:∀b∈W,A8 X i H b) (hD:s.heap.objs.size<=D)
  (J:Inv (X.comp scope cl C N s H W) [(D,{cls:= .type "list",data:= .seq x.toArray n})] P H' Q) (r:Vals G x) (hl:G.length<=sizeLine):Inv X i σ (upd H' D (.lst G)) Q:=by
 obtain⟨Z,E,_⟩:=J.pin (D,{cls:= .type "list",data:= .seq x.toArray n}) (by simp[Cx.comp]);have U:=J.base;have O:∀b o,s.heap.get? b=some o->b≠D:=fun b o e=>Fg e hD;refine I.call' J.os ⟨U.keep,U.slot,fun b o e n hx=>?_,U.there,fun b xs e=>?_,fun b o xs e=>?_,fun b Y e=>?_⟩ (fun b u e=>?_) J.bare fun b F=>(y b F).2.2.2 |> fun z=>⟨z.1,(y b F).2.1,z.2.1,z.2.2⟩
 ·rw[af (O b o e)];exact U.free b o e n hx
 ·have q:=U.tups b xs e;rw[af (ar q E)];exact q
 ·have q:=U.frzs b o xs e;rw[af (ar q E)];exact q
 ·obtain⟨more,q⟩:=U.tbls b Y e;exact⟨_,by rw[af (ar q E)];exact q⟩
 ·by_cases F:b=D
  ·subst F;rw[ag] at e;cases e;exact⟨hl,x,n,r,Z⟩
  ·rw[af F] at e;exact(J.hok b u e).stay (fun c v _ q=>q) (fun c q=>by rw[af (ar q E)];exact q) fun c xs q=>by rw[af (ar q E)];exact q
theorem D8 {prog:Program} {w:World} {A:Around} {R:Result->Shared->Prop} {s:Shared} {elt target iter:Expr} {ifs:List Expr} {scope:Scope} {pos:Pos} {it acc:Value} {env:Env} (I:Nat->Shared->Prop)
  (
   turn:∀n s,I n s->wpAny (model prog w) A (pyNext it) (fun r i=>match r with
   |none=>R (.ok .next) i
   |
     some v=>wpAny (model prog w) A (letOwnedTupleGo target it v) (fun _ s₀=>wpAny (model prog w) A (assign target env v) (fun _ C=>
     wpAny (model prog w) A (forIn ifs true fun c r=>if r=true then do let ok<-isTrue c env (eval c env);pure (ForInStep.yield ok) else pure (ForInStep.yield r)) (fun ok u=>
      if ok=true then wpAny (model prog w) A (eval elt env) (fun x F=>
       wpAny (model prog w) A (call (.builtin "list.append") [acc,x]) (fun _ y=> ∃m,m<n/\I m y) (fun _ _=>False) F) (fun _ _=>False) u
      else∃m,m<n/\I m u) (fun _ _=>False) C) (fun _ _=>False) s₀) (fun _ _=>False) i) (fun _ _=>False) s)
  (n:Nat) (h:I n s):
  codeAny (model prog w) A (.compLoop (.ListComp elt [⟨target,iter,ifs,0⟩] scope pos) 0 it acc env) R s:=by
 refine codeAny_loop rfl I (fun n s P=>?_) n h;refine wpAny_noted ?_;rw[compTurn_list];refine cc (X2 (cc (mj (turn n s P) (fun r i E=>?_) fun _ _ q=>q.elim)));cases r with
 |none=>exact de E
 |some v=>
  refine cc (mj E (fun _ s₀ h₀=>?_) fun _ _ q=>q.elim);refine cc (mj h₀ (fun _ C H=>cc (mj H (fun ok u z=>?_) fun _ _ q=>q.elim)) fun _ _ q=>q.elim);cases ok with
  |false=>exact de ⟨rfl,z⟩
  |true=>
   exact cc (cc (mj z (fun x F O=>cc (mj O (fun _ y G=>de (de ⟨rfl,G⟩)) fun _ _ q=>q.elim)) fun _ _ q=>q.elim))
def Wk:TT:=fun _ H Q=>Q true H
def n_ (J:It) (g:TG) (tt:TT) (te:TE) (z:St) (H:Hp) (Q:List V->Hp->Prop):Prop:=
 ∃W:Nat->Nat->List V->St->Hp->Prop,(∃m,W 0 m [] z H)/\∀i m C E H',W i m C E H'->
  (
   J.stop i H'/\Q C H')\/(J.go i H'/\C.length<sizeLine/\∃N:List V->St->Hp->Prop,(∀F v q,N F v q->∃m',m'<m/\W (i+1) m' F v q)/\
   ∀x q,J.yld i H' x q->g x E q fun u I=>tt u I fun b G=>if b=true then te u G fun y O=>N (C++ [y]) u O else N C u G)
def EG (nv:Nat) (ix:List Nat) (wi:TI) (g:TG) (tt:TT) (te:TE):TE:=fun σ H Q=>wi σ H fun J q=>n_ J g tt te (iE nv ix σ) q fun i H'=>i.length<=sizeLine/\∀D,H' D=none->Q (.ref D) (upd H' D (.lst i))
end
section
mutual
variable {X:Cx} {nv:Nat} {tt:TT}
def VV (X:Cx) (ifs:List Expr) (tt:TT):Prop:=
 ∀(i:List (Addr×Obj)) (s:Shared) (σ:St) (H:Hp) (Q:Bool->Hp->Prop),Inv X i σ H s->tt σ H Q->
  wpAny (model X.prog X.w) X.A (forIn ifs true fun c r=>if r=true then do let ok<-isTrue c X.env (eval c X.env);pure (ForInStep.yield ok) else pure (ForInStep.yield r)) (TP X i σ Q) X.xe s
theorem o6:VV X [] Wk:=fun _ _ _ H _ I h=>wpAny_tests_nil ⟨H,I,h⟩
theorem md {c:Expr} (h:PT X c tt):VV X [c] tt:=fun i s σ H Q I hw=>wpAny_tests_one (h _ s σ H Q I hw)
theorem CA {tg elt iter:Expr} {ifs:List Expr} {scope:Scope} {N:List Str} {ix:List Nat} {pos:Pos} {wi:TI} {g:TG} {te:TE} {use:Option (Value->Sem Unit)} {Qv:Value->Shared->Prop} {Z:List (Addr×Obj)} {s:Shared} {σ:St} {H:Hp} {Q:List V->Hp->Prop} (hc:X.calm=true) (S:A9 X scope N nv ix) (hi:PI X tg iter wi)
  (hg:∀cl C s H ex,PG (X.comp scope cl C N s H ex) tg g) (ht:∀cl C s H ex,VV (X.comp scope cl C N s H ex) ifs tt) (he:∀cl C s H ex,PE (X.comp scope cl C N s H ex) elt te) (I:Inv X Z σ H s)
  (h:wi σ H fun J H1=>n_ J g tt te (iE nv ix σ) H1 fun ys H'=>ys.length<=sizeLine/\Q ys H')
  (fin:∀ys D C H' s' (s2:Shared) (σ2:St),Q ys H'->H' D=none->D≠C->Inv X Z σ (upd H' D (.lst ys)) s'->(∃m,s'.heap.Ns C m)->(∀H'',H'' C=none->A8 X Z H'' C)->H' C=none->compPost (model X.prog X.w) X.A X.xe use Qv (.ref D) C (.ok .next) s')
  (hs:∀x,foldedSetIterable iter X.env x=pure x):
  wpAny (model X.prog X.w) X.A (comprehension (.ListComp elt [⟨tg,iter,ifs,0⟩] scope pos) scope X.env (firstIterPos [⟨tg,iter,ifs,0⟩] pos) (newList []) false (eval iter X.env) use) Qv X.xe s:=by
 obtain⟨cl,hclos,hcl,hcl2⟩:=Hu (scope:=scope) fun y hy hf=>I.ok.has y.1 (S.fre y hy hf);refine wpAny_comprehension_free (use:=use) rfl hs hclos S.kind S.names (thn (hi Z s σ H _ I h) fun v s1 h1=>thn h1 fun itv s2 h2=>?_);obtain⟨it,Y,tn,J,H2,e,I2,T,st2,f2,W,⟨m0,w0⟩,turn⟩:=h2;subst e;refine wpAny_newObj_type (wpAny_newFunctionEnv S.nocell (by simp_all) (fun U G F=>?_) S.kind);dsimp only at G F⊢;generalize hH2:s2.heap.push {cls:= .type "list",dict:=none,data:= .seq ([]:List Value).toArray}=G2 at G F⊢;have hC:G2.objs.size=s2.heap.objs.size+1:=by rw[<-hH2,Heap.size_push]
 have hDC:s2.heap.objs.size≠G2.objs.size:=by simp_all
 have old:∀b o,s2.heap.get? b=some o->U.get? b=some o:=fun b o e=>F.extBut b o (Fg e (by simp_all)) (cP _ (hH2▸cP _ e));have hacc:U.get? s2.heap.objs.size=some {cls:= .type "list",data:= .seq ([]:List Value).toArray 0}:=F.extBut _ _ hDC (cP _ (hH2▸fx _ rfl));have hob:∀b∈Y,b<s2.heap.objs.size:=fun b O=>by
  obtain⟨o,e,_⟩:=T.obj _ _ st2 b O;exact eM e
 have hCle:s2.heap.objs.size<=G2.objs.size:=by simp_all
 have I4:∀tk,Inv (X.comp scope cl G2.objs.size N s2 H2 Y) [(s2.heap.objs.size,{cls:= .type "list",data:= .seq ([]:List Value).toArray 0})] (iE nv ix σ) H2 {s2 with heap:=U,toks:=tk}:=fun tk=>
  Hs S I2 hcl hcl2 f2 hob hCle (cm _) hDC old G hacc (fun v z=>by cases z)
 have hst₁:tn 0 U:=T.keep _ _ _ st2 fun b _ o e=>old b o e;have stat:∀{H':Hp} {pns:List (Addr×Obj)},(∀p∈pns,p.1=s2.heap.objs.size)->(∀b∈Y,H' b=none)->∀b∈Y,A8 (X.comp scope cl G2.objs.size N s2 H2 Y) pns H' b:=fun{H' pns} hp hn b O=>by
  obtain⟨f0,f1,f3,f4,f5,f6⟩:=f2 b O;have hlt:=hob b O;refine⟨hn b O,fun z=>?_,fun z=>?_,.inl O,fun x c e=>f5 x c (hcl x c e),fun p hp' z=>?_⟩
  ·exact ib (fy hlt hCle) z
  ·rcases cR.mp (I2.zW b z) with q|q
   ·trivial
   ·trivial
  ·have hp'':p∈pns:=‹_›;exact Yd (by rw[hp p hp''];exact hlt) z
 have loop:∀s₃:Shared,s₃={s2 with heap:=U,toks:=s2.toks+([]:List (Str×Value)).length}->
   codeAny (model X.prog X.w) X.A (.compLoop (.ListComp elt [⟨tg,iter,ifs,0⟩] scope pos) 0 (.ref it) (.ref s2.heap.objs.size) (compEnvC scope cl G2.objs.size X.env))
    (compPost (model X.prog X.w) X.A X.xe use Qv (.ref s2.heap.objs.size) G2.objs.size) s₃:=by
  rintro s₃ rfl;refine D8 (fun n s'=> ∃i ys E P H',Inv (X.comp scope cl G2.objs.size N s2 H2 Y) [(s2.heap.objs.size,{cls:= .type "list",data:= .seq E.toArray E.length})] P H' s'/\tn i s'.heap/\(∀b∈Y,H' b=none)/\Vals ys E/\W i n ys P H') ?_ m0
   ⟨0,[],[],_,H2,I4 _,hst₁,fun b O=>(f2 b O).1,.nil,w0⟩
  rintro n s' ⟨i,ys,E,P,H',I',st',fr',rv,w'⟩;have pin1:∀{o:Obj},∀p∈[(s2.heap.objs.size,o)],p.1=s2.heap.objs.size:=fun{o} p hp=>by
   simp_all
  rcases turn i n ys P H' w' with⟨stop,hl,qn⟩|⟨go,hlen,Nx,hN,step⟩
  ·refine thn (T.done (X.comp scope cl G2.objs.size N s2 H2 Y) rfl rfl rfl hc i _ s' P H' (fun _ _=>False) I' (stat pin1 fr') st' stop) fun r s4 ⟨hr,I5⟩=>?_;subst hr;obtain⟨m5,hm5,_⟩:=I5.loc;have fD:=(I5.pin (s2.heap.objs.size,{cls:= .type "list",data:= .seq E.toArray E.length}) (ej _ (by simp))).2.1;exact fin ys _ _ H' s4 s2 P qn fD hDC (NY I2 f2 (cm _) I5 rv hl) ⟨m5,hm5⟩ (fun H'' hn=>I2.Hj hCle hn) I5.free
  ·refine thn (T.item (X.comp scope cl G2.objs.size N s2 H2 Y) rfl rfl rfl hc i _ s' P H' (fun _ _=>False) I' (stat pin1 fr') st' go) fun r s4 ⟨u,hr,h4⟩=>?_;subst hr;refine thn h4 fun _ s5 ⟨x,H5,I5,r5,y5,st5,fr5⟩=>?_;have I5':=I5.pinned (stat pin1 fr5) (T.obj _ _ st5);refine thn (hg _ _ _ _ _ _ s5 P H5 x u _ I5' r5 (step x H5 y5)) fun _ s6 ⟨σ6,H6,I6,q6⟩=>?_;refine thn (ht _ _ _ _ _ _ s6 σ6 H6 _ I6 q6) fun b s7 ⟨H7,I7,q7⟩=>?_;have back:∀{σ8:St} {H8:Hp} {s8:Shared},Inv (X.comp scope cl G2.objs.size N s2 H2 Y) ([(s2.heap.objs.size,{cls:= .type "list",data:= .seq E.toArray E.length})]++Dh Y s5.heap) σ8 H8 s8->tn (i+1) s8.heap/\∀b∈Y,H8 b=none:=fun{σ8 H8 s8} J=>
    ⟨
     T.keep _ _ _ st5 fun b O o e=>(J.pin (b,o) (ej _ (ej _ (pA O e)))).1,fun b O=>by
     obtain⟨o,e,d⟩:=T.obj _ _ st5 b O;exact(J.pin (b,o) (ej _ (ej _ (pA O e)))).2.1⟩
   cases b with
   |false=>
    rw[a5 Yi] at q7;obtain⟨m',hm,w7⟩:=hN _ _ _ q7;exact⟨m',hm,i+1,ys,E,σ6,H7,I7.unpinned,(back I7).1,(back I7).2,rv,w7⟩
   |true=>
    rw[bc rfl] at q7;refine fL (he _ _ _ _ _ _ s7 σ6 H7 _ I7 q7) fun y s8 yv H8 I8 r8 q8=>?_;obtain⟨eD,fD,nD,nfD,dD⟩:=I8.pin (s2.heap.objs.size,{cls:= .type "list",data:= .seq E.toArray E.length}) (ej _ (by simp));refine append_at (hsz:=by rw[h6,<-rv.length];exact Nat.le_of_lt hlen) eD fun h₅ hs₅ hD₅=>?_;obtain⟨m',hm,w8⟩:=hN _ _ _ q8;have fpD:s2.heap.objs.size ∉ Y:=fun z=>X1 _ (hob _ z);have I9:Inv (X.comp scope cl G2.objs.size N s2 H2 Y) [] σ6 H8 s8:=I8.zJ fun p hp=>absurd hp (by simp);have fk:=I2.Hj (H':=H8) (cm _) fD;have I10:Inv (X.comp scope cl G2.objs.size N s2 H2 Y) [] σ6 H8 {s8 with heap:=h₅,toks:=s8.toks}:=
     I9.turned (it:=s2.heap.objs.size) (fun b o O e=>hs₅.extBut b o O e) fD nD (.inr (cm _)) (fun x c e=>fk.2.2.2.2.1 x c (hcl x c e)) (fun p hp=>absurd hp (by simp[Cx.comp]))
    refine⟨m',hm,i+1,ys++ [yv],E++ [y],σ6,H8,I10.zJ fun p hp=>?_,?_,(back I8).2,rv.append (.cons r8 .nil),w8⟩
    ·have e:p=(s2.heap.objs.size,{cls:= .type "list",data:= .seq (E++ [y]).toArray (E++ [y]).length}):=by simpa using hp
     subst e;refine⟨?_,fD,nD,nfD,fun v z=>by cases z⟩;show h₅.get? s2.heap.objs.size=_;rw[hD₅,List.push_toArray,ey,me]
    ·exact T.keep _ _ _ (back I8).1 fun b O o e=>hs₅.extBut b o (fun z=>fpD (by have z':b=s2.heap.objs.size:=z;rw[<-z'];exact O)) e
 exact codeAny_compStart_list (loop _ rfl) (T.self _ 0 _ _ _ hst₁ (loop _ rfl))
theorem gC (hc:X.calm=true) (S:A9 X scope N nv ix) (P:PI X tg iter wi) (hg:∀cl C s H ex,PG (X.comp scope cl C N s H ex) tg g) (ht:∀cl C s H ex,VV (X.comp scope cl C N s H ex) ifs tt) (he:∀cl C s H ex,PE (X.comp scope cl C N s H ex) elt te) (hs:∀x,foldedSetIterable iter X.env x=pure x:=by intro _;rfl):PE X (.ListComp elt [⟨tg,iter,ifs,0⟩] scope pos) (EG nv ix wi g tt te):=by
 intro y s σ H Q I h;refine CA (Q:=fun i H'=> ∀D,H' D=none->Q (.ref D) (upd H' D (.lst i))) hc S P hg ht he I ?_ (fun i D C H' s' s2 σ2 q E v J hm fk z=>?_) hs
 ·exact h
 ·obtain⟨m,hm⟩:=hm;refine⟨m,hm,fun h' G=>⟨.ref D,_,?_,rfl,q D E⟩⟩;have u:upd H' D (.lst i) C=none:=by rw[af (L1 v)];exact z
  obtain⟨Y,Z,f2,U,W,F⟩:=fk _ u;exact J.turned (fun b o O e=>G.extBut b o O e) Y Z U W F
theorem Dc (hc:X.calm=true) (hN:X.N.Nodup) (u:X.N[i]?=some x) (hx:X.env.scope.names.lookup x=some .local) (S:A9 X scope N nv ix) (hi:PI X tg iter wi) (hg:∀cl C s H ex,PG (X.comp scope cl C N s H ex) tg g) (ht:∀cl C s H ex,VV (X.comp scope cl C N s H ex) ifs tt) (he:∀cl C s H ex,PE (X.comp scope cl C N s H ex) elt te) (E:autoParam (swapsWith (.ListComp elt [⟨tg,iter,ifs,0⟩] scope pos) (some (.Name x px)) spos.line X.env=pure true) qqr) (hs:∀x,foldedSetIterable iter X.env x=pure x:=by intro _;rfl):PS X (.Assign [.Name x px] (.ListComp elt [⟨tg,iter,ifs,0⟩] scope pos) spos) (Gy (EG nv ix wi g tt te) (nQ i)):=by
 intro Q s σ H D I h;rw[exec_Assign_Name_used _ _ _ _ E];refine cc (X2 (cc ?_));refine cc (thn (CA hc S hi hg ht he I h (fun U l C H' Y s2 σ2 q Z O J hm fk W=>?_) hs)
  fun _ Y hq=>de (de hq))
 obtain⟨m,hm⟩:=hm;have F:upd H' l (.lst U) C=none:=by rw[af (L1 O)];exact W
 obtain⟨f0,f1,f2,f3,P,f5⟩:=fk _ F;refine wpAny_assign_Name (BX J hN u (.inl hx) (v:= .ref l) rfl (fun s'' J' ⟨a,sb,ha⟩=>?_) (.inr hx));have G:C≠a:=by
  rcases ha with z|z
  ·simp_all
  ·exact L1 (P x a z)
 refine⟨m,hm.sameBut sb G,fun h' y=>⟨_,_,?_,q l Z⟩⟩;exact J'.turned (fun b o hb e=>y.extBut b o hb e) f0 f1 f3 P f5
end
end
mutual
noncomputable def W8 (x:Str):It:=⟨fun i _=>i<x.cps.size,fun i H v H'=>H'=H/\∃c,x.cps[i]?=some c/\v = .str ⟨#[c]⟩,fun i _=>x.cps.size<=i⟩
theorem EA {P:Program} {w:World} {K:W.Frag} {tg:Expr} (it:Addr) (x:Str) (t:Tok) (T:String) (G:T = "str_ascii_iterator" \/T = "str_iterator"):Turn P w K tg (W8 x) [it] it (fun i h=>h.IsStrIter it T x t i) where
 mem:=by simp
 obj:=fun i h st b q=>by
  have e:b=it:=by simp_all
  subst e;obtain⟨o,e,c,d⟩:=st;exact⟨o,e,fun v z=>by simp_all⟩
 keep:=fun i h Q st k=>by
  obtain⟨o,e,r⟩:=st;exact⟨o,k it (by simp) o e,r⟩
 item:=by
  intro X hP hw hK hc i C s σ H E I hf st hg;subst hP hw hK;obtain⟨Z,f1,f2,U,Y,O⟩:=hf it (by simp);have y:=hg;have W:Walks X.prog X.w X.A it [it] [it] x.cps.size (SignAt x) (fun i h=>h.IsStrIter it T x t i):=by
   rcases G with rfl|rfl
   ·exact Walks.strAscii (I.ok.hd hc) it x t
   ·exact Walks.strWide (I.ok.hd hc) it x t
  refine W.item i s _ _ y st fun v Q tk hv F kk=>?_;obtain⟨c,u,hcx,rfl⟩:=hv;have I1:Inv X _ σ H {s with heap:=Q,toks:=tk}:=I.turned (fun b o q e=>kk b o (by simp_all) e) Z f1 U Y O;obtain⟨o,e,c',d⟩:=id F;refine⟨_,rfl,Fv e c' d (by rcases G with rfl|rfl<;>decide) ⟨.str _,H,I1,⟨u,rfl⟩,⟨rfl,c,hcx,rfl⟩,F,fun b q=>(hf b q).1⟩⟩
 done:=by
  intro X hP hw hK hc i C s σ H E I hf st hg;obtain⟨Z,f1,f2,U,Y,O⟩:=hf it (by simp);have y:x.cps.size<=i:=hg;have he:x.cps[i]?=none:=by simp_all
  rcases G with rfl|rfl
  ·exact wpAny_pyNext_ascii_end (I.ok.hd hc) st he fun Q eb=>⟨rfl,I.turned (fun b o q e=>eb b o q e) Z f1 U Y O⟩
  ·exact wpAny_pyNext_wide_end (I.ok.hd hc) st he fun Q eb=>⟨rfl,I.turned (fun b o q e=>eb b o q e) Z f1 U Y O⟩
 self:=fun _ _ _ _ _ st h=>by
  rcases G with rfl|rfl
  ·exact wpAny_pyIter_striter_ascii st h
  ·exact wpAny_pyIter_striter_wide st h
def z_ (K:W.Frag) (x:V) (i:Hp) (R:It->Hp->Prop):Prop:=match x with
 | .ref a=>(∃xs,cI K i a xs/\R (V0 K a) i)\/(∃xs,du K i a xs/\R (VZ K a) i)
 | .str z=>R (W8 z) i
 |_=>False
def P6 (K:W.Frag) (tl:TE):TI:=fun σ H R=>tl σ H fun x i=>z_ K x i R
theorem RO (hl:PE X l tl):PI X tg l (P6 X.K tl):=by
 intro O s σ H R I h;refine fL (hl _ s σ H _ I h) fun v s1 x u i F y=>?_;cases x with
 |ref a=>
  cases F;rcases y with⟨xs,E,q⟩|⟨xs,E,q⟩
  ·obtain⟨C,U,p,Q⟩:=i.list E;refine wpAny_pyIter_list p.isList ?_;refine⟨_,_,_,_,u,rfl,i.kept fun b o e=>cP _ e,Jm a _,⟨_,fx _ rfl,rfl,rfl⟩,fun b G=>?_,q⟩;have e:b=s1.heap.objs.size:=by simp_all
   subst e;exact i.Hj (cm _) (i.hok.fresh (cm _))
  ·obtain⟨C,U,p,Q⟩:=i.tuple E;refine wpAny_pyIter_tuple ((p)) ?_;refine⟨_,_,_,_,u,rfl,i.kept fun b o e=>cP _ e,Gn a _,⟨_,fx _ rfl,rfl,rfl⟩,fun b G=>?_,q⟩;have e:b=s1.heap.objs.size:=by simp_all
   subst e;exact i.Hj (cm _) (i.hok.fresh (cm _))
 |str z=>
  obtain⟨t,rfl⟩:=F;have P:∀b∈[s1.heap.objs.size],A8 X _ u b:=fun b G=>by
   have e:b=s1.heap.objs.size:=by simp_all
   subst e;exact i.Hj (cm _) (i.hok.fresh (cm _))
  cases ha:z.cps.all _
  ·exact wpAny_pyIter_wide ha ⟨_,_,_,_,u,rfl,i.kept fun b o e=>cP _ e,EA _ z t _ (.inr rfl),⟨_,fx _ rfl,rfl,rfl⟩,P,y⟩
  ·exact wpAny_pyIter_ascii ha ⟨_,_,_,_,u,rfl,i.kept fun b o e=>cP _ e,EA _ z t _ (.inl rfl),⟨_,fx _ rfl,rfl,rfl⟩,P,y⟩
 |_=>exact y.elim
def forR (J:It) (g:TG) (v:TS) (D:Ends) (σ:St) (H:Hp):Prop:= ∃W:Nat->Nat->St->Hp->Prop,(∃m,W 0 m σ H)/\∀i m σ H,W i m σ H->
 (J.stop i H/\D.nx σ H)\/(J.go i H/\∃N:St->Hp->Prop,(∀q H',N q H'->∃m',m'<m/\W (i+1) m' q H')/\∀x H',J.yld i H x H'->g x σ H' fun u y=>v {D with nx:=N,ct:=N,bk:=D.nx} u y)
end
section
mutual
variable {K:W.Frag} {nv:Nat}
theorem Lx:Ly (P6 K tl) g tb D σ H=tl σ H fun x q=>z_ K x q fun J i=>forR J g tb D σ i:=rfl
theorem Jr:EG nv ix (P6 K tl) g tt te σ H Q=tl σ H fun x u=>z_ K x u fun J q=>n_ J g tt te (iE nv ix σ) q fun i H'=>i.length<=sizeLine/\∀l,H' l=none->Q (.ref l) (upd H' l (.lst i)):=rfl
def B6 (vs:List V) (i:Hp) (R:It->Hp->Prop):Prop:=match vs with
 | [.int j]=>(-(2 ^ 62)<=j/\j<2 ^ 62)/\R (Ol 0 j.toNat) i
 |_=>False
def BZ (vs:List V) (q:Hp) (R:It->Hp->Prop):Prop:=match vs with
 | [.int i,.int j]=>(-(2 ^ 62)<=i/\i<2 ^ 62/\-(2 ^ 62)<=j/\j<2 ^ 62)/\R (Ol i (j-i).toNat) q
 |_=>False
def Nd (q:TA):TI:=fun σ H R=>q σ H fun vs i=>B6 vs i R
def Nb (q:TA):TI:=fun σ H R=>q σ H fun vs i=>BZ vs i R
def EN (vs:List V) (q:Hp) (R:It->Hp->Prop):Prop:=match vs with
 | [.int i,.int j,.int c]=>(-(2 ^ 61)<=i/\i<2 ^ 61/\-(2 ^ 61)<=j/\j<2 ^ 61/\0<c/\c<1000000)/\R (F_ i c (rcount i j c)) q
 |_=>False
def Q2 (q:TA):TI:=fun σ H R=>q σ H fun vs i=>EN vs i R
theorem Jq:Ly (Nd ta) g tb D σ H=ta σ H fun vs i=>B6 vs i fun J q=>forR J g tb D σ q:=rfl
theorem Jp:Ly (Nb ta) g tb D σ H=ta σ H fun vs i=>BZ vs i fun J q=>forR J g tb D σ q:=rfl
theorem Jo:Ly (Q2 ta) g tb D σ H=ta σ H fun vs i=>EN vs i fun J q=>forR J g tb D σ q:=rfl
theorem Gv:EG nv ix (Nd ta) g tt te σ H Q=ta σ H fun vs q=>B6 vs q fun J u=>n_ J g tt te (iE nv ix σ) u fun i H'=>i.length<=sizeLine/\∀l,H' l=none->Q (.ref l) (upd H' l (.lst i)):=rfl
theorem Gu:EG nv ix (Nb ta) g tt te σ H Q=ta σ H fun vs q=>BZ vs q fun J u=>n_ J g tt te (iE nv ix σ) u fun i H'=>i.length<=sizeLine/\∀l,H' l=none->Q (.ref l) (upd H' l (.lst i)):=rfl
theorem JF {R:It->Hp->Prop}:B6 [.int j] H R=((-(2 ^ 62)<=j/\j<2 ^ 62)/\R (Ol 0 j.toNat) H):=rfl
theorem JE {R:It->Hp->Prop}:BZ [.int i,.int j] H R=((-(2 ^ 62)<=i/\i<2 ^ 62/\-(2 ^ 62)<=j/\j<2 ^ 62)/\R (Ol i (j-i).toNat) H):=rfl
theorem JD {R:It->Hp->Prop}:EN [.int i,.int j,.int c] H R=((-(2 ^ 61)<=i/\i<2 ^ 61/\-(2 ^ 61)<=j/\j<2 ^ 61/\0<c/\c<1000000)/\R (F_ i c (rcount i j c)) H):=rfl
end
end
theorem fB (hg:Gl X "range") (hm:X.mg "range" = none) (ha:PA X [a] ta) (hs:autoParam (starEach [a] X.env= [(false,eval a X.env)]) qqr):PI X tg (.Call (.Name "range" p) [a] [] pos) (Nd ta):=by
 intro u s σ H R I h;refine Call_ (uJ I hg hm boot_range (Xg (fL (ha _ _ s σ H _ I h) fun us s1 vs v x y i=>?_) hs rfl));replace i:B6 vs v R:=i;unfold B6 at i;split at i
 ·obtain⟨⟨i,C⟩,q⟩:=i;cases y with
  |cons r z=>
   cases z;obtain⟨t,rfl⟩:=r;exact call_range_1 (EO x (by lia) (by lia) i C (by simp_all))
 ·simp_all
theorem si (hg:Gl X "range") (hm:X.mg "range" = none) (ha:PA X [a,b] ta) (hs:autoParam (starEach [a,b] X.env= [(false,eval a X.env),(false,eval b X.env)]) qqr) (u:autoParam (starEach [b] X.env= [(false,eval b X.env)]) qqr):
  PI X tg (.Call (.Name "range" p) [a,b] [] pos) (Nb ta):=by
 intro x s σ H R I h;refine Call_ (uJ I hg hm boot_range (Xg (fL (ha _ _ s σ H _ I h) fun us s1 vs z C F i=>?_) (by simp_all) (by rw[u];rfl)));replace i:BZ vs z R:=i;unfold BZ at i;split at i
 ·obtain⟨⟨i,G,y,E⟩,q⟩:=i;cases F with
  |cons r v=>
   cases v with
   |cons r' v=>
    cases v;obtain⟨t,rfl⟩:=r;obtain⟨t',rfl⟩:=r';exact call_range_2 (EO C i G y E q)
 ·trivial
theorem J9 (hg:Gl X "range") (hm:X.mg "range" = none) (ha:PA X [a,b,c] ta) (hs:autoParam (starEach [a,b,c] X.env= [(false,eval a X.env),(false,eval b X.env),(false,eval c X.env)]) qqr) (v:autoParam (starEach [b,c] X.env= [(false,eval b X.env),(false,eval c X.env)]) qqr):
  PI X tg (.Call (.Name "range" p) [a,b,c] [] pos) (Q2 ta):=by
 intro y s σ H R I h;refine Call_ (uJ I hg hm boot_range (Xg (fL (ha _ _ s σ H _ I h) fun us s1 vs E F O i=>?_) (by simp_all) (by rw[v];rfl)));replace i:EN vs E R:=i;unfold EN at i;split at i
 ·obtain⟨⟨i,Q,C,G,z,U⟩,q⟩:=i;cases O with
  |cons r u=>
   cases u with
   |cons r' u=>
    cases u with
    |cons x u=>
     cases u;obtain⟨t,rfl⟩:=r;obtain⟨t',rfl⟩:=r';obtain⟨P,rfl⟩:=x;exact call_range_3 (by lia) (JG F (OS i Q C G z (by lia)) z q) (Or.inl (PyProof.noPylong_small (by lia)))
 ·trivial
section
mutual
variable {K:W.Frag}
theorem pF (v:cI K H a xs) (Pv:Nat->St->Hp->Prop) (h0:Pv 0 σ H) (hl:∀i σ H,i<=xs.length->Pv i σ H->cI K H a xs) (hs:∀i x σ H,xs[i]?=some x->Pv i σ H->g x σ H fun u q=>tb {D with nx:=Pv (i+1),ct:=Pv (i+1),bk:=D.nx} u q) (hd:∀σ H,Pv xs.length σ H->D.nx σ H):
  z_ K (.ref a) H fun J q=>forR J g tb D σ q:= .inl ⟨xs,v,NB Pv h0 hl hs hd⟩
theorem SX (v:du K H a xs) (Pv:Nat->St->Hp->Prop) (h0:Pv 0 σ H) (hl:∀i σ H,i<=xs.length->Pv i σ H->du K H a xs) (hs:∀i x σ H,xs[i]?=some x->Pv i σ H->g x σ H fun u q=>tb {D with nx:=Pv (i+1),ct:=Pv (i+1),bk:=D.nx} u q) (hd:∀σ H,Pv xs.length σ H->D.nx σ H):
  z_ K (.ref a) H fun J q=>forR J g tb D σ q:= .inr ⟨xs,v,Qg Pv h0 hl hs hd⟩
theorem S8 (Pv:Nat->St->Hp->Prop) (h0:Pv 0 σ H) (hs:∀(i:Nat) (c:Nat) σ H,z.cps[i]?=some c->Pv i σ H->g (.str ⟨#[c]⟩) σ H fun v u=>tb {D with nx:=Pv (i+1),ct:=Pv (i+1),bk:=D.nx} v u) (hd:∀σ H,Pv z.cps.size σ H->D.nx σ H):
  z_ K (.str z) H fun J u=>forR J g tb D σ u:=by
 refine⟨fun i m σ H=>m=z.cps.size-i/\i<=z.cps.size/\Pv i σ H,⟨_,rfl,kv _,h0⟩,?_⟩;rintro i m σ H ⟨rfl,F,p⟩;by_cases q:i<z.cps.size
 ·refine .inr ⟨q,_,fun E H' C=>⟨_,by lia,rfl,q,C⟩,fun x H' y=>?_⟩;obtain⟨e,c,hc,rfl⟩:=y;subst e;exact hs i c σ _ hc p
 ·have e:i=z.cps.size:=by lia
  subst e;exact .inl ⟨cm _,hd σ H p⟩
theorem pE {g:TG} {u:TS} {D:Ends} {σ:St} {H:Hp} {lo:Int} {n:Nat} (Pv:Nat->St->Hp->Prop) (h0:Pv 0 σ H)
  (hs:∀(i:Nat) σ H,i<n->Pv i σ H->g (.int (lo+i)) σ H fun q v=>u {D with nx:=Pv (i+1),ct:=Pv (i+1),bk:=D.nx} q v) (hd:∀σ H,Pv n σ H->D.nx σ H):
  forR (Ol lo n) g u D σ H:=K3 Pv h0 hs hd
theorem Qh {g:TG} {u:TS} {D:Ends} {σ:St} {H:Hp} {lo c:Int} {n:Nat} (Pv:Nat->St->Hp->Prop) (h0:Pv 0 σ H)
  (hs:∀(i:Nat) σ H,i<n->Pv i σ H->g (.int (lo+i*c)) σ H fun q v=>u {D with nx:=Pv (i+1),ct:=Pv (i+1),bk:=D.nx} q v) (hd:∀σ H,Pv n σ H->D.nx σ H):
  forR (F_ lo c n) g u D σ H:=Hl Pv h0 hs hd
end
end
section
mutual
variable {K:W.Frag}
theorem su {tt:TT} {te:TE} {H:Hp} {tail:St} {Q:List V->Hp->Prop} {p:V->Bool} {f:V->V} {J:It} {n:Nat} {xs:List V} (hn:xs.length=n) (O:n<=sizeLine) (go:∀i,i<n->J.go i H) (stop:J.stop n H) (I:∀i x H',i<n->J.yld i H x H'->H'=H/\xs[i]?=some x)
  (ht:∀x∈xs,∀Q:Bool->Hp->Prop,Q (p x) H->tt (some x::tail) H Q) (he:∀x∈xs,p x=true->∀Q:VK,Q (f x) H->te (some x::tail) H Q) (q:Q ((xs.filter p).map f) H):
  n_ J (nQ 0) tt te (none::tail) H Q:=by
 refine⟨fun i m G C H'=>i<=n/\m=n-i/\G=((xs.take i).filter p).map f/\(∃v,C=v::tail)/\H'=H,⟨n,kv _,rfl,rfl,⟨_,rfl⟩,rfl⟩,?_⟩;rintro i m G C H' ⟨P,rfl,rfl,⟨v,rfl⟩,rfl⟩;by_cases e:i=n
 ·subst e;refine .inl ⟨stop,?_⟩;rw[Xj (by lia)];exact q
 ·have E:i<n:=by lia
  refine .inr ⟨go i E,?_,fun F u z=>F=((xs.take _).filter p).map f/\(∃v,u=v::tail)/\z=H',fun F u z ⟨a,b,c⟩=>⟨_,by lia,‹_›,rfl,a,b,c⟩,fun x z y=>?_⟩
  ·grind
  ·obtain⟨rfl,hx⟩:=I i x _ E y;have hm:=XB hx;have tk:xs.take (i+1)=xs.take i++ [x]:=by
    rw[List.take_succ,hx];rfl
   refine ht x hm _ ?_;cases hp:p x<;>simp_all
theorem Qp (u:cI K H a xs) (v:xs.length<=sizeLine) (ht:∀x∈xs,∀Q:Bool->Hp->Prop,Q (p x) H->tt (some x::tail) H Q) (he:∀x∈xs,p x=true->∀Q:VK,Q (f x) H->te (some x::tail) H Q) (q:Q ((xs.filter p).map f) H):
  z_ K (.ref a) H fun J z=>n_ J (nQ 0) tt te (none::tail) z Q:=
 .inl ⟨xs,u,su rfl v (fun i C=>⟨xs,xs[i],u,by simp_all⟩) ⟨xs,u,cm _⟩ (fun i x H' C y=>⟨y.1,y.2 xs u⟩) ht he q⟩
theorem x8 (u:du K H a xs) (v:xs.length<=sizeLine) (ht:∀x∈xs,∀Q:Bool->Hp->Prop,Q (p x) H->tt (some x::tail) H Q) (he:∀x∈xs,p x=true->∀Q:VK,Q (f x) H->te (some x::tail) H Q) (q:Q ((xs.filter p).map f) H):
  z_ K (.ref a) H fun J z=>n_ J (nQ 0) tt te (none::tail) z Q:=
 .inr ⟨xs,u,su rfl v (fun i C=>⟨xs,xs[i],u,by simp_all⟩) ⟨xs,u,cm _⟩ (fun i x H' C y=>⟨y.1,y.2 xs u⟩) ht he q⟩
noncomputable def eP (z:Str):List V:=z.cps.toList.map fun c=> .str ⟨#[c]⟩
theorem NZ (v:z.length<=sizeLine) (ht:∀x∈eP z,∀Q:Bool->Hp->Prop,Q (p x) H->tt (some x::tail) H Q) (he:∀x∈eP z,p x=true->∀Q:VK,Q (f x) H->te (some x::tail) H Q) (q:Q (((eP z).filter p).map f) H):
  z_ K (.str z) H fun J C=>n_ J (nQ 0) tt te (none::tail) C Q:=by
 refine su (n:=z.cps.size) (by simp[eP]) v (fun i u=>u) (cm _) (fun i x H' u y=>?_) ht he q;obtain⟨e,c,hc,rfl⟩:=y;refine⟨e,?_⟩;unfold eP;rw[vr,Array.getElem?_toList,hc];rfl
noncomputable def lU (lo:Int) (n:Nat):List V:=(List.range n).map fun i:Nat=> .int (lo+(i:Int))
theorem D9 {tt:TT} {te:TE} {H:Hp} {tail:St} {Q:List V->Hp->Prop} {p:V->Bool} {f:V->V} {lo:Int} {n:Nat} (v:n<=sizeLine) (ht:∀i:Nat,i<n->∀Q:Bool->Hp->Prop,Q (p (.int (lo+i))) H->tt (some (.int (lo+i))::tail) H Q) (he:∀i:Nat,i<n->p (.int (lo+i))=true->∀Q:VK,Q (f (.int (lo+i))) H->te (some (.int (lo+i))::tail) H Q)
  (q:Q (((lU lo n).filter p).map f) H):n_ (Ol lo n) (nQ 0) tt te (none::tail) H Q:=by
 refine su (by simp[lU]) v (fun i u=>u) (cm _) (fun i x H' u y=>?_) (fun x hx=>?_) (fun x hx=>?_) q
 ·obtain⟨e,rfl⟩:=y;refine⟨e,?_⟩;unfold lU;rw[vr,XE u];rfl
 ·obtain⟨i,u,rfl⟩:=ke.mp hx;exact ht i (r4.mp u)
 ·obtain⟨i,u,rfl⟩:=ke.mp hx;exact he i (r4.mp u)
theorem Ht:iE 1 ix σ=none::ix.map fun i=>(σ[i]?).join:=rfl
end
end
mutual
def JU (neg:Bool):R2:=fun x y H Q=>match y with
 | .non=>Q (.bl (if neg then !decide (x = .non) else decide (x = .non))) H
 |_=>False
theorem mi:gq X (compareOp .Is) (JU false):=gq.imp R5 fun x y H Q h=>by
 unfold JU at h;split at h
 ·trivial
 ·trivial
theorem vD:gq X (compareOp .IsNot) (JU true):=gq.imp Pr fun x y H Q h=>by
 unfold JU at h;split at h
 ·trivial
 ·trivial
theorem RD:JU false x .non H Q=Q (.bl (decide (x = .non))) H:=rfl
theorem RC:JU true x .non H Q=Q (.bl (!decide (x = .non))) H:=rfl
def vq:V->List V->Hp->VK->Prop:=fun x vs H Q=>match x,vs with
 | .int i,[]=>Q (.int ((Builtin.Int.intBits i:Nat):Int)) H
 |_,_=>False
theorem Kq:Oj X "int.bit_length" vq:=by
 intro q s σ H x vs v us Q I u y h;unfold vq at h;split at h
 ·obtain⟨t,rfl⟩:=u;have i:=Vals.zero y;subst i;exact call_gives F.slot_int_bit_length (typeIs_int s _ t) F.entry_int_bit_length (F.args_int_bit_length_1 _) (AutoIntG2.int_bit_length_int_0 _ t) ((⟨.int _,H,I.tok _,⟨_,rfl⟩,h⟩))
 ·trivial
theorem Kb (u:PE X o to) (i:autoParam (attributeBase o "bit_length" X.env (eval o X.env)=eval o X.env) qqr) (q:autoParam ((apos.endLine == cpos.line)=true) qqr):
  PE X (.Call (.Attribute o "bit_length" apos) [] [] cpos) (OQ X.K "int" vq to):=
 RZ F.plainAttrs_int F.slot_int_bit_length F.type_int_bit_length Kq u i q
theorem OI {K:W.Frag}:Rk K "int" (.int i) H=True:=by
 show("int" = "int")=True;simp
theorem OH {K:W.Frag}:Rk K "str" (.str z) H=True:=by
 show("str" = "str")=True;simp
theorem EW:vq (.int i) [] H Q=Q (.int ((Builtin.Int.intBits i:Nat):Int)) H:=rfl
def Wu:V->Option Int->Option Int->Hp->VK->Prop:=fun x lo i H Q=> ∃z,x = .str z/\z.length<=sizeLine/\Q (.str (Txt.slice z lo i)) H
theorem E3 (h:IsPart v o):∃l:Option (Int×Tok),v=partValue l/\l.map (·.1)=o:=by
 cases h with
 |none=>exact⟨none,rfl,rfl⟩
 |int i t=>exact⟨some (i,t),rfl,rfl⟩
theorem Rx:Jg X Wu:=by
 intro y s σ H x v P U lo i sl Q I E hs pl pu h;obtain⟨z,rfl,G,q⟩:=h;obtain⟨t,rfl⟩:=E;obtain⟨l,rfl,el⟩:=E3 pl;obtain⟨u,rfl,C⟩:=E3 pu;refine⟨_,_,F.slot_str_getitem.lookup,typeIs_str _ _ _,wpAny_getItem_str_slice (st:=none) hs rfl ?_⟩;unfold sliceMade;have e:slicePicked z l u none=Builtin.Str.strSliceIndices lo i 1 z.length:=by
  unfold slicePicked;rw[el,C];rfl
 rw[e];have O:Txt.slice z lo i=if((1:Int) == 1&&(Builtin.Str.strSliceIndices lo i 1 z.length).length == z.length)=true then z else⟨((Builtin.Str.strSliceIndices lo i 1 z.length).filterMap (z.cps[·]?)).toArray⟩:=rfl;have hle:=Txt.slice_le z lo i;rw[O] at q hle;show(if((1:Int) == 1&&(Builtin.Str.strSliceIndices lo i 1 z.length).length == z.length)=true then Made.val (.str z t) else _).post _ s;by_cases c:((1:Int) == 1&&(Builtin.Str.strSliceIndices lo i 1 z.length).length == z.length)=true
 ·rw[bc c] at q⊢;exact⟨.str z,H,I,⟨t,rfl⟩,q⟩
 ·rw[a5 c] at q hle⊢;exact⟨fv hle G,.str _,H,I.tok _,⟨_,rfl⟩,q⟩
def L0 (K:W.Frag):V->Option Int->Option Int->Hp->VK->Prop:=fun x lo i H Q=>match x with
 | .ref a=>(∃xs,cI K H a xs/\∀p,H p=none->Q (.ref p) (upd H p (.lst (AX xs lo i))))\/Ut K (.ref a) lo i H Q
 | .str z=>z.length<=sizeLine/\Q (.str (Txt.slice z lo i)) H
 |_=>False
theorem Jg.imp (h:Jg X r) (i:∀x lo u H Q,r' x lo u H Q->r x lo u H Q):Jg X r':=
 fun y s σ H x v C E lo u sl Q I z hs pl pu q=>h _ s σ H x v C E lo u sl Q I z hs pl pu (i _ _ _ _ _ q)
theorem Wo:Jg X (L0 X.K):=by
 refine Jg.imp (OT.or (Rw.or Rx)) fun x lo q H Q h=>?_;unfold L0 at h;split at h
 ·rcases h with⟨xs,h1,i⟩|h
  ·exact .inl ⟨_,xs,rfl,h1,i⟩
  ·simp_all
 ·exact .inr (.inr ⟨_,rfl,h.1,h.2⟩)
 ·trivial
theorem LZ {K:W.Frag} {lo:Option Int}:L0 K (.str z) lo hi H Q=(z.length<=sizeLine/\Q (.str (Txt.slice z lo hi)) H):=rfl
theorem sf {K:W.Frag} {lo:Option Int} (i:cI K H a xs) (h:∀p,H p=none->Q (.ref p) (upd H p (.lst (AX xs lo hi)))):L0 K (.ref a) lo hi H Q:= .inl ⟨xs,i,h⟩
def Mj (K:W.Frag) (neg:Bool):R2:=fun x y H Q=>match y with
 | .ref p=> ∃xs,(cI K H p xs\/du K H p xs)/\p_ x=true/\xs.all p_=true/\Q (.bl (if neg then !Cd x xs else Cd x xs)) H
 | .str j=>(match x with
  | .str i=>Q (.bl (if neg then !(!(Builtin.Str.occurrences j i 0 j.length 1).isEmpty) else !(Builtin.Str.occurrences j i 0 j.length 1).isEmpty)) H
  |_=>False)
 |_=>False
theorem R6:gq X (compareOp .In) (Mj X.K false):=by
 refine gq.imp (gq.or Kf Ke) fun x y H Q h=>?_;unfold Mj at h;split at h
 ·obtain⟨xs,h1,u,i,q⟩:=h;exact .inl ⟨_,xs,rfl,h1,u,i,q⟩
 ·split at h
  ·simp_all
  ·simp_all
 ·simp_all
theorem Mi {K:W.Frag}:Mj K neg x (.ref p) H Q=(∃xs,(cI K H p xs\/du K H p xs)/\p_ x=true/\xs.all p_=true/\Q (.bl (if neg then !Cd x xs else Cd x xs)) H):=rfl
theorem Mh {K:W.Frag}:Mj K neg (.str i) (.str j) H Q=Q (.bl (if neg then !(!(Builtin.Str.occurrences j i 0 j.length 1).isEmpty) else !(Builtin.Str.occurrences j i 0 j.length 1).isEmpty)) H:=rfl
inductive Dt where
 |non|int (i:Int)|str (z:Str)|l (ds:List Dt)|t (ds:List Dt)
theorem Paired.get:∀{xs:List α} {q:List β} {i:Nat} {x:α},Paired F xs q->xs[i]?=some x->∃y,q[i]?=some y/\F x y
 |_,_,_,_,.nil,e=>by trivial
 |_,_,0,_,.cons r _,e=>by simp_all
 |_,_,i+1,x,.cons _ t,e=>by
  obtain⟨u,h1,v⟩:=Paired.get t (‹_›);exact⟨u,‹_›,v⟩
open Classical in
theorem Ek {α:Type} {xs i:List α} (hl:xs.length=i.length) (h:∀j a b,xs[j]?=some a->i[j]?=some b->e j=decide (a=b)):(List.range xs.length).all e=decide (xs=i):=by
 rw[yl,Xu,eu];constructor
 ·intro q;refine List.ext_getElem hl fun j h1 u=>?_;have:=q j (r4.mpr h1);rw[h j xs[j] i[j] (by simp) (by simp_all),eu] at this;exact this
 ·simp_all
end
section
variable {X:Cx} {pins:List (Addr×Obj)} {σ:St} {H:Hp} {s:Shared}
open Classical in
theorem uw:∀{xs:List V} {ds es:List Dt},Paired F xs ds->Paired G xs es->(∀x d e,F x d->G x e->d=e)->ds=es
 |_,_,_,.nil,.nil,_=>rfl
 |_,_,_,.cons r t,.cons r' t',f=>by rw[f _ _ _ r r',uw t t' f]
theorem rh (I:Inv X pins σ H s) (h:cI X.K H a xs) (v:du X.K H a ys):False:=by
 obtain⟨x,_,p,_⟩:=I.list h;obtain⟨u,_,y,_⟩:=I.tuple v;obtain⟨o,n,e,c,_⟩:=p;obtain⟨C,q,i,_⟩:=y;rw[e] at q;cases q;rw[c] at i;injection i with z;exact absurd z (by decide)
theorem HS {q i:List Value} (h: ¬q.length=i.length):(q.toArray.size != i.toArray.size)=true:=by
 simp_all
open Classical in
open Classical in
theorem sy {es:List Dt} (hn:n=ds.length) (hl:ds.length=es.length):(List.range n).all (fun j=>decide (ds[j]?=es[j]?))=decide (ds=es):=by
 subst hn;exact Ek hl fun j a b ha i=>by
  simp_all
open Classical in
end
mutual
open Classical in
open Classical in
noncomputable def VG (q scope:Scope) (u N:List Str) (nv:Nat) (ix:List Nat):Bool:=
 scope.kind == .function&&scope.names.all (fun y=>y.2 != .cell&&(y.2 != .local||scope.names.lookup y.1 == some .local)&&(y.2 != .free||(q.names.lookup y.1 == some .cell||q.names.lookup y.1 == some .free)))&&
  N.length == nv+ix.length&&(List.range ix.length).all fun j=>match N[nv+j]?,ix[j]? with
   |some y,some i=>u[i]? == some y&&(q.names.lookup y == some .cell||q.names.lookup y == some .free)&&scope.names.lookup y == some .free
   |_,_=>false
theorem lJ {nv:Nat} (h:VG X.env.scope scope X.N N nv ix=true):A9 X scope N nv ix:=by
 unfold VG at h;simp only[h8,zp,Xu,r4,Bool.or_eq_true,bne_iff_ne] at h;obtain⟨⟨⟨h1,u⟩,v⟩,x⟩:=h;refine⟨h1,fun y hy=>(u y hy).1.1,fun y hy hl=>?_,fun y hy hf=>?_,v,fun j y e=>?_⟩
 ·rcases(u y hy).1.2 with z|z
  ·trivial
  ·exact z
 ·rcases(u y hy).2 with z|z
  ·trivial
  ·exact z
 ·have i:j<ix.length:=by
   have:=(ek.mp e).1;lia
  have q:=x j i;rw[e,hI i] at q;simp only[h8,zp,Bool.or_eq_true] at q;exact⟨_,hI i,q.1.1,q.1.2,q.2⟩
def TupAt (K:W.Frag) (mg:Str->Option Value) (x:Str) (vs:List V):Prop:=
 ∃(a:Addr) (o:Obj) (i:Array Value) (n:Nat),mg x=some (.ref a)/\K.lookup a=some o/\o.cls = .type "tuple" /\o.dict=none/\o.data = .seq i n/\i.size<=sizeLine/\Vals vs i.toList
def Wl (K:W.Frag) (vs:List V):TE:=fun _ H Q=> ∀a,(∀H,du K H a vs)->(∀H,Rk K "tuple" (.ref a) H)->Q (.ref a) H
theorem Ph (hg:Gl X x) (h:TupAt X.K X.mg x vs) (hd:autoParam ((x == ("__debug__":Str))=false) qqd):PE X (.Name x pos) (Wl X.K vs):=by
 obtain⟨a,o,v,n,hm,hk,hc,i,u,z,r⟩:=h;intro y s σ H Q I q;exact kz I hg hm ⟨.ref a,H,I,rfl,q a (fun H=> .inr ⟨o,v,n,hk,hc,u,z,r⟩) (fun H=> .inr (.inl ⟨rfl,o,hk,hc,i⟩))⟩ hd
theorem zA (bs:List Bool):(List.range bs.length).all (fun i=>bs.getD i false)=bs.all id:=by
 rw[yl,Xu,Xu];constructor
 ·intro h b v;obtain⟨i,u,rfl⟩:=List.getElem_of_mem v;have:=h i (r4.mpr u);simpa [u] using this
 ·intro h i u;have q:=r4.mp u;have:=h _ (List.getElem_mem q);simpa [q] using this
theorem preSum_eq (ns:List Int):∀n,n<=ns.length->preSum (fun i=>ns.getD i 0) n=(ns.take n).sum
 |0,_=>rfl
 |n+1,h=>by
  rw[preSum,preSum_eq ns n (by lia),List.take_succ,List.sum_append];simp[show n<ns.length by lia]
def Pa (K:W.Frag) (any:Bool):List V->Hp->VK->Prop:=fun xs H Q=>match xs with
 | [.ref p]=> ∃bs:List Bool,cI K H p (bs.map V.bl)/\Q (.bl (if any then bs.any id else bs.all id)) H
 |_=>False
theorem ED {bs:List Bool} (r:Vals (bs.map V.bl) its):TruthOf prog w A (fun i v=>its.toArray[i]?=some v) (fun i=>bs.getD i false):=by
 intro i v s Q E G y;have q:its[i]?=some v:=by simp_all
 have F:i<bs.length:=by
  have:=(ek.mp q).1;have l:=r.length;rw[cF] at l;lia
 obtain⟨u,z,C⟩:=r.get (i:=i) (x:= .bl bs[i]) (by simp_all);rw[q] at z;cases z;cases C;have e:bs.getD i false=bs[i]:=by simp_all
 replace y:Q (bs.getD i _) s:=y;rw[e] at y;exact ly y
theorem N5 (hc:X.calm=true):bM X (.builtin "all") (Pa X.K false):=by
 intro v s σ H xs us Q I rs q;unfold Pa at q;split at q
 ·rename_i p;obtain⟨u,rfl,x⟩:=vals1 rs;cases x;obtain⟨bs,C,q⟩:=q;obtain⟨y,r,pl,E⟩:=I.list C;have i:p<s.heap.objs.size:=by obtain⟨o,e,_⟩:=pl.isList;exact eM e
  have hlen:=r.length;rw[cF] at hlen;refine call_all_walk (wpAny_pyIter_list pl.isList ⟨_,_,_,_,_,_,_,rfl,Walks.list (A:=X.A.in1) (I.ok.hd hc) _ p (ib i) _,⟨⟨_,fx _ rfl,rfl,rfl⟩,pl.isList.push _⟩,ED r,fun F tk hk=>?_⟩);refine⟨_,H,I.kept fun b o e=>hk b o (fun z=>Fg e (cm _) (ec.mp z)) (cP _ e),?_,q⟩;rw[h6,<-hlen,zA];rfl
 ·trivial
def OW (K:W.Frag):List V->Hp->VK->Prop:=fun xs H Q=>match xs with
 | [.ref p]=> ∃ns:List Int,cI K H p (ns.map V.int)/\Q (.int ns.sum) H
 |_=>False
theorem N3 (hc:X.calm=true):bM X (.builtin "sum") (OW X.K):=by
 intro G s σ H xs us Q I rs q;unfold OW at q;split at q
 ·rename_i p;obtain⟨u,rfl,C⟩:=vals1 rs;cases C;obtain⟨ns,U,q⟩:=q;obtain⟨F,r,pl,Y⟩:=I.list U;have y:p<s.heap.objs.size:=by obtain⟨o,e,_⟩:=pl.isList;exact eM e
  have hlen:=r.length;rw[cF] at hlen;refine call_sum_walkG (wpAny_pyIter_list pl.isList ⟨_,_,_,_,_,_,fun i=>ns.getD i 0,rfl,Walks.list (A:=X.A.in1) (I.ok.hd hc) _ p (ib y) _,⟨⟨_,fx _ rfl,rfl,rfl⟩,pl.isList.push _⟩,fun b hb=>?_,fun i v W=>?_,fun Z tk t' hk=>?_⟩)
  ·have:b=s.heap.objs.size\/b=p:=by simp_all
   rw[Heap.size_push];rcases this with rfl|rfl
   ·simp_all
   ·exact Nat.lt_succ_of_lt y
  ·have E:F[i]?=some v:=by simp_all
   have P:i<ns.length:=by
    grind
   obtain⟨u,O,C⟩:=r.get (i:=i) (x:= .int ns[i]) (by simp);rw[E] at O;cases O;obtain⟨t,rfl⟩:=C;exact⟨t,by simp[P]⟩
  ·refine⟨.int _,H,I.kept fun b o e=>hk b o (fun z=>Fg e (cm _) (ec.mp z)) (cP _ e),⟨t',?_⟩,q⟩;rw[h6,<-hlen,preSum_eq ns _ (cm _),AB]
 ·trivial
theorem Mr {K:W.Frag}:Pa K false [.ref p] H Q=(∃bs:List Bool,cI K H p (bs.map V.bl)/\Q (.bl (bs.all id)) H):=rfl
theorem LY {K:W.Frag}:OW K [.ref p] H Q=(∃ns:List Int,cI K H p (ns.map V.int)/\Q (.int ns.sum) H):=rfl
def Ac (K:W.Frag):List V->Hp->VK->Prop:=fun xs H Q=>match xs with
 | [.ref p]=> ∃i,(cI K H p i\/du K H p i)/\∀l,H l=none->Q (.ref l) (upd H l (.lst i))
 |_=>False
theorem Hw:bM X (.type "list") (Ac X.K):=bM.imp Eb fun xs H Q h=>by
 unfold Ac at h;split at h
 ·simp_all
 ·simp_all
def zE (K:W.Frag):List V->Hp->VK->Prop:=fun xs H Q=>match xs with
 | [.ref p]=> ∃i,(cI K H p i/\∀l,H l=none->Q (.ref l) (upd H l (.tup i)))\/(du K H p i/\Q (.ref p) H)
 |_=>False
theorem FV:bM X (.type "tuple") (zE X.K):=bM.imp BJ fun xs H Q h=>by
 unfold zE at h;split at h
 ·simp_all
 ·simp_all
theorem ER {K:W.Frag}:zE K [.ref p] H Q=(∃i,(cI K H p i/\∀l,H l=none->Q (.ref l) (upd H l (.tup i)))\/(du K H p i/\Q (.ref p) H)):=rfl
def qT:V->List V->Hp->VK->Prop:=fun x vs H Q=>match x,vs with
 | .ref l,[y]=> ∃xs,H l=some (.lst xs)/\xs.length<sizeLine/\Q .non (upd H l (.lst (xs++ [y])))
 |_,_=>False
theorem G8:Oj X "list.append" qT:=by
 intro i s σ H x xs v us Q I y rs q;unfold qT at q;split at q
 ·obtain⟨u,h1,C,z⟩:=q;exact Kr _ s σ H _ _ v us Q I y rs ⟨_,u,_,rfl,rfl,h1,C,z⟩
 ·trivial
theorem Kc (y:PE X o to) (he:PE X e te) (q:autoParam (attributeBase o "append" X.env (eval o X.env)=eval o X.env) qqr) (v:((backTo cpos (starEach [e] X.env)).all (fun x=>!x.1)&&(backToKw cpos (keywordEach [] X.env)).all (fun x=>x.1.isSome)
   &&decide ([e].length+([]:List Keyword).length+(if([]:List Keyword).isEmpty then 0 else 1)<30))=true:=by rfl) (u:autoParam ((apos.endLine == cpos.line)=true) qqr) (hs:autoParam (starEach [e] X.env=(false,eval e X.env)::starEach [] X.env) qqr) (i:autoParam ((backTo cpos (starEach [] X.env)).any (·.1)=false) qqr):
  PE X (.Call (.Attribute o "append" apos) [e] [] cpos) (Uh X.K "list" qT to (vf te Bc)):=
 ME F.plainAttrs_list F.slot_list_append F.type_list_append G8 y (Iv he gU hs) q v u hs i
theorem kG {K:W.Frag} (h:cI K H a xs):Rk K "list" (.ref a) H:= .inl ⟨rfl,xs,h⟩
theorem C_:qT (.ref l) [y] H Q=(∃xs,H l=some (.lst xs)/\xs.length<sizeLine/\Q .non (upd H l (.lst (xs++ [y])))):=rfl
def L7:V->V->V->Hp->(Hp->Prop)->Prop:=fun o i v H Q=>match o,i with
 | .ref p,.int k=> ∃xs j,H p=some (.lst xs)/\Li xs.length k=some j/\Q (upd H p (.lst (xs.set j v)))
 |_,_=>False
theorem Um:QB X L7:=by
 intro x s σ H o i v z O u Q I F y G q;unfold L7 at q;split at q
 ·obtain⟨xs,j,h1,C,E⟩:=q;exact set_list _ s σ H _ _ v z O u Q I F y G ⟨_,xs,_,j,rfl,rfl,h1,C,E⟩
 ·trivial
theorem JI:L7 (.ref p) (.int k) v H Q=(∃xs j,H p=some (.lst xs)/\Li xs.length k=some j/\Q (upd H p (.lst (xs.set j v)))):=rfl
def yV (K:W.Frag):R2:=fun x y H Q=>match x,y with
 | .ref p,.int i=> ∃xs v,(cI K H p xs\/du K H p xs)/\iN xs i=some v/\Q v H
 | .str z,.int i=> ∃c,z.length<=sizeLine/\iN z.cps.toList i=some c/\Q (.str ⟨#[c]⟩) H
 |_,_=>False
theorem F9.imp (h:F9 X r) (i:∀x y H Q,r' x y H Q->r x y H Q):F9 X r':=fun value slice z s σ H x y v u Q I C E q hs=>h _ _ _ s σ H x y v u Q I C E (i _ _ _ _ q) hs
theorem WI:F9 X (yV X.K):=F9.imp SG fun x y H Q h=>by
 unfold yV at h;split at h
 ·obtain⟨xs,v,h1,q,i⟩:=h;rcases h1 with h1|h1
  ·exact .inl ⟨_,xs,_,v,rfl,rfl,h1,q,i⟩
  ·exact .inr (.inl ⟨_,xs,_,v,rfl,rfl,h1,q,i⟩)
 ·obtain⟨c,h1,q,i⟩:=h;exact .inr (.inr ⟨_,_,c,rfl,rfl,h1,q,i⟩)
 ·trivial
theorem Md {K:W.Frag}:yV K (.str z) (.int i) H Q=(∃c,z.length<=sizeLine/\iN z.cps.toList i=some c/\Q (.str ⟨#[c]⟩) H):=rfl
theorem Fn {K:W.Frag} (h:cI K H p xs) (e:iN xs i=some v) (q:Q v H):yV K (.ref p) (.int i) H Q:=⟨xs,v,.inl h,e,q⟩
theorem eA {K:W.Frag} (h:du K H p xs) (e:iN xs i=some v) (q:Q v H):yV K (.ref p) (.int i) H Q:=⟨xs,v,.inr h,e,q⟩
theorem Nf {K:W.Frag} {ns:List Int} (u:cI K H a (ns.map V.int)) (h0:0<=k) (h1:k<(ns.length:Int)) (q:Q (.int (ns.getD k.toNat 0)) H):yV K (.ref a) (.int k) H Q:=by
 refine Fn u ?_ q;obtain⟨j,rfl⟩:∃j:Nat,k=(j):=⟨k.toNat,by lia⟩;refine Qu ?_;have i:j<ns.length:=by lia
 simp[i]
theorem Hh:Ny t u (v::r) σ H Q=t v σ H fun i H'=>u r i H' Q:=by
 apply propext;constructor
 ·rintro⟨q,r',e,h⟩;cases e;exact h
 ·intro h;exact⟨v,r,rfl,h⟩
theorem Nv:Vy [] σ H Q=Q σ H:=by
 apply propext;exact⟨fun h=>h.2,fun h=>⟨rfl,h⟩⟩
theorem Td {P:Int->Prop}:(∃k,V.int i = .int k/\P k)=P i:=by
 simp_all
theorem GC (h:n<=1000):(n<=sizeLine)=True:=by
 have:=fR;simp only[eq_iff_iff,iff_true];lia
end
section
mutual
variable {X:Cx} (K:W.Frag) (h:X.K=K)
theorem Pw (h:X.K=K):gq X (binaryOp .Add) (Ae K):=h▸Px
theorem je (h:X.K=K):bM X (.builtin "len") (yf K):=h▸Lb
theorem kE (h:X.K=K):bM X (.builtin "isinstance") (wO K):=h▸N4
theorem Dk (h:X.K=K):gq X (compareOp .In) (Mj K false):=h▸R6
theorem Jy (h:X.K=K):Jg X (L0 K):=h▸Wo
theorem UU (h:X.K=K):F9 X (yV K):=h▸WI
theorem cL (h:X.K=K) (hl:PE X l tl):PI X tg l (P6 K tl):=h▸RO hl
theorem x_ (h:X.K=K) (hc:X.calm=true):bM X (.builtin "all") (Pa K false):=h▸N5 hc
theorem K9 (h:X.K=K) (hc:X.calm=true):bM X (.builtin "sum") (OW K):=h▸N3 hc
theorem AZ (h:X.K=K):bM X (.type "list") (Ac K):=h▸Hw
theorem yP (h:X.K=K):bM X (.type "tuple") (zE K):=h▸FV
theorem jo (h:X.K=K) (hg:Gl X x) (ht:TupAt K X.mg x vs) (hd:autoParam ((x == ("__debug__":Str))=false) qqd):PE X (.Name x pos) (Wl K vs):=by
 subst h;exact Ph hg ht hd
theorem Pe {es:List Expr} {k:Nat} {pos:Pos} {t:Rf} {n:Nat} (h:X.K=K) (hc:X.calm=true) (hh:Oy X es t)
  (hn:autoParam ((assignEach es X.env).length=n) qqr) (i:autoParam ((assignEach es X.env).findIdx? (·.1)=none) qqr):PG X (.Tuple es k pos) (SU K n t):=h▸RQ hc hh hn i
theorem GP (h:X.K=K) (u:PE X o to) (i:autoParam (attributeBase o "bit_length" X.env (eval o X.env)=eval o X.env) qqr) (q:autoParam ((apos.endLine == cpos.line)=true) qqr):
  PE X (.Call (.Attribute o "bit_length" apos) [] [] cpos) (OQ K "int" vq to):=h▸Kb u i q
theorem Di {o e:Expr} {es:List Expr} {to:TE} {t:TA} {name:Str} {apos i:Pos} {T id:String} {r:V->List V->Hp->VK->Prop} (h:X.K=K) (pa:PlainAttrs T) (slot:Slot T name id) (y:typeOf (.builtin id)=pure (.type "method_descriptor")) (hm:Oj X id r) (z:PE X o to) (ha:PA X (e::es) t)
  (u:autoParam (attributeBase o name X.env (eval o X.env)=eval o X.env) qqr)
  (
   hfew:((backTo i (starEach (e::es) X.env)).all (fun x=>!x.1)&&(backToKw i (keywordEach [] X.env)).all (fun x=>x.1.isSome)
   &&decide ((e::es).length+([]:List Keyword).length+(if([]:List Keyword).isEmpty then 0 else 1)<30))=true:=by rfl)
  (v:autoParam ((apos.endLine == i.line)=true) qqr) (hs:autoParam (starEach (e::es) X.env=(false,eval e X.env)::starEach es X.env) qqr) (q:autoParam ((backTo i (starEach es X.env)).any (·.1)=false) qqr):
  PE X (.Call (.Attribute o name apos) (e::es) [] i) (Uh K T r to t):=h▸ME pa slot y hm z ha u hfew v hs q
theorem kU (h:X.K=K) (y:PE X o to) (he:PE X e te) (q:autoParam (attributeBase o "append" X.env (eval o X.env)=eval o X.env) qqr) (v:((backTo cpos (starEach [e] X.env)).all (fun x=>!x.1)&&(backToKw cpos (keywordEach [] X.env)).all (fun x=>x.1.isSome)
   &&decide ([e].length+([]:List Keyword).length+(if([]:List Keyword).isEmpty then 0 else 1)<30))=true:=by rfl) (u:autoParam ((apos.endLine == cpos.line)=true) qqr) (hs:autoParam (starEach [e] X.env=(false,eval e X.env)::starEach [] X.env) qqr) (i:autoParam ((backTo cpos (starEach [] X.env)).any (·.1)=false) qqr):
  PE X (.Call (.Attribute o "append" apos) [e] [] cpos) (Uh K "list" qT to (vf te Bc)):=h▸Kc y he q v u hs i
end
end
mutual
def Wm (t u:TS):TS:=fun D σ H=> ∃M:St->Hp->Prop,t {D with nx:=M} σ H/\∀i H',M i H'->u D i H'
theorem kr {st:Stmt} {rest:List Stmt} (h1:PS X st t) (z:zU X rest u):zU X (st::rest) (Wm t u):=by
 intro i s σ H D I ⟨M,h,k⟩;refine wpAny_execs_cons (thn (h1 _ s σ H _ I h) fun f s1 q=>?_);cases f with
 |next=>
  obtain⟨x,H',y,q⟩:=q;exact z _ s1 _ H' D y (k _ H' q)
 |ret v=>exact q
 |brk=>exact q
 |cont=>exact q
noncomputable def isStar:Expr->Bool
 | .Starred .. =>true
 |_=>false
theorem cN (h:isStar e=false):starEach (e::es) env=(false,eval e env)::starEach es env:=by
 cases e<;>first|rfl|exact absurd h (by simp[isStar])
theorem ku {pos:Pos} {env:Env}:∀{es:List Expr},es.any isStar=false->(backTo pos (starEach es env)).any (·.1)=false
 | [],_=>rfl
 |e::es,h=>by
  rw[sj,ni] at h;rw[cN h.1];show(false||(backTo _ _).any _)=false;rw[ku h.2];rfl
theorem tQ (h:isStar e=false):(assignEach (e::es) env).map (·.2)=assign e env::(assignEach es env).map (·.2):=by
 cases e<;>first|rfl|trivial
theorem lP {env:Env}:∀{es:List Expr},(assignEach es env).length=es.length
 | []=>rfl
 |e::es=>by
  have i:=@lP env es;cases e<;>(show(assignEach es _).length+1=es.length+1;rw[i])
theorem iF {env:Env}:∀{es:List Expr},es.any isStar=false->(assignEach es env).findIdx? (·.1)=none
 | [],_=>rfl
 |e::es,h=>by
  rw[sj,ni] at h;have i:=iF (env:=env) h.2;have e1:assignEach (e::es) env=(false,assign e env)::assignEach es env:=by
   have:=h.1;cases e<;>first|rfl|trivial
  rw[e1,List.findIdx?_cons,i];rfl
noncomputable def wZ:Expr->Bool
 | .UnaryOp .Not _ _=>false
 | .BoolOp .. =>false
 | .IfExp .. =>false
 | .Compare .. =>false
 |_=>true
theorem KJ (h:wZ e=true) (whole:Sem Value):isTrue e env whole=(do let v<-whole;standAt e.pos;holding [v] (truthy v)):=by
 cases e with
 |UnaryOp op a p=>cases op<;>first|rfl|trivial
 |BoolOp=>trivial
 |IfExp=>trivial
 |Compare=>exact absurd h (by simp[wZ])
 |_=>rfl
theorem bq (ha:PE X e te) (i:PA X es t) (h:autoParam (isStar e=false) qqr):PA X (e::es) (vf te t):=Iv ha i (cN h)
theorem RX [Quiet CX] (G:FnAt X.prog X.w X.K X.mg X.base CX x k ps sp) (q:cY n X.A) (hk:k<=n) (hg:Gl X x) (ha:PA X (e::es) t) (i:autoParam ((x == ("__debug__":Str))=false) qqd) (h:autoParam ((e::es).any isStar=false) qqr):PE X (.Call (.Name x p) (e::es) [] pos) (BW sp [] E0 t):=by
 rw[sj,ni] at h;exact UD G q hk hg ha i (cN h.1) (ku h.2)
theorem aD {X:Cx} {x:Str} {p pos:Pos} {e:Expr} {es:List Expr} {t:TA} {id:String} {r:List V->Hp->VK->Prop} (hc:bM X (.builtin id) r) (hg:Gl X x) (hm:X.mg x=none) (q:bootBuiltins x=some (.builtin id)) (ha:PA X (e::es) t) (hn:autoParam (x≠ "__name__" ) qqd) (i:autoParam ((x == ("__debug__":Str))=false) qqd)
  (h:autoParam ((e::es).any isStar=false) qqr):PE X (.Call (.Name x p) (e::es) [] pos) (Ug r t):=by
 rw[sj,ni] at h;exact MD hc hg hm q ha hn i (cN h.1) (ku h.2)
theorem uv (hc:bM X (.type T) r) (hg:Gl X x) (hm:X.mg x=none) (q:bootBuiltins x=some (.type T)) (ha:PA X (e::es) t) (hn:autoParam (x≠ "__name__" ) qqd) (i:autoParam ((x == ("__debug__":Str))=false) qqd) (h:autoParam ((e::es).any isStar=false) qqr):PE X (.Call (.Name x p) (e::es) [] pos) (Ug r t):=by
 rw[sj,ni] at h;exact Ka hc hg hm q ha hn i (cN h.1) (ku h.2)
theorem vz (h1:PG X e g) (i:Oy X es u) (h:autoParam (isStar e=false) qqr):Oy X (e::es) (Ny g u):=My h1 i (tQ h)
theorem Io (K:W.Frag) (i:X.K=K) (hc:X.calm=true) (hh:Oy X es u) (hn:autoParam (es.length=n) qqr) (h:autoParam (es.any isStar=false) qqr):PG X (.Tuple es j pos) (SU K n u):=
 Pe K i hc hh (by rw[lP];exact hn) (iF h)
theorem jY (he:PE X e te) (h:autoParam (wZ e=true) qqr):PT X e (tB te):=RJ he (KJ h)
noncomputable def UX:Expr->Bool
 | .Slice .. =>true
 |_=>false
noncomputable def kZ:Expr->Bool
 | .ListComp .. =>true
 | .SetComp .. =>true
 | .DictComp .. =>true
 |_=>false
noncomputable def isTup:Expr->Bool
 | .Tuple .. =>true
 |_=>false
noncomputable def Nj:Expr->Bool
 | .Set .. =>true
 |_=>false
theorem kH (h:kZ e=false):swapsWith e tg l env=pure false:=by
 cases e<;>first|rfl|exact absurd h (by simp[kZ])
theorem Js (h:isTup e=false):swappedStores [tg] e env=pure none:=by
 cases tg<;>first|rfl|(cases e<;>first|rfl|cases h)
theorem ji (h:Nj b=false):behindInMarks op b=false:=by
 cases b<;>first|rfl|exact absurd h (by simp[Nj])
theorem Pf (q:PE X o to) (u:PE X i ti) (hs:QB X t) (h:autoParam (UX i=false) qqr):PG X (.Subscript o i pos) (SV to ti t):=
 RR q u hs fun v=>by
  rw[arm_assign_Subscript];cases i<;>first|rfl|exact absurd h (by simp[UX])
theorem Ii (he:PE X e te) (hg:PG X tg g) (h1:autoParam (kZ e=false) qqr) (q:autoParam (isTup e=false) qqr) (i:autoParam (isStar tg=false) qqr):PS X (.Assign [tg] e pos) (Gy te g):=
 RL he hg (kH h1) (Js q) (tQ i)
theorem Pb (q:X.N.Nodup) (u:X.N[i]?=some x) (hx:Loc X.env.scope x) (he:PE X e te) (h:autoParam (kZ e=false) qqr) (hf:autoParam (X.fn x=true\/X.env.scope.names.lookup x=some .local) qqw):
  PS X (.Assign [.Name x pos'] e pos) (Gy te (nQ i)):=RK q u hx he (kH h) hf
theorem bh (he:PE X e te) (h:autoParam (kZ e=false) qqr):PS X (.Expr e pos) (Lz te):=Pd he (kH h)
theorem EC {K:W.Frag} (X:K.In h) (G:h.Ns mainGlobals mg) (a:W.nsIn K mainGlobals x=some (some (.ref b))) (l:K.lookup b=some o) (c:o.cls = .type "tuple") (d:o.dict=none) (e:o.data = .seq its n) (z:its.size<=sizeLine) (r:Vals vs its.toList):TupAt K mg x vs:=
 ⟨b,o,its,n,W.mg_of X G a,l,c,d,e,z,r⟩
end
end Lake
namespace BitM
theorem HG (a b:Nat):(a ^^^ b)+2*(a &&& b)=a+b:=by
 induction a using Nat.strongRecOn generalizing b with
 |_ a v=>
  by_cases h:a=0
  ·simp_all
  ·have i:=v (a / 2) (by lia) (b / 2);have y:(a ^^^ b) / 2=(a / 2) ^^^ (b / 2):=Nat.xor_div_two;have x:(a &&& b) / 2=(a / 2) &&& (b / 2):=Nat.and_div_two;have m1:(a ^^^ b) % 2=(a % 2+b % 2) % 2:=by
    have e:=Nat.xor_mod_two_pow (a:=a) (b:=b) (n:=1);simp only[Nat.pow_one] at e;rw[e];rcases(by lia:a % 2=0\/a % 2=1) with p|p<;>rcases(by lia:b % 2=0\/b % 2=1) with q|q<;>rw[p,q]<;>decide
   have u:(a &&& b) % 2=(a % 2)*(b % 2):=by
    have e:=Nat.and_mod_two_pow (a:=a) (b:=b) (n:=1);simp only[Nat.pow_one] at e;rw[e];rcases(by lia:a % 2=0\/a % 2=1) with p|p<;>rcases(by lia:b % 2=0\/b % 2=1) with q|q<;>rw[p,q]<;>decide
   rcases(by lia:a % 2=0\/a % 2=1) with p|p<;>rcases(by lia:b % 2=0\/b % 2=1) with q|q<;>rw[p,q] at m1 u<;>lia
theorem MG (a b:Nat):(a |||b)+(a &&& b)=a+b:=by
 induction a using Nat.strongRecOn generalizing b with
 |_ a v=>
  by_cases h:a=0
  ·simp_all
  ·have i:=v (a / 2) (by lia) (b / 2);have y:(a |||b) / 2=(a / 2) |||(b / 2):=Nat.or_div_two;have x:(a &&& b) / 2=(a / 2) &&& (b / 2):=Nat.and_div_two;have m1:(a |||b) % 2=(a % 2)+(b % 2)-(a % 2)*(b % 2):=by
    have e:=Nat.or_mod_two_pow (a:=a) (b:=b) (n:=1);rw[e];rcases(by lia:a % 2=0\/a % 2=1) with p|p<;>rcases(by lia:b % 2=0\/b % 2=1) with q|q<;>rw[p,q]<;>decide
   have u:(a &&& b) % 2=(a % 2)*(b % 2):=by
    have e:=Nat.and_mod_two_pow (a:=a) (b:=b) (n:=1);rw[e];rcases(by lia:a % 2=0\/a % 2=1) with p|p<;>rcases(by lia:b % 2=0\/b % 2=1) with q|q<;>rw[p,q]<;>decide
   rcases(by lia:a % 2=0\/a % 2=1) with p|p<;>rcases(by lia:b % 2=0\/b % 2=1) with q|q<;>rw[p,q] at m1 u<;>lia
end BitM
namespace Rem
mutual
noncomputable def st (r b:Nat):Nat:=if 2*r+b≥256 then(2*r+b) ^^^ 263 else 2*r+b
noncomputable def R (n:Nat):Nat:=if h:n=0 then 0 else st (R (n / 2)) (n % 2)
termination_by n
decreasing_by lia
theorem El:R 0=0:=by rw[R];rfl
theorem CL (n b:Nat) (q:b<2):R (2*n+b)=st (R n) b:=by
 by_cases h:2*n+b=0
 ·have h1:n=0:=by lia
  have i:b=0:=by lia
  subst h1;subst i;rw[El];rfl
 ·rw[R,dif_neg h];have e1:(2*n+b) / 2=n:=by lia
  have e2:(2*n+b) % 2=b:=by lia
  rw[e1,e2]
theorem Jv:∀r:_root_.Fin 256,∀b:_root_.Fin 2,st r.val b.val<256:=by decide+kernel
theorem Uj (i:r<256) (q:b<2):st r b<256:=Jv ⟨r,i⟩ ⟨b,q⟩
theorem F7 (n:Nat):R n<256:=by
 induction n using Nat.strongRecOn with
 |_ n i=>
  by_cases h:n=0
  ·subst h;rw[El];decide
  ·rw[R,dif_neg h];exact Uj (i _ (by lia)) (by lia)
theorem zS (h:n<256):R n=n:=by
 induction n using Nat.strongRecOn with
 |_ n i=>
  by_cases h0:n=0
  ·subst h0;exact El
  ·rw[R,dif_neg h0,i _ (by lia) (by lia)];unfold st;rw[a5 (by lia)];lia
theorem HF (a b x y:Nat) (hx:x<2) (hy:y<2):(2*a+x) ^^^ (2*b+y)=2*(a ^^^ b)+(x ^^^ y):=by
 have u:x=0\/x=1:=by lia
 have q:y=0\/y=1:=by lia
 apply Nat.eq_of_testBit_eq;intro i;cases i with
 |zero=>
  simp_all
 |succ i=>
  rw[Yy,Nat.testBit_succ,Nat.testBit_succ,Nat.testBit_succ];have e1:(2*a+x) / 2=a:=by lia
  have e2:(2*b+y) / 2=b:=by lia
  have e3:(2*(a ^^^ b)+(x ^^^ y)) / 2=a ^^^ b:=by
   lia
  rw[e1,e2,e3,Yy]
theorem GA:∀r:_root_.Fin 256,∀b:_root_.Fin 2,st r.val b.val=(2*r.val+b.val) ^^^ (263*(r.val / 128)):=by decide+kernel
theorem LI (i:r<256) (q:b<2):st r b=(2*r+b) ^^^ (263*(r / 128)):=GA ⟨r,i⟩ ⟨b,q⟩
theorem Gf (ha:a<2 ^ k) (i:b<2 ^ k):a ^^^ b<2 ^ k:=Nat.xor_lt_two_pow ha i
theorem IP (a b:Nat) (k:Nat):(a ^^^ b) / 2 ^ k=(a / 2 ^ k) ^^^ (b / 2 ^ k):=by
 apply Nat.eq_of_testBit_eq;intro i;rw[Yy,Nat.testBit_div_two_pow,Nat.testBit_div_two_pow,Nat.testBit_div_two_pow,Yy]
theorem Ru (i:r<256) (hs:s<256) (hx:x<2) (hy:y<2):st (r ^^^ s) (x ^^^ y)=st r x ^^^ st s y:=by
 have h1:=Gf (k:=8) i hs;have q:=Gf (k:=1) hx hy;rw[LI h1 q,LI i hx,LI hs hy];have d:=IP r s 7;have u:r / 128=0\/r / 128=1:=by lia
 have v:s / 128=0\/s / 128=1:=by lia
 rw[d,<-HF r s x y hx hy];have m:263*((r / 128) ^^^ (s / 128))=(263*(r / 128)) ^^^ (263*(s / 128)):=by
  rcases u with e|e<;>rcases v with f|f<;>rw[e,f]<;>decide
 rw[m]
 ac_rfl
theorem Og (a b:Nat):R (a ^^^ b)=R a ^^^ R b:=by
 induction a using Nat.strongRecOn generalizing b with
 |_ a u=>
  by_cases h:a=0
  ·subst h;rw[Nat.zero_xor,El,Nat.zero_xor]
  ·have i:a=2*(a / 2)+a % 2:=by lia
   have eb:b=2*(b / 2)+b % 2:=by lia
   have e:a ^^^ b=2*((a / 2) ^^^ (b / 2))+((a % 2) ^^^ (b % 2)):=by
    conv=>lhs;rw[i,eb]
    exact HF _ _ _ _ (by lia) (by lia)
   have q:(a % 2) ^^^ (b % 2)<2:=Gf (k:=1) (by lia) (by lia);rw[e,CL _ _ q,u (a / 2) (by lia),Ru (F7 _) (F7 _) (by lia) (by lia),<-CL _ _ (by lia),<-CL _ _ (by lia),<-i,<-eb]
theorem En (h:R n=0) (k:Nat):R (n*2 ^ k)=0:=by
 induction k with
 |zero=>simp_all
 |succ k i=>
  have e:n*2 ^ (k+1)=2*(n*2 ^ k)+0:=by grind
  rw[e,CL _ _ (by decide),i];rfl
theorem VU:R 263=0:=by
 have e:(263)=2*131+1:=rfl;rw[e,CL _ _ (by decide),zS (by decide)];decide
theorem TU (n k:Nat):R (n ^^^ (263*2 ^ k))=R n:=by
 rw[Og,En VU,Nat.xor_zero]
theorem Ju:∀r:_root_.Fin 256,r.val≠0->st r.val 0≠0:=by decide+kernel
theorem HB (h:R n≠0) (k:Nat):R (n*2 ^ k)≠0:=by
 induction k with
 |zero=>simp_all
 |succ k i=>
  have e:n*2 ^ (k+1)=2*(n*2 ^ k)+0:=by grind
  rw[e,CL _ _ (by decide)];exact Ju ⟨_,F7 _⟩ i
theorem Rj (h:b≠0):a ^^^ b≠a:=by
 intro e;apply h;have:a ^^^ (a ^^^ b)=a ^^^ a:=by rw[e]
 rwa [<-Nat.xor_assoc,Nat.xor_self,Nat.zero_xor] at this
theorem OJ (h:2 ^ (k+8)<=n) (u:n<2 ^ (k+9)):n ^^^ (263*2 ^ k)<2 ^ (k+8):=by
 have e0:2 ^ (k+8)=256*2 ^ k:=by lia
 have v:2 ^ (k+9)=512*2 ^ k:=by lia
 have p:=zT k;have hd:n / 2 ^ (k+8)=1:=by
  have a1:1<=n / 2 ^ (k+8):=(Nat.le_div_iff_mul_le (by lia)).mpr (by lia);have i:n / 2 ^ (k+8)<2:=(Nat.div_lt_iff_lt_mul (by lia)).mpr (by lia);lia
 have hd2:(263*2 ^ k) / 2 ^ (k+8)=1:=by
  have a1:1<=(263*2 ^ k) / 2 ^ (k+8):=(Nat.le_div_iff_mul_le (by lia)).mpr (by lia);have i:(263*2 ^ k) / 2 ^ (k+8)<2:=(Nat.div_lt_iff_lt_mul (by lia)).mpr (by lia);lia
 have hx:(n ^^^ (263*2 ^ k)) / 2 ^ (k+8)=0:=by
  rw[IP,hd,hd2];decide
 rcases Nat.div_eq_zero_iff.mp hx with q|q
 ·lia
 ·exact q
end
end Rem
namespace BitI
mutual
open PySem Lake
theorem not_eq (x:Int):Builtin.bitNot x = -x-1:=by unfold Builtin.bitNot;lia
theorem Jf (a b:Nat):Builtin.bitAnd (a:Int) (b:Int)=((a &&& b:Nat):Int):=rfl
theorem Dj (a b:Nat):Builtin.bitOr (a:Int) (b:Int)=((a |||b:Nat):Int):=by
 unfold Builtin.bitOr;rw[PyProof.Rows.bitAnd_nn (by rw[not_eq];lia) (by rw[not_eq];lia)];have e:∀n,(Builtin.bitNot (Builtin.bitNot (n)))=(n):=fun n=>by rw[not_eq,not_eq];lia
 rw[e a,e b,e];simp
theorem CO (a b:Nat):Builtin.bitXor (a:Int) (b:Int)=((a ^^^ b:Nat):Int):=by
 unfold Builtin.bitXor;rw[Dj,Jf];have h1:=BitM.HG a b;have i:=BitM.MG a b;lia
theorem N8 {n:Nat} (h:0<n):Builtin.Int.intBits (n:Int)=n.log2+1:=by
 unfold Builtin.Int.intBits;rw[a5]
 ·simp
 ·lia
theorem LX {n:Nat} (h:255<n):∃k:Nat,(Builtin.Int.intBits (n:Int):Int)-9=(k:Int)/\n ^^^ (263*2 ^ k)<n/\Rem.R (n ^^^ (263*2 ^ k))=Rem.R n/\k+9=n.log2+1:=by
 have q:=N8 (show 0<n by lia);have i:8<=n.log2:=(Nat.le_log2 (by lia)).mpr (‹_›);refine⟨n.log2-8,by grind,?_,Rem.TU _ _,by lia⟩;have l1:2 ^ (n.log2-8+8)<=n:=by
  rw[show n.log2-8+8=n.log2 by lia];exact Nat.log2_self_le (by lia)
 have l2:n<2 ^ (n.log2-8+9):=by
  rw[show n.log2-8+9=n.log2+1 by lia];exact Nat.lt_log2_self
 exact fy (Rem.OJ l1 l2) l1
end
end BitI
namespace RemM
mutual
open Rem
theorem vC (h:b<2 ^ p):(a*2 ^ p) |||b=a*2 ^ p+b:=by
 rw[<-Nat.shiftLeft_eq,Nat.shiftLeft_add_eq_or_of_lt h]
theorem Ba (h:b<2 ^ p):(a*2 ^ p) ^^^ b=a*2 ^ p+b:=by
 have h1:=BitM.HG (a*2 ^ p) b;have q:=BitM.MG (a*2 ^ p) b;have i:=vC (a:=a) h;lia
theorem TV (n:Nat):R (n ^^^ R n)=0:=by
 rw[Og,zS (F7 n),Nat.xor_self]
theorem Qz (z:Nat):R ((z*256) |||R (z*256))=0:=by
 have h:R (z*256)<2 ^ 8:=F7 _;have e:(z*256) |||R (z*256)=(z*256) ^^^ R (z*256):=by
  rw[vC h,Ba h]
 rw[e,TV]
theorem VT (h0:0<a) (h1:a<256):R (a*2 ^ p)≠0:=HB (by rw[zS h1];lia) p
theorem Oh (h0:0<a) (h1:a<256):R (n ^^^ (a*2 ^ p))≠R n:=by
 rw[Og];exact Rj (VT h0 h1)
end
end RemM
namespace Held
mutual
theorem zY:∀{xs i:List Int},xs.Pairwise (· < ·)->i.Pairwise (· < ·)->(∀z,z∈xs↔z∈i)->xs=i
 | [],[],_,_,_=>rfl
 | [],y::i,_,_,h=>by have:=(h y).mpr (by simp);simp at this
 |x::xs,[],_,_,h=>by have:=(h x).mp (by simp);simp at this
 |x::xs,y::i,h1,h2,h=>by
  rw[List.pairwise_cons] at h1 h2;have q:x=y:=by
   have a:=(h x).mp (by simp);have b:=(h y).mpr (by simp);rcases cR.mp a with e|e
   ·exact e
   ·grind
  subst q;have:=zY h1.2 h2.2 fun z=>by
   grind
  rw[this]
noncomputable def eX:Int->List Int->Bool
 |_,[]=>true
 |l,x::xs=>decide (l+1<=x)&&decide (x<=15)&&eX x xs
theorem nP:∀{l:Int} {xs:List Int},eX l xs=true↔(xs.Pairwise (· < ·)/\∀x∈xs,l<x/\x<=15)
 |l,[]=>by simp[eX]
 |l,x::xs=>by
  have i:=@nP x xs;simp only[eX,h8,eu,i,List.pairwise_cons,cR];constructor
  ·rintro⟨⟨a,b⟩,c,d⟩;refine⟨⟨fun y hy=>(d y hy).1,c⟩,?_⟩;rintro y (rfl|hy)
   ·lia
   ·have:=d y hy;lia
  ·rintro⟨⟨a,c⟩,d⟩;have:=d x (.inl rfl);exact⟨⟨by lia,this.2⟩,c,fun y hy=>⟨a y hy,(d y (.inr hy)).2⟩⟩
noncomputable def ones:List Int:=(List.range 15).map fun i:Nat=>(1:Int)+i
theorem yi:ones.Pairwise (· < ·):=by decide
theorem Ff:z∈ones↔(0<z/\z<=15):=by
 unfold ones;rw[ke];constructor
 ·rintro⟨i,q,rfl⟩;have:=r4.mp q;lia
 ·intro h;exact⟨(z-1).toNat,r4.mpr (by lia),by lia⟩
theorem Hf (hx:hs[i]?=some x) (e:eX 0 hs=eX l (hs.drop i)):eX 0 hs=(decide (l+1<=x)&&decide (x<=15)&&eX x (hs.drop (i+1))):=by
 have q:=(ek.mp hx).1;rw[e,XC q];have:=(ek.mp hx).2;rw[this];rfl
end
end Held
namespace Com
mutual
open PySem Lake
theorem ao (h:H p=none):aE H (upd H p o):=fun b u e=>by rw[af (ar e h)];exact e
theorem EL (e:aE H H') (h:cI K H a xs):cI K H' a xs:=e.seq h
theorem NX {ns:List Int}:AX (ns.map V.int) lo hi=((ns.drop (HT.oq ns.length 0 lo)).take (HT.oq ns.length ns.length hi-HT.oq ns.length 0 lo)).map V.int:=by
 unfold AX;rw[cF,List.map_take,List.map_drop]
theorem aM (h:H p=some x) (hn:H q=none):upd H q o p=some x:=by rw[af (ar h hn)];exact h
theorem A4 (h1:H l=some (.lst xs)) (u:H b=some (.lst zs)) (i:xs.length+zs.length<=sizeLine) (q:∀p,H p=none->Q (.ref p) (upd H p (.lst (xs++zs)))):Ae K (.ref l) (.ref b) H Q:=
 .inl ⟨l,b,xs,zs,rfl,rfl,h1,u,i,q⟩
theorem rf {ns:List Int} {i:Nat} (h:(ns.map V.int)[i]?=some x):∃c,x = .int c/\ns[i]?=some c:=by
 cases e:ns[i]?<;>simp_all
theorem cshl (h0:0<=j) (h1:j<=1000000) (u:0<=i) (q:i<2 ^ 256):Oo i j:=by
 exact⟨⟨h0,h1⟩,by lia,by lia⟩
theorem aR (h:n<=1000):n<=sizeLine:=by rw[fR];lia
theorem Ng (h:H a=some (.lst xs)) (q:Q (.bl true) H):wO K [.ref a,.ty "list"] H Q:=⟨_,_,.lst h,rfl,q⟩
theorem DN (h:H a=some (.tup xs)) (q:Q (.bl true) H):wO K [.ref a,.ty "tuple"] H Q:=⟨_,_,.tup h,rfl,q⟩
theorem fresh_ne (h:upd H p o q=none):q≠p:=fun e=>by
 subst e;rw[ag] at h;cases h
theorem qG {F:Prop} (h0:b=false->F) (h1:b=true->G):if b=true then G else F:=by
 simp_all
theorem LF {F:Prop} (h0:b=false->F) (h1:b=true->G):if b=false then F else G:=by
 simp_all
theorem JC:lU 1 15=((List.range 15).map fun i:Nat=>(1:Int)+i).map V.int:=rfl
theorem FH {ns:List Int}:((ns.map V.int).filter p).map (fun x=>x)=(ns.filter fun i=>p (.int i)).map V.int:=by
 rw[List.map_id',X_];rfl
end
end Com
namespace Lake
mutual
open PySem PySem.Spec PyProof.Rows
structure dM (K:W.Frag) (mg:Str->Option Value) (x:Str) (C:Addr):Prop where
 Sh:mg x=some (.ref C)
 cl:Ri K C
 mks:W.makesIn K C=true
 kp:W.keepIn K (.ref C)=true
def MethAt (K:W.Frag) (C:Addr) (m q:Str) (st:Stmt):Prop:= ∃f i,V2 K m q st f i/\Meth K C m f
def wC (P:Program) (w:World) (K:W.Frag) (mg:Str->Option Value) (base:Heap) (CX:Ga) (C:Addr) (m:Str) (k:Nat) (i:List Str) (sp:Sp):Prop:=
 ∃f q,wD P w K mg base CX k f q i sp/\Meth K C m f/\Binds K q i []
theorem Na {K:W.Frag} (X:K.In h) (G:h.Ns mainGlobals mg) (a:W.nsIn K mainGlobals x=some (some (.ref C))) (pg:W.plainGet K C Str.empty=true) (hd:W.hasDictIn K C=true) (po:W.plainOver K C=true) (sa:W.findIn K (.ref C) "__setattr__" = some (some (.builtin "object.__setattr__"))) (mk:W.makesIn K C=true) (kc:W.keepIn K (.ref C)=true):dM K mg x C:=
 ⟨W.mg_of X G a,⟨pg,hd,po,sa⟩,mk,kc⟩
theorem Ks {K:W.Frag} {st:Stmt} {kV:Value} (a:W.findIn K (.ref C) m=some (some (.ref f))) (i:W.isFn K (.ref f)=true) (l:K.lookup f=some ⟨oc,od,.func (W.fnOf m q (eY st) (c7 st) (a9 st) .none kV doc pm an cdv ct),osl⟩) (c:W.codeIn K cdv q=true) (k:W.keepIn K (.ref f)=true):MethAt K C m q st:=
 ⟨f,_,Nz l c k,⟨a,i,k⟩⟩
theorem MethAt.fn {K:W.Frag} {st:Stmt} (F:MethAt K C m q st) (S:jl N ps (a9 st)) (z:∀(kV doc pm:Value) (an:Option Addr) (i ct:Value) (us:List Value),us.length=ps.length->bindArgs (W.fnOf m q (eY st) (c7 st) (a9 st) .none kV doc pm an i ct) ⟨us,[]⟩=pure (ps.zip us)) (len:∀vs H Q E,sp vs H Q E->vs.length=ps.length) (u:∀(f:Addr) (i:Value) (A:Around) (outer:List Env) (s:Shared) (H:Hp) (vs:List V) (Q:VK) (E:XK),cY k (A.deeper (envOfC q (a9 st) s.heap.objs.size f i))->sp vs H Q E->
   ∃t,zU (AV CX P w K mg base N q (a9 st) f i A outer s H E).nox (c7 st) t/\t {nx:=fun _ H'=>Q .non H',rt:=Q} (start N vs) H):wC P w K mg base CX C m (k+1) ps sp:=by
 obtain⟨f,O,F,hm⟩:=F;have bd:=F.binds z;obtain⟨I,od,kV,doc,pm,an,i,ct,G,rfl,lk,v⟩:=F.ex;refine⟨f,_,IJ lk v S len fun A outer s H vs Q E y x=>?_,hm,bd⟩;obtain⟨t,h,q⟩:=u f _ A _ s H vs Q E y x;exact⟨t,h.nox,q⟩
def O6 (C:Addr) (f:Str) (x:V) (H:Hp) (Q:VK):Prop:=match x with
 | .ref a=> ∃dx fs,H a=some (.ins C dx fs)/\∃v,fs.lookup f=some v/\Q v H
 |_=>False
theorem O5 (h:O6 C f x H Q):∃a,x = .ref a/\∃dx fs,H a=some (.ins C dx fs)/\∃v,fs.lookup f=some v/\Q v H:=by
 unfold O6 at h;split at h
 ·exact⟨_,rfl,h⟩
 ·exact h.elim
def HN (C:Addr) (f:Str) (q:TE):TE:=fun σ H Q=>q σ H fun x i=>O6 C f x i Q
def HY (C:Addr) (f:Str) (y x:V) (H:Hp) (N:Hp->Prop):Prop:=match x with
 | .ref a=> ∃dx fs,H a=some (.ins C dx fs)/\fs.length<1000/\N (upd H a (.ins C dx (bH f y fs)))
 |_=>False
theorem L6 (h:HY C f y x H N):∃a,x = .ref a/\∃dx fs,H a=some (.ins C dx fs)/\fs.length<1000/\N (upd H a (.ins C dx (bH f y fs))):=by
 unfold HY at h;split at h
 ·exact⟨_,rfl,h⟩
 ·exact h.elim
def LS (C:Addr) (f:Str) (v i:TE):TS:=fun D σ H=>i σ H fun y q=>v σ q fun x u=>HY C f y x u (D.nx σ)
def Ie (C:Addr) (f:Str) (x:V) (H:Hp) (K:V->(V->Hp->Prop)->Prop) (N:Hp->Prop):Prop:=match x with
 | .ref a=> ∃dx fs,H a=some (.ins C dx fs)/\∃v,fs.lookup f=some v/\
 K v fun z u=> ∃q i,u a=some (.ins C q i)/\i.length<1000/\N (upd u a (.ins C q (bH f z i)))
 |_=>False
theorem Mq {K:V->(V->Hp->Prop)->Prop} (h:Ie C f x H K N):∃a,x = .ref a/\∃dx fs,H a=some (.ins C dx fs)/\∃v,fs.lookup f=some v/\K v fun z u=> ∃q i,u a=some (.ins C q i)/\i.length<1000/\N (upd u a (.ins C q (bH f z i))):=by
 unfold Ie at h;split at h
 ·exact⟨_,rfl,h⟩
 ·exact h.elim
def QQ (C:Addr) (f:Str) (E q:TE) (z:R2):TS:=fun D σ H=>E σ H fun x i=>Ie C f x i (fun v R=>q σ i fun y u=>z v y u R) (D.nx σ)
def Uw (C:Addr) (m:Str) (x:V) (H:Hp) (N:Prop):Prop:=match x with
 | .ref a=> ∃dx fs,H a=some (.ins C dx fs)/\fs.lookup m=none/\N
 |_=>False
theorem C8 (h:Uw C m x H N):∃a,x = .ref a/\∃dx fs,H a=some (.ins C dx fs)/\fs.lookup m=none/\N:=by
 unfold Uw at h;split at h
 ·exact⟨_,rfl,h⟩
 ·exact h.elim
def Lv (C:Addr) (m:Str) (sp:Sp) (u:TE) (t:TA):TE:=fun σ H Q=>u σ H fun x i=>Uw C m x i (t σ i fun vs q=>sp (x::vs) q Q E0)
theorem Mm:O6 C f (.ref a) H Q= ∃dx fs,H a=some (.ins C dx fs)/\∃v,fs.lookup f=some v/\Q v H:=rfl
theorem JH:HY C f y (.ref a) H N= ∃dx fs,H a=some (.ins C dx fs)/\fs.length<1000/\N (upd H a (.ins C dx (bH f y fs))):=rfl
theorem JY {K:V->(V->Hp->Prop)->Prop}:Ie C f (.ref a) H K N= ∃dx fs,H a=some (.ins C dx fs)/\∃v,fs.lookup f=some v/\
  K v fun z u=> ∃q i,u a=some (.ins C q i)/\i.length<1000/\N (upd u a (.ins C q (bH f z i))):=rfl
theorem OZ:Uw C m (.ref a) H N= ∃dx fs,H a=some (.ins C dx fs)/\fs.lookup m=none/\N:=rfl
theorem Te {N:Addr->List (Str×V)->Prop}:(∃dx fs,some (HO.ins C d l)=some (HO.ins C dx fs)/\N dx fs)=N d l:=by
 lia
theorem Tb {N:V->Prop}:(∃v,some x=some v/\N v)=N x:=by
 simp_all
theorem Ki {K:W.Frag} (h:W.findIn K (.ref C) f=some none):a8 K C f:=h
theorem cW (nx:H x=none) (nd:H dx=none):aE H (upd (upd H dx (.own x)) x (.ins C dx fs)):=fun b o e=>by
 rw[af (ar e nx),af (ar e nd)];exact e
theorem Ln (h:H p=some o):upd H p o=H:=by
 funext b;unfold upd;split
 ·simp_all
 ·rfl
theorem Pn (he:PE X e ta) (c:dM X.K X.mg x C) (nn:a8 X.K C f) (O:attributeBase e f X.env (eval e X.env)=eval e X.env):PE X (.Attribute e f pos) (HN C f ta):=by
 intro i s σ H Q I h;refine Qt O (fL (he _ s σ H _ I h) fun u s1 x z E G U=>?_);obtain⟨a,ex,dx,fs,y,v,l,q⟩:=O5 U;subst ex;obtain rfl:u=Value.ref a:=G;exact Aw E y c.cl nn l fun W s2 P F=>⟨v,z,P,F,q⟩
theorem aB (ha:PE X o ta) (F:PE X value tv) (c:dM X.K X.mg x C) (nn:a8 X.K C f) (hs:autoParam (kZ value=false) qqr):PS X (.Assign [.Attribute o f pos'] value pos) (LS C f ta tv):=by
 intro i s σ H D I h;refine XG (fL (F _ s σ H _ I h) fun u s1 y z E P q=>fL (ha _ s1 σ z _ E q) fun Q s2 x Z U O W=>?_) (kH hs);obtain⟨a,ex,dx,fs,v,l,Y⟩:=L6 W;subst ex;obtain rfl:Q=Value.ref a:=O;exact z9 U v c.cl nn l P fun s3 G=>⟨σ,_,G,Y⟩
theorem o7 (ha:PE X o ta) (hv:PE X value tv) (c:dM X.K X.mg x C) (nn:a8 X.K C f) (E:gq X (inplaceOp op) rd):PS X (.AugAssign (.Attribute o f tpos) op value pos) (QQ C f ta tv rd):=by
 intro F s σ H D I h;refine wpAny_AugAssign_AttributeAny (fL (ha _ s σ H _ I h) fun ov s1 x P Q rx qq=>?_);obtain⟨a,ex,dx,fs,G,v,l,q⟩:=Mq qq;subst ex;obtain rfl:ov=Value.ref a:=rx;refine Aw Q G c.cl nn l fun u s2 I2 U=>fL (hv _ s2 σ P _ I2 q) fun Y s3 y H2 I3 ry O=>thn (E _ s3 σ H2 v y u Y _ I3 U ry O) fun w4 s4 ⟨z,H3,I4,rz,dx',fs',i,l',W⟩=>?_;exact z9 I4 i c.cl nn l' rz fun s5 Z=>⟨σ,_,Z,W⟩
theorem RV [Quiet CX] (he:PE X o ta) (c:dM X.K X.mg x C) (G:wC X.prog X.w X.K X.mg X.base CX C m k ps sp) (P:cY n X.A) (hk:k<=n) (ha:PA X (e::es) t) (i:autoParam ((e::es).any isStar=false) qqr) (ht:eval (.Call (.Attribute o m apos) (e::es) [] pos) X.env=(do
   let ov<-eval o X.env
   standAt apos.atName
   let (f,first)<-holding [ov] (getMethod ov m pl)
   callWith pos f first (backTo pos (starEach (e::es) X.env)) (backToKw pos (keywordEach [] X.env))):=by rfl):
  PE X (.Call (.Attribute o m apos) (e::es) [] pos) (Lv C m sp ta t):=by
 obtain⟨f,Z,F,hm,b⟩:=G;rw[sj,ni] at i;intro y s σ H Q I h;refine Yb (fL (he _ s σ H _ I h) fun u s1 x O v U Y=>?_) ht;obtain⟨a,ex,dx,fs,E,l,q⟩:=C8 Y;subst ex;obtain rfl:u=Value.ref a:=U;refine k7 v E c.cl hm l ?_;refine Yh I.ok.mod.kin hm.kp (fL (ha _ _ s1 σ O _ v q) fun us s2 vs H2 z r q2=>⟨z.lV,?_⟩) (cN i.1) (ku i.2);exact C5 (vs:= .ref a::vs) F (P.mono hk) b .nil (Quiet.pass X) z (.cons rfl r) (by simp_all)
theorem Pk [Quiet CX] (he:PE X o ta) (c:dM X.K X.mg x C) (G:wC X.prog X.w X.K X.mg X.base CX C m k ps sp) (z:cY n X.A) (hk:k<=n) (ht:eval (.Call (.Attribute o m apos) [] [] pos) X.env=(do
   let ov<-eval o X.env
   standAt apos.atName
   let (f,first)<-holding [ov] (getMethod ov m pl)
   callWith pos f first (backTo pos (starEach [] X.env)) (backToKw pos (keywordEach [] X.env))):=by rfl):
  PE X (.Call (.Attribute o m apos) [] [] pos) (Lv C m sp ta Bc):=by
 obtain⟨f,U,F,hm,b⟩:=G;intro v s σ H Q I h;refine Yb (fL (he _ s σ H _ I h) fun u s1 x P i E O=>?_) ht;obtain⟨a,ex,dx,fs,y,l,q⟩:=C8 O;subst ex;obtain rfl:u=Value.ref a:=E;refine k7 i y c.cl hm l ?_;exact W.callWith_K0 i.lV hm.kp (C5 (vs:=[.ref a]) F (z.mono hk) b .nil (Quiet.pass X) i (.cons rfl .nil) q)
theorem uu [Quiet CX] (c:dM X.K X.mg x C) (G:wC X.prog X.w X.K X.mg X.base CX C "__init__" k ps sp) (q:cY n X.A) (hk:k+1<=n) (hg:Gl X x) (ha:PA X (e::es) t) (i:autoParam ((x == ("__debug__":Str))=false) qqd) (h:autoParam ((e::es).any isStar=false) qqr):PE X (.Call (.Name x p) (e::es) [] pos) (Lw C sp [] E0 t):=by
 obtain⟨f,u,F,hm,b⟩:=G;rw[sj,ni] at h;exact Pl ⟨c.mks,hm.at_,hm.fn,c.kp⟩ F (q.mono hk) hg c.Sh b .nil (Quiet.pass X) ha i (cN h.1) (ku h.2)
def T3 (K:W.Frag) (p:Addr) (i:Int) (H:Hp) (Q:VK):Option HO->Prop
 |some (.lst xs)=> ∃v,iN xs i=some v/\Q v H
 |some (.tup xs)=> ∃v,iN xs i=some v/\Q v H
 |_=>yV K (.ref p) (.int i) H Q
def JR (K:W.Frag):R2:=fun x y H Q=>match x,y with
 | .ref p,.int i=>T3 K p i H Q (H p)
 |x,y=>yV K x y H Q
theorem Mc {K:W.Frag}:JR K (.ref p) (.int i) H Q=T3 K p i H Q (H p):=rfl
theorem Mb {K:W.Frag}:JR K (.str z) (.int i) H Q=yV K (.str z) (.int i) H Q:=rfl
theorem PZ {K:W.Frag}:T3 K p i H Q (some (.lst xs))= ∃v,iN xs i=some v/\Q v H:=rfl
theorem PY {K:W.Frag}:T3 K p i H Q (some (.tup xs))= ∃v,iN xs i=some v/\Q v H:=rfl
theorem P1 {K:W.Frag} (h:T3 K p i H Q (H p)):yV K (.ref p) (.int i) H Q:=by
 unfold T3 at h;split at h
 ·rename_i xs e;obtain⟨v,a,b⟩:=h;exact Fn (cI.of e) a b
 ·rename_i xs e;obtain⟨v,a,b⟩:=h;exact eA (du.of e) a b
 ·exact h
theorem WH (K:W.Frag) (h:X.K=K):F9 X (JR K):=F9.imp (UU K h) fun x y H Q h=>by
 unfold JR at h;split at h
 ·exact P1 h
 ·exact h
theorem rY {i:Nat} {x:α} (h:xs[i]?=some x):iN xs (i:Int)=some x:=by
 have hl:=(ek.mp h).1;unfold iN Li;rw[bc (by lia),bc (by lia)];exact h
theorem lO {l:List α}:iN (a::l) 0=some a:=rY (i:=0) rfl
theorem om {l:List α}:iN (a::b::l) 1=some b:=rY (i:=1) rfl
theorem Oa {l:List α}:iN (a::b::c::l) 2=some c:=rY (i:=2) rfl
theorem Rb {l:List α}:iN (a::b::c::d::l) 3=some d:=rY (i:=3) rfl
theorem VP {l:List α}:iN (a::b::c::d::e::l) 4=some e:=rY rfl
theorem VO {l:List α}:iN (a::b::c::d::e::f::l) 5=some f:=rY rfl
def M8 (K:W.Frag) (p:Addr) (H:Hp) (Q:VK):Option HO->Prop
 |some (.lst xs)=>Q (.int xs.length) H
 |some (.tup xs)=>Q (.int xs.length) H
 |_=>yf K [.ref p] H Q
def H_ (K:W.Frag):List V->Hp->VK->Prop:=fun xs H Q=>match xs with
 | [.ref p]=>M8 K p H Q (H p)
 |xs=>yf K xs H Q
theorem JN {K:W.Frag}:H_ K [.ref p] H Q=M8 K p H Q (H p):=rfl
theorem JM {K:W.Frag}:H_ K [.str z] H Q=yf K [.str z] H Q:=rfl
theorem M7 {K:W.Frag}:M8 K p H Q (some (.lst xs))=Q (.int xs.length) H:=rfl
theorem M6 {K:W.Frag}:M8 K p H Q (some (.tup xs))=Q (.int xs.length) H:=rfl
theorem eL (K:W.Frag) (h:X.K=K):bM X (.builtin "len") (H_ K):=bM.imp (je K h) fun xs H Q h=>by
 unfold H_ at h;split at h
 ·unfold M8 at h;split at h
  ·rename_i xs e;exact⟨xs,.inl (cI.of e),h⟩
  ·rename_i xs e;exact⟨xs,.inr (du.of e),h⟩
  ·exact h
 ·exact h
def Ni (K:W.Frag) (p:Addr) (n:String) (H:Hp) (Q:VK):Option HO->Prop
 |some (.lst _)=>if n = "list" then Q (.bl true) H else wO K [.ref p,.ty n] H Q
 |some (.tup _)=>if n = "tuple" then Q (.bl true) H else wO K [.ref p,.ty n] H Q
 |_=>wO K [.ref p,.ty n] H Q
def ES (K:W.Frag):List V->Hp->VK->Prop:=fun xs H Q=>match xs with
 | [.ref p,.ty n]=>Ni K p n H Q (H p)
 |xs=>wO K xs H Q
theorem x9 (K:W.Frag) (h:X.K=K):bM X (.builtin "isinstance") (ES K):=bM.imp (kE K h) fun xs H Q h=>by
 unfold ES at h;split at h
 ·unfold Ni at h;split at h
  ·rename_i xs e;split at h
   ·rename_i c;subst c;exact Com.Ng e h
   ·exact h
  ·rename_i xs e;split at h
   ·rename_i c;subst c;exact Com.DN e h
   ·exact h
  ·exact h
 ·exact h
theorem JT {K:W.Frag}:ES K [.ref p,.ty n] H Q=Ni K p n H Q (H p):=rfl
theorem Nh {K:W.Frag}:Ni K p "tuple" H Q (some (.tup xs))=Q (.bl true) H:=by simp[Ni]
theorem O3 {K:W.Frag}:ES K [.str i,.ty n] H Q=wO K [.str i,.ty n] H Q:=rfl
theorem Tc {N:List V->Prop}:(∃xs,some (HO.lst l)=some (HO.lst xs)/\N xs)=N l:=by
 simp_all
def jf (p:Addr) (H H':Hp):Prop:= ∀b o,H b=some o->b≠p->H' b=some o
theorem jf.refl:jf p H H:=fun _ _ h _=>h
theorem jf.upd {p:Addr} {H:Hp} {o:HO}:jf p H (upd H p o):=fun b x q i=>by rw[af i];exact q
theorem jf.new (h:jf p H H') (v:H' q=none):jf p H (Lake.upd H' q o):=fun b x u i=>by
 rw[af (ar (h b x u i) v)];exact h b x u i
end
end Lake
namespace MeterM
mutual
noncomputable def mn (a b:Int):Int:=if b<a then b else a
noncomputable def hf (w:Int):Int:=if 1<w / 2 then w / 2 else 1
noncomputable def k1 (m k:Int) (s:Int×Int):Int×Int:=if s.1=m then s else if s.1<k then(s.1+1,s.2) else if s.2+1=s.1 then(s.1+1,0) else(s.1,s.2+1)
noncomputable def kn (m k:Int):Nat->Int×Int->Int×Int
 |0,s=>s
 |n+1,s=>k1 m k (kn m k n s)
theorem U1 (h1:1<=w) (i:w<=m):1<=hf w/\hf w<=m:=by
 unfold hf;split<;>lia
def TX (m:Int) (s:Int×Int):Prop:=1<=s.1/\s.1<=m/\0<=s.2/\s.2<s.1
theorem WJ (s:Int×Int) (h:TX m s):TX m (k1 m k s):=by
 obtain⟨w,c⟩:=s;unfold TX k1 at*
 (grind)<;>simp only<;>lia
theorem inb:∀(n:Nat) (s:Int×Int),TX m s->TX m (kn m k n s)
 |0,s,h=>h
 |n+1,s,h=>WJ _ (inb n s h)
end
end MeterM
namespace WaysM
mutual
noncomputable def lb (x:Nat):Nat:=x-(x &&& (x-1))
theorem Qy (a b:Nat):(a &&& b) % 2=(a % 2)*(b % 2):=by
 have e:=Nat.and_mod_two_pow (a:=a) (b:=b) (n:=1);rw[e];rcases(by lia:a % 2=0\/a % 2=1) with p|p<;>rcases(by lia:b % 2=0\/b % 2=1) with q|q<;>rw[p,q]<;>decide
theorem R0 (a b:Nat) (h:(a |||b) % 2=1):a % 2=1\/b % 2=1:=by
 simp_all
theorem PU (x:Nat) (h:0<x):∃k,lb x=2 ^ k/\x % 2 ^ k=0/\x / 2 ^ k % 2=1:=by
 induction x using Nat.strongRecOn with
 |_ x u=>
  have d:(x &&& (x-1)) / 2=(x / 2) &&& ((x-1) / 2):=Nat.and_div_two;have m:=Qy x (x-1);rcases(by lia:x % 2=0\/x % 2=1) with p|p
  ·obtain⟨k,h1,q,i⟩:=u (x / 2) (by lia) (by lia);rw[show(x-1) / 2=x / 2-1 by grind] at d;rw[p] at m;refine⟨k+1,?_,?_,?_⟩
   ·unfold lb at h1⊢;rw[Yz];have le:(x / 2 &&& (x / 2-1))<=x / 2:=Nat.and_le_left;lia
   ·rw[Yz,XS,Nat.mod_mul];rw[q];lia
   ·rw[Yz,XS,<-Nat.div_div_eq_div_mul];exact i
  ·refine⟨0,?_,by lia,by simpa using p⟩;unfold lb;rw[show(x-1) / 2=x / 2 by lia,Nat.and_self] at d;rw[p,show(x-1) % 2=0 by clear d m;lia] at m;lia
theorem R3 (a b k:Nat):(a |||b) / 2 ^ k=a / 2 ^ k |||b / 2 ^ k:=by
 rw[<-Nat.shiftRight_eq_div_pow,<-Nat.shiftRight_eq_div_pow,<-Nat.shiftRight_eq_div_pow];exact Nat.shiftRight_or_distrib
noncomputable def low (t b:Int):Int×Int:=(t / (lb (t.toNat |||b.toNat):Nat),b / (lb (t.toNat |||b.toNat):Nat))
structure V1 (t b t' b' s:Int):Prop where
 s0:0<s
 tt:t=s*t'
 bb:b=s*b'
 t0:0<=t'
 b0:0<b'
 od: ¬(t' % 2=0/\b' % 2=0)
 tl:t'<=t
 bl:b'<=b
theorem Iz (t b:Nat) (u:0<b):∃k,lb (t |||b)=2 ^ k/\t % 2 ^ k=0/\b % 2 ^ k=0/\(t / 2 ^ k % 2=1\/b / 2 ^ k % 2=1):=by
 have hx:0<t |||b:=by
  simp_all
 obtain⟨k,h1,q,i⟩:=PU _ hx;have e:(t % 2 ^ k) |||(b % 2 ^ k)=0:=by rw[<-Nat.or_mod_two_pow];exact q
 have e1:t % 2 ^ k<=(t % 2 ^ k) |||(b % 2 ^ k):=Nat.left_le_or;have e2:b % 2 ^ k<=(t % 2 ^ k) |||(b % 2 ^ k):=Nat.right_le_or;refine⟨k,h1,by lia,by lia,?_⟩;rw[R3] at i;exact R0 _ _ i
theorem nN (ht:0<=t) (q:0<b):∃s,V1 t b (low t b).1 (low t b).2 s:=by
 obtain⟨t,rfl⟩:=L5 ht;obtain⟨b,rfl⟩:=L5 (ko q);obtain⟨k,h1,i,u,v⟩:=Iz t b (by lia);have hp:=zT k;have t1:=Nat.div_add_mod t (2 ^ k);have b1:=Nat.div_add_mod b (2 ^ k);rw[i,Nat.add_zero] at t1;rw[u,Nat.add_zero] at b1;have e1:(low (t) (b)).1=((t / 2 ^ k:Nat)):=by simp[low,h1]
 have e2:(low (t) (b)).2=((b / 2 ^ k:Nat)):=by simp[low,h1]
 rw[e1,e2];have l1:=Nat.div_le_self t (2 ^ k);have l2:=Nat.div_le_self b (2 ^ k);have x:0<b / 2 ^ k:=by
  lia
 generalize t / 2 ^ k=t' at*
 generalize b / 2 ^ k=b' at*
 generalize 2 ^ k=s at*
 refine⟨(s),⟨by lia,?_,?_,by lia,by lia,by lia,by lia,by lia⟩⟩
 ·rw[<-YA,t1]
 ·rw[<-YA,b1]
theorem qW:∀(n:Nat) (s b:Int),0<s->0<b->2 ^ n=s*b->∃j,j<=n/\b=2 ^ j
 |
   0,s,b,hs,hb,h=>⟨0,cm _,by
   have h1:s*b=1:=by simp_all
   have:b∣1:=⟨s,by rw[Yk];exact h1.symm⟩;have:=Int.le_of_dvd (by decide) this;lia⟩
 |n+1,s,b,hs,hb,h=>by
  by_cases q:b % 2=0
  ·obtain⟨c,rfl⟩:∃c,b=2*c:=⟨b / 2,by lia⟩;have:(2:Int) ^ n=s*c:=by
    lia
   obtain⟨j,u,e⟩:=qW n s c hs (by lia) this;exact⟨j+1,by lia,by rw[e,Int.pow_succ,Yk]⟩
  ·by_cases i:s % 2=0
   ·obtain⟨c,rfl⟩:∃c,s=2*c:=⟨s / 2,by lia⟩;have:(2:Int) ^ n=c*b:=by
     lia
    obtain⟨j,u,e⟩:=qW n c b (by lia) hb this;exact⟨j,by lia,e⟩
   ·have e1:(s*b) % 2=1:=by rw[Int.mul_emod];rw[show s % 2=1 by lia,show b % 2=1 by lia];decide
    rw[<-h] at e1;lia
end
end WaysM
namespace Lake
mutual
open PySem PySem.Spec PyProof.Rows
def Bd (n:Nat) (x:Int):Prop:=x.natAbs<2 ^ n
theorem Bd.mul (h:Bd a x) (i:Bd b y):Bd (a+b) (x*y):=by
 unfold Bd;rw[Int.natAbs_mul,Yv];exact Nat.mul_lt_mul'' h i
theorem Bd.up (h:Bd a x) (i:a<=b):Bd b x:=fy h (XX (by decide) i)
theorem Bd.add (h:Bd a x) (i:Bd a y):Bd (a+1) (x+y):=by
 unfold Bd at*
 have:=Int.natAbs_add_le x y;lia
theorem Bd.sub (h:Bd a x) (i:Bd a y):Bd (a+1) (x-y):=by
 unfold Bd at*
 exact Nat.lt_of_le_of_lt (Int.natAbs_sub_le x y) (by rw[Nat.pow_succ];lia)
theorem Bd.of (h0:0<=x) (h:x<2 ^ a):Bd a x:=by
 unfold Bd;have e:((2 ^ a:Nat):Int)=2 ^ a:=rfl;lia
theorem Bd.le (h:Bd a y) (h0:0<=x) (hl:x<=y):Bd a x:=by
 unfold Bd at *;lia
theorem Bd.bits (h:Bd n x):Builtin.Int.intBits x<=n:=by
 unfold Builtin.Int.intBits;split
 ·lia
 ·have hx:x.natAbs≠0:=by simp_all
  have:=(Nat.log2_lt hx).mpr h;lia
def Oq (i j:Int):Prop:=Ot i j\/(Bd 8000 i/\Bd 8000 j)
def Ou (_ j:Int):Prop:=0<j/\Bd 8000 j
theorem mh:gq X (binaryOp .Mult) (rI Oq fun i j=> .int (i*j)):=R_ fun _ _ _ _ _ _ _ hc q=>mul_int q (by
 rcases hc with hc|⟨h1,u⟩
 ·exact hc.ok
 ·exact IntMulOk.of_bits (fv h1.bits (by decide)) (fv u.bits (by decide)))
theorem Ai:gq X (binaryOp .FloorDiv) (rI Ou fun i j=> .int (i / j)):=R_ fun i j _ _ _ _ _ hc q=>by
 have e:=Int.fdiv_eq_ediv_of_nonneg i (ko hc.1);rw[<-e] at q;refine floordiv_int (Int.ne_of_gt hc.1) q (.inl (PyProof.noPylong_of_log2 ?_));have hx:j.natAbs≠0:=by have:=hc.1;lia
 exact fy ((Nat.log2_lt hx).mpr hc.2) (by decide)
theorem Sg (h : -(2 ^ 64)<i/\i<2 ^ 64):Oq i j:= .inl (.inl h)
theorem uF (h:Bd a i) (q:Bd b j) (ha:a<=8000) (u:b<=8000):Oq i j:= .inr ⟨h.up ha,q.up u⟩
theorem Tp (h0:0<j) (h:Bd a j) (ha:a<=8000):Ou i j:=⟨h0,h.up ha⟩
theorem WR (x:Int):(if x<0 then -x else x)=(x.natAbs:Int):=by split<;>lia
theorem Bd.abs (h:Bd n x):Bd n (x.natAbs:Int):=by unfold Bd at *;simpa using h
theorem Bd.c {k:Nat} (h:k<2 ^ n):Bd n (k:Int):=by unfold Bd;simpa using h
end
end Lake
namespace WaysI
open PySem Lake
theorem lowbit (ht:0<=t) (i:0<b):Builtin.bitAnd (Builtin.bitOr t b) (-(Builtin.bitOr t b))=(WaysM.lb (t.toNat |||b.toNat):Nat):=by
 obtain⟨t,rfl⟩:=L5 ht;obtain⟨b,rfl⟩:=L5 (ko i);rw[BitI.Dj];have hx:0<t |||b:=by
  simp_all
 rw[PyProof.Rows.bitAnd_pn (by lia) (by lia)];have e:(Builtin.bitNot (-((t |||b:Nat)))).toNat=(t |||b)-1:=by rw[BitI.not_eq];lia
 rw[e];simp only[gk,WaysM.lb];have le:((t |||b) &&& ((t |||b)-1))<=t |||b:=Nat.and_le_left;lia
theorem Sm {t:Int} (ht:0<=t) (q:0<b):0<((WaysM.lb (t.toNat |||b.toNat):Nat):Int)/\((WaysM.lb (t.toNat |||b.toNat):Nat):Int)<=b:=by
 obtain⟨t,rfl⟩:=L5 ht;obtain⟨b,rfl⟩:=L5 (ko q);obtain⟨k,h1,v,i,u⟩:=WaysM.Iz t b (by lia);simp only[gk];rw[h1];have hp:=zT k;have:=Nat.le_of_dvd (by lia) (Nat.dvd_of_mod_eq_zero i);lia
end WaysI
namespace Lake
mutual
open PySem PySem.Spec PyProof.Rows
theorem Fo:∀{ns:List Int} {i:List Value},Vals (ns.map V.int) i->IntsAre i ns
 | [],_,.nil=> .nil
 |n::ns,_,.cons r rr=>by
  obtain⟨t,rfl⟩:=r;exact .cons n t (Fo rr)
def QT (K:W.Frag):List V->Hp->VK->Prop:=fun xs H Q=>match xs with
 | [.int i,.int j]=>Q (.int (if i<j then j else i)) H
 | [.ref p]=> ∃ns:List Int,cI K H p (ns.map V.int)/\0<ns.length/\∀M,M∈ns->(∀a,a∈ns->a<=M)->Q (.int M) H
 |_=>False
theorem CC (K:W.Frag) (O:X.K=K) (hc:X.calm=true):bM X (.builtin "max") (QT K):=by
 subst O;intro y s σ H xs us Q I rs q;unfold QT at q;split at q
 ·exact oi hc _ s σ H _ us Q I rs q
 ·obtain⟨u,rfl,z⟩:=vals1 rs;cases z;obtain⟨ns,U,E,q⟩:=q;obtain⟨F,r,pl,Y⟩:=I.list U;have x:=Fo r;have hl:=pl.isList;obtain⟨xs,e⟩:=x.allInts.items;have i:ns=xs.toList.map (·.1):=by rw[<-x.numsOf,<-nums_intItems,<-e]
  have hsz:0<xs.size:=by
   simp_all
  rw[e] at hl;refine max_intList (I.ok.hd hc) hl hsz fun v Z tk C hk=>?_;obtain⟨t,rfl⟩:=intItems_at C;obtain⟨h1,P⟩:=argBest_gt (numAt xs) (xs.size-1);refine⟨.int _,H,I.kept hk,⟨t,rfl⟩,q _ ?_ fun a ha=>?_⟩
  ·rw[i,numAt_eq];exact getD_mem (by rw[cF,vp];lia)
  ·rw[i] at ha;obtain⟨j,G,rfl⟩:=mem_getD ha;rw[cF,vp] at G;rw[<-numAt_eq];exact P j (by lia)
 ·trivial
noncomputable abbrev ik (i:Int):Key:=Sum.inl i
def NO (neg:Bool) (i:Int) (H:Hp) (Q:VK):Option HO->Prop
 |some (.dK kvs)=>Q (.bl (if neg then !(bj kvs (ik i)).isSome else(bj kvs (ik i)).isSome)) H
 |_=>False
def Mp (neg:Bool):R2:=fun y x H Q=>match y,x with
 | .int i,.ref a=>NO neg i H Q (H a)
 |_,_=>False
theorem Mo:Mp neg (.int i) (.ref a) H Q=NO neg i H Q (H a):=rfl
theorem Tr:NO true i H Q (some (.dK kvs))=Q (.bl (!(bj kvs (ik i)).isSome)) H:=rfl
theorem Ts:NO false i H Q (some (.dK kvs))=Q (.bl (bj kvs (ik i)).isSome) H:=rfl
def We (i:Int) (H:Hp) (Q:VK):Option HO->Prop
 |some (.dK kvs)=> ∃v,bj kvs (ik i)=some v/\Q v H
 |_=>False
def Ic:R2:=fun x y H Q=>match x,y with
 | .ref a,.int i=>We i H Q (H a)
 |_,_=>False
theorem JX:Ic (.ref a) (.int i) H Q=We i H Q (H a):=rfl
theorem VD:We i H Q (some (.dK kvs))= ∃v,bj kvs (ik i)=some v/\Q v H:=rfl
def Wc (a:Addr) (i:Int) (v:V) (H:Hp) (N:Hp->Prop):Option HO->Prop
 |some (.dK kvs)=>kvs.length<sizeLine/\N (upd H a (.dK (putK kvs (ik i) v)))
 |_=>False
def Ia (x y v:V) (H:Hp) (N:Hp->Prop):Prop:=match x,y with
 | .ref a,.int i=>Wc a i v H N (H a)
 |_,_=>False
def LU (to u i:TE):TS:=fun D σ H=>i σ H fun v z=>to σ z fun x C=>u σ C fun y q=>Ia x y v q (D.nx σ)
theorem JV:Ia (.ref a) (.int i) v H N=Wc a i v H N (H a):=rfl
theorem VC:Wc a i v H N (some (.dK kvs))=(kvs.length<sizeLine/\N (upd H a (.dK (putK kvs (ik i) v)))):=rfl
def P2:Option HO->Prop
 |some (.dK _)=>True
 |_=>False
def Ql (a:Addr) (i:Int) (H:Hp) (Q:VK):Option HO->Prop
 |some (.dK kvs)=> ∃v,bj kvs (ik i)=some v/\Q v (upd H a (.dK (rG kvs (ik i))))
 |_=>False
def Ib (x y:V) (H:Hp) (Q:VK):Prop:=match x,y with
 | .ref a,.int i=>Ql a i H Q (H a)
 |_,_=>False
def RE (x:V) (H:Hp):Prop:=match x with
 | .ref a=>P2 (H a)
 |_=>False
def LA (to q:TE):TE:=fun σ H Q=>to σ H fun x i=>RE x i/\q σ i fun y u=>Ib x y u Q
theorem Mg:RE (.ref a) H=P2 (H a):=rfl
theorem SI:P2 (some (.dK kvs))=True:=rfl
theorem JW:Ib (.ref a) (.int i) H Q=Ql a i H Q (H a):=rfl
theorem Tn:Ql a i H Q (some (.dK kvs))= ∃v,bj kvs (ik i)=some v/\Q v (upd H a (.dK (rG kvs (ik i)))):=rfl
theorem Cn (q:Mp neg y x H Q):∃j a i,y = .int j/\x = .ref a/\H a=some (.dK i)/\Q (.bl (if neg then !(bj i (ik j)).isSome else(bj i (ik j)).isSome)) H:=by
 unfold Mp at q;split at q
 ·rename_i j a;unfold NO at q;split at q
  ·rename_i i e1;exact⟨j,a,i,rfl,rfl,e1,q⟩
  ·trivial
 ·trivial
theorem MF (hu:X.A.units+64<cLine) (U:PE X i ti) (P:PE X o to):PC X .In i o (Er (Mp false) ti to):=by
 intro z s σ H Q I h;have v:X.A.units+1<cLine:=by lia
 refine fL (U _ s σ H _ I h) fun iv s1 y C E O W=>fL (P _ s1 σ C _ E W) fun u s2 x H2 Y G q2=>?_;obtain⟨j,a,Z,rfl,rfl,e1,q⟩:=Cn q2;obtain rfl:u=Value.ref a:=G;exact WK v Y (Ep.k (k:=ik j) e1) O fun s' F=>⟨.bl _,H2,F,rfl,q⟩
theorem GQ (hu:X.A.units+64<cLine) (U:PE X i ti) (P:PE X o to):PC X .NotIn i o (Er (Mp true) ti to):=by
 intro z s σ H Q I h;have v:X.A.units+1<cLine:=by lia
 refine fL (U _ s σ H _ I h) fun iv s1 y C E O W=>fL (P _ s1 σ C _ E W) fun u s2 x H2 Y G q2=>?_;obtain⟨j,a,Z,rfl,rfl,e1,q⟩:=Cn q2;obtain rfl:u=Value.ref a:=G;exact Qo v Y (Ep.k (k:=ik j) e1) O fun s' F=>⟨.bl _,H2,F,rfl,q⟩
theorem NP (q:Ic x y H Q):∃j a i v,y = .int j/\x = .ref a/\H a=some (.dK i)/\bj i (ik j)=some v/\Q v H:=by
 unfold Ic at q;split at q
 ·unfold We at q;split at q
  ·simp_all
  ·simp_all
 ·simp_all
theorem MC (hu:X.A.units+64<cLine) (Z:PE X o to) (hi:PE X i ti) (hs:VW i):PE X (.Subscript o i pos) (Er Ic to ti):=by
 intro E s σ H Q I h;have z:X.A.units+1<cLine:=by lia
 refine OR PySem.F.slot_dict_getitem.lookup hs (fL (Z _ s σ H _ I h) fun u s1 x O P W q1=>fL (hi _ s1 σ O _ P q1) fun iv s2 y H2 G Y q2=>?_);obtain⟨j,a,kvs,v,rfl,rfl,e1,e2,q⟩:=NP q2;obtain rfl:u=Value.ref a:=W;have g:=e2▸Ep.k e1;exact⟨FJ G g,K7 z G g Y fun w' s3 U C=>⟨v,H2,U,C,q⟩⟩
theorem NI (q:Ia x y v H N):∃j a i,y = .int j/\x = .ref a/\H a=some (.dK i)/\i.length<sizeLine/\N (upd H a (.dK (putK i (ik j) v))):=by
 unfold Ia at q;split at q
 ·unfold Wc at q;split at q
  ·simp_all
  ·simp_all
 ·simp_all
theorem Dd (hu:X.A.units+64<cLine) (Y:PE X o to) (hi:PE X i ti) (O:PE X value tv) (hs:autoParam (kZ value=false) qqr):PS X (.Assign [.Subscript o i pos'] value pos) (LU to ti tv):=by
 intro C s σ H D I h;have z:X.A.units+1<cLine:=by lia
 refine wpAny_Assign_Subscript (fL (O _ s σ H _ I h) fun r s1 v F G rv q1=>fL (Y _ s1 σ F _ G q1) fun u s2 x H2 I2 U Q=>fL (hi _ s2 σ H2 _ I2 Q) fun iv s3 y H3 P W E=>?_) (kH hs);obtain⟨j,a,kvs,rfl,rfl,e1,hl,q⟩:=NI E;obtain rfl:u=Value.ref a:=U;exact K6 z P (QC.k (k:=ik j) e1 hl) W rv fun s4 Z=>⟨σ,_,Z,q⟩
theorem K4 (q:Ib x y H Q):∃j a i v,y = .int j/\x = .ref a/\H a=some (.dK i)/\bj i (ik j)=some v/\Q v (upd H a (.dK (rG i (ik j)))):=by
 unfold Ib at q;split at q
 ·unfold Ql at q;split at q
  ·simp_all
  ·simp_all
 ·simp_all
theorem Po {X:Cx} {o e:Expr} {to te:TE} {apos i:Pos} (ho:PE X o to) (he:PE X e te) (hb:autoParam (attributeBase o "pop" X.env (eval o X.env)=eval o X.env) qqr)
  (
   hfew:((backTo i (starEach [e] X.env)).all (fun x=>!x.1)&&(backToKw i (keywordEach [] X.env)).all (fun x=>x.1.isSome)
   &&decide (([e]:List Expr).length+([]:List Keyword).length+(if([]:List Keyword).isEmpty then 0 else 1)<30))=true:=by rfl)
  (C:autoParam ((apos.endLine == i.line)=true) qqr) (ht:autoParam (backTo i (starEach [e] X.env)= [(false,eval e X.env)]) qqr):PE X (.Call (.Attribute o "pop" apos) [e] [] i) (LA to te):=by
 intro U s σ H Q I h;refine wpAny_Call_method hb hfew C PySem.F.plainAttrs_dict PySem.F.slot_dict_pop PySem.F.type_dict_pop (thn (ho _ s σ H _ I h) fun u s1 ⟨x,G,O,Z,hd,q1⟩=>?_);obtain⟨a,z,rfl,e0⟩:∃a z,x = .ref a/\G a=some (.dK z):=by
  unfold RE at hd;split at hd
  ·unfold P2 at hd;split at hd
   ·simp_all
   ·simp_all
  ·simp_all
 obtain rfl:u=Value.ref a:=Z;obtain⟨t1,t2,_⟩:=SH O (.inl ⟨z,.inl e0⟩);refine⟨t1,t2,?_⟩;rw[ht];refine Calls.callWith_builtin rfl (Calls.evalArgs_plain (Calls.spliced_cons (fL (he _ s1 σ G _ O q1) fun iv s2 y H2 I2 ry q2=>Calls.spliced_nil ?_)));obtain⟨j,a',P,v,rfl,W,e1,e2,q⟩:=K4 q2;cases W;exact VE I2 e1 (k:=ik j) ry e2 (.inl rfl) fun w' s3 Y E=>⟨v,_,Y,E,q⟩
def HZ (vs:List V) (H:Hp) (Q:VK):Prop:=match vs with
 | [.int i,.int j]=>(-(2 ^ 62)<=i/\i<2 ^ 62/\-(2 ^ 62)<=j/\j<2 ^ 62)/\∀p,H p=none->Q (.ref p) (upd H p (.rng i j))
 |_=>False
def QJ (q:TA):TE:=fun σ H Q=>q σ H fun vs i=>HZ vs i Q
theorem JJ:HZ [.int i,.int j] H Q=((-(2 ^ 62)<=i/\i<2 ^ 62/\-(2 ^ 62)<=j/\j<2 ^ 62)/\∀p,H p=none->Q (.ref p) (upd H p (.rng i j))):=rfl
theorem Pj (hg:Gl X "range") (hm:X.mg "range" = none) (ha:PA X [a,b] ta) (hs:autoParam (starEach [a,b] X.env= [(false,eval a X.env),(false,eval b X.env)]) qqr) (v:autoParam (starEach [b] X.env= [(false,eval b X.env)]) qqr):
  PE X (.Call (.Name "range" p) [a,b] [] pos) (QJ ta):=by
 intro y s σ H Q I h;refine Call_ (uJ I hg hm boot_range (Xg (fL (ha _ _ s σ H _ I h) fun us s1 vs z x C q=>?_) (by simp_all) (by rw[v];rfl)));replace q:HZ vs z Q:=q;unfold HZ at q;split at q
 ·rename_i i j;obtain⟨u1,E,rfl,⟨t,rfl⟩,⟨t',rfl⟩⟩:=vals2 C;refine call_range_2 ?_;exact⟨.ref _,_,x.laid (fun b u e=>cP _ e) (cm _) (show dJ _ _ _ _ _ (.rng i j) from⟨_,_,_,fx _ rfl⟩),rfl,q.2 _ (x.hok.fresh (cm _))⟩
 ·trivial
def IC (K:W.Frag) (p:Addr) (H:Hp) (Q:VK):Option HO->Prop
 |some (.rng i j)=>(-(2 ^ 62)<=i/\i<2 ^ 62/\-(2 ^ 62)<=j/\j<2 ^ 62)/\(j-i).toNat<=1000000/\∀l,H l=none->Q (.ref l) (upd H l (.lst (lU i (j-i).toNat)))
 |_=>Ac K [.ref p] H Q
def GI (K:W.Frag):List V->Hp->VK->Prop:=fun xs H Q=>match xs with
 | [.ref p]=>IC K p H Q (H p)
 |xs=>Ac K xs H Q
theorem GH {K:W.Frag}:GI K [.ref p] H Q=IC K p H Q (H p):=rfl
theorem Kx {K:W.Frag}:IC K p H Q (some (.rng i j))=((-(2 ^ 62)<=i/\i<2 ^ 62/\-(2 ^ 62)<=j/\j<2 ^ 62)/\(j-i).toNat<=1000000/\∀l,H l=none->Q (.ref l) (upd H l (.lst (lU i (j-i).toNat)))):=rfl
theorem HH:∀{xs:List V} {us:List Value},xs.length=us.length->(∀(k:Nat) x u,xs[k]?=some x->us[k]?=some u->RelV x u)->Vals xs us
 | [],[],_,_=> .nil
 | [],_::_,h,_=>by trivial
 |_::_,[],h,_=>by trivial
 |x::xs,u::us,h,hr=> .cons (hr 0 x u rfl rfl) (HH (by simpa using h) fun k a b ha i=>hr (k+1) a b (‹_›) (‹_›))
theorem Hc (h:ItemsOf (fun k v=> ∃t,v = .int (i+k*1) t) acc n):Vals (lU i n) acc.toList:=by
 refine HH (by simp[lU,h.1]) fun k x u hx q=>?_;have hk:=by
  have:=(ek.mp hx).1;simpa [lU] using this
 obtain⟨t,rfl⟩:=h.2 k u (by simp_all);have:=by
  unfold lU at hx;rw[vr,XE hk] at hx;exact(Xp hx).symm
 rw[this];exact⟨t,by simp_all⟩
theorem Hv (K:W.Frag) (y:X.K=K) (hc:X.calm=true):bM X (.type "list") (GI K):=by
 intro z s σ H xs us Q I rs q;unfold GI at q;split at q
 ·rename_i p;unfold IC at q;split at q
  ·rename_i i j e;obtain⟨u,rfl,C⟩:=vals1 rs;cases C;obtain⟨⟨b1,P,U,F⟩,hn,q⟩:=q;obtain⟨t,u,v,E⟩:=((I.hok p _ e));refine call_list_range (n:=(j-i).toNat) (I.ok.hd hc) E (small_one b1 P U F) (by rw[rangeSize_one];split<;>lia) (by lia) fun G tk x O kp e1 it=>?_
   have Y:=Hc it;exact⟨.ref _,_,I.laid kp (cm _) (show dJ _ _ _ G _ (.lst _) from⟨by rw[fR];simp[lU];lia,_,O,Y,‹_›⟩),rfl,q _ (I.hok.fresh (cm _))⟩
  ·exact AZ K y _ s σ H _ us Q I rs q
 ·exact AZ K y _ s σ H _ us Q I rs q
structure QE (X:Cx) (e:Expr) (t:TE):Prop where
 h:PE X e t
structure QS (X:Cx) (st:Stmt) (t:TS):Prop where
 h:PS X st t
structure Ox (X:Cx) (l:List Stmt) (t:TS):Prop where
 h:zU X l t
theorem km {st:Stmt} (h1:QS X st t):Ox X [st] t:=⟨ah h1.h⟩
theorem kS {st:Stmt} {rest:List Stmt} (h1:QS X st t) (i:Ox X rest u):Ox X (st::rest) (Ro t u):=⟨ae h1.h i.h⟩
theorem Tu (Pv:Nat->List V->St->Hp->Prop) (h0:Pv 0 [] σ H) (W:n<=sizeLine) (hl:∀i u σ H,Pv i u σ H->u.length<=i) (go:∀i u σ H,i<n->Pv i u σ H->J.go i H) (stop:∀u σ H,Pv n u σ H->J.stop n H) (step:∀i u σ H x v,i<n->Pv i u σ H->J.yld i H x v->g x σ v fun z P=>tt z P fun b G=>if b=true then te z G fun y U=>Pv (i+1) (u++ [y]) z U else Pv (i+1) u z G) (q:∀u σ H,Pv n u σ H->Q u H):n_ J g tt te σ H Q:=by
 refine⟨fun i m u C H'=>i<=n/\m=n-i/\Pv i u C H',⟨n,kv _,rfl,h0⟩,?_⟩;rintro i m u C H' ⟨X,rfl,hp⟩;by_cases e:i=n
 ·subst e;exact .inl ⟨stop _ _ _ hp,q _ _ _ hp⟩
 ·have E:i<n:=by lia
  refine .inr ⟨go i _ _ _ E hp,by grind,_,fun I F v O=>⟨_,by lia,by lia,rfl,O⟩,fun x v y=>step i u _ H' x _ E hp y⟩
theorem FR {K:W.Frag} (O:cI K H a xs) (E:xs.length<=sizeLine) (Pv:Nat->List V->St->Hp->Prop) (h0:Pv 0 [] σ H) (hl:∀i u σ H,Pv i u σ H->u.length<=i) (hk:∀i u σ H,Pv i u σ H->cI K H a xs) (step:∀(i:Nat) x u σ H,xs[i]?=some x->Pv i u σ H->g x σ H fun v z=>tt v z fun b C=>if b=true then te v C fun y I=>Pv (i+1) (u++ [y]) v I else Pv (i+1) u v C) (q:∀u σ H,Pv xs.length u σ H->Q u H):z_ K (.ref a) H fun J z=>n_ J g tt te σ z Q:=by
 refine .inl ⟨xs,O,Tu Pv h0 E hl (fun i u σ H G hp=>⟨xs,xs[i],hk _ _ _ _ hp,by simp_all⟩) (fun u σ H hp=>⟨xs,hk _ _ _ _ hp,cm _⟩) (fun i u σ H x F G hp y=>?_) q⟩;obtain⟨e,hx⟩:=y;subst e;exact step i x u σ _ (hx xs (hk _ _ _ _ hp)) hp
def Om (h:Heap) (e:Addr) (cls:Value) (dx q:Option Addr):Prop:=
 ∃i vs,h.get? e=some i/\i.cls=cls/\i.dict=dx/\i.data = .fields vs/\1<vs.size/\(match q with
  |none=>vs[1]?=some .none
  |some T=>vs[1]?=some (.ref T)/\T≠e/\∃oT ts,h.get? T=some oT/\oT.data = .fields ts/\ts[3]?=some .none)
structure VY (S:List Addr) (e:Addr) (tb:Option Addr) (h h':Heap):Prop where
 keep:∀b o,b ∉ S->b≠e->(∀T,tb=some T->b≠T)->h.get? b=some o->h'.get? b=some o
 slot:∀b o,b∈S->h.get? b=some o->∃sl,h'.get? b=some {o with slots:=sl}
 there:∀b o,h.get? b=some o->∃o',h'.get? b=some o'
theorem AL (f:Array Value->Array Value) (o:Obj):(Obj.mapFields f o).dict=o.dict:=by
 unfold Obj.mapFields;split<;>rfl
noncomputable abbrev RA (top:Value) (L:Addr) (i:List Value):Obj:={cls:= .type "traceback",dict:=none,data:= .fields ([top,.ref L,.none,rawInt L,.none]++(if i.isEmpty then List.replicate 6 Value.none else i)).toArray}
theorem IM {top:Value} (C:A.frames=some (env::outer)) (hl:s.heap.FunFrames base (env::outer)) (hf:env.frame=some L) (he:s.heap.get? e=some oe) (hd:oe.data = .fields vs) (hsz:1<vs.size) (h:∀G,Om G e oe.cls oe.dict (some s.heap.objs.size)->VY ((env::outer).filterMap (·.frame)) e none s.heap G->Q () {s with heap:=G}):
  wpAny M A (do let a<-frameOf env;let pl<-entryPlaceOf L had;let b<-EntryCells.newEntry top a .none (rawInt L) .none pl;setField (.ref e) 1 b) (fun _ W=>wpAny M A (setFlight (.ref e) none) Q E W) E s:=by
 have out:e ∉ (env::outer).filterMap _:=fun hm=>by
  obtain⟨_,Y,H,no⟩:=hl.mem hm;cases he.symm.trans H;exact no vs hd
 refine cc (wpAny_frameOf_fun C hl hf fun k v=>cc (wpAny_entryPlaceOf fun I P=>?_));refine cc (wpAny_newObj_type ?_ (P.sizeOk5 _ _ _ _ _));have U:=(v.2.1 e out).trans he;have i:=Yd (eM U);have F:=v.1;have y:=Obj.data_mapFields hd (·.setIfInBounds 1 (Value.ref k.objs.size));have e1:=cP (RA top L I) U;have e2:=Xy _ e1 (Obj.isFreed_of_fields y);have r2:=(mP (k.push (RA top L I)) (Obj.mapFields (·.setIfInBounds 1 (Value.ref k.objs.size))) (L1 i)).trans (fx k rfl);refine wpAny_setField e1 hd hsz ?_;refine cc (XI e2 y (x:= .ref k.objs.size) (by simp[hsz]) ?_);have X:=Xy (Obj.mapFields (·.setIfInBounds 3 ((none).elim Value.none fun f=>rawInt f))) r2 (Obj.isFreed_of_fields (Obj.data_mapFields rfl _));refine wpAny_setField r2 rfl (by simp_all) (h _ ?_ ?_)
 ·rw[<-F];refine⟨_,_,?_,Obj.cls_mapFields _ _,AL _ _,y,by simp[hsz],by simp[hsz],i,_,_,X,rfl,?_⟩
  ·rw[mP _ _ i];exact e2
  ·rfl
 ·have keep:∀b o,b≠e->k.get? b=some o->(((k.push (RA top L I)).update e (Obj.mapFields (·.setIfInBounds 1 (Value.ref k.objs.size)))).update _ (Obj.mapFields (·.setIfInBounds 3 ((none).elim Value.none fun f=>rawInt f)))).get? b=some o:=fun b o ne u=>by
   rw[mP _ _ (Yd (eM u)),mP _ _ (L1 ne)];exact cP _ u
  refine⟨fun b o O ne _ u=>keep b o ne ((v.2.1 b O).trans u),fun b o O u=>?_,fun b o u=>?_⟩
  ·obtain⟨sl,q⟩:=v.2.2 b o u;exact⟨sl,keep b _ (fun z=>out (z▸O)) q⟩
  ·by_cases z:b=e
   ·subst z;rw[mP _ _ i];exact⟨_,e2⟩
   ·obtain⟨sl,q⟩:=v.2.2 b o u;exact⟨_,keep b _ z q⟩
theorem MM (v:A.frames=some (env::outer)) (hl:s.heap.FunFrames base (env::outer)) (hf:env.frame=some L) (hx:Om s.heap e cls dx H) (h:∀y,Om y e cls dx (some s.heap.objs.size)->VY ((env::outer).filterMap (·.frame)) e H s.heap y->Q () {s with heap:=y}):wpAny M A (noteFrame (.ref e) env) (fun _ P=>wpAny M A (setFlight (.ref e) none) Q E P) E s:=by
 obtain⟨W,vs,he,rfl,rfl,hd,hsz,ht⟩:=hx;unfold noteFrame;simp only[hf];cases H with
 |none=>
  refine cc (XI he hd ht ?_);exact IM v hl hf he hd hsz h
 |some T=>
  obtain⟨h1,ne,oT,ts,F,dT,I⟩:=ht;have apart:∀b o,s.heap.get? b=some o->(∀ws,o.data≠ .fields ws)->b≠T:=fun b o u no z=>by
   simp_all
  have out:T ∉ (env::outer).filterMap _:=fun hm=>by
   obtain⟨_,U,G,no⟩:=hl.mem hm;exact apart T U G no rfl
  refine cc (XI he hd h1 ?_);refine cc (XI F dT I ?_);refine cc (wpAny_setField F dT (Array.getElem?_eq_some_iff.mp I).1 ?_);have i:∀b,b≠T->(s.heap.update T (Obj.mapFields (·.setIfInBounds 3 Value.none))).get? b=s.heap.get? b:=fun b z=>mP _ _ (L1 z);have self:=Xy (Obj.mapFields (·.setIfInBounds 3 Value.none)) F (Obj.isFreed_of_fields (Obj.data_mapFields dT _));have fr:=hl.of_keeps fun b o u no=>⟨o,(i b (apart b o u no)).trans u,rfl⟩;refine IM v fr hf ((i e (L1 ne)).trans he) hd hsz fun y x k=>?_;have sz:(s.heap.update T (Obj.mapFields (·.setIfInBounds 3 Value.none))).objs.size=s.heap.objs.size:=Heap.size_update ..;rw[sz] at x;refine h y x ⟨fun b o C z O u=>k.keep b o C z (fun _ q=>by cases q) ((i b (O T rfl)).trans u),fun b o C u=>k.slot b o C ((i b (fun q=>out (q▸C))).trans u),fun b o u=>?_⟩;by_cases q:b=T
  ·exact q▸k.there _ _ self
  ·exact k.there b o ((i b q).trans u)
theorem Ky (q:A.frames=some (env::outer)) (hl:s.heap.FunFrames base (env::outer)) (hf:env.frame=some L) (hx:Om s.heap e cls dx tb) (h:∀i,Om i e cls dx (some s.heap.objs.size)->VY ((env::outer).filterMap (·.frame)) e tb s.heap i->Q () {s with heap:=i}):wpAny M A (leaving env (.ref e)) Q E s:=cc (MM q hl hf hx h)
def Eu (P:Program) (w:World):Ga:=fun outer H s E e i=> ∃q cls dx T H',e = .ref q/\i.os=s.os/\AllBare i.gens/\Un (frs outer) [] H H' s.heap i.heap/\va P w H' i.heap/\Om i.heap q cls dx (some T)/\
 (s.heap.get? q=none/\s.heap.get? T=none/\H' q=none/\H' T=none)/\E cls dx H'
noncomputable instance {P:Program} {w:World}:Quiet (Eu P w):=⟨fun X pins σ H s e s' I h=>by
 obtain⟨_,_,_,_,_,_,_,_,_,_,_,_,h⟩:=h;exact h.elim⟩
structure Rg (X:Cx) (pins:List (Addr×Obj)) (σ:St) (H:Hp) (s:Shared) (ea:Addr) (cls:Value) (dx tb:Option Addr):Prop where
 inv:Inv X pins σ H s
 ex:Om s.heap ea cls dx tb
 n0:X.s₀.heap.get? ea=none
 nH:H ea=none
 tbs:∀T,tb=some T->X.s₀.heap.get? T=none/\H T=none
 apart:∀p∈X.pn++pins,p.1≠ea/\∀T,tb=some T->p.1≠T
def Rz (X:Cx) (E:XK):Prop:= ∀i σ H s q cls dx u,Rg X i σ H s q cls dx u->E cls dx H->X.xe (.ref q) s
theorem tu {H:Hp} {s:Shared} {P:Program} {w:World} {K:W.Frag} {mg:Str->Option Value} {base:Heap} {N:List Str} {qual:Str} {scope:Scope} {f:Addr} {cd:Value} {A:Around} {outer:List Env} {E:XK}:Rz (AV (Eu P w) P w K mg base N qual scope f cd A outer s H E) E:=by
  intro pins σ Y s1 y cls dx Z F hE;have I:=F.inv;refine Ky (by have:=I.ok.frames;exact this) (by have:=I.stack;exact this) rfl F.ex fun h' hx hk=>?_;have v:=I.zB;have U:∀b,b∈(envOfC qual scope _ f cd::outer).filterMap (·.frame)->b=s.heap.objs.size\/b∈frs _:=fun b x=>by
    exact(cR.mp x).elim .inl .inr
  have Q:∀b o,s.heap.get? b=some o->b≠y/\(∀T,Z=some T->b≠T)/\b≠s.heap.objs.size:=fun b o e=>
    ⟨
     fun q=>(by have h1:s.heap.get? y=none:=F.n0;rw[q,h1] at e;cases e),
     fun T G q=>(by have h1:s.heap.get? T=none:=(F.tbs T G).1;rw[q,h1] at e;cases e),
     ib (eM e)⟩
  have B:=I.base;refine⟨y,cls,dx,_,Y,rfl,I.os,I.bare,⟨fun b o q n x hx=>?_,fun b o q n x hx=>?_,B.free,fun b o q hx=>?_,B.tups,B.frzs,B.tbls⟩,fun b o q=>?_,hx,⟨F.n0,?_,F.nH,I.hok.fresh (cm _)⟩,hE⟩
  ·
    obtain⟨n1,n2,n3⟩:=Q b o q;exact hk.keep b o (fun hm=>(U b hm).elim n3 x) n1 n2 (B.keep b o q n x hx)
  ·
    obtain⟨sl,e⟩:=B.slot b o q n x hx;obtain⟨C,e'⟩:=hk.slot b _ (by exact hQ _ x) e;exact⟨C,e'⟩
  ·
    obtain⟨o',e⟩:=B.there b o q hx;exact hk.there b o' e
  · have i:∀c u,Y c=some u->c ∉ (envOfC _ _ _ f cd::outer).filterMap _/\c≠y/\∀T,Z=some T->c≠T:=fun c u e=>
      ⟨fun hm=>(by rw[v c hm] at e;cases e),fun z=>(by rw[z,F.nH] at e;cases e),fun T G z=>(by rw[z,(F.tbs T G).2] at e;cases e)⟩
    refine(I.hok b o q).stay (fun c u hc e=>?_) (fun c e=>e) (fun c xs e=>e);rcases hc with z|z
    ·
      obtain⟨m1,O,X⟩:=i b o q;subst z;exact hk.keep _ u m1 O X e
    ·
      obtain⟨m1,O,X⟩:=i c _ z;exact hk.keep c u m1 O X e
  · exact XU I.sz
theorem NC (hex:X.ex= []) (I:Inv X pins σ H s) (h:Eu X.prog X.w X.stack H s E e s'):∃i cls dx T H',e = .ref i/\Rg X pins σ H' s' i cls dx (some T)/\E cls dx H':=by
 obtain⟨i,cls,dx,T,H',rfl,os,bare,un,hok,hx,⟨n1,v,C,F⟩,x⟩:=h;have u:=I.call' os un hok bare (fun b z=>absurd z (by simp));have old:∀b,s.heap.get? b=none->X.s₀.heap.get? b=none:=fun b y=>by
  cases q:X.s₀.heap.get? b with
  |none=>rfl
  |some o=>
   obtain⟨G,e⟩:=I.base.there b o q (by simp_all);rw[y] at e;cases e
 refine⟨i,cls,dx,T,H',rfl,⟨u,hx,old i n1,C,(fun T' e=>by simp_all),fun p hp=>⟨fun z=>?_,fun T' e z=>?_⟩⟩,x⟩
 ·have q:=(I.pin p hp).1;rw[z,n1] at q;cases q
 ·cases e;have q:=(I.pin p hp).1;rw[z,v] at q;cases q
theorem Rz.passes (hex:X.ex= []) (h:Rz X E):Passes (Eu X.prog X.w) X E:=fun i σ H s e x I q=>by
 obtain⟨v,cls,dx,T,H',rfl,F,u⟩:=NC hex I q;exact h _ _ _ _ _ _ _ _ F u
theorem yS.fnX {K:W.Frag} {st:Stmt} (F:yS K mg x st) (S:jl N ps (a9 st)) (G:∀(kV doc pm:Value) (an:Option Addr) (i ct:Value) (us:List Value),us.length=ps.length->bindArgs (W.fnOf x x (eY st) (c7 st) (a9 st) .none kV doc pm an i ct) ⟨us,[]⟩=pure (ps.zip us)) (len:∀vs H Q E,sp vs H Q E->vs.length=ps.length) (q:∀(f:Addr) (i:Value) (A:Around) (outer:List Env) (s:Shared) (H:Hp) (vs:List V) (Q:VK) (E:XK),cY k (A.deeper (envOfC x (a9 st) s.heap.objs.size f i))->sp vs H Q E->
   ∃t,zU (AV CX P w K mg base N x (a9 st) f i A outer s H E) (c7 st) t/\t {nx:=fun _ H'=>Q .non H',rt:=Q} (start N vs) H):FnAt P w K mg base CX x (k+1) ps sp:=by
 obtain⟨f,I,F,hm⟩:=F;have bd:=F.binds G;have kp:=F.kp;obtain⟨C,od,kV,doc,pm,an,i,ct,y,rfl,lk,u⟩:=F.ex;exact⟨f,_,IJ lk u S len fun A outer s H vs Q E z v=>q f _ A _ s H vs Q E z v,hm,kp,bd,C,od,y,lk⟩
theorem dJ.there (x:dJ P w H h a o):∃u,h.get? a=some u:=by
 cases o with
 |lst xs=>obtain⟨_,_,_,_,e⟩:=x;exact⟨_,e⟩
 |tup xs=>obtain⟨_,_,_,⟨o,e,_⟩⟩:=x;exact⟨_,e⟩
 |dK i=>obtain⟨_,_,_,_,o,_,_,e,_⟩:=x;exact⟨_,e⟩
 |dT i=>obtain⟨_,_,_,_,o,_,_,e,_⟩:=x;exact⟨_,e⟩
 |set S n=>obtain⟨o,_,_,_,e,_⟩:=x;exact⟨_,e⟩
 |ins C dx fs=>obtain⟨_,_,_,e,_⟩:=x;exact⟨_,e⟩
 |own y=>trivial
 |xd fs=>obtain⟨_,⟨_,_,_,e,_⟩,_⟩:=x;exact⟨_,e⟩
 |rng lo q=>obtain⟨_,_,_,e⟩:=x;exact⟨_,e⟩
 |frz ob u=>obtain⟨e,_⟩:=x;exact⟨_,e⟩
 |tbl v=>exact⟨_,((x))⟩
 |met f y=>exact⟨_,((x))⟩
 |ext z=>obtain⟨_,e,_⟩:=x;exact e
noncomputable abbrev CP:List Value:=[.type "ValueError",.type "Exception",.type "BaseException",.type "object"]
structure F5 (K:W.Frag) (mg:Str->Option Value) (x:Str) (C R:Addr) (ini:Option Value):Prop where
 Sh:mg x=some (.ref C)
 cls:∃N nm q bs sn sub ab col dd k0 k1 k2 k3 k5,K.lookup C=some (excClassObj nm q C N bs (.ref R::CP) true sn sub ab col dd k0 k1 k2 k3 k5 "ValueError.__new__")/\W.nsOkIn K N=true/\W.nsIn K N "__init__" = some ini/\W.nsIn K N "__setattr__" = some none
 road:∃c0 dd cd sl,K.lookup R=some {cls:=c0,dict:=dd,data:= .cls cd,slots:=sl}/\W.nsOkIn K cd.ns=true/\W.nsIn K cd.ns "__init__" = some none/\W.nsIn K cd.ns "__setattr__" = some none
theorem OD {K:W.Frag} {R:Addr} {k1:Option Value} (X:K.In h) (G:h.Ns mainGlobals mg) (a:W.nsIn K mainGlobals x=some (some (.ref C))) (l:K.lookup C=some (excClassObj nm q C N bs (.ref R::CP) true sn sub ab col dd k0 k1 k2 k3 k5 "ValueError.__new__")) (o:W.nsOkIn K N=true) (i:W.nsIn K N "__init__" = some ini) (t:W.nsIn K N "__setattr__" = some none) (u:K.lookup R=some {cls:=c0,dict:=ddR,data:= .cls cd,slots:=sl}) (v:W.nsOkIn K cd.ns=true) (y:W.nsIn K cd.ns "__init__" = some none) (t':W.nsIn K cd.ns "__setattr__" = some none):F5 K mg x C R ini:=
 ⟨W.mg_of X G a,⟨N,nm,q,bs,sn,sub,ab,col,dd,k0,k1,k2,k3,k5,l,o,i,t⟩,⟨c0,ddR,cd,sl,u,v,y,t'⟩⟩
theorem F5.tail {K:W.Frag} {R:Addr} (c:F5 K mg x C R ini) (X:K.In h):OwnTail h CP (.ref R::CP):=by
 obtain⟨q,dd,cd,sl,l,o,i,_⟩:=c.road;exact .own (X _ _ l) (.of_isNs (W.isNs_of_in X o)) (W.nsMap_none_of_in X o i) .base
theorem Ul {K:W.Frag} {R:Addr} (X:K.In s.heap) (hx:s.heap.get? x=some ⟨.ref C,none,.fields vs,#[]⟩) (hc:W.clsIn K C=some cd) (hm:cd.mro = .ref C :: .ref R::CP) (hd:cd.hasDict=true) (hs:W.findIn K (.ref C) "__setattr__" = some (some (.builtin "object.__setattr__"))) (ha:W.findIn K (.ref C) name=some none) (h:∀i t',i.get? x=some ⟨.ref C,some s.heap.objs.size,.fields vs,#[]⟩->i.Ns1 s.heap.objs.size (fun y=>if y=name then some v else none)->(∀b o,b≠x->s.heap.get? b=some o->i.get? b=some o)->Q () {s with heap:=i,toks:=t'}):
  wpAny (model prog w) A (setAttr (.ref x) name v) Q E s:=by
 have I:W.InstAt s.heap x ⟨.ref C,none,.fields vs,#[]⟩ C none:=⟨hx,rfl,rfl,True.intro⟩;have F:=PySem.F.store_object;have lc:W.Looks (model prog w) s.heap (classData C) cd:=W.looks_clsIn X hc;have sub:W.Looks (model prog w) s.heap (isInstance (.ref x) (.type "object")) true:=I.type.andThen (X4 X (by unfold W.mroIn;rw[hc,Option.bind_some,hm];rfl));have mro:W.Looks (model prog w) s.heap (mroOf (.ref C)) cd.mro:=lc.andThen .now;refine W.set_plain X I hs ?_;refine XY F.slot.plain F.entry ?_;refine @W.check_slot (model prog w) _ _ {s with toks:=s.toks+1} "object.__setattr__" "object" "__setattr__" (.ref x) [.str name s.toks,v] [] _ F.kind F.split sub (F.args (.ref x) (.str name s.toks) v) ?_;rw[W.osa_eq,refuse_eq];refine cc (cc (I.type.here (s:={s with toks:=s.toks+1}) (cc (mro.here (s:={s with toks:=s.toks+1}) ?_))));rw[hm,refuseLoop_ref,refuseLoop_ref,PySem.F.store_ValueError.passes];refine de (cc (I.type.here (s:={s with toks:=s.toks+1}) (cc ((Yp X ha).here (s:={s with toks:=s.toks+1}) (cc (de ?_))))));refine cc (de (cc (cc (Yo (s:={s with toks:=s.toks+1}) hx (cc (lc.here (s:={s with toks:=s.toks+1}) ?_))))));rw[hd,a5 (by decide)];have P:x≠s.heap.objs.size:=ib (eM hx);have h1:(s.heap.push {cls:= .type "dict",data:= .dict #[]}).get? x=some ⟨.ref C,none,.fields vs,#[]⟩:=cP _ hx;have Z:=Xy (fun o:Obj=>{cls:=o.cls,dict:=some s.heap.objs.size,data:=o.data,slots:=o.slots}) h1 rfl;have h3:((s.heap.push {cls:= .type "dict",data:= .dict #[]}).update x fun o=>{cls:=o.cls,dict:=some s.heap.objs.size,data:=o.data,slots:=o.slots}).get? s.heap.objs.size=some {cls:= .type "dict",data:= .dict #[]}:=
  (mP _ _ P).trans (fx _ rfl)
 have hn:((s.heap.push {cls:= .type "dict",data:= .dict #[]}).update x fun o=>{cls:=o.cls,dict:=some s.heap.objs.size,data:=o.data,slots:=o.slots}).Ns s.heap.objs.size (fun _=>none):=
  ⟨_,#[],_,h3,rfl,fun e he=>absurd he (by simp),fun _=>rfl⟩
 show wpAny _ _ (alloc {cls:= .type "dict",data:= .dict #[]} >>= fun d=>update x (fun o=>{cls:=o.cls,dict:=some d,data:=o.data,slots:=o.slots}) >>= fun _=>dictMade (.ref C) x d) _ _ _;refine cc (wpAny_alloc ?_);refine cc (wpAny_update (s:={s with heap:=s.heap.push {cls:= .type "dict",data:= .dict #[]},toks:=s.toks+1}) h1 ?_);refine de ?_;show wpAny _ _ (Builtin.ObjectAttr.storeInDict s.heap.objs.size (.str name s.toks) name v) _ _ _;unfold Builtin.ObjectAttr.storeInDict Builtin.ObjectAttr.newKeyGuard;refine cc (de (cc (wpAny_nsSet1 (Heap.Ns1.of_empty hn) fun i O G=>?_)));obtain⟨oD,Y,epD,z,q,u⟩:=O.count (PySem.Within.cons name v PySem.Within.nil);refine cc (wpAny_lookBehind z (by rw[q];exact pastItsLine_dict (fv u (by rw[tH,List.length_nil,fR];lia))) ?_);refine de (h i _ ((G.2 x P).trans Z) ?_ fun b o ne H=>?_)
 ·obtain⟨o',es,ep,e1,e2,e3,U,e4⟩:=O;exact⟨o',es,ep,e1,e2,e3,U,fun y=>by rw[e4 y]⟩
 ·exact(G.2 b (ib (eM H))).trans ((mP _ _ (L1 ne)).trans (cP _ H))
end
section
variable {os:OsState} {K:W.Frag} {k1:Option Value}
theorem OL {rest:List Value} (X:K.In h) (T:OwnTail h CP bm) (i:h.get? C=some (excClassObj nm q C N bs bm hdct sn sub ab col dd k0 k1 k2 k3 k5 "ValueError.__new__")) (I:W.findIn K (.ref C) "__init__" = some (some (.ref fI))) (hf:W.typeIn K (.ref fI)=some (.type "function")) (u:rest.length<=sizeLine) (U:∀y e,Heap.MadeExcOf h y e (.ref C) rest->wpAny (model prog w) A (call (.ref fI) (.ref e::rest)) (fun r x=>r = .none/\Q (.done (.ret (.ref e))) x) E ⟨y,g,d,t,os⟩):
  wpAny (model prog w) A (Builtin.«type.__call__» ⟨.ref C::rest,[]⟩) Q E ⟨h,g,d,t,os⟩:=by
 have F:=PySem.F.excBase_ValueError
 repeat (first|with_reducible refine XN i ?_|with_reducible refine wpAny_madeBy_exc i ?_|wp_step)
 refine codeAny_call_builtin_code (Code.quiet_builtin _ F.quiet) (wpAny_check_new_subT F T i ?_);refine codeAny_exc_new_subT F T i ?_ u;show wpAny _ _ _ _ _ _;have up:∀b o,h.get? b=some o->((h.push {cls:= .type "tuple",data:= .seq rest.toArray}).push {cls:= .ref C,data:= .fields #[.ref h.objs.size,.none,.none,.none,.bool false,.none]}).get? b=some o:=fun b o e=>cP _ (cP _ e);have H:=up _ _ i;have v:=X.keeps up;have e2:((h.push {cls:= .type "tuple",data:= .seq rest.toArray}).push {cls:= .ref C,data:= .fields #[.ref h.objs.size,.none,.none,.none,.bool false,.none]}).get? (h.objs.size+1)=some {cls:= .ref C,data:= .fields #[.ref h.objs.size,.none,.none,.none,.bool false,.none]}:=by heap_get
 have t2:((h.push {cls:= .type "tuple",data:= .seq rest.toArray}).push {cls:= .ref C,data:= .fields #[.ref h.objs.size,.none,.none,.none,.bool false,.none]}).get? h.objs.size=some {cls:= .type "tuple",data:= .seq rest.toArray}:=cP _ (Heap.get?_push_at rfl rfl);have made:Heap.MadeExcOf h ((h.push {cls:= .type "tuple",data:= .seq rest.toArray}).push {cls:= .ref C,data:= .fields #[.ref h.objs.size,.none,.none,.none,.bool false,.none]}) (h.objs.size+1) (.ref C) rest:=
  ⟨up,XU (Nat.le_succ _),h.objs.size,e2,XU (cm _),t2⟩
 have Y:=U _ _ made;have P:(Value.ref C::bm).contains (.ref C)=true:=by simp
 generalize(h.push {cls:= .type "tuple",data:= .seq rest.toArray}).push {cls:= .ref C,data:= .fields #[.ref h.objs.size,.none,.none,.none,.bool false,.none]}=G at*
 unfold isInstance
 repeat (first|with_reducible refine XN e2 ?_|(with_reducible refine wpAny_isSubtype_exc H ?_;rw[P])|wp_step)
 show wpAny _ _ (typeLookup (.ref C) _) _ _ _;refine(Yp v I).here (s:=⟨G,g,d,t,os⟩) ?_;refine Xq (cc ((W.bind_fn v _ hf).here (s:=⟨G,g,d,t,os⟩) (cc (mj Y (fun r x u=>?_) fun _ _ z=>z))));obtain⟨rfl,O⟩:=u
 wp_walk
 exact O
theorem Tv {rest:List Value} (X:K.In h) (T:OwnTail h CP bm) (u:h.get? C=some (excClassObj nm q C N bs bm hdct sn sub ab col dd k0 k1 k2 k3 k5 "ValueError.__new__")) (v:W.findIn K (.ref C) "__init__" = some (some (.ref fI))) (hf:W.typeIn K (.ref fI)=some (.type "function")) (y:rest.length<=sizeLine) (x:∀i e,Heap.MadeExcOf h i e (.ref C) rest->wpAny (model prog w) (A.under (.builtin "type.__call__" ⟨.ref C::rest,[]⟩)) (call (.ref fI) (.ref e::rest)) (fun r z=>r = .none/\Q (.ref e) z) E ⟨i,g,d,t,os⟩):
  wpAny (model prog w) A (call (.ref C) rest) Q E ⟨h,g,d,t,os⟩:=by
 have F:=tc_lookup;have G:=tc_bind (.ref C);have H:(⟨h,g,d,t,os⟩:Shared).TypeIs (.ref C) "type" :=⟨_,u,rfl⟩;refine Yq (codeAny_of_tree ?_);show wpAny _ _ (callAny (.ref C) _) _ _ _
 repeat (any_goals (first|assumption|with_reducible refine XN u ?_|wp_step))
 refine⟨rfl,?_⟩;refine codeAny_call_builtin_at (Code.quiet_builtin _ (by decide+kernel)) entry_typeCall (wpAny_check_type_call_sub u (OL X T u v hf y fun i e hm=>?_));exact x i e hm
theorem OV {prog:Program} {w:World} {A:Around} {E:Value->Shared->Prop} {nm q:Str} {C N:Addr} {bs bm:List Value} {hdct:Bool} {sn:List Str} {sub:List Value} {ab:Bool} {col:Option Bool} {dd:Option Addr} {k0 k2 k3 k5:Option Value} {s:Shared} {env:Env} {x:Sem Value} {Q:Flow->Shared->Prop} (u:bm.contains (.type "BaseException")=true) (hh:A.handled=none)
  (hx:wpAny (model prog w) A x (fun v i=> ∃e dx vs,v = .ref e/\i.heap.get? C=some (excClassObj nm q C N bs bm hdct sn sub ab col dd k0 k1 k2 k3 k5 "ValueError.__new__")/\i.heap.get? e=some ⟨.ref C,dx,.fields vs,#[]⟩/\vs[1]?=some .none/\E (.ref e) i) E s):
  wpAny (model prog w) A (raiseStmt env (some x) none) Q E s:=by
 have G:(Value.ref C::bm).contains (.type "BaseException")=true:=by rw[List.contains_cons,u,Bool.or_true]
 unfold raiseStmt;refine cc (mj hx (fun v i y=>?_) fun _ _ x=>x);obtain⟨e,dx,vs,rfl,z,he,h1,F⟩:=y;obtain⟨hp,g,d,tk,os⟩:=i
 repeat (first|with_reducible refine XN he ?_|with_reducible refine XN z ?_|(with_reducible refine wpAny_isSubtype_exc z ?_;rw[G])|wp_step)
 rw[h1];refine de ?_;rw[a5 (by decide)];exact de (wpAny_raiseNew_none hh F)
end
mutual
def tI (e C:Addr) (dx:Option Addr):Heap->Prop:=fun h=> ∃vs:Array Value,h.get? e=some ⟨.ref C,dx,.fields vs,#[]⟩/\1<vs.size/\vs[1]?=some .none
theorem ND (x:tI e C dx h):dJ P w H h e (.ext (tI e C dx)):=
 ⟨x,x.elim fun vs q=>⟨_,q.1⟩,fun h1 u i k=>by obtain⟨vs,q,r⟩:=i;exact⟨vs,k _ q,r⟩⟩
noncomputable def mz (H:Hp) (e:Addr):Hp:=fun b=>if b=e then none else H b
theorem gz (n:b≠e):mz H e b=H b:=by unfold mz;rw[a5 n]
theorem AK:mz H e e=none:=by unfold mz;rw[bc rfl]
theorem Inv.drop (I:Inv X pins σ H s) (h:H e=some (.ext φ)):Inv X pins σ (mz H e) s:=by
 have ne:∀{b:Addr} {o:HO},H b=some o->(∀i,o≠ .ext i)->b≠e:=fun{b o} q n z=>by
  grind
 refine I.un ⟨fun b o q n _ _=>q,fun b o q n _ _=>⟨_,q⟩,fun b o q n _=>?_,fun b o q _=>⟨o,q⟩,fun b xs q=>?_,fun b o u q=>?_,fun b v q=>⟨#[],?_⟩⟩ fun b o q=>?_
 ·unfold mz;split
  ·rfl
  ·exact n
 ·rw[gz (ne q (by simp))];exact q
 ·rw[gz (ne q (by simp))];exact q
 ·rw[gz (ne q (by simp)),q];simp
 ·have nb:b≠e:=fun z=>by rw[z,AK] at q;cases q
  rw[gz nb] at q;exact(I.hok b o q).stay (fun c u _ z=>z) (fun c z=>by rw[gz (ne z (by simp))];exact z) fun c xs z=>by rw[gz (ne z (by simp))];exact z
theorem Inv.setx (I:Inv X pins σ H s) (O:H e=some (.ext (tI e C none))) (he:i.get? e=some ⟨.ref C,some s.heap.objs.size,.fields vs,#[]⟩) (F:1<vs.size) (G:vs[1]?=some .none) (hn:i.Ns1 s.heap.objs.size (fun z=>if z=f then some u else none)) (k:∀b o,b≠e->s.heap.get? b=some o->i.get? b=some o) (E:RelV y u):
  Inv X pins σ (upd (upd H s.heap.objs.size (.xd [(f,y)])) e (.ext (tI e C (some s.heap.objs.size)))) {s with heap:=i,toks:=t'}:=by
 have Q:=I.hok.fresh (cm _);have nn:∀{b:Addr} {o:HO},H b=some o->b≠s.heap.objs.size:=fun{b o} q z=>by simp_all
 have ne:∀{b:Addr} {o:HO},H b=some o->(∀x,o≠ .ext x)->b≠e:=fun{b o} q n z=>by
  grind
 have fr:∀b,H b=none->b≠e:=fun b q z=>by lia
 refine I.un ⟨fun b o q n _ _=>k b o (fr b n) q,fun b o q n _ _=>⟨_,k b o (fr b n) q⟩,fun b o q n _=>?_,fun b o q _=>?_,fun b xs q=>?_,fun b o u q=>?_,fun b P q=>⟨#[],?_⟩⟩ fun b o q=>?_
 ·rw[af (fr b n),af (ib (eM q))];exact n
 ·grind
 ·rw[af (ne q (by simp)),af (nn q)];exact q
 ·rw[af (ne q (by simp)),af (nn q)];exact q
 ·rw[af (ne q (by simp)),af (nn q),q];simp
 ·by_cases z:b=e
  ·subst z;rw[ag] at q;cases q;exact ND ⟨vs,he,F,G⟩
  ·rw[af z] at q;by_cases v:b=s.heap.objs.size
   ·subst v;rw[ag] at q;cases q;refine⟨_,hn,fun g=>?_⟩;by_cases c:g=f
    ·rw[c];simp only[List.lookup,BEq.rfl];exact E
    ·rw[a5 c];have:=Xi.mpr c;simp only[List.lookup,this];exact True.intro
   ·rw[af v] at q;refine(I.hok b o q).stay (fun c u hc g=>?_) (fun c g=>by rw[af (ne g (by simp)),af (nn g)];exact g) fun c xs g=>by rw[af (ne g (by simp)),af (nn g)];exact g
    rcases hc with r|r
    ·exact k c u (r▸z) g
    ·exact k c u (ne r (by simp)) g
structure F4 (K:W.Frag) (C:Addr) (f:Str):Prop where
 sa:W.findIn K (.ref C) "__setattr__" = some (some (.builtin "object.__setattr__"))
 no:W.findIn K (.ref C) f=some none
def LR (C:Addr) (v q:TE) (f:Str):TS:=fun D σ H=>q σ H fun y u=>v σ u fun x i=> ∃e,x = .ref e/\i e=some (.ext (tI e C none))/\∀dx,i dx=none->D.nx σ (upd (upd i dx (.xd [(f,y)])) e (.ext (tI e C (some dx))))
theorem F5.cd {K:W.Frag} {R:Addr} (c:F5 K mg x C R ini):∃cd:ClassData,W.clsIn K C=some cd/\cd.mro = .ref C :: .ref R::CP/\cd.hasDict=true:=by
 obtain⟨N,nm,q,bs,sn,sub,ab,col,dd,k0,k1,k2,k3,k5,l,_⟩:=c.cls;unfold W.clsIn;rw[l];exact⟨_,rfl,rfl,rfl⟩
theorem Pc {R:Addr} (c:F5 X.K X.mg x C R ini) (m:F4 X.K C f) (ha:PE X o ta) (G:PE X value tv) (hs:autoParam (kZ value=false) qqr):PS X (.Assign [.Attribute o f pos'] value pos) (LR C ta tv f):=by
 intro z s σ H D I h;obtain⟨cd,hc,hm,hd⟩:=c.cd;refine XG (fL (G _ s σ H _ I h) fun u s1 y E F Q q=>thn (ha _ s1 σ E _ F q) fun U s2 ⟨x,H2,i,P,e,ex,v,q2⟩=>?_) (kH hs);subst ex;obtain rfl:U=Value.ref e:=P;obtain⟨⟨vs,he,W,Z⟩,_⟩:=i.hok e _ v;refine Ul i.lV he hc hm hd m.sa m.no fun h' t' g1 O Y=>⟨σ,_,i.setx v g1 W Z O Y Q,q2 _ (i.hok.fresh (cm _))⟩
def CQ (C:Addr) (sp:Sp) (E:XK) (u:TA):TS:=fun _ σ H=>u σ H fun vs i=> ∀e,i e=none->sp (.ref e::vs) (upd i e (.ext (tI e C none))) (fun v q=>v = .non/\∃dx,q e=some (.ext (tI e C dx))/\E (.ref C) dx (mz q e)) E0
theorem Inv.newx (I:Inv X pins σ H s) (he:H e=none) (hm:Heap.MadeExcOf s.heap i e (.ref C) args):Inv X pins σ (upd H e (.ext (tI e C none))) {s with heap:=i}:=by
 obtain⟨t,v,_,_⟩:=hm.there;have ne:∀{b:Addr} {o:HO},H b=some o->b≠e:=fun{b o} q z=>by simp_all
 refine I.un ⟨fun b o q n _ _=>hm.keeps b o q,fun b o q n _ _=>⟨_,hm.keeps b o q⟩,fun b o q n _=>?_,fun b o q _=>⟨o,hm.keeps b o q⟩,fun b xs q=>?_,fun b o u q=>?_,fun b x q=>⟨#[],?_⟩⟩ fun b o q=>?_
 ·rw[af (fun z=>by rw[z,hm.new] at q;cases q)];exact n
 ·rw[af (ne q)];exact q
 ·rw[af (ne q)];exact q
 ·rw[af (ne q),q];simp
 ·by_cases z:b=e
  ·subst z;rw[ag] at q;cases q;exact ND ⟨_,v,by show 1<6;decide,rfl⟩
  ·rw[af z] at q;exact(I.hok b o q).stay (fun c u _ g=>hm.keeps c u g) (fun c g=>by rw[af (ne g)];exact g) fun c xs g=>by rw[af (ne g)];exact g
theorem J5 {R:Addr} [Quiet CX] (c:F5 X.K X.mg x C R ini) (G:wC X.prog X.w X.K X.mg X.base CX C "__init__" k ps sp) (kp:W.keepIn X.K (.ref C)=true) (hr:cY (k+1) X.A) (hz:Rz X E) (hc:X.calm=true) (hex:X.ex= []) (hg:Gl X x) (ha:PA X (a::es) ta) (hdb:autoParam ((x == ("__debug__":Str))=false) qqd) (he:autoParam (starEach (a::es) X.env=(false,eval a X.env)::starEach es X.env) qqr) (Z:autoParam ((backTo cpos (starEach es X.env)).any (·.1)=false) qqr) (hlen:∀us:List Value,us.length+1=ps.length->us.length<=sizeLine:=by intro us h;simp at h;rw[fR];lia):
  PS X (.Raise (some (.Call (.Name x np) (a::es) [] cpos)) none pos) (CQ C sp E ta):=by
 intro pins s σ H D I h;obtain⟨f,fd,F,M,hb⟩:=G;obtain⟨N,nm,q,bs,sn,sub,ab,col,dd,k0,k1,k2,k3,k5,l,_⟩:=c.cls;refine cc (X2 ?_);refine OV (nm:=nm) (q:=q) (C:=C) (N:=N) (bs:=bs) (hdct:=true) (sn:=sn) (sub:=sub) (ab:=ab) (col:=col) (dd:=dd) (k0:=k0) (k1:=k1) (k2:=k2) (k3:=k3) (k5:=k5) ((c.tail I.lV).hasType (rfl)) (I.ok.hd hc) ?_;refine cc (mj (Xn (kz I hg c.Sh (Yh I.ok.mod.kin kp (fL (ha _ _ s σ H _ I h) fun us s1 vs H1 i r q1=>⟨i.lV,?_⟩) he Z) hdb)) (fun v s₃ O=>cc (X2 (de O))) fun _ _ z=>z);have T:=c.tail i.lV;have hC:=i.lV _ _ l;have Y:=by
  have e0:=(q1 _ (i.hok.fresh (cm _)));have e1:=F.len _ _ _ _ e0;have e2:=r.length;rw[tH] at e1;exact hlen us (by lia)
 refine Tv i.lV T hC M.at_ (zp.mp M.fn) Y fun h' e hm=>?_;have e0:H1 e=none:=by
  cases z:H1 e with
  |none=>rfl
  |some u=>
   obtain⟨o',P⟩:=(i.hok e u z).there;rw[hm.new] at P;cases P
 have n0:X.s₀.heap.get? e=none:=by
  cases z:X.s₀.heap.get? e with
  |none=>rfl
  |some o=>
   obtain⟨o',P⟩:=i.base.there e o z (by simp_all);rw[hm.new] at P;cases P
 have Q:=i.newx e0 hm;have hq:=q1 e e0;have r2:Vals (V.ref e::vs) _:= .cons rfl r;have hl:(Value.ref e::us++ []).length=ps.length:=by
  have z:=F.len _ _ _ _ hq;rw[hL,<-r2.length];exact z
 refine Yq (Yg (F.run _ _ _ _ _ _ _ _ E0 (hr.make C us []) (Q.Qj.make C us []) (by have z:=hb _ _ Q.lV hl;rw[hL] at z;exact z) r2 hq) fun r s' y=>?_);cases r with
 |error x=>exact Quiet.pass X _ σ _ _ x s' Q y
 |ok fl=>
  cases fl with
  |ret u=>
   obtain⟨v,H',U,rv,ev,dx,eH,hE⟩:=Q.after y;subst ev;obtain⟨⟨ws,oe,w1,w2⟩,_⟩:=U.hok e _ eH;exact⟨rv,e,dx,ws,rfl,U.lV _ _ l,oe,w2,hz _ _ _ _ _ _ _ none ⟨U.drop eH,⟨_,ws,oe,rfl,rfl,rfl,w1,w2⟩,n0,AK,(fun T z=>by cases z),fun p hp=>⟨fun z=>(by have q:=(i.pin p hp).1;rw[z,hm.new] at q;cases q),fun T z=>by cases z⟩⟩ hE⟩
  |next=>trivial
  |brk=>trivial
  |cont=>trivial
def IL (e:Addr) (cls:Value) (dx:Option Addr):Heap->Prop:=fun h=> ∃i vs,h.get? e=some i/\i.cls=cls/\i.dict=dx/\i.data = .fields vs
theorem Tg (x:IL e cls dx h):dJ P w H h e (.ext (IL e cls dx)):=
 ⟨x,x.elim fun i q=>q.elim fun vs q=>⟨_,q.1⟩,fun h1 v u k=>by obtain⟨i,vs,q,r⟩:=u;exact⟨i,vs,k _ q,r⟩⟩
def Tf (T:Addr):Heap->Prop:=fun h=> ∃o,h.get? T=some o
theorem Hq (x:Tf e h):dJ P w H h e (.ext (Tf e)):=
 ⟨x,x,fun h1 u i k=>by obtain⟨o,q⟩:=i;exact⟨o,k _ q⟩⟩
theorem Inv.track (I:Inv X pins σ H s) (n:H a=none) (n0:X.s₀.heap.get? a=none) (P:∀p∈X.pn++pins,p.1≠a) (y:∃o vs,s.heap.get? a=some o/\o.data = .fields vs) (k:dJ X.prog X.w (upd H a (.ext φ)) s.heap a (.ext φ)):Inv X pins σ (upd H a (.ext φ)) s:=by
 obtain⟨o,vs,y,hd⟩:=y;have ne:∀{b:Addr} {u:HO},H b=some u->b≠a:=fun{b u} q z=>by simp_all
 have nl:X.env.locals≠a:=fun z=>by
  obtain⟨m,⟨O,es,Q,e1,e2,_⟩,_⟩:=I.loc;rw[z,y] at e1;cases e1;rw[hd] at e2;cases e2
 have E:∀x c,X.env.cells.lookup x=some c->c≠a:=fun x c e z=>by
  obtain⟨v,O,e1,e2⟩:=I.cell x c e;rw[z,y] at e1;cases e1;rw[hd] at e2;cases e2
 refine⟨I.ok,I.os,I.bare,⟨I.base.keep,I.base.slot,fun b u q m hx=>?_,I.base.there,fun b xs q=>?_,fun b o u q=>?_,fun b G q=>?_⟩,I.loc,I.cell,?_,fun x c e=>?_,fun p hp=>?_,fun b u q=>?_,I.len⟩
 ·rw[af (fun z=>by simp_all)];exact I.base.free b u q m hx
 ·have i:=I.base.tups b xs q;rw[af (ne i)];exact i
 ·have i:=I.base.frzs b o u q;rw[af (ne i)];exact i
 ·obtain⟨more,i⟩:=I.base.tbls b G q;exact⟨_,by rw[af (ne i)];exact i⟩
 ·rw[af nl];exact I.free
 ·rw[af (E x c e)];exact I.k9 x c e
 ·obtain⟨p1,F,C⟩:=I.pin p hp;exact⟨p1,by rw[af (P p hp)];exact F,C⟩
 ·by_cases z:b=a
  ·subst z;rw[ag] at q;cases q;exact k
  ·rw[af z] at q;exact(I.hok b u q).stay (fun c v _ g=>g) (fun c g=>by rw[af (ne g)];exact g) fun c xs g=>by rw[af (ne g)];exact g
theorem Inv.left (I:Inv X pins σ H s) (F:∀t,T=some t->H t=some (.ext (Tf t))) (he:H ea=some (.ext (Tf ea))) (hk:VY (frs X.stack) ea T s.heap y) (hx:IL ea cls dx y):
  Inv X pins σ (upd H ea (.ext (IL ea cls dx))) {s with heap:=y}:=by
 have ne:∀{b:Addr} {o:HO},H b=some o->(∀E,o≠ .ext E)->b≠ea/\∀t,T=some t->b≠t:=fun{b o} q n=>⟨fun z=>by
  grind,fun t ht z=>by
  grind⟩
 have fr:∀b,H b=none->b≠ea/\∀t,T=some t->b≠t:=fun b q=>⟨(fun z=>by lia),fun t ht z=>by grind⟩;refine I.call' (ch:=[]) rfl ⟨fun b o q n v _=>?_,fun b o q n v _=>hk.slot b o v q,fun b o q n _=>?_,fun b o q _=>hk.there b o q,fun b xs q=>?_,fun b o u q=>?_,fun b O q=>⟨#[],?_⟩⟩ (fun b o q=>?_) I.bare (fun b z=>absurd z (by simp))
 ·exact hk.keep b o v (fr b n).1 (fr b n).2 q
 ·rw[af (fr b n).1];exact n
 ·rw[af (ne q (by simp)).1];exact q
 ·rw[af (ne q (by simp)).1];exact q
 ·rw[af (ne q (by simp)).1,q];simp
 ·by_cases z:b=ea
  ·subst z;rw[ag] at q;cases q;exact Tg hx
  ·rw[af z] at q;by_cases x:T=some b
   ·have i:=F b x;rw[q] at i;injection i with i;subst i;obtain⟨⟨o,e1⟩,_⟩:=((I.hok b _ q));obtain⟨G,e2⟩:=hk.there b o e1;exact Hq ⟨G,e2⟩
   ·have C:∀{c:Addr} {u:HO},H c=some u->c ∉ frs _:=fun{c u} g m=>by rw[I.zB c m] at g;cases g
    refine(I.hok b o q).stay (fun c u hc g=>?_) (fun c g=>by rw[af (ne g (by simp)).1];exact g) fun c xs g=>by rw[af (ne g (by simp)).1];exact g
    rcases hc with r|r
    ·rw[r] at g⊢;exact hk.keep b u (C q) z (fun t ht e=>x (e▸ht)) g
    ·exact hk.keep c u (C r) (ne r (by simp)).1 (ne r (by simp)).2 g
theorem Rg.land (F:Rg X pins σ H s ea cls dx C) (hk:VY (frs X.stack) ea C s.heap x) (hx:Om x ea cls dx (some T')):Inv X pins σ (upd H ea (.ext (IL ea cls dx))) {s with heap:=x}:=by
 obtain⟨E,vs,he,hc,hd,i,hsz,u⟩:=F.ex;have q:IL ea cls dx x:=by obtain⟨o,ws,e1,e2,e3,e4,_⟩:=hx;exact⟨o,ws,e1,e2,e3,e4⟩
 have y:=F.inv.track F.nH F.n0 (fun p hp=>(F.apart p hp).1) ⟨E,vs,he,i⟩ (Hq ⟨E,he⟩);cases C with
 |none=>
  have v:=y.left (fun t z=>by cases z) ag hk q;have e:upd (upd H ea (.ext (Tf ea))) ea (.ext (IL ea cls dx))=upd H ea (.ext (IL ea cls dx)):=by
   funext b;unfold upd;split<;>rfl
  rw[e] at v;exact v
 |some T=>
  obtain⟨h1,ne,oT,ts,u,dT,P⟩:=u;obtain⟨t0,O⟩:=F.tbs T rfl;have v:=y.track (by rw[af ne];exact O) t0 (fun p hp=>(F.apart p hp).2 T rfl) ⟨oT,ts,u,dT⟩ (Hq ⟨oT,u⟩);have I:=v.left (fun t z=>by cases z;exact ag) (by rw[af (L1 ne)];exact ag) hk q;have G:=I.drop (by rw[af ne];exact ag);have e:mz (upd (upd (upd H ea (.ext (Tf ea))) T (.ext (Tf T))) ea (.ext (IL ea cls dx))) T=upd H ea (.ext (IL ea cls dx)):=by
   funext b;unfold mz upd;by_cases z:b=T
   ·simp_all
   ·simp_all
  rw[e] at G;exact G
theorem P8 {h:Heap} (e:h.get? a=some o):h.objs[a]?=some o:=by
 unfold Heap.get? at e;split at e
 ·cases e
 ·exact e
theorem Av {h:Heap} (e:h.get? a=some o) (i:f o=o):h.update a f=h:=by
 have u:=P8 e;obtain⟨objs,l⟩:=h;have:objs.modify a f=objs:=by
  apply Array.ext (by simp);intro j h1 q;rw[Array.getElem_modify];split
  ·simp_all
  ·rfl
 show(⟨_,l⟩:Heap)=_;rw[this]
theorem Fw (hx:Om s.heap ea cls dx (some T)) (h:Q () s):wpAny M A (setFlight (.ref ea) none) Q E s:=by
 obtain⟨u,vs,he,_,_,hd,hsz,h1,ne,oT,ts,i,dT,q⟩:=hx;refine cc (XI he hd h1 ?_);refine wpAny_setField i dT (Array.getElem?_eq_some_iff.mp q).1 ?_;rw[Av i]
 ·exact h
 ·obtain⟨c,d,dt,sl⟩:=oT;obtain rfl:dt = .fields ts:=dT;show Obj.mk c d _ sl=_;congr 1;congr 1;apply Array.ext (by simp);intro j h1 v;rw[Array.getElem_setIfInBounds];split
  ·simp_all
  ·rfl
noncomputable abbrev Cx.wJ (X:Cx) (pn:List (Addr×Obj)) (σ:St) (E:XK):Cx:={X with pn:=X.pn++pn,xe:=fun e s=> ∃i cls dx q H',e = .ref i/\Rg X pn σ H' s i cls dx q/\E cls dx H'}
noncomputable abbrev Cx.hand (X:Cx) (e:Value):Cx:={X with A:=X.A.mark (some e),calm:=false,xe:=fun _ _=>False}
end
section
mutual
variable {X:Cx} {pn:List (Addr×Obj)}
theorem Cx.Ok.wJ (ok:X.Ok):(X.wJ pn σ E).Ok:=
 ⟨ok.mod,ok.kind,ok.glob,ok.blt,ok.above,ok.inj,ok.has,ok.cab,ok.hd,ok.frames,ok.stk,ok.exf,ok.bs,ok.bsz,ok.noex,ok.exfs,ok.funs,ok.frf⟩
theorem Cx.Ok.untry (ok:(X.wJ pn σ E).Ok):X.Ok:=
 ⟨ok.mod,ok.kind,ok.glob,ok.blt,ok.above,ok.inj,ok.has,ok.cab,ok.hd,ok.frames,ok.stk,ok.exf,ok.bs,ok.bsz,ok.noex,ok.exfs,ok.funs,ok.frf⟩
theorem Cx.Ok.hand (ok:X.Ok):(X.hand e).Ok:=
 ⟨ok.mod,ok.kind,ok.glob,ok.blt,ok.above,ok.inj,ok.has,ok.cab,(fun z=>by cases z),ok.frames,ok.stk,ok.exf,ok.bs,ok.bsz,ok.noex,ok.exfs,ok.funs,ok.frf⟩
theorem Inv.wJ (I:Inv X pn σ H s):Inv (X.wJ pn σ0 E) [] σ H s:=⟨I.ok.wJ,I.os,I.bare,I.base,I.loc,I.cell,I.free,I.k9,fun p hp=>I.pin p (by simp_all),I.hok,I.len⟩
theorem Inv.untry (I:Inv (X.wJ pn σ0 E) pins σ H s):Inv X pn σ H s:=⟨I.ok.untry,I.os,I.bare,I.base,I.loc,I.cell,I.free,I.k9,fun p hp=>I.pin p (ez _ hp),I.hok,I.len⟩
theorem Inv.hand (I:Inv X pins σ H s):Inv (X.hand e) pins σ H s:=⟨I.ok.hand,I.os,I.bare,I.base,I.loc,I.cell,I.free,I.k9,I.pin,I.hok,I.len⟩
theorem Inv.unhand (ok:X.Ok) (I:Inv (X.hand e) pins σ H s):Inv X pins σ H s:=⟨ok,I.os,I.bare,I.base,I.loc,I.cell,I.free,I.k9,I.pin,I.hok,I.len⟩
theorem Rg.untry (F:Rg (X.wJ pn σ0 E) pins σ H s ea cls dx tb):Rg X pn σ H s ea cls dx tb:=⟨F.inv.untry,F.ex,F.n0,F.nH,F.tbs,fun p hp=>F.apart p (ez _ hp)⟩
theorem SP.untry (h:SP (X.wJ pn σ0 E) pins D f s'):SP X pn D f s':=by
 cases f with
 |next=>obtain⟨i,H',I,q⟩:=h;exact⟨i,H',I.untry,q⟩
 |brk=>obtain⟨i,H',I,q⟩:=h;exact⟨i,H',I.untry,q⟩
 |cont=>obtain⟨i,H',I,q⟩:=h;exact⟨i,H',I.untry,q⟩
 |ret u=>obtain⟨v,i,H',I,r,q⟩:=h;exact⟨v,i,H',I.untry,r,q⟩
def F8 (CX:Ga) (X:Cx) (σ:St) (E:XK):Prop:= ∀(i:List (Addr×Obj)) (H:Hp) (s:Shared) (e:Value) (q:Shared),Inv X i σ H s->CX X.stack H s E e q->X.xe e q
theorem vB (hex:X.ex= []):F8 (Eu X.prog X.w) (X.wJ pn σ E) σ E:=fun i H s e v I h=>by
 obtain⟨q,cls,dx,T,H',rfl,F,u⟩:=NC (X:=X.wJ pn σ E) hex I h;exact⟨q,cls,dx,_,H',rfl,F.untry,u⟩
end
end
mutual
def LC (i:St) (sp:Sp) (E:XK) (t:TA):TE:=fun σ H Q=>σ=i/\t σ H fun vs q=>sp vs q Q E
def Rr (i:St) (C:Addr) (m:Str) (sp:Sp) (E:XK) (v:TE) (t:TA):TE:=fun σ H Q=>σ=i/\v σ H fun x q=>Uw C m x q (t σ q fun vs u=>sp (x::vs) u Q E)
theorem C3 (F:wD X.prog X.w X.K X.mg X.base CX k f fd ps sp) (v:cY k X.A) (q:Binds X.K fd ps []) (hx:F8 CX X σ0 E) (I:Inv X pins σ0 H s) (r:Vals vs us) (h:sp vs H Q E):wpAny (model X.prog X.w) X.A (call (.ref f) us) (EP X pins σ0 Q) X.xe s:=by
 have hl:(us++ []).length=ps.length:=by rw[hL,<-r.length];exact F.len _ _ _ _ h
 refine Yq (Yg (F.run _ _ s H _ us vs Q E v I.Qj (by have z:=q s us I.lV hl;rw[hL] at z;exact z) r h) fun r x i=>?_);cases r with
 |error e=>exact hx _ H s e x I i
 |ok y=>
  cases y with
  |ret u=>exact I.after i
  |next=>trivial
  |brk=>trivial
  |cont=>trivial
theorem RW (G:FnAt X.prog X.w X.K X.mg X.base CX x k ps sp) (z:cY n X.A) (hk:k<=n) (hg:Gl X x) (hx:F8 CX X σ0 E) (ha:PA X (e::es) t) (u:autoParam ((x == ("__debug__":Str))=false) qqd) (he:autoParam (starEach (e::es) X.env=(false,eval e X.env)::starEach es X.env) qqr) (i:autoParam ((backTo pos (starEach es X.env)).any (·.1)=false) qqr):
  PE X (.Call (.Name x p) (e::es) [] pos) (LC σ0 sp E t):=by
 obtain⟨f,O,F,hm,kp,b,_⟩:=G;intro y s σ H Q I ⟨hσ,h⟩;subst hσ;refine Xn (kz I hg hm ?_ u);refine Yh I.ok.mod.kin kp (fL (ha _ _ s σ H _ I h) fun us s1 vs C v r q=>⟨v.lV,?_⟩) he i;exact C3 F (z.mono hk) b hx v r q
theorem RU (he:PE X o ta) (c:dM X.K X.mg x C) (G:wC X.prog X.w X.K X.mg X.base CX C m k ps sp) (U:cY n X.A) (hk:k<=n) (hx:F8 CX X σ0 E) (ha:PA X (e::es) t) (i:autoParam ((e::es).any isStar=false) qqr) (ht:eval (.Call (.Attribute o m apos) (e::es) [] pos) X.env=(do
   let ov<-eval o X.env
   standAt apos.atName
   let (f,first)<-holding [ov] (getMethod ov m pl)
   callWith pos f first (backTo pos (starEach (e::es) X.env)) (backToKw pos (keywordEach [] X.env))):=by rfl):
  PE X (.Call (.Attribute o m apos) (e::es) [] pos) (Rr σ0 C m sp E ta t):=by
 obtain⟨f,fd,F,hm,b⟩:=G;rw[sj,ni] at i;intro y s σ H Q I ⟨hσ,h⟩;subst hσ;refine Yb (fL (he _ s σ H _ I h) fun u s1 x P v Y Z=>?_) ht;obtain⟨a,ex,dx,fs,O,l,q⟩:=C8 Z;subst ex;obtain rfl:u=Value.ref a:=Y;refine k7 v O c.cl hm l ?_;refine Yh I.ok.mod.kin hm.kp (fL (ha _ _ s1 σ P _ v q) fun us s2 vs H2 z r q2=>⟨z.lV,?_⟩) (cN i.1) (ku i.2);exact C3 (vs:= .ref a::vs) F (U.mono hk) b hx z (.cons rfl r) q2
structure A5 (K:W.Frag) (mg:Str->Option Value) (x:Str) (C:Addr):Prop where
 Sh:mg x=some (.ref C)
 ty:W.typeIn K (.ref C)=some (.type "type")
 ex:W.mroIn K C (.type "BaseException")=some true
noncomputable def isx (K:W.Frag) (cls:Value) (C:Addr):Option Bool:=match cls with
 | .ref D=>W.mroIn K D (.ref C)
 |_=>none
def IF (o:Option Bool) (p q:Prop):Prop:=match o with
 |some true=>p
 |some false=>q
 |none=>False
theorem UY:IF (some true) p q=p:=rfl
theorem xmatch {K:W.Frag} (X:K.In s.heap) (he:s.heap.get? e=some oe) (m:A5 K mg x C) (i:isx K oe.cls C=some b) (h:Q b s):
  wpAny (model prog w) A (excMatches (.ref e) (.ref C)) Q E s:=by
 have F:W.Looks (model prog w) _ (isInstance _ _) _:=(W.looks_typeIn X m.ty).andThen (W.Looks.of_pure tc_notTuple);have u:W.Looks (model prog w) _ _ _:=X4 X m.ex;have Lake:W.Looks (model prog w) s.heap (isType (.ref C)) true:=by
  have z:=m.ex;obtain⟨cd,hc,_⟩:=Option.bind_eq_some_iff.mp z;unfold W.clsIn at hc;split at hc
  ·rename_i v;intro O H P I k q;exact cc (Yo (k _ _ (X _ _ v)) (de q))
  ·cases hc
 have G:W.Looks (model prog w) _ (typeOf (.ref e)) _:=(W.Looks.ld he).andThen .now;have y:W.Looks (model prog w) s.heap (isSubtype oe.cls (.ref C)) b:=by
  unfold isx at i;split at i
  ·rename_i D hD;rw[hD];exact X4 X i
  ·cases i
 refine cc (F.here ?_);dsimp only;refine cc (de ?_);refine cc (cc (cc ?_));refine cc (Lake.here ?_);refine u.here ?_;refine de ?_;refine de ?_;refine cc (G.here ?_);refine cc (cc (cc (y.here ?_)));cases b with
 |true=>exact de (de (de h))
 |false=>
  refine de ?_;exact de (de h)
noncomputable abbrev TH:=Ends->St->Value->Option Addr->Hp->Prop
def PH (X:Cx) (hs:List ExceptHandler) (t:TH):Prop:= ∀(i:List (Addr×Obj)) (s:Shared) (σ:St) (H:Hp) (D:Ends) (q:Addr) (cls:Value) (dx:Option Addr) (T:Addr),
 Inv X i σ (upd H q (.ext (IL q cls dx))) s->Om s.heap q cls dx (some T)->H q=none->t D σ cls dx H->wpAny (model X.prog X.w) X.A (handleBy (.ref q) X.env hs) (SP X i D) X.xe s
def W3:TH:=fun _ _ _ _ _=>False
def Ub (i:St->XK->TS) (th:TH):TS:=fun D σ H=>i σ (fun cls dx H'=>th D σ cls dx H') D σ H
theorem Mw:PH X [] W3:=fun _ _ _ _ _ _ _ _ _ _ _ _ h=>h.elim
theorem Mt (G:∀pn σ E,zU (X.wJ pn σ E) body (x σ E)) (hh:PH X (h₀::hs) th) (i:autoParam (X.stack=X.env::X.outer) qqr) (hf:autoParam (X.env.frame=some X.env.locals) qqr):PS X (.Try body (h₀::hs) [] [] pos) (Ub x th):=by
 intro y s σ H D I h;refine wpAny_Try_except (mj (G _ σ _ [] s σ H D I.wJ h) (fun f s1 q=>?_) fun e s1 q=>?_)
 ·have v:=q.untry;cases f with
  |next=>exact X8 v
  |brk=>exact v
  |cont=>exact v
  |ret u=>exact v
 ·obtain⟨z,cls,dx,x,H',rfl,F,C⟩:=q;have Ok:=F.inv.ok;have fr:X.A.frames=some (X.env::X.outer):=by rw[<-i];exact Ok.frames
  have O:s1.heap.FunFrames X.base (X.env::X.outer):=by rw[<-i];exact F.inv.stack
  refine MM fr O hf F.ex fun P hx hk=>?_;rw[<-i] at hk;exact hh _ _ σ H' D z _ dx _ (F.land hk hx) hx F.nH C
structure Od (K:W.Frag) (C:Addr):Prop where
 ga:W.findIn K (.ref C) "__getattribute__" = some (some (.builtin "BaseException.__getattribute__"))
 gh:W.findIn K (.ref C) "__getattr__" = some none
 bx:W.mroIn K C (.type "BaseException")=some true
 ob:W.mroIn K C (.type "object")=some true
 hd:W.hasDictIn K C=true
 kc:W.findIn K (.ref C) "__class__" = some (some (.builtin "object.__class__"))
 kg:W.specialIn K (.builtin "object.__class__") "__get__" = some (some (.builtin "getset_descriptor.__get__"))
 kt:W.takesIn K (.builtin "object.__class__")=some true
end
section
mutual
variable {X:Cx} {k n:Nat} {C R:Addr} {ps:List Str} {sp:Sp} {E:XK} {x:Str} {p pos:Pos} {e:Expr} {es:List Expr} {t:TA}
theorem PS.nox {st:Stmt} (h:PS X.nox st ts):PS X st ts:=fun i s σ H D I hw=>
 mj (h _ s σ H D (I.wish _) hw) (fun _ _ q=>q.unwish) fun _ _ z=>False.elim z
theorem RY (G:FnAt X.prog X.w X.K X.mg X.base (Eu X.prog X.w) x k ps sp) (u:cY n X.A) (hk:k<=n) (hg:Gl X x) (q:Rz X E) (hex:X.ex= []) (ha:PA X (e::es) t)
  (i:autoParam ((x == ("__debug__":Str))=false) qqd) (h:autoParam ((e::es).any isStar=false) qqr):PE X (.Call (.Name x p) (e::es) [] pos) (BW sp [] E t):=by
 obtain⟨f,v,F,hm,kp,b,_⟩:=G;rw[sj,ni] at h;exact Iu F (u.mono hk) hg hm kp b .nil (q.passes hex) ha i (cN h.1) (ku h.2)
def TQ (K:W.Frag) (mg:Str->Option Value) (x:Str) (C R:Addr):Prop:= ∃i,F5 K mg x C R i
theorem gT {apos:Pos} {CX:Ga} [Quiet CX] (c:TQ X.K X.mg x C R) (G:wC X.prog X.w X.K X.mg X.base CX C "__init__" k ps sp) (kp:W.keepIn X.K (.ref C)=true) (u:cY n X.A) (hk:k+1<=n) (q:Rz X E) (hc:X.calm=true) (hex:X.ex= []) (hg:Gl X x) (ha:PA X (e::es) t)
  (i:autoParam ((x == ("__debug__":Str))=false) qqd) (h:autoParam ((e::es).any isStar=false) qqr) (hlen:∀us:List Value,us.length+1=ps.length->us.length<=sizeLine:=by intro us h;simp at h;rw[fR];lia):
  PS X (.Raise (some (.Call (.Name x p) (e::es) [] apos)) none pos) (CQ C sp E t):=by
 obtain⟨v,c⟩:=c;rw[sj,ni] at h;exact J5 c G kp (u.mono hk) q hc hex hg ha i (cN h.1) (ku h.2) hlen
theorem vy {o:Expr} {q:TE} {value:Expr} {f:Str} {pos':Pos} {i:TE} (c:TQ X.K X.mg x C R) (m:F4 X.K C f) (ha:PE X o q) (v:PE X value i) (hs:autoParam (kZ value=false) qqr):PS X (.Assign [.Attribute o f pos'] value pos) (LR C q i f):=by
 obtain⟨u,c⟩:=c;exact Pc c m ha v hs
end
end
theorem MethAt.fnX {K:W.Frag} {st:Stmt} (F:MethAt K C m q st) (S:jl N ps (a9 st)) (z:∀(kV doc pm:Value) (an:Option Addr) (i ct:Value) (us:List Value),us.length=ps.length->bindArgs (W.fnOf m q (eY st) (c7 st) (a9 st) .none kV doc pm an i ct) ⟨us,[]⟩=pure (ps.zip us)) (len:∀vs H Q E,sp vs H Q E->vs.length=ps.length) (u:∀(f:Addr) (i:Value) (A:Around) (outer:List Env) (s:Shared) (H:Hp) (vs:List V) (Q:VK) (E:XK),cY k (A.deeper (envOfC q (a9 st) s.heap.objs.size f i))->sp vs H Q E->
   ∃t,zU (AV CX P w K mg base N q (a9 st) f i A outer s H E) (c7 st) t/\t {nx:=fun _ H'=>Q .non H',rt:=Q} (start N vs) H):wC P w K mg base CX C m (k+1) ps sp:=by
 obtain⟨f,O,F,hm⟩:=F;have bd:=F.binds z;obtain⟨I,od,kV,doc,pm,an,i,ct,G,rfl,lk,v⟩:=F.ex;exact⟨f,_,IJ lk v S len fun A outer s H vs Q E y x=>u f _ A _ s H vs Q E y x,hm,bd⟩
theorem OC {K:W.Frag} (ga:W.findIn K (.ref C) "__getattribute__" = some (some (.builtin "BaseException.__getattribute__"))) (gh:W.findIn K (.ref C) "__getattr__" = some none) (bx:W.mroIn K C (.type "BaseException")=some true) (ob:W.mroIn K C (.type "object")=some true) (hd:W.hasDictIn K C=true) (kc:W.findIn K (.ref C) "__class__" = some (some (.builtin "object.__class__"))) (kg:W.specialIn K (.builtin "object.__class__") "__get__" = some (some (.builtin "getset_descriptor.__get__"))) (kt:W.takesIn K (.builtin "object.__class__")=some true):Od K C:=⟨ga,gh,bx,ob,hd,kc,kg,kt⟩
theorem OA {K:W.Frag} (X:K.In h) (G:h.Ns mainGlobals mg) (a:W.nsIn K mainGlobals x=some (some (.ref C))) (t:W.typeIn K (.ref C)=some (.type "type")) (b:W.mroIn K C (.type "BaseException")=some true):A5 K mg x C:=
 ⟨W.mg_of X G a,t,b⟩
def Dn (K:W.Frag) (H:Hp):Nat->V->Dt->Prop
 |0,x,d=>(x = .non/\d = .non)\/(∃i,x = .int i/\d = .int i)\/(∃z,x = .str z/\d = .str z)\/(∃b,x = .bl b/\d = .int (if b then 1 else 0))
 |n+1,x,d=>Dn K H n x d\/(∃a xs ds,x = .ref a/\d = .l ds/\cI K H a xs/\Paired (Dn K H n) xs ds)\/(∃a xs ds,x = .ref a/\d = .t ds/\du K H a xs/\Paired (Dn K H n) xs ds)
section
mutual
variable {X:Cx}
open Classical in
theorem vX:decide (Dt.int i=Dt.int j)=(i == j):=by
 lia
theorem VJ (a b:Bool):((if a then(1:Int) else 0) == (if b then 1 else 0))=(a == b):=by cases a<;>cases b<;>rfl
open Classical in
theorem Qm (C:RelV x u) (E:RelV y v) (hx:Dn X.K H 0 x d) (hy:Dn X.K H 0 y e):SeqAt.EqAt A s u v (decide (d=e)):=by
 rcases hx with⟨rfl,rfl⟩|⟨i,rfl,rfl⟩|⟨i,rfl,rfl⟩|⟨i,rfl,rfl⟩<;>rcases hy with⟨rfl,rfl⟩|⟨j,rfl,rfl⟩|⟨j,rfl,rfl⟩|⟨j,rfl,rfl⟩
 ·cases C;cases E;rw[eT rfl];exact SeqAt.EqAt.same _
 ·cases C;obtain⟨t,rfl⟩:=E;rw[cz (fun z=>nomatch z)];exact SeqAt.EqAt.none_int _ _
 ·cases C;obtain⟨t,rfl⟩:=E;rw[cz (fun z=>nomatch z)];exact SeqAt.EqAt.none_str _ _
 ·cases C;cases E;rw[cz (fun z=>nomatch z)];exact SeqAt.EqAt.none_bool _
 ·obtain⟨t,rfl⟩:=C;cases E;rw[cz (fun z=>nomatch z)];exact SeqAt.EqAt.int_none _ _
 ·obtain⟨t,rfl⟩:=C;obtain⟨t',rfl⟩:=E;rw[vX];exact SeqAt.EqAt.int_int _ _ _ _
 ·obtain⟨t,rfl⟩:=C;obtain⟨t',rfl⟩:=E;rw[cz (fun z=>nomatch z)];exact SeqAt.EqAt.int_str _ _ _ _
 ·obtain⟨t,rfl⟩:=C;cases E;rw[vX];exact SeqAt.EqAt.int_bool _ _ _
 ·obtain⟨t,rfl⟩:=C;cases E;rw[cz (fun z=>nomatch z)];exact SeqAt.EqAt.str_none _ _
 ·obtain⟨t,rfl⟩:=C;obtain⟨t',rfl⟩:=E;rw[cz (fun z=>nomatch z)];exact SeqAt.EqAt.str_int _ _ _ _
 ·obtain⟨t,rfl⟩:=C;obtain⟨t',rfl⟩:=E;have e:decide (Dt.str i=Dt.str j)=(i == j):=by
   rw[yl,eu,zp];exact⟨fun q=>Dt.str.inj q,fun q=>by rw[q]⟩
  rw[e];exact SeqAt.EqAt.str_str _ _ _ _
 ·obtain⟨t,rfl⟩:=C;cases E;rw[cz (fun z=>nomatch z)];exact SeqAt.EqAt.str_bool _ _ _
 ·cases C;cases E;rw[cz (fun z=>nomatch z)];exact SeqAt.EqAt.bool_none _
 ·cases C;obtain⟨t,rfl⟩:=E;rw[vX];exact SeqAt.EqAt.bool_int _ _ _
 ·cases C;obtain⟨t,rfl⟩:=E;rw[cz (fun z=>nomatch z)];exact SeqAt.EqAt.bool_str _ _ _
 ·cases C;cases E;rw[vX,VJ];exact SeqAt.EqAt.bool_bool _ _
theorem Dn.cases {K:W.Frag}:∀{n:Nat} {x:V} {d:Dt},Dn K H n x d->Dn K H 0 x d\/(∃m,m<n/\∃a xs ds,x = .ref a/\d = .l ds/\cI K H a xs/\Paired (Dn K H m) xs ds)\/(∃m,m<n/\∃a xs ds,x = .ref a/\d = .t ds/\du K H a xs/\Paired (Dn K H m) xs ds)
 |0,_,_,h=> .inl h
 |n+1,_,_,h=>by
  rcases h with h|h|h
  ·rcases Dn.cases h with q|⟨m,hm,q⟩|⟨m,hm,q⟩
   ·exact .inl q
   ·exact .inr (.inl ⟨m,by lia,q⟩)
   ·exact .inr (.inr ⟨m,by lia,q⟩)
  ·exact .inr (.inl ⟨n,by lia,h⟩)
  ·exact .inr (.inr ⟨n,by lia,h⟩)
theorem Dn.up {K:W.Frag} (h:Dn K H n x d) (hm:n<=m):Dn K H m x d:=by
 induction m with
 |zero=>simp_all
 |succ m i=>
  by_cases e:n=m+1
  ·simp_all
  ·exact .inl (i (by lia))
theorem To (n:Nat):∀{m:Nat} {x:V} {d e:Dt},Inv X pins σ H s->Dn X.K H n x d->Dn X.K H m x e->d=e:=by
 induction n using Nat.strongRecOn with
 |_ n y=>
 intro m x d e I hx hy;rcases hx.cases with hx|⟨m1,hm,a,xs,ds,rfl,rfl,ha,pa⟩|⟨m1,hm,a,xs,ds,rfl,rfl,ha,pa⟩
 ·rcases hy.cases with hy|⟨k,hk,b,u,es,rfl,rfl,q,pb⟩|⟨k,hk,b,u,es,rfl,rfl,q,pb⟩
  ·rcases hx with⟨rfl,rfl⟩|⟨i,rfl,rfl⟩|⟨i,rfl,rfl⟩|⟨i,rfl,rfl⟩<;>rcases hy with⟨z,rfl⟩|⟨j,z,rfl⟩|⟨j,z,rfl⟩|⟨j,z,rfl⟩<;>first|rfl|simp_all|cases z
  ·obtain⟨z,_⟩|⟨i,z,_⟩|⟨i,z,_⟩|⟨i,z,_⟩:=hx<;>cases z
  ·obtain⟨z,_⟩|⟨i,z,_⟩|⟨i,z,_⟩|⟨i,z,_⟩:=hx<;>cases z
 ·rcases hy.cases with hy|⟨k,hk,b,u,es,e1,rfl,q,pb⟩|⟨k,hk,b,u,es,e1,rfl,q,pb⟩
  ·obtain⟨z,_⟩|⟨i,z,_⟩|⟨i,z,_⟩|⟨i,z,_⟩:=hy<;>cases z
  ·cases e1;have:=I.Fl ha q;subst this;rw[uw pa pb fun x d e h1 v=>y m1 hm I h1 v]
  ·cases e1;exact(rh I ha q).elim
 ·rcases hy.cases with hy|⟨k,hk,b,u,es,e1,rfl,q,pb⟩|⟨k,hk,b,u,es,e1,rfl,q,pb⟩
  ·obtain⟨z,_⟩|⟨i,z,_⟩|⟨i,z,_⟩|⟨i,z,_⟩:=hy<;>cases z
  ·cases e1;exact(rh I q ha).elim
  ·cases e1;have:=I.BU ha q;subst this;rw[uw pa pb fun x d e h1 v=>y m1 hm I h1 v]
open Classical in
theorem vV {n:Nat} (i:Vals xs its) (r2:Vals ys its2) (pa:Paired (Dn X.K H m) xs ds) (pb:Paired (Dn X.K H k) ys es) (ih:∀x y u v d e,RelV x u->RelV y v->Dn X.K H m x d->Dn X.K H k y e->SeqAt.EqAt A s u v (decide (d=e))):
  ∀j (h1:j<its.toArray.size) (O:j<its2.toArray.size),SeqAt.EqAt A s its.toArray[j] its2.toArray[j] (decide (ds[j]?=es[j]?)):=by
 intro j h1 O;have I:j<its.length:=‹_›;have h2':j<its2.length:=‹_›;have l1:=i.length;have l2:=r2.length;have z:xs[j]?=some xs[j]:=by simp
 have q:ys[j]?=some ys[j]:=by simp
 obtain⟨d',W,Z⟩:=Paired.get pa z;obtain⟨G,Y,pe⟩:=Paired.get pb q;obtain⟨Q,F,E⟩:=i.get z;obtain⟨U,C,P⟩:=r2.get q;have e1:its.toArray[j]=Q:=by
  simp_all
 have e2:its2.toArray[j]=U:=by
  simp_all
 have e3:decide (ds[j]?=es[j]?)=decide (d'=G):=by
  simp_all
 rw[e1,e2,e3];exact ih _ _ _ _ _ _ E P Z pe
open Classical in
theorem NK (n:Nat):∀{A:Around} {x y:V} {u v:Value} {d e:Dt},Inv X pins σ H s->A.units+n<cLine->RelV x u->RelV y v->Dn X.K H n x d->Dn X.K H n y e->SeqAt.EqAt A s u v (decide (d=e))/\∀a b,x = .ref a->y = .ref b->SeqAt.RcAt A s (.ref a) (.ref b) (decide (d=e)):=by
 induction n using Nat.strongRecOn with
 |_ n ih=>
 intro A x y u v d e I hu O F hx hy;have lift:∀{a b:Addr},x = .ref a->y = .ref b->SeqAt.RcAt A s _ (.ref b) (decide (d=e))->SeqAt.EqAt A s (.ref a) (.ref b) (decide (d=e)):=fun{a b} ea eb q=>by
  by_cases hab:a=b
  ·subst hab;subst ea;subst eb;rw[eT (To n I hx hy)];exact SeqAt.EqAt.same _
  ·exact SeqAt.EqAt.of_refs hab q
 have C:A.units<cLine:=by lia
 rcases hx.cases with W|⟨m,hm,a,xs,ds,rfl,rfl,ha,pa⟩|⟨m,hm,a,xs,ds,rfl,rfl,ha,pa⟩
 ·rcases hy.cases with Q|⟨k,hk,b,ys,es,rfl,rfl,P,pb⟩|⟨k,hk,b,ys,es,rfl,rfl,P,pb⟩
  ·refine⟨Qm O F W Q,fun a b e1 e2=>?_⟩;subst e1;obtain⟨z,_⟩|⟨i,z,_⟩|⟨i,z,_⟩|⟨i,z,_⟩:=W<;>cases z
  ·cases F;obtain⟨G,_,p,_⟩:=I.list P;rcases W with⟨rfl,rfl⟩|⟨i,rfl,rfl⟩|⟨i,rfl,rfl⟩|⟨i,rfl,rfl⟩
   ·cases O;rw[cz (fun z=>nomatch z)];exact⟨SeqAt.EqAt.none_list p.isList C,fun a b z=>nomatch z⟩
   ·obtain⟨t,rfl⟩:=O;rw[cz (fun z=>nomatch z)];exact⟨SeqAt.EqAt.int_list _ _ p.isList C,fun a b z=>nomatch z⟩
   ·obtain⟨t,rfl⟩:=O;rw[cz (fun z=>nomatch z)];exact⟨SeqAt.EqAt.str_list _ _ p.isList C,fun a b z=>nomatch z⟩
   ·cases O;rw[cz (fun z=>nomatch z)];exact⟨SeqAt.EqAt.bool_list _ p.isList C,fun a b z=>nomatch z⟩
  ·cases F;obtain⟨G,_,p,_⟩:=I.tuple P;rcases W with⟨rfl,rfl⟩|⟨i,rfl,rfl⟩|⟨i,rfl,rfl⟩|⟨i,rfl,rfl⟩
   ·cases O;rw[cz (fun z=>nomatch z)];exact⟨SeqAt.EqAt.none_tuple p C,fun a b z=>nomatch z⟩
   ·obtain⟨t,rfl⟩:=O;rw[cz (fun z=>nomatch z)];exact⟨SeqAt.EqAt.int_tuple _ _ p C,fun a b z=>nomatch z⟩
   ·obtain⟨t,rfl⟩:=O;rw[cz (fun z=>nomatch z)];exact⟨SeqAt.EqAt.str_tuple _ _ p C,fun a b z=>nomatch z⟩
   ·cases O;rw[cz (fun z=>nomatch z)];exact⟨SeqAt.EqAt.bool_tuple _ p C,fun a b z=>nomatch z⟩
 ·cases O;obtain⟨G,r1,p,hz⟩:=I.list ha;rcases hy.cases with Q|⟨k,hk,b,ys,es,rfl,rfl,P,pb⟩|⟨k,hk,b,ys,es,rfl,rfl,P,pb⟩
  ·rcases Q with⟨rfl,rfl⟩|⟨i,rfl,rfl⟩|⟨i,rfl,rfl⟩|⟨i,rfl,rfl⟩
   ·cases F;rw[cz (fun z=>nomatch z)];exact⟨SeqAt.EqAt.list_none p.isList C,fun a b _ z=>nomatch z⟩
   ·obtain⟨t,rfl⟩:=F;rw[cz (fun z=>nomatch z)];exact⟨SeqAt.EqAt.list_int _ _ p.isList C,fun a b _ z=>nomatch z⟩
   ·obtain⟨t,rfl⟩:=F;rw[cz (fun z=>nomatch z)];exact⟨SeqAt.EqAt.list_str _ _ p.isList C,fun a b _ z=>nomatch z⟩
   ·cases F;rw[cz (fun z=>nomatch z)];exact⟨SeqAt.EqAt.list_bool _ p.isList C,fun a b _ z=>nomatch z⟩
  ·cases F;obtain⟨E,r2,U,hz2⟩:=I.list P;have l1:=r1.length;have l2:=r2.length;have l3:=C2 pa;have l4:=C2 pb;have Z:decide (Dt.l ds=Dt.l es)=decide (ds=es):=by
    rw[yl,eu,eu];exact⟨fun q=>Dt.l.inj q,fun q=>by rw[q]⟩
   have rc:SeqAt.RcAt A s (.ref a) (.ref b) (decide (Dt.l ds=Dt.l es)):=by
    rw[Z];by_cases hl:G.length=E.length
    ·have key:=SeqAt.RcAt.lists (e:=fun j=>decide (ds[j]?=es[j]?)) p.isList U.isList (by simpa using hl) C (vV (n:=n) r1 r2 pa pb fun x y u v d e O F h1 h2=>
      (ih (max m k) (by lia) (A:=A.in1) I (by show A.units+1+max m k<cLine;lia) O F (h1.up (Yc _ _)) (h2.up (Yw _ _))).1)
     rw[sy (by rw[h6];lia) (by lia)] at key;exact key
    ·have Y:ds≠es:=fun q=>hl (by rw[q] at l3;lia);rw[cz Y];exact SeqAt.RcAt.lists_lengths p.isList U.isList (HS hl) C
   exact⟨lift rfl rfl rc,fun a' b' e1 e2=>by cases e1;cases e2;exact rc⟩
  ·cases F;obtain⟨E,r2,U,_⟩:=I.tuple P;rw[cz (fun z=>nomatch z)];exact⟨SeqAt.EqAt.list_tuple p.isList U C,fun a' b' e1 e2=>by cases e1;cases e2;exact SeqAt.RcAt.list_tuple p.isList U C⟩
 ·cases O;obtain⟨G,r1,p,hz⟩:=I.tuple ha;rcases hy.cases with Q|⟨k,hk,b,ys,es,rfl,rfl,P,pb⟩|⟨k,hk,b,ys,es,rfl,rfl,P,pb⟩
  ·rcases Q with⟨rfl,rfl⟩|⟨i,rfl,rfl⟩|⟨i,rfl,rfl⟩|⟨i,rfl,rfl⟩
   ·cases F;rw[cz (fun z=>nomatch z)];exact⟨SeqAt.EqAt.tuple_none p C,fun a b _ z=>nomatch z⟩
   ·obtain⟨t,rfl⟩:=F;rw[cz (fun z=>nomatch z)];exact⟨SeqAt.EqAt.tuple_int _ _ p C,fun a b _ z=>nomatch z⟩
   ·obtain⟨t,rfl⟩:=F;rw[cz (fun z=>nomatch z)];exact⟨SeqAt.EqAt.tuple_str _ _ p C,fun a b _ z=>nomatch z⟩
   ·cases F;rw[cz (fun z=>nomatch z)];exact⟨SeqAt.EqAt.tuple_bool _ p C,fun a b _ z=>nomatch z⟩
  ·cases F;obtain⟨E,r2,U,_⟩:=I.list P;rw[cz (fun z=>nomatch z)];exact⟨SeqAt.EqAt.tuple_list p U.isList C,fun a' b' e1 e2=>by cases e1;cases e2;exact SeqAt.RcAt.tuple_list p U.isList C⟩
  ·cases F;obtain⟨E,r2,U,hz2⟩:=I.tuple P;have l1:=r1.length;have l2:=r2.length;have l3:=C2 pa;have l4:=C2 pb;have Z:decide (Dt.t ds=Dt.t es)=decide (ds=es):=by
    rw[yl,eu,eu];exact⟨fun q=>Dt.t.inj q,fun q=>by rw[q]⟩
   have rc:SeqAt.RcAt A s (.ref a) (.ref b) (decide (Dt.t ds=Dt.t es)):=by
    rw[Z];have key:=SeqAt.RcAt.tuples (e:=fun j=>decide (ds[j]?=es[j]?)) p U C (vV (n:=n) r1 r2 pa pb fun x y u v d e O F h1 h2=>
      (ih (max m k) (by lia) (A:=A.in1) I (by show A.units+1+max m k<cLine;lia) O F (h1.up (Yc _ _)) (h2.up (Yw _ _))).1)
    by_cases hl:G.length=E.length
    ·rw[show min G.toArray.size E.toArray.size=ds.length by rw[h6,h6];lia,sy rfl (by lia),show(G.toArray.size == E.toArray.size)=true by rw[h6,h6,zp];exact hl,Bool.and_true] at key;exact key
    ·have Y:ds≠es:=fun q=>hl (by rw[q] at l3;lia);rw[cz Y];rw[show(G.toArray.size == E.toArray.size)=false by rw[h6,h6,Xi];exact hl,ri] at key;exact key
   exact⟨lift rfl rfl rc,fun a' b' e1 e2=>by cases e1;cases e2;exact rc⟩
end
end
def uk (K:W.Frag) (neg:Bool):R2:=fun x y H Q=>match x,y with
 | .ref a,.ref b=> ∃n d e,n<=60/\Dn K H n (.ref a) d/\Dn K H n (.ref b) e/\((d=e/\Q (.bl (!neg)) H)\/(d≠e/\Q (.bl neg) H))
 |x,y=>scal x y=true/\Q (.bl (if neg then !decide (x=y) else decide (x=y))) H
open Classical in
theorem R7 (E:X.A.units+64<cLine):gq X (compareOp .Eq) (uk X.K false):=by
 intro C s σ H x y v u Q I i z h;unfold uk at h;split at h
 ·obtain⟨n,d,e,hn,hd,he,q⟩:=h;obtain⟨_,rc⟩:=NK n (A:=X.A) I (by lia) i z hd he;cases i;cases z;have:=rc _ _ rfl rfl;refine(this _ _ _ _ ?_);rcases q with⟨c,q⟩|⟨c,q⟩
  ·rw[eT c];exact⟨.bl _,H,I,rfl,q⟩
  ·rw[cz c];exact⟨.bl _,H,I,rfl,q⟩
 ·exact UJ _ s σ H _ _ v u Q I i z ⟨h.1,by simp_all⟩
open Classical in
theorem R4 (hu:X.A.units+64<cLine):gq X (compareOp .NotEq) (uk X.K true):=by
 intro G s σ H x y v u Q I Y Z h;unfold uk at h;split at h
 ·rename_i a b;obtain⟨n,d,e,hn,hd,he,q⟩:=h;cases Y;cases Z;have F:X.A.units<cLine:=by lia
  have fin:SeqAt.RcNeAt _ s (.ref a) (.ref b) (!decide (d=e))->wpAny (model X.prog X.w) X.A (compareOp .NotEq (.ref a) (.ref b)) (EP X G σ Q) X.xe s:=fun rc=>by
   refine(rc X.prog X.w _ _ ?_:wpAny (model X.prog X.w) X.A (richCompare .NotEq _ _) (EP X G σ Q) X.xe s);rcases q with⟨c,q⟩|⟨c,q⟩
   ·rw[eT c];exact⟨.bl false,H,I,rfl,q⟩
   ·rw[cz c];exact⟨.bl true,H,I,rfl,q⟩
  apply fin;clear fin q;rcases hd.cases with hx'|⟨m,hm,a',xs,ds,e1,rfl,ha,pa⟩|⟨m,hm,a',xs,ds,e1,rfl,ha,pa⟩
  ·obtain⟨z,_⟩|⟨i,z,_⟩|⟨i,z,_⟩|⟨i,z,_⟩:=hx'<;>cases z
  ·cases e1;obtain⟨E,r1,p,hz⟩:=I.list ha;rcases he.cases with U|⟨k,hk,b',ys,es,e2,rfl,P,pb⟩|⟨k,hk,b',ys,es,e2,rfl,P,pb⟩
   ·obtain⟨z,_⟩|⟨i,z,_⟩|⟨i,z,_⟩|⟨i,z,_⟩:=U<;>cases z
   ·cases e2;obtain⟨C,r2,O,hz2⟩:=I.list P;have l1:=r1.length;have l2:=r2.length;have l3:=C2 pa;have l4:=C2 pb;have W:decide (Dt.l ds=Dt.l es)=decide (ds=es):=by
     simp_all
    rw[W];by_cases hl:E.length=C.length
    ·have key:=SeqAt.RcNeAt.lists (e:=fun j=>decide (ds[j]?=es[j]?)) p.isList O.isList (‹_›) F (vV (n:=n) r1 r2 pa pb fun x y u v d e Y Z h1 h2=>
      (NK (max m k) (A:=X.A.in1) I (by show X.A.units+1+max m k<cLine;lia) Y Z (h1.up (Yc _ _)) (h2.up (Yw _ _))).1)
     rw[sy (by simp_all) (by lia)] at key;exact key
    ·have hne:ds≠es:=fun q=>hl (by simp_all);rw[cz hne];exact SeqAt.RcNeAt.lists_lengths p.isList O.isList (HS hl) F
   ·cases e2;obtain⟨C,r2,O,_⟩:=I.tuple P;rw[cz (fun z=>nomatch z)];exact SeqAt.RcNeAt.list_tuple p.isList O F
  ·cases e1;obtain⟨E,r1,p,hz⟩:=I.tuple ha;rcases he.cases with U|⟨k,hk,b',ys,es,e2,rfl,P,pb⟩|⟨k,hk,b',ys,es,e2,rfl,P,pb⟩
   ·obtain⟨z,_⟩|⟨i,z,_⟩|⟨i,z,_⟩|⟨i,z,_⟩:=U<;>cases z
   ·cases e2;obtain⟨C,r2,O,_⟩:=I.list P;rw[cz (fun z=>nomatch z)];exact SeqAt.RcNeAt.tuple_list p O.isList F
   ·cases e2;obtain⟨C,r2,O,hz2⟩:=I.tuple P;have l1:=r1.length;have l2:=r2.length;have l3:=C2 pa;have l4:=C2 pb;have W:decide (Dt.t ds=Dt.t es)=decide (ds=es):=by
     simp_all
    rw[W];have key:=SeqAt.RcNeAt.tuples (e:=fun j=>decide (ds[j]?=es[j]?)) p O F (vV (n:=n) r1 r2 pa pb fun x y u v d e Y Z h1 h2=>
      (NK (max m k) (A:=X.A.in1) I (by show X.A.units+1+max m k<cLine;lia) Y Z (h1.up (Yc _ _)) (h2.up (Yw _ _))).1)
    by_cases hl:E.length=C.length
    ·rw[show min E.toArray.size C.toArray.size=ds.length by simp_all,sy rfl (by lia),show(E.toArray.size == C.toArray.size)=true by simp_all,Bool.and_true] at key;exact key
    ·grind
 ·exact UI G s σ H _ _ v u Q I Y Z ⟨h.1,by simp_all⟩
section
mutual
variable {K:W.Frag}
theorem zL (K:W.Frag) (h:X.K=K) (i:X.A.units+64<cLine):gq X (compareOp .Eq) (uk K false):=h▸R7 i
theorem Pt (K:W.Frag) (h:X.K=K) (i:X.A.units+64<cLine):gq X (compareOp .NotEq) (uk K true):=h▸R4 i
theorem Mn:uk K false (.int i) (.int j) H Q=Q (.bl (decide (i=j))) H:=by
 exact O9
theorem L9:uk K true (.int i) (.int j) H Q=Q (.bl (!decide (i=j))) H:=by
 exact OY
theorem EV:uk K false (.str i) (.str j) H Q=Q (.bl (decide (i=j))) H:=by
 exact O8
theorem L8:uk K true (.str i) (.str j) H Q=Q (.bl (!decide (i=j))) H:=by
 exact OX
theorem lg:Dn K H n (.int i) (.int i):=Dn.up (n:=0) (.inr (.inl ⟨i,rfl,rfl⟩)) (kv _)
theorem D3:Dn K H n (.str z) (.str z):=Dn.up (n:=0) (.inr (.inr (.inl ⟨z,rfl,rfl⟩))) (kv _)
theorem NL (h:H a=some (.lst xs)) (p:Paired (Dn K H n) xs ds):Dn K H (n+1) (.ref a) (.l ds):= .inr (.inl ⟨a,xs,ds,rfl,rfl,cI.of h,p⟩)
theorem NJ (h:H a=some (.tup xs)) (p:Paired (Dn K H n) xs ds):Dn K H (n+1) (.ref a) (.t ds):= .inr (.inr ⟨a,xs,ds,rfl,rfl,du.of h,p⟩)
end
end
mutual
theorem RS (hc:X.calm=true) (h:Oy X es t) (hn:es.length=n) (u:es.any isStar=false) (I:Inv X pins σ H s) (y:cI X.K H a xs) (hl:xs.length=n) (hw:t xs σ H Q):
  wpAny (model X.prog X.w) X.A (assign (.Tuple es k pos) X.env (.ref a)) (fun _ x=> ∃i H',Inv X pins i H' x/\Q i H') X.xe s:=by
 obtain⟨q,z,hp,C⟩:=I.list y;refine cc (X2 ?_);unfold unpack;rw[show(assignEach es _).length=q.toArray.size by rw[lP,hn,<-hl,h6,z.length],iF u];refine cc (Xq (W.kun_itemsOf (I.ok.hd hc) hp.isList fun E hx=>?_));have v:=I.kept (t':=s.toks) fun b o e=>hx b o (ib (eM e)) e;exact h _ _ σ H xs _ Q v (‹_›) hw
def V9 (K:W.Frag) (n:Nat) (t:Rf) (a:Addr) (σ:St) (H:Hp) (Q:St->Hp->Prop):Option HO->Prop
 |some (.tup xs)=>xs.length=n/\t xs σ H Q
 |some (.lst xs)=>xs.length=n/\t xs σ H Q
 |_=> ∃xs,du K H a xs/\xs.length=n/\t xs σ H Q
def Nu (K:W.Frag) (n:Nat) (t:Rf):TG:=fun v σ H Q=>match v with
 | .ref a=>V9 K n t a σ H Q (H a)
 |_=>False
theorem K2 {K:W.Frag}:Nu K n t (.ref a) σ H Q=V9 K n t a σ H Q (H a):=rfl
theorem Qc {K:W.Frag}:V9 K n t a σ H Q (some (.tup xs))=(xs.length=n/\t xs σ H Q):=rfl
theorem Im (K:W.Frag) (i:X.K=K) (hc:X.calm=true) (hh:Oy X es u) (hn:autoParam (es.length=n) qqr) (h:autoParam (es.any isStar=false) qqr):PG X (.Tuple es j pos) (Nu K n u):=by
 intro x s σ H v w Q I r q;unfold Nu at q;split at q
 ·rename_i a;unfold V9 at q;split at q
  ·rename_i xs e;exact Io K i hc hh hn h _ s σ H _ w Q I r ⟨a,xs,rfl,du.of e,q⟩
  ·rename_i xs e;obtain rfl:w=Value.ref a:=r;exact RS hc hh hn h I (cI.of e) q.1 q.2
  ·obtain⟨xs,h1,y⟩:=q;exact Io K i hc hh hn h _ s σ H _ w Q I r ⟨a,xs,rfl,h1,y⟩
 ·trivial
structure QA (X:Cx) (es:List Expr) (t:TA):Prop where
 h:PA X es t
theorem RI:QA X [] Bc:=⟨gU⟩
theorem J3 (ha:QE X e te) (i:QA X es t) (h:autoParam (isStar e=false) qqr):QA X (e::es) (vf te t):=⟨bq ha.h i.h h⟩
theorem RH (h:QA X es t):QE X (.Tuple es k pos) (Rn t):=⟨bw h.h⟩
theorem RG (h:QE X e te):QS X (.Return (some e) pos) (Rp te):=⟨aq h.h⟩
theorem Af (h:PT X e t) (ha:Ox X a ta) (i:Ox X b tb):QS X (.If e a b pos) (OP t ta tb):=⟨aW h ha.h i.h⟩
theorem o4:Ox X [] HL:=⟨aC⟩
def C9:V->List V->Hp->VK->Prop:=fun x vs H Q=>match x,vs with
 | .str z,[.str y]=> ∃i r,Builtin.Str.occurrences z y 0 z.length 1=i::r/\Q (.int (i:Nat)) H
 |_,_=>False
noncomputable def PR (z:Str) (i:Int):Str:=if i<=z.length then z else Builtin.Str.padded z 0 (i.toNat-z.length) 32
def GG:V->List V->Hp->VK->Prop:=fun x vs H Q=>match x,vs with
 | .str z,[.int i]=>(0<=i/\i<=1000)/\(PR z i).length<=sizeLine/\Q (.str (PR z i)) H
 |_,_=>False
theorem Km:Oj X "str.index" C9:=by
 intro q s σ H x vs v us Q I y C h;unfold C9 at h;split at h
 ·obtain⟨i,r,e,h⟩:=h;obtain⟨t,rfl⟩:=y;cases C with
  |cons u z=>
  cases z;obtain⟨t',rfl⟩:=u;exact call_gives F.slot_str_index (typeIs_str s _ t) F.entry_str_index (F.args_str_index_2 _ _) (gives_str_index _ _ t t' i r e) ((⟨.int _,H,I.tok _,⟨_,rfl⟩,h⟩))
 ·trivial
theorem MT:Oj X "str.ljust" GG:=by
 intro q s σ H x vs v us Q I y E h;unfold GG at h;split at h
 ·rename_i z i;obtain⟨⟨O,G⟩,hl,h⟩:=h;obtain⟨t,rfl⟩:=y;cases E with
  |cons u C=>
  cases C;obtain⟨t',rfl⟩:=u;refine call_gives F.slot_str_ljust (typeIs_str s _ t) F.entry_str_ljust (F.args_str_ljust_2 _ _) (gives_str_ljust z i t t' ?_ ?_) ?_
  ·lia
  ·unfold Builtin.Str.tooLong sizeLine;exact cz (by lia)
  ·unfold PR at h hl;split
   ·rename_i c;rw[bc c] at h;exact((⟨.str _,H,I,⟨_,rfl⟩,h⟩))
   ·rename_i c;rw[a5 c] at h hl;exact⟨hl,((⟨.str _,H,I.tok _,⟨_,rfl⟩,h⟩))⟩
 ·trivial
theorem EE {q:Array Value} {x:Value} {e:Nat->Bool} {prog:Program} {w:World} {A:Around} {E:Value->Shared->Prop} {j:Nat} {f:Nat->Option Fin×Unit->Sem (ForInStep (Option Fin×Unit))}
    (hf:f
            = fun i _=>match q[i]? with
            |
              some y=>do
              let b<-eqBool y x
              if b=true then do
                  let r<-retInt ↑i
                  pure (ForInStep.done (some r,()))
                else pure (ForInStep.yield (none,()))
            |_=>pure (ForInStep.yield (none,())))
    (z:j<q.size) (hit:e j=true) (u:∀m,m<j->e m=false):∀(k i:Nat) (s:Shared) (Q:Option Fin×Unit->Shared->Prop),i+k=q.size->i<=j->
    (∀m (hm:m<q.size),SeqAt.EqAt A s q[m] x (e m))->
    Q (some (.done (.ret (.int j s.toks))),()) {s with toks:=s.toks+1}->wpAny (model prog w) A (forIn (List.range' i k) ((none:Option Fin),()) f) Q E s
  |0,i,s,Q,h1,h2,_,_=>absurd h1 (by lia)
  |
    k+1,i,s,Q,h1,h2,he,hq=>by
    have v:i<q.size:=by lia
    rw[List.range'_succ,Xz];refine cc ?_;rw[hf];dsimp only;rw[(Xo v)];refine cc (he i v _ w _ _ ?_);by_cases c:i=j
    ·
      subst c;rw[hit];refine cc ?_;exact cc (wpAny_mkInt (de (de (de hq))))
    ·
      rw[u i (by lia)];refine de ?_;rw[<-hf];exact EE hf z hit u k _ s Q (by lia) (by lia) he hq
theorem tix {e:Nat->Bool} (u:s.heap.get? t=some o) (hd:o.data = .seq its n) (q:j<its.size) (hit:e j=true) (i:∀m,m<j->e m=false) (he:∀m (hm:m<its.size),SeqAt.EqAt A s its[m] x (e m)) (v:Q (.done (.ret (.int j s.toks))) {s with toks:=s.toks+1}):wpAny (model prog w) A (Builtin.«tuple.index» ⟨[.ref t,x],[]⟩) Q E s:=by
 refine cc (wpAny_of_eq (rfl) ?_);refine cc (cc (wpAny_seqItems u hd (de ?_)));refine cc (de (cc (de ?_)));refine cc ?_;rw[Nat.min_self,Std.Legacy.Range.forIn_eq_forIn_range'];have sz: [:its.size].size=its.size:=by simp_all
 rw[sz];exact EE rfl q hit i _ 0 s _ (by lia) (kv _) he (de v)
def Fp (i:List Str) (y:Str) (j:Nat):Prop:=i[j]?=some y/\∀m,m<j->i[m]?≠some y
def zF (K:W.Frag):V->List V->Hp->VK->Prop:=fun x vs H Q=>match x,vs with
 | .ref p,[.str y]=> ∃i:List Str,du K H p (i.map V.str)/\∃j,Fp i y j/\Q (.int (j:Nat)) H
 |_,_=>False
theorem Ex:∀{q:List Str} {i:List Value},Vals (q.map V.str) i->i.length=q.length/\∀m (h:m<i.length) y,q[m]?=some y->∃t,i[m] = .str y t
 | [],_,.nil=>⟨rfl,fun m h=>absurd h (by simp)⟩
 |z::q,_,.cons r rr=>by
  obtain⟨h1,u⟩:=Ex rr;refine⟨by simp_all,fun m h y e=>?_⟩;cases m with
  |zero=>cases e;obtain⟨t,rfl⟩:=r;exact⟨t,rfl⟩
  |succ m=>exact u m (by simpa using h) y e
theorem KO (q:Vals (ss.map V.str) its) (h:Fp ss y j):
  j<its.toArray.size/\(decide (ss[j]?=some y))=true/\(∀m,m<j->(decide (ss[m]?=some y))=false)/\∀m (hm:m<its.toArray.size),SeqAt.EqAt A s its.toArray[m] (.str y u) (decide (ss[m]?=some y)):=by
 obtain⟨l1,l2⟩:=Ex q;have v:=(ek.mp h.1).1;refine⟨by simp_all,eT h.1,fun m hm=>cz (h.2 m hm),fun m hm=>?_⟩;have i:m<its.length:=by trivial
 have hs:ss[m]?=some _:=hI (by lia);obtain⟨t,e⟩:=l2 m _ _ hs;have e2:its.toArray[m] = .str _ t:=‹_›;have e3:decide (ss[m]?=some y)=(ss[m] == y):=by
  lia
 rw[e2,e3];exact SeqAt.EqAt.str_str _ _ _ _
theorem Kl:Oj X "tuple.index" (zF X.K):=by
 intro q s σ H x vs v us Q I C Z h;unfold zF at h;split at h
 ·rename_i p y;obtain⟨ss,Y,j,G,h⟩:=h;obtain rfl:v=Value.ref p:=C;obtain⟨u,rfl,z⟩:=Vals.one Z;obtain⟨t,rfl⟩:=z;obtain⟨E,r,⟨o,i,hc,n,hd⟩,hz⟩:=I.tuple Y;obtain⟨U,W,O,P⟩:=KO r G;exact Yq (XY F.slot_tuple_index.plain F.entry_tuple_index (F.slot_tuple_index.check _ _ _ _ _ _ _ _ ⟨o,i,hc⟩ (F.args_tuple_index_2 _ _) (tix i hd U W O P ((⟨.int _,H,I.tok _,⟨_,rfl⟩,h⟩)))))
 ·trivial
def rJoin (K:W.Frag):V->List V->Hp->VK->Prop:=fun x vs H Q=>match x,vs with
 | .str z,[.ref p]=> ∃i:List Str,cI K H p (i.map V.str)/\(i.map (·.length)).sum+i.length*z.length<=1000000/\Q (.str (Txt.join z i)) H
 |_,_=>False
theorem BP:∀{q:List Str} {i:List Value},Vals (q.map V.str) i->StrsAre i q
 | [],_,.nil=> .nil
 |_::_,_,.cons r rr=>by
  obtain⟨t,rfl⟩:=r;exact .cons _ _ (BP rr)
theorem PM:Oj X "str.join" (rJoin X.K):=by
 intro i s σ H x vs v us Q I y F h;unfold rJoin at h;split at h
 ·rename_i z p;obtain⟨O,E,hl,h⟩:=h;obtain⟨t,rfl⟩:=y;obtain⟨u,rfl,q⟩:=Vals.one F;obtain rfl:u=Value.ref p:=q;obtain⟨C,r,pl,G⟩:=I.list E;refine join_list pl.isList (by simpa using BP r) (by lia) fun t' k=>((⟨.str _,H,I.tok _,⟨_,rfl⟩,h⟩))
 ·trivial
end
section
variable {K:W.Frag}
theorem EU:C9 (.str z) [.str y] H Q= ∃i r,Builtin.Str.occurrences z y 0 z.length 1=i::r/\Q (.int (i:Nat)) H:=rfl
theorem GF:GG (.str z) [.int i] H Q=((0<=i/\i<=1000)/\(PR z i).length<=sizeLine/\Q (.str (PR z i)) H):=rfl
theorem ET:zF K (.ref p) [.str y] H Q= ∃i:List Str,du K H p (i.map V.str)/\∃j,Fp i y j/\Q (.int (j:Nat)) H:=rfl
theorem JQ:rJoin K (.str z) [.ref p] H Q= ∃i:List Str,cI K H p (i.map V.str)/\(i.map (·.length)).sum+i.length*z.length<=1000000/\Q (.str (Txt.join z i)) H:=rfl
end
section
variable {X:Cx} (K:W.Frag)
theorem G7 (h:X.K=K):Oj X "tuple.index" (zF K):=h▸Kl
theorem MU (h:X.K=K):Oj X "str.join" (rJoin K):=h▸PM
end
mutual
open PySem PySem.Spec PyProof.Rows PySem.W
def Kept (h i:Heap):Prop:= ∀b o,h.get? b=some o->i.get? b=some o
theorem GB (G:List Value->Prop) (z:s.heap.get? a=some (seqObj "list" vs.toArray n)) (Q:vs.length<=sizeLine) (C:vs.length<2->G vs) (run:2<=vs.length->∀q,(∀b o,b≠a->s.heap.get? b=some o->q.get? b=some o)->wpAny (model prog w) A (keyKind' vs.toArray) (fun κ v=>v={s with heap:=q}/\wpAny (model prog w) A ((sortRuns').run (SortSt.mk' κ (vs.toArray.zip vs.toArray) #[] 7 none)) (fun r v=>v={s with heap:=q}/\failedOf r.2=none/\((arrOf r.2).map (·.2)).size=vs.length/\G ((arrOf r.2).map (·.2)).toList) (fun _ _=>False) {s with heap:=q}) (fun _ _=>False) {s with heap:=q}) (h:∀out q c,G out.toList->out.size=vs.length->(∀b o,b≠a->s.heap.get? b=some o->q.get? b=some o)->q.get? a=some (seqObj "list" out c)->P (.done (.ret .none)) {s with heap:=q}):
  wpAny (model prog w) A (Builtin.«list.sort» ⟨[.ref a],[]⟩) P E s:=by
 have ha:a<s.heap.objs.size:=eM z;rw[list_sort_plain];refine cc (listItems_at z rfl ?_);refine cc (listUpdate_at z rfl ?_ (by rw[h6];exact Q) (kv _));obtain⟨e1,y⟩:∃e1,(s.heap.update a (Obj.mapSeq fun _=>(#[]:Array Value))).get? a=some (seqObj "list" #[] e1):=⟨_,get?_update_seq z fun _=>#[]⟩;refine cc (seqEpoch_at y rfl ?_);refine cc (wpAny_newTuple ?_ (by show vs.length<=_;exact Q));refine cc (wpAny_newList ?_ (kv _));refine Xq ?_;have u:(((s.heap.update a (Obj.mapSeq fun _=>(#[]:Array Value))).push (seqObj "tuple" vs.toArray 0)).push (seqObj "list" #[] 0)).get? a=some (seqObj "list" #[] e1):=cP _ (cP _ y);have k3:∀b o,b≠a->s.heap.get? b=some o->(((s.heap.update a (Obj.mapSeq fun _=>(#[]:Array Value))).push (seqObj "tuple" vs.toArray 0)).push (seqObj "list" #[] 0)).get? b=some o:=fun b o ne e=>
  cP _ (cP _ ((Heap.get?_update_ne _ _ _ _ ne).trans e))
 show wpAny (model prog w) A _ P E {s with heap:=((s.heap.update a (Obj.mapSeq fun _=>(#[]:Array Value))).push (seqObj "tuple" vs.toArray 0)).push (seqObj "list" #[] 0)};generalize((s.heap.update a (Obj.mapSeq fun _=>(#[]:Array Value))).push (seqObj "tuple" vs.toArray 0)).push (seqObj "list" #[] 0)=O at u k3⊢;have fin:∀(st:SortSt),failedOf st=none->((arrOf st).map (·.2)).size=vs.length->G ((arrOf st).map (·.2)).toList->wpAny (model prog w) A (do
   let touched:=(<-seqEpoch a) != e1
   Builtin.List.listUpdate (.ref a) fun _=>(arrOf st).map (·.2)
   if let some e:=failedOf st then rule "list.sort.comparison-raised";throw e
   if touched then rule "list.sort.modified";raiseError "ValueError" "list modified during sort"
   ret .none) P E {s with heap:=O}:=fun st hf hsz hg=>by
  refine cc (seqEpoch_at u rfl ?_);refine cc (listUpdate_at u rfl ?_ (kv _) (fv (Nat.le_of_eq hsz) (by lia)));rw[hf];simp only[bne_self_eq_false,qF,Xs];obtain⟨I,H⟩:∃I,(O.update a (Obj.mapSeq fun _=>(arrOf st).map (·.2))).get? a=some (seqObj "list" ((arrOf st).map (·.2)) I):=⟨_,get?_update_seq u fun _=>(arrOf st).map (·.2)⟩;exact de (h _ _ I hg hsz (fun b o ne e=>(Heap.get?_update_ne _ _ _ _ ne).trans (k3 b o ne e)) H)
 dsimp only;by_cases F:vs.length<2
 ·have i:vs.toArray.size<2:=by rw[h6];exact F
  rw[bc i,bc i];refine cc (de ?_);rw[StateT.run_pure];refine cc (de ?_);have eo:((arrOf (SortSt.mk' general' (vs.toArray.zip vs.toArray) #[] 7 none)).map (·.2))=vs.toArray:=by
   show(vs.toArray.zip vs.toArray).map (·.2)=vs.toArray;apply Array.toList_inj.mp;rw[Yx,Array.toList_zip];exact List.map_snd_zip (cm _)
  exact fin (SortSt.mk' general' (vs.toArray.zip vs.toArray) #[] 7 none) rfl (by rw[eo];simp) (by rw[eo];exact C F)
 ·have i: ¬vs.toArray.size<2:=by rw[h6];exact F
  rw[a5 i,a5 i];refine cc (mj (run (by lia) O k3) (fun κ v hk=>?_) fun _ _ x=>x.elim);obtain⟨rfl,hk⟩:=hk;refine cc (mj hk (fun r v U=>?_) fun _ _ x=>x.elim);obtain⟨⟨⟩,st⟩:=r;obtain⟨rfl,hf,hsz,hg⟩:=U;exact fin st hf hsz hg
theorem CY (G:List Value->Prop) (hl:s.heap.IsList l vs.toArray) (y:vs.length<=sizeLine) (C:vs.length<2->G vs) (run:2<=vs.length->∀i,Kept s.heap i->wpAny (model prog w) A.in1.in1 (keyKind' vs.toArray) (fun κ x=>x={s with heap:=i}/\wpAny (model prog w) A.in1.in1 ((sortRuns').run (SortSt.mk' κ (vs.toArray.zip vs.toArray) #[] 7 none)) (fun r x=>x={s with heap:=i}/\failedOf r.2=none/\((arrOf r.2).map (·.2)).size=vs.length/\G ((arrOf r.2).map (·.2)).toList) (fun _ _=>False) {s with heap:=i}) (fun _ _=>False) {s with heap:=i}) (h:∀out i D c,G out.toList->out.size=vs.length->Kept s.heap i->s.heap.objs.size<=D->i.get? D=some (seqObj "list" out c)->Q (.ref D) {s with heap:=i}):
  wpAny (model prog w) A (call (.builtin "sorted") [.ref l]) Q E s:=by
 refine Calls.call_function_entry kind_sorted plain_sorted entry_sorted (args_sorted1 _) ?_;unfold Builtin.«sorted»;refine cc (m:=checkCount "sorted" 1 1 _) (de ?_);refine cc (collect_list hl ?_ y);refine cc (wpAny_newList ?_ y);have hsz:((s.heap.push (seqObj "list" #[] 0)).update s.heap.objs.size (Obj.mapSeq (· ++vs.toArray))).objs.size=s.heap.objs.size+1:=by
  rw[Heap.size_update,size_push']
 have u:(((s.heap.push (seqObj "list" #[] 0)).update s.heap.objs.size (Obj.mapSeq (· ++vs.toArray))).push (seqObj "list" vs.toArray 0)).get? (s.heap.objs.size+1)=some (seqObj "list" vs.toArray 0):=by
  rw[<-hsz];exact fx _ rfl
 have keep:Kept s.heap (((s.heap.push (seqObj "list" #[] 0)).update s.heap.objs.size (Obj.mapSeq (· ++vs.toArray))).push (seqObj "list" vs.toArray 0)):=fun b o q=>by
  have v:b<s.heap.objs.size:=eM q;rw[Heap.get?_push_ne _ _ _ (by rw[hsz];exact ib (Nat.lt_succ_of_lt v)),Heap.get?_update_ne _ _ _ _ (ib v),Heap.get?_push_ne _ _ _ (ib v)];exact q
 show wpAny _ _ _ _ _ {s with heap:=((s.heap.push (seqObj "list" #[] 0)).update s.heap.objs.size (Obj.mapSeq (· ++vs.toArray))).push (seqObj "list" vs.toArray 0)};rw[hsz];generalize((s.heap.push (seqObj "list" #[] 0)).update s.heap.objs.size (Obj.mapSeq (· ++vs.toArray))).push (seqObj "list" vs.toArray 0)=h1 at u keep⊢;have ne:∀b o,s.heap.get? b=some o->b≠s.heap.objs.size+1:=fun b o e=>ib (Nat.lt_succ_of_lt (eM e));refine cc (Xq (wpAny_call_entry slot_list_sort ⟨_,u,rfl⟩ entry_list_sort ?body (args_list_sort _)));exact GB (s:={s with heap:=h1}) G u y C (fun H i z=>run H i fun b o e=>z b o (ne b o e) (keep b o e))
  fun out i c g1 F z e=>⟨_,rfl,de ⟨_,rfl,h out i _ c g1 F (fun b o e=>z b o (ne b o e) (keep b o e)) (Nat.le_succ _) e⟩⟩
noncomputable abbrev C4:=Int×Int×Int×Int
noncomputable def WD (a b:C4):Bool:=if a.1=b.1 then if a.2.1=b.2.1 then if a.2.2.1=b.2.2.1 then decide (a.2.2.2<b.2.2.2) else decide (a.2.2.1<b.2.2.1) else decide (a.2.1<b.2.1) else decide (a.1<b.1)
theorem vM {fin:Bool} (q:(b&&i == 0)=true\/(b&&i == 0)=false) (h:if x=y then KatLex prog w A b fin Q r (i+1) s else Q (decide (x<y)) s):KatLex prog w A b fin Q ((.int x t,.int y u)::r) i s:=by
 refine kat_cons (wpAny_eqBool_int ?_);by_cases e:x=y
 ·rw[bc e] at h;rw[show(x == y)=true from zp.mpr e];exact kat_yes h
 ·rw[a5 e] at h;rw[show(x == y)=false from Xi.mpr e];refine kat_no ?_;rcases q with z|z
  ·rw[z];exact oneLt_int h
  ·rw[z];exact kat_one _ _ (wpAny_lt_int h)
theorem J_ {α:Type} {qs:List α} {d:α} {p:List Nat} (h:p.Perm (List.range qs.length)):(p.map fun i=>qs.getD i d).Perm qs:=by
 have e:(List.range qs.length).map (fun i=>qs.getD i d)=qs:=by
  apply List.ext_getElem (by simp);intro i h1 q;simp[q]
 have:=h.map (fun i=>qs.getD i d);rw[e] at this;exact this
theorem BQ:∀{cs:List Addr} {i:List Value},Vals (cs.map V.ref) i->i=cs.map Value.ref
 | [],_,.nil=>rfl
 |c::cs,_,.cons r rr=>by
  cases r;rw[BQ rr];rfl
theorem vc:∀(cs:List Addr),Vals (cs.map V.ref) (cs.map Value.ref)
 | []=> .nil
 |c::cs=> .cons rfl (vc cs)
theorem Lg:bootBuiltins "sorted" = some (.builtin "sorted"):=by decide+kernel
end
end Lake
namespace Lake.Tm
mutual
open PySem PyProof.Rows
noncomputable abbrev wG:=Array Nat×Array (Nat×Nat×Nat)×Nat
structure Wd where
 prog:Program
 w:World
 A:Around
 s:Shared
 κ:SortKind
 f:Nat->Keyed
def Wd.ok (c:Nat->Nat->Bool) (n:Nat) (W:Wd):Prop:=
 ∀i j,i<n->j<n->∀(Q:Bool->Shared->Prop) (E:Value->Shared->Prop),Q (c i j) W.s->wpAny (model W.prog W.w) W.A (keyLt' W.κ (W.f i).1 (W.f j).1) Q E W.s
noncomputable def Wd.st (W:Wd) (t:wG):SortSt:=SortSt.mk' W.κ (t.1.map W.f) t.2.1 t.2.2 none
def W6:Value->Shared->Prop:=fun _ _=>False
def kh {β:Type} (c:Nat->Nat->Bool) (n:Nat) (l:Wd->β->α) (m:Wd->StateT SortSt Sem α) (t:wG) (P:β->wG->Prop):Prop:=
 ∃b t',P b t'/\∀W:Wd,W.ok c n->wpS (model W.prog W.w) W.A W6 W.s (m W) (fun r st=>r=l W b/\st=W.st t') (W.st t)
noncomputable abbrev same {β:Type}:Wd->β->β:=fun _ b=>b
noncomputable def LG {α β:Type} (l:Wd->β->α) (W:Wd):ForInStep β->ForInStep α
 | .done b=> .done (l W b)
 | .yield b=> .yield (l W b)
end
section
mutual
variable {c:Nat->Nat->Bool} {n:Nat} {α β:Type} {l:Wd->β->α} {P:β->wG->Prop}
theorem av {m:Wd->α} (b:β) (h:P b t) (e:∀W,m W=l W b:=by intro _;rfl):kh c n l (fun W=>pure (m W)) t P:=
 ⟨b,t,h,fun W _=>wpS_pure ⟨e W,rfl⟩⟩
theorem ay {k:Wd->γ->StateT SortSt Sem α} (q:Wd->δ->γ) (h:kh c n q m t fun b t'=>kh c n l (fun W=>k W (q W b)) t' P):kh c n l (fun W=>m W >>= k W) t P:=by
 obtain⟨b,t1,⟨x,t2,u,v⟩,h1⟩:=h;refine⟨x,t2,u,fun W i=>wpS_bind (wpS_mono (h1 W i) fun a st hh=>?_)⟩;obtain⟨rfl,rfl⟩:=hh;exact v W i
theorem bV {q:β->wG->Prop} {m:Wd->StateT SortSt Sem α} (h:kh c n l m t P) (i:∀b t',P b t'->q b t'):kh c n l m t q:=by
 obtain⟨b,t1,u,h1⟩:=h;exact⟨b,t1,i _ _ u,h1⟩
theorem FP {body:Wd->Nat->α->StateT SortSt Sem (ForInStep α)} (I:List Nat->β->wG->Prop)
  (step:∀x xs b t,I (x::xs) b t->kh c n (LG l) (fun W=>body W x (l W b)) t fun r t'=>match r with | .done b'=>P b' t' | .yield b'=>I xs b' t')
  (fin:∀b t,I [] b t->P b t):∀(xs:List Nat) (b:β) (t:wG),I xs b t->kh c n l (fun W=>forIn xs (l W b) (body W)) t P
 | [],b,t,h=>⟨b,t,fin b t h,fun W _=>by dsimp only;rw[List.forIn_nil];exact wpS_pure ⟨rfl,rfl⟩⟩
 |x::xs,b,t,h=>by
  obtain⟨r,t1,h1,q⟩:=step x xs b t h;cases r with
  |done b'=>
   refine⟨b',t1,h1,fun W i=>?_⟩;dsimp only;rw[Xz];refine wpS_bind (wpS_mono (q W i) fun a st hh=>?_);obtain⟨rfl,rfl⟩:=hh;exact wpS_pure ⟨rfl,rfl⟩
  |yield b'=>
   obtain⟨v,t2,y,u⟩:=FP I step fin xs b' t1 h1;refine⟨v,t2,y,fun W i=>?_⟩;dsimp only;rw[Xz];refine wpS_bind (wpS_mono (q W i) fun a st hh=>?_);obtain⟨rfl,rfl⟩:=hh;exact u W i
theorem bS {t:wG} {a b:Nat} {body:Wd->Nat->α->StateT SortSt Sem (ForInStep α)} {init:Wd->α} (x:β) (I:Nat->β->wG->Prop) (h:I a x t)
  (step:∀i x t,a<=i->i<b->I i x t->kh c n (LG l) (fun W=>body W i (l W x)) t fun r t'=>match r with | .done y=>P y t' | .yield y=>I (i+1) y t')
  (fin:∀x t,I (max a b) x t->P x t) (e:∀W,init W=l W x:=by intro _;rfl):kh c n l (fun W=>forIn [a:b] (init W) (body W)) t P:=by
 have hsz:([a:b]:Std.Legacy.Range).size=b-a:=by simp[Std.Legacy.Range.size]
 have key:=FP (c:=c) (n:=n) (l:=l) (P:=P) (body:=body) (fun xs x t=> ∃i,a<=i/\i<=max a b/\xs=List.range' i (max a b-i) 1/\I i x t)
  (fun y xs x t hh=>?_) (fun x t hh=>?_) (List.range' a (max a b-a) 1) x t ⟨a,cm _,Yc ..,rfl,h⟩
 ·obtain⟨b',t',h1,G⟩:=key;refine⟨b',t',h1,fun W F=>?_⟩;dsimp only;rw[Std.Legacy.Range.forIn_eq_forIn_range',e W];show wpS _ _ _ _ (forIn (List.range' a ([a:b]:Std.Legacy.Range).size 1) (l W x) (body W)) _ _;rw[hsz,show b-a=max a b-a by omega];exact G W F
 ·obtain⟨i,C,q,e1,v⟩:=hh;obtain⟨m,hm⟩:∃m,max a b-i=m+1:=by
   cases u:max a b-i with
   |zero=>rw[u] at e1;simp at e1
   |succ m=>exact⟨m,rfl⟩
  rw[hm,List.range'_succ] at e1;obtain⟨rfl,rfl⟩:=List.cons.inj e1;refine bV (step y x t C (by omega) v) fun r t' z=>?_;cases r with
  |done E=>exact z
  |yield E=>exact⟨y+1,by omega,by omega,by rw[show max a b-(y+1)=m by omega],z⟩
 ·obtain⟨i,C,q,e1,v⟩:=hh;have:i=max a b:=by
   cases u:max a b-i with
   |zero=>omega
   |succ m=>rw[u,List.range'_succ] at e1;simp at e1
  subst this;exact fin x t v
end
end
mutual
theorem iC (h:P t t):kh c n (fun W t=>W.st t) (fun _=>get) t P:=⟨t,t,h,fun W _=>wpS_get ⟨rfl,rfl⟩⟩
theorem iB {g:Wd->SortSt->SortSt} (t':wG) (h:P ⟨⟩ t') (e:∀W,g W (W.st t)=W.st t':=by intro _;rfl):kh c n same (fun W=>modify (g W)) t P:=
 ⟨⟨⟩,t',h,fun W _=>wpS_modify ⟨rfl,e W⟩⟩
theorem nV (h:P () t):kh c n same (fun _=>liftM (rule x)) t P:=⟨(),t,h,fun W _=>wpS_lift (wpAny_rule ⟨rfl,rfl,rfl⟩)⟩
theorem dq {x:Array Nat} (q:i<x.size) (h:P x[i] t):kh c n (fun W b=>W.f b) (fun W=>elem' (x.map W.f) i) t P:=
 ⟨
  x[i],t,h,fun W _=>by
  dsimp only;rw[elem'_eq];have e:(x.map W.f)[i]?=some (W.f x[i]):=by simp[q]
  rw[e];exact wpS_pure ⟨rfl,rfl⟩⟩
theorem AN (v:i<n) (u:j<n) (h:P (some (c i j)) t):kh c n same (fun W=>lt' (W.f i) (W.f j)) t P:=
 ⟨
  some (c i j),t,h,fun W q=>by
  dsimp only;rw[lt'_eq];refine wpS_bind (wpS_get ?_);refine wpS_bind (wpS_lift (wpAny_attempt (q i j v u _ _ ⟨rfl,?_⟩)));exact wpS_pure ⟨rfl,rfl⟩⟩
theorem AM (hx:∀v∈t.1,v<n) (u:i<t.1.size) (q:j<t.1.size) (h:∀b,P (some b) t):kh c n same (fun _=>ltAt' i j) t P:=by
 have e:(fun _:Wd=>ltAt' i j)=fun W=>ltAt' i j:=rfl;simp only[ltAt'_eq];refine ay (fun W t=>W.st t) (iC ?_);refine ay (fun W b=>W.f b) (dq u ?_);refine ay (fun W b=>W.f b) (dq q ?_);exact AN (hx _ (XA _)) (hx _ (XA _)) (h _)
noncomputable def gallop':Bool->Keyed->Array Keyed->Nat->Nat->Nat->StateT SortSt Sem (Option Nat):=sortPriv% PySem.Builtin.gallop
noncomputable def MV:Array Keyed->Array Keyed->StateT SortSt Sem (Array Keyed):=sortPriv% PySem.Builtin.mergeLo
noncomputable def MW:Array Keyed->Array Keyed->StateT SortSt Sem (Array Keyed):=sortPriv% PySem.Builtin.mergeHi
theorem bD {d:Wd->Decidable p} {i:Wd->StateT SortSt Sem α} {P:β->wG->Prop} (h1:p->kh c n l m1 t P) (q: ¬p->kh c n l i t P):kh c n l (fun W=>@ite _ p (d W) (m1 W) (i W)) t P:=by
 by_cases h:p
 ·simpa only[bc h] using h1 h
 ·simpa only[a5 h] using q h
theorem lh {left:Bool} {x:Array Nat} (hk:k<n) (hx:∀v∈x,v<n) (u:i<x.size) (h:∀b,P (some b) t):
  kh c n same (fun W=>do
   let y<-elem' (x.map W.f) i
   if left then lt' y (W.f k) else return (<-lt' (W.f k) y).map (!·)) t P:=by
 refine ay (fun W b=>W.f b) (dq u ?_);have q:=hx _ (XA u);cases left with
 |true=>exact AN q hk (h _)
 |false=>exact ay same (AN hk q (av _ (h _)))
theorem u9 {x:Array Nat} (hk:k<n) (hx:∀v∈x,v<n) (O:base+m<=x.size) (hh:hint<m) (h:∀r,r<=m->P (some r) t):
  kh c n same (fun W=>gallop' left (W.f k) (x.map W.f) base m hint) t P:=by
 refine ay same (lh hk hx (by lia) fun b=>?_);dsimp only;have fin:∀lo q,q<=m->∀{body:Wd->Nat->Option (Option Nat)×Nat×Nat->StateT SortSt Sem (ForInStep (Option (Option Nat)×Nat×Nat))},
   (∀i lo q t',q<=m->¬lo≥q->∀R:ForInStep (Option (Option Nat)×Nat×Nat)->wG->Prop,(∀lo q,q<=m->R (.yield (none,lo,q)) t')->kh c n (LG same) (fun W=>body W i (none,lo,q)) t' R)->
   (∀W i lo q,lo≥q->body W i (none,lo,q)=pure (.done (none,lo,q)))->
   kh c n same (fun W=>forIn [:m] (none,lo,q) (body W)) t fun z t'=>t'=t/\z.1=none/\z.2.2<=m:=by
  intro lo q I body H G;refine(bV (P:=fun z t'=>t'=t/\z.1=none/\z.2.2<=m) (bS (none,lo,q) (fun _ z t'=>t'=t/\z.1=none/\z.2.2<=m) ⟨rfl,rfl,I⟩ (fun i z t' _ _ u=>?_) (fun z t' u=>u)) fun z t' u=>u);obtain⟨r,lo,q⟩:=z;obtain⟨rfl,h1,y⟩:=u;dsimp only at h1 y;subst h1;by_cases hl:lo≥q
  ·have e:(fun W:Wd=>body W i (same W (none,lo,q)))=fun W=>pure (.done (none,lo,q)):=funext fun W=>G W i lo q hl;rw[e];exact av (ForInStep.done (none,lo,q)) (show t'=t'/\_=_/\_ from⟨rfl,rfl,y⟩)
  ·exact H i lo q _ y hl _ fun lo q h=>⟨rfl,rfl,h⟩
 have half:∀lo q:Nat,¬lo≥q->lo+(q-lo) / 2<q:=fun lo q h=>by lia
 refine bD (fun _=>?_) (fun _=>?_)
 ·refine ay same (bV (P:=fun z t'=>t'=t/\z.1=none/\z.2.1<m-hint) (bS (none,0,1) (fun _ z t'=>t'=t/\z.1=none/\z.2.1<m-hint) ⟨rfl,rfl,by show 0<_;lia⟩ (fun i z t' _ _ u=>?_) (fun z t' u=>u)) fun z t' u=>?_)
  ·obtain⟨r,lo,q⟩:=z;obtain⟨rfl,h1,y⟩:=u;dsimp only at h1 y;subst h1;dsimp only;refine bD (fun _=>?_) (fun hl=>?_)
   ·exact av (ForInStep.done (none,lo,q)) ⟨rfl,rfl,y⟩
   refine ay same (lh hk hx (by lia) fun b=>?_);dsimp only;refine bD (fun _=>?_) (fun _=>?_)
   ·exact av (ForInStep.done (none,lo,q)) ⟨rfl,rfl,y⟩
   refine av (ForInStep.yield (none,q,2*q+1)) ⟨rfl,rfl,?_⟩;show q<_;lia
  ·obtain⟨r,lo,q⟩:=z;obtain⟨rfl,h1,y⟩:=u;dsimp only at h1 y;subst h1;dsimp only;have e1:hint+min q (m-hint)<=m:=by lia
   refine ay same (bV (fin _ _ e1 ?_ ?_) fun z t2 u=>?_)
   ·intro i lo q t' C E R F;simp only[a5 E];have:=half lo q E;refine ay same (lh hk hx (by lia) fun b=>?_);dsimp only;refine bD (fun _=>?_) (fun _=>?_)
    ·exact av (ForInStep.yield (none,lo+(q-lo) / 2+1,q)) (F _ _ C)
    ·exact av (ForInStep.yield (none,lo,lo+(q-lo) / 2)) (F _ _ (by lia))
   ·intro W i lo q C;exact bc C
   ·obtain⟨r,lo,q⟩:=z;obtain⟨rfl,h1,y⟩:=u;dsimp only at h1 y;subst h1;dsimp only;exact av _ (h _ y)
 ·refine ay same (bV (P:=fun z t'=>t'=t/\z.1=none) (bS (none,0,1) (fun _ z t'=>t'=t/\z.1=none) ⟨rfl,rfl⟩ (fun i z t' _ _ u=>?_) (fun z t' u=>u)) fun z t' u=>?_)
  ·obtain⟨r,lo,q⟩:=z;obtain⟨rfl,h1⟩:=u;dsimp only at h1;subst h1;dsimp only;refine bD (fun _=>?_) (fun hl=>?_)
   ·exact av (ForInStep.done (none,lo,q)) ⟨rfl,rfl⟩
   refine ay same (lh hk hx (by lia) fun b=>?_);dsimp only;refine bD (fun _=>?_) (fun _=>?_)
   ·exact av (ForInStep.done (none,lo,q)) ⟨rfl,rfl⟩
   ·exact av (ForInStep.yield (none,q,2*q+1)) ⟨rfl,rfl⟩
  ·obtain⟨r,lo,q⟩:=z;obtain⟨rfl,h1⟩:=u;dsimp only at h1;subst h1;dsimp only;have e1:hint-lo<=m:=by lia
   refine ay same (bV (fin _ _ e1 ?_ ?_) fun z t2 u=>?_)
   ·intro i lo q t' C E R F;simp only[a5 E];have:=half lo q E;refine ay same (lh hk hx (by lia) fun b=>?_);dsimp only;refine bD (fun _=>?_) (fun _=>?_)
    ·exact av (ForInStep.yield (none,lo+(q-lo) / 2+1,q)) (F _ _ C)
    ·exact av (ForInStep.yield (none,lo,lo+(q-lo) / 2)) (F _ _ (by lia))
   ·intro W i lo q C;exact bc C
   ·obtain⟨r,lo,q⟩:=z;obtain⟨rfl,h1,y⟩:=u;dsimp only at h1 y;subst h1;dsimp only;exact av _ (h _ y)
def yT (o x y:Array Nat) (i j:Nat):Prop:= ∀v,o.toList.count v=(x.toList.take i).count v+(y.toList.take j).count v
def lS (z x y:Array Nat):Prop:= ∀v,z.toList.count v=x.toList.count v+y.toList.count v
theorem pH {l:List Nat}:(l.take (i+k)).count v=(l.take i).count v+((l.drop i).take k).count v:=by
 rw[List.take_add,fC]
theorem eK {l:List Nat}:l.count v=(l.take i).count v+(l.drop i).count v:=by
 rw[<-fC,List.take_append_drop]
theorem AW {x:Array Nat}:(x.extract i (i+k)).toList=(x.toList.drop i).take k:=by
 rw[Array.toList_extract,List.extract_eq_take_drop,show i+k-i=k by lia]
theorem zP {x:Array Nat}:(x.extract i x.size).toList=x.toList.drop i:=by
 rw[Array.toList_extract,List.extract_eq_take_drop,Xj (by simp)]
theorem yT.vw (h:yT o x y i j) (q:i<x.size):yT (o.push x[i]) x y (i+1) j:=fun v=>by
 have e:(x.toList.drop i).take 1= [x[i]]:=by
  rw[XC (by simpa using q)];simp
 rw[N0,fC,h v,pH,e];lia
theorem yT.yg (h:yT o x y i j) (q:j<y.size):yT (o.push y[j]) x y i (j+1):=fun v=>by
 have e:(y.toList.drop j).take 1= [y[j]]:=by
  rw[XC (by simpa using q)];simp
 rw[N0,fC,h v,pH (i:=j),e];lia
theorem yT.Ta (h:yT o x y i j) (k:Nat):yT (o++x.extract i (i+k)) x y (i+k) j:=fun v=>by
 rw[lp,fC,h v,AW,pH (i:=i)];lia
theorem yT.ext2 (h:yT o x y i j) (k:Nat):yT (o++y.extract j (j+k)) x y i (j+k):=fun v=>by
 rw[lp,fC,h v,AW,pH (i:=j)];lia
theorem yT.all1 (h:yT o x y i j):lS (o++x.extract i x.size++y.extract j y.size) x y:=fun v=>by
 rw[lp,lp,fC,fC,h v,zP,zP,eK (l:=x.toList) (i:=i),eK (l:=y.toList) (i:=j)];lia
theorem yT.all2 (h:yT o x y i j):lS (o++y.extract j y.size++x.extract i x.size) x y:=fun v=>by
 rw[lp,lp,fC,fC,h v,zP,zP,eK (l:=x.toList) (i:=i),eK (l:=y.toList) (i:=j)];lia
noncomputable abbrev lM {i:Type}:Wd->Option (Array Nat)×Array Nat×i->Option (Array Keyed)×Array Keyed×i:=fun W b=>(b.1.map fun z=>z.map W.f,b.2.1.map W.f,b.2.2)
theorem jw {b:Nat} {d:Wd->Decidable ((a == b)=true)} {i:Wd->StateT SortSt Sem α} {P:β->wG->Prop} (h1:a=b->kh c n l m1 t P) (q:a≠b->kh c n l i t P):kh c n l (fun W=>@ite _ ((a == b)=true) (d W) (m1 W) (i W)) t P:=
 bD (fun e=>h1 (zp.mp e)) (fun e=>q fun z=>e (zp.mpr z))
theorem xA {x:Array Nat} (h:∀v∈x,v<n) (q:i<x.size):x[i]<n:=h _ (XA q)
theorem vW (h:P () (t.1,t.2.1,g)):kh c n same (fun _=>(sortPriv% PySem.Builtin.setMinGallop) g) t P:=iB (t.1,t.2.1,g) h
def Lo (x y:Array Nat) (t:wG) (k:Nat) (o:Array Nat) (i j:Nat) (t':wG):Prop:=yT o x y i j/\i+1<x.size/\j<y.size/\k<=i+j/\t'.1=t.1/\t'.2.1=t.2.1
theorem NS {P:β->wG->Prop} {d1:Wd->Decidable a} {i:Wd->Decidable b} {d:∀W,Decidable ((@decide a (d1 W) && @decide b (i W))=true)} {q:Wd->StateT SortSt Sem α} (h1:kh c n l m1 t P) (u:kh c n l q t P):
  kh c n l (fun W=>@ite _ ((@decide a (d1 W) && @decide b (i W))=true) (d W) (m1 W) (q W)) t P:=by
 by_cases h:a/\b
 ·have e:∀W,(@decide a (d1 W) && @decide b (i W))=true:=fun W=>by simp[h]
  simpa only[bc (e _)] using h1
 ·have e:∀W,¬(@decide a (d1 W) && @decide b (i W))=true:=fun W z=>h (by simpa using z);simpa only[a5 (e _)] using u
theorem aN {P:β->wG->Prop} {k:Wd->γ->StateT SortSt Sem α} (h:kh c n same m t fun b t'=>kh c n l (fun W=>k W b) t' P):kh c n l (fun W=>m W >>= k W) t P:=ay same h
noncomputable abbrev SM:=StateT SortSt Sem
noncomputable abbrev lG:Nat->SM Unit:=sortPriv% PySem.Builtin.setMinGallop
noncomputable def dN (a b o:Array α) (i j:Nat):=o++a.extract i a.size++b.extract j b.size
noncomputable def dL (a b o:Array α) (i j:Nat):=o++b.extract j b.size++a.extract i a.size
theorem nN {f:Nat->Keyed}:dN (x.map f) (y.map f) (o.map f) i j=(dN x y o i j).map f:=by simp[dN]
theorem nL {f:Nat->Keyed}:dL (x.map f) (y.map f) (o.map f) i j=(dL x y o i j).map f:=by simp[dL]
abbrev S5:=Option (Array Keyed)×Array Keyed×Nat×Nat×Nat
abbrev S6:=Option (Array Keyed)×Array Keyed×Nat×Nat×Nat×Nat
abbrev S7:=Option (Array Keyed)×Array Keyed×Nat×Nat×Nat×Nat×Nat
end
section
mutual
variable (x y:String) (z:SM (Array Keyed)) (a b:Array Keyed) (o:Array Keyed) (i j g k r:Nat)
noncomputable def p3:SM (ForInStep S7):=elem' a i >>= fun e=>if i+1+1==a.size then pure (.done (some (dL a b (o.push e) (i+1) j),o.push e,i+1,j,g,k,r)) else if k<7&&r<7 then pure (.done (none,o.push e,i+1,j,g,k,r)) else pure (.yield (none,o.push e,i+1,j,g,k,r))
noncomputable def p2:SM (ForInStep S7):=elem' b j >>= fun e=>if j+1==b.size then pure (.done (some (dN a b (o.push e) i (j+1)),o.push e,i,j+1,g,k,r)) else elem' a i >>= fun f=>gallop' true f b (j+1) (b.size-(j+1)) 0 >>= fun x=>match x with
 |some r=>if r>0 then(if j+1+r==b.size then pure (.done (some (dN a b (o.push e++b.extract (j+1) (j+1+r)) i (j+1+r)),o.push e++b.extract (j+1) (j+1+r),i,j+1+r,g,k,r)) else p3 a b (o.push e++b.extract (j+1) (j+1+r)) i (j+1+r) g k r) else p3 a b (o.push e) i (j+1) g k r
 |_=>pure (.done (some (dN a b (o.push e) i (j+1)),o.push e,i,j+1,g,k,r))
noncomputable def p1:SM (ForInStep S7):=lG g >>= fun _=>elem' b j >>= fun e=>gallop' false e a i (a.size-i) 0 >>= fun x=>match x with
 |some k=>if k>0 then(if i+k+1==a.size then pure (.done (some (dL a b (o++a.extract i (i+k)) (i+k) j),o++a.extract i (i+k),i+k,j,g,k,r)) else if i+k==a.size then pure (.done (some (dN a b (o++a.extract i (i+k)) (i+k) j),o++a.extract i (i+k),i+k,j,g,k,r)) else p2 a b (o++a.extract i (i+k)) (i+k) j g k r) else p2 a b o i j g k r
 |_=>pure (.done (some (dN a b o i j),o,i,j,g,k,r))
noncomputable def pB (_:Nat) (s:S7):SM (ForInStep S7):=if s.2.2.2.2.1>1 then p1 a b s.2.1 s.2.2.1 s.2.2.2.1 (s.2.2.2.2.1-1) s.2.2.2.2.2.1 s.2.2.2.2.2.2 else p1 a b s.2.1 s.2.2.1 s.2.2.2.1 s.2.2.2.2.1 s.2.2.2.2.2.1 s.2.2.2.2.2.2
noncomputable def q1:SM (ForInStep S6):=elem' b j >>= fun e=>elem' a i >>= fun f=>lt' e f >>= fun x=>match x with
 |some w=>if w then elem' b j >>= fun e=>if j+1==b.size then pure (.done (some (dN a b (o.push e) i (j+1)),o.push e,i,j+1,0,r+1)) else if r+1≥g then pure (.done (none,o.push e,i,j+1,0,r+1)) else pure (.yield (none,o.push e,i,j+1,0,r+1))
  else elem' a i >>= fun e=>if i+1+1==a.size then pure (.done (some (dL a b (o.push e) (i+1) j),o.push e,i+1,j,k+1,0)) else if k+1≥g then pure (.done (none,o.push e,i+1,j,k+1,0)) else pure (.yield (none,o.push e,i+1,j,k+1,0))
 |_=>pure (.done (some (dN a b o i j),o,i,j,k,r))
noncomputable def qB (_:Nat) (s:S6):SM (ForInStep S6):=q1 a b s.2.1 s.2.2.1 s.2.2.2.1 g s.2.2.2.2.1 s.2.2.2.2.2
noncomputable def oB (_:Nat) (s:S5):SM (ForInStep S5):=forIn [0:a.size+b.size] (none,s.2.1,s.2.2.1,s.2.2.2.1,0,0) (qB a b s.2.2.2.2) >>= fun v=>match v.1 with
 |some z=>pure (.done (some z,v.2.1,v.2.2.1,v.2.2.2.1,s.2.2.2.2))
 |none=>liftM (rule y) >>= fun _=>forIn [0:a.size+b.size] (none,v.2.1,v.2.2.1,v.2.2.2.1,s.2.2.2.2+1,v.2.2.2.2.1,v.2.2.2.2.2) (pB a b) >>= fun v=>match v.1 with
  |some z=>pure (.done (some z,v.2.1,v.2.2.1,v.2.2.2.1,v.2.2.2.2.1))
  |none=>lG (v.2.2.2.2.1+1) >>= fun _=>pure (.yield (none,v.2.1,v.2.2.1,v.2.2.2.1,v.2.2.2.2.1+1))
noncomputable def mV:SM (Array Keyed):=liftM (rule x) >>= fun _=>elem' b 0 >>= fun e=>if 1==b.size then pure (dN a b #[e] 0 1) else if 0+1==a.size then pure (dL a b #[e] 0 1) else get >>= fun t=>forIn [0:a.size+b.size] (none,#[e],0,1,(sortPriv% PySem.Builtin.SortState.minGallop) t) (oB y a b) >>= fun v=>match v.1 with
 |some z=>pure z
 |none=>z
theorem mV_eq:MV=mV "list.sort.merge-lo" "list.sort.gallop" (liftM (unsupported "internal:list.sort.merge-bound")):=by kernel_rfl
end
end
theorem jm {x:Array Nat} {d:∀W:Wd,Decidable ((a == (x.map W.f).size)=true)} {m1 i:Wd->StateT SortSt Sem α} {P:β->wG->Prop} (h1:a=x.size->kh c n l m1 t P) (q:a≠x.size->kh c n l i t P):kh c n l (fun W=>@ite _ ((a == (x.map W.f).size)=true) (d W) (m1 W) (i W)) t P:=by
 revert d;simp only[Array.size_map];intro d;exact jw h1 q
theorem gM {x:Array Nat} (hk:k<n) (hx:∀v∈x,v<n) (q:b<x.size) (h:∀r,r<=x.size-b->P (some r) t):kh c n same (fun W=>gallop' e (W.f k) (x.map W.f) b ((x.map W.f).size-b) 0) t P:=by
 simp only[Array.size_map];exact u9 hk hx (by lia) (by lia) h
def Qp {ρ:Type} (x y:Array Nat) (t:wG) (k s:Nat) (r:ForInStep (Option (Array Nat)×Array Nat×Nat×Nat×ρ)) (t':wG):Prop:=match r with
 |.done b=>(∃z,b.1=some z/\lS z x y/\t'.1=t.1/\t'.2.1=t.2.1)\/(b.1=none/\Lo x y t k b.2.1 b.2.2.1 b.2.2.2.1 t')
 |.yield b=>b.1=none/\Lo x y t s b.2.1 b.2.2.1 b.2.2.2.1 t'
section
mutual
variable {ρ:Type} {w:ρ} {u:Wd->Array Keyed} {x y:Array Nat}
theorem xN (H:yT o x y i j) (C:v.1=t.1/\v.2.1=t.2.1) (e:∀W,u W=o.map W.f):kh c n (LG lM) (fun W=>pure (.done (some (dN (x.map W.f) (y.map W.f) (u W) i j),u W,i,j,w))) v (Qp x y t k s):=by
 simp only[e,nN];exact av (.done (some _,o,i,j,w)) (.inl ⟨_,rfl,H.all1,C⟩)
theorem xL (H:yT o x y i j) (C:v.1=t.1/\v.2.1=t.2.1) (e:∀W,u W=o.map W.f):kh c n (LG lM) (fun W=>pure (.done (some (dL (x.map W.f) (y.map W.f) (u W) i j),u W,i,j,w))) v (Qp x y t k s):=by
 simp only[e,nL];exact av (.done (some _,o,i,j,w)) (.inl ⟨_,rfl,H.all2,C⟩)
theorem xD (H:yT o x y i j) (C:v.1=t.1/\v.2.1=t.2.1) (e:∀W,u W=o.map W.f) (l:i+1<x.size/\j<y.size/\k<=i+j):kh c n (LG lM) (fun W=>pure (.done (none,u W,i,j,w))) v (Qp x y t k s):=by
 simp only[e];exact av (.done (none,o,i,j,w)) (.inr ⟨rfl,H,l.1,l.2.1,l.2.2,C⟩)
theorem xY (H:yT o x y i j) (C:v.1=t.1/\v.2.1=t.2.1) (e:∀W,u W=o.map W.f) (l:i+1<x.size/\j<y.size/\s<=i+j):kh c n (LG lM) (fun W=>pure (.yield (none,u W,i,j,w))) v (Qp x y t k s):=by
 simp only[e];exact av (.yield (none,o,i,j,w)) ⟨rfl,H,l.1,l.2.1,l.2.2,C⟩
variable (hx:∀v∈x,v<n) (hy:∀v∈y,v<n)
include hx
theorem p3L (W:Lo x y t s o i j v) (e:∀W,u W=o.map W.f):kh c n (LG lM) (fun W=>p3 (x.map W.f) (y.map W.f) (u W) i j g k r) v (Qp x y t s s):=by
 obtain⟨H,ha,q,hk,C⟩:=W;simp only[e];refine ay (fun W b=>W.f b) (dq (by lia) ?_);have H:=H.vw (by lia);refine jm (fun _=>?_) (fun _=>NS ?_ ?_)
 ·exact xL H C (by simp)
 ·exact xD H C (by simp) (by lia)
 ·exact xY H C (by simp) (by lia)
include hy
theorem p2L (W:Lo x y t s o i j v) (e:∀W,u W=o.map W.f):kh c n (LG lM) (fun W=>p2 (x.map W.f) (y.map W.f) (u W) i j g k r) v (Qp x y t s s):=by
 obtain⟨H,ha,q,hk,C⟩:=W;simp only[e];refine ay (fun W b=>W.f b) (dq q ?_);have H:=H.yg q;refine jm (fun _=>?_) (fun _=>?_)
 ·exact xN H C (by simp)
 refine ay (fun W b=>W.f b) (dq (by lia) ?_);refine ay same (gM (xA hx _) hy (by lia) fun r _=>?_);refine bD (fun _=>jm (fun _=>?_) (fun _=>?_)) (fun _=>?_)
 ·exact xN (H.ext2 r) C (by simp)
 ·exact p3L hx ⟨H.ext2 r,ha,by lia,by lia,C⟩ (by simp)
 ·exact p3L hx ⟨H,ha,by lia,by lia,C⟩ (by simp)
theorem p1L (W:Lo x y t s o i j v):kh c n (LG lM) (fun W=>p1 (x.map W.f) (y.map W.f) (o.map W.f) i j g k r) v (Qp x y t s s):=by
 obtain⟨H,ha,q,hk,C⟩:=W;refine ay same (vW ?_);refine ay (fun W b=>W.f b) (dq q ?_);refine ay same (gM (xA hy _) hx (by lia) fun r _=>?_);refine bD (fun _=>jm (fun _=>?_) (fun _=>jm (fun _=>?_) (fun _=>?_))) (fun _=>?_)
 ·exact xL (H.Ta r) C (by simp)
 ·exact xN (H.Ta r) C (by simp)
 ·exact p2L hx hy ⟨H.Ta r,by lia,q,by lia,C⟩ (by simp)
 ·exact p2L hx hy ⟨H,ha,q,hk,C⟩ (by simp)
theorem q1L (W:Lo x y t s o i j v) (h:p<=s+1):kh c n (LG lM) (fun W=>q1 (x.map W.f) (y.map W.f) (o.map W.f) i j g k r) v (Qp x y t p (s+1)):=by
 obtain⟨H,ha,q,hk,C⟩:=W;refine ay (fun W b=>W.f b) (dq q ?_);refine ay (fun W b=>W.f b) (dq (by lia) ?_);refine ay same (AN (xA hy _) (xA hx _) ?_);refine bD (fun _=>ay (fun W b=>W.f b) (dq q (jm (fun _=>?_) (fun _=>bD (fun _=>?_) (fun _=>?_))))) (fun _=>ay (fun W b=>W.f b) (dq (by lia) (jm (fun _=>?_) (fun _=>bD (fun _=>?_) (fun _=>?_)))))
 ·exact xN (H.yg q) C (by simp)
 ·exact xD (H.yg q) C (by simp) (by lia)
 ·exact xY (H.yg q) C (by simp) (by lia)
 all_goals have I:=H.vw (show i<x.size by lia)
 ·exact xL I C (by simp)
 ·exact xD I C (by simp) (by lia)
 ·exact xY I C (by simp) (by lia)
theorem oL (W:Lo x y t (s+1) o i j v):kh c n (LG lM) (fun W=>oB z (x.map W.f) (y.map W.f) s (none,o.map W.f,i,j,g)) v (Qp x y t (x.size+y.size) (s+2)):=by
 unfold oB;simp only[Array.size_map];refine ay lM (bV (P:=fun b v=>Qp x y t (s+2) (s+2) (.done b) v) (bS (none,o,i,j,0,0) (fun p b v=>b.1=none/\Lo x y t (s+1+p) b.2.1 b.2.2.1 b.2.2.2.1 v) ⟨rfl,W⟩ (fun p b v _ _ H=>?_) (fun b v H=>?_)) fun b v H=>?_)
 ·obtain⟨_,o,i,j,k,r⟩:=b;obtain⟨rfl,H⟩:=H;exact bV (q1L (p:=s+2) hx hy H (by lia)) fun b v H=>by cases b<;>exact H
 ·obtain⟨h,H⟩:=H;exact .inr ⟨h,H.1,H.2.1,H.2.2.1,by have:=H.2.2.2.1;have:=H.2.1;lia,H.2.2.2.2⟩
 obtain⟨b,o,i,j,k,r⟩:=b;rcases H with⟨z,rfl,H⟩|⟨rfl,H⟩
 ·exact av (.done (some z,_,_,_,_)) (.inl ⟨z,rfl,H⟩)
 refine ay same (nV ?_);refine ay lM (bV (P:=fun b v=>Qp x y t (s+2) (s+2) (.done b) v) (bS (none,o,i,j,g+1,k,r) (fun p b v=>b.1=none/\Lo x y t (s+2) b.2.1 b.2.2.1 b.2.2.2.1 v) ⟨rfl,H⟩ (fun p b v _ _ H=>?_) (fun b v H=>.inr H)) fun b v H=>?_)
 ·obtain⟨_,o,i,j,g,k,r⟩:=b;obtain⟨rfl,H⟩:=H;refine bV ?_ (fun b v H=>?_) (P:=Qp x y t (s+2) (s+2))
  ·unfold pB;dsimp only[lM];exact bD (fun _=>p1L hx hy H) (fun _=>p1L hx hy H)
  ·cases b<;>exact H
 obtain⟨b,o,i,j,g,k,r⟩:=b;rcases H with⟨z,rfl,H⟩|⟨rfl,H⟩
 ·exact av (.done (some z,_,_,_,_)) (.inl ⟨z,rfl,H⟩)
 dsimp only[lM];refine ay same (vW ?_);exact av (.yield (none,_,i,j,_)) ⟨rfl,H⟩
theorem FL (h1:1<=x.size) (h2:1<=y.size) (h:∀z t',lS z x y->t'.1=t.1->t'.2.1=t.2.1->P z t'):kh c n (fun W z=>z.map W.f) (fun W=>MV (x.map W.f) (y.map W.f)) t P:=by
 rw[mV_eq];unfold mV;refine ay same (nV ?_);refine ay (fun W b=>W.f b) (dq h2 ?_);have H:yT #[y[0]] x y 0 1:=by
  have e:yT #[] x y 0 0:=fun v=>by simp
  exact e.yg h2
 refine jm (fun _=>?_) (fun _=>jm (fun _=>?_) (fun _=>?_))
 ·exact av _ (h _ _ H.all1 rfl rfl) (fun W=>by show _=(dN x y #[y[0]] 0 1).map W.f;rw[<-nN];simp)
 ·exact av _ (h _ _ H.all2 rfl rfl) (fun W=>by show _=(dL x y #[y[0]] 0 1).map W.f;rw[<-nL];simp)
 refine ay (fun W t=>W.st t) (iC ?_);simp only[Array.size_map];refine ay lM (bV (P:=fun b v=>Qp x y t (x.size+y.size) 0 (.done b) v) (bS (none,#[y[0]],0,1,t.2.2) (fun p b v=>b.1=none/\Lo x y t (p+1) b.2.1 b.2.2.1 b.2.2.2.1 v) ⟨rfl,H,by dsimp only;lia,by dsimp only;lia,by dsimp only;lia,rfl,rfl⟩ (fun p b v _ _ H=>?_) (fun b v H=>?_) (fun W=>by simp;rfl)) fun b v H=>?_)
 ·obtain⟨_,o,i,j,g⟩:=b;obtain⟨rfl,H⟩:=H;exact bV (oL hx hy H) fun b v H=>by cases b<;>exact H
 ·obtain⟨h,H⟩:=H;exact .inr ⟨h,H.1,H.2.1,H.2.2.1,by have:=H.2.2.2.1;lia,H.2.2.2.2⟩
 obtain⟨b,o,i,j,g⟩:=b;rcases H with⟨z,rfl,A,C,E⟩|⟨rfl,H⟩
 ·exact av z (h z _ A C E)
 ·have:=H.2.1;have:=H.2.2.1;have:=H.2.2.2.1;dsimp only at*;lia
end
end
mutual
def gp (o x y:Array Nat) (i j:Nat):Prop:= ∀v,o.toList.count v=(x.toList.drop i).count v+(y.toList.drop j).count v
theorem jd {l:List Nat} (h:a<=b):(l.drop a).count v=((l.drop a).take (b-a)).count v+(l.drop b).count v:=by
 rw[eK (l:=l.drop a) (i:=b-a),List.drop_drop,show a+(b-a)=b by lia]
theorem MI {l:Array Nat} (h0:0<i) (h:i-1<l.size):(l.toList.drop (i-1)).take (i-(i-1))= [l[i-1]]:=by
 rw[XC (by simpa using h),show i-(i-1)=1 by lia];simp
theorem gp.vw (h:gp o x y i j) (h0:0<i) (q:i-1<x.size):gp (o.push x[i-1]) x y (i-1) j:=fun v=>by
 rw[N0,fC,h v,jd (a:=i-1) (b:=i) (by lia),MI h0 q];lia
theorem gp.yg (h:gp o x y i j) (h0:0<j) (q:j-1<y.size):gp (o.push y[j-1]) x y i (j-1):=fun v=>by
 rw[N0,fC,h v,jd (l:=y.toList) (a:=j-1) (b:=j) (by lia),MI h0 q];lia
theorem sq {x:Array Nat}:(x.extract a i).toList=(x.toList.drop a).take (i-a):=by
 rw[Array.toList_extract,List.extract_eq_take_drop]
theorem gp.Ta (h:gp o x y i j) (ha:a<=i):gp (o++(x.extract a i).reverse) x y a j:=fun v=>by
 rw[lp,fC,h v,XZ,Yl,sq,jd (l:=x.toList) (a:=a) (b:=i) ha];lia
theorem gp.ext2 (h:gp o x y i j) (ha:a<=j):gp (o++(y.extract a j).reverse) x y i a:=fun v=>by
 rw[lp,fC,h v,XZ,Yl,sq,jd (l:=y.toList) (a:=a) (b:=j) ha];lia
theorem sr {x:Array Nat}:(x.extract 0 i).toList=x.toList.take i:=by
 rw[sq];rfl
theorem gp.all1 (h:gp o x y i j):lS (x.extract 0 i++y.extract 0 j++o.reverse) x y:=fun v=>by
 rw[lp,lp,fC,fC,XZ,Yl,h v,sr,sr,eK (l:=x.toList) (i:=i),eK (l:=y.toList) (i:=j)];lia
theorem gp.all2 (h:gp o x y i j):lS (y.extract 0 j++x.extract 0 i++o.reverse) x y:=fun v=>by
 rw[lp,lp,fC,fC,XZ,Yl,h v,sr,sr,eK (l:=x.toList) (i:=i),eK (l:=y.toList) (i:=j)];lia
noncomputable abbrev lH {i:Type}:Wd->Option (Array Nat)×Nat×Nat×Array Nat×i->Option (Array Keyed)×Nat×Nat×Array Keyed×i:=fun W b=>(b.1.map fun z=>z.map W.f,b.2.1,b.2.2.1,b.2.2.2.1.map W.f,b.2.2.2.2)
def Hi (x y:Array Nat) (t:wG) (k:Nat) (o:Array Nat) (i j:Nat) (t':wG):Prop:=gp o x y i j/\(1<=i/\i<=x.size)/\(2<=j/\j<=y.size)/\k+i+j<=x.size+y.size/\t'.1=t.1/\t'.2.1=t.2.1
noncomputable def hN (a b o:Array α) (i j:Nat):=a.extract 0 i++b.extract 0 j++o.reverse
noncomputable def hL (a b o:Array α) (i j:Nat):=b.extract 0 j++a.extract 0 i++o.reverse
theorem nN' {f:Nat->Keyed}:hN (x.map f) (y.map f) (o.map f) i j=(hN x y o i j).map f:=by simp[hN]
theorem nL' {f:Nat->Keyed}:hL (x.map f) (y.map f) (o.map f) i j=(hL x y o i j).map f:=by simp[hL]
abbrev T5:=Option (Array Keyed)×Nat×Nat×Array Keyed×Nat
abbrev T6:=Option (Array Keyed)×Nat×Nat×Array Keyed×Nat×Nat
abbrev T7:=Option (Array Keyed)×Nat×Nat×Array Keyed×Nat×Nat×Nat
end
section
mutual
variable (x y:String) (z:SM (Array Keyed)) (a b:Array Keyed) (i j:Nat) (o:Array Keyed) (g k r:Nat)
noncomputable def h3:SM (ForInStep T7):=elem' a (i-1) >>= fun e=>if i-1==0 then pure (.done (some (hN a b (o.push e) (i-1) j),i-1,j,o.push e,g,k,r)) else if k<7&&r<7 then pure (.done (none,i-1,j,o.push e,g,k,r)) else pure (.yield (none,i-1,j,o.push e,g,k,r))
noncomputable def h2:SM (ForInStep T7):=elem' b (j-1) >>= fun e=>if j-1==1 then pure (.done (some (hL a b (o.push e) i (j-1)),i,j-1,o.push e,g,k,r)) else elem' a (i-1) >>= fun f=>gallop' true f b 0 (j-1) (j-1-1) >>= fun x=>match x with
 |some s=>if j-1-s>0 then(if s==1 then pure (.done (some (hL a b (o.push e++(b.extract s (j-1)).reverse) i s),i,s,o.push e++(b.extract s (j-1)).reverse,g,k,j-1-s)) else if s==0 then pure (.done (some (hN a b (o.push e++(b.extract s (j-1)).reverse) i s),i,s,o.push e++(b.extract s (j-1)).reverse,g,k,j-1-s)) else h3 a b i s (o.push e++(b.extract s (j-1)).reverse) g k (j-1-s)) else h3 a b i (j-1) (o.push e) g k (j-1-s)
 |_=>pure (.done (some (hN a b (o.push e) i (j-1)),i,j-1,o.push e,g,k,r))
noncomputable def h1:SM (ForInStep T7):=lG g >>= fun _=>elem' b (j-1) >>= fun e=>gallop' false e a 0 i (i-1) >>= fun x=>match x with
 |some s=>if i-s>0 then(if s==0 then pure (.done (some (hN a b (o++(a.extract s i).reverse) s j),s,j,o++(a.extract s i).reverse,g,i-s,r)) else h2 a b s j (o++(a.extract s i).reverse) g (i-s) r) else h2 a b i j o g (i-s) r
 |_=>pure (.done (some (hN a b o i j),i,j,o,g,k,r))
noncomputable def hB (_:Nat) (s:T7):SM (ForInStep T7):=if s.2.2.2.2.1>1 then h1 a b s.2.1 s.2.2.1 s.2.2.2.1 (s.2.2.2.2.1-1) s.2.2.2.2.2.1 s.2.2.2.2.2.2 else h1 a b s.2.1 s.2.2.1 s.2.2.2.1 s.2.2.2.2.1 s.2.2.2.2.2.1 s.2.2.2.2.2.2
noncomputable def c1:SM (ForInStep T6):=elem' b (j-1) >>= fun e=>elem' a (i-1) >>= fun f=>lt' e f >>= fun x=>match x with
 |some w=>if w then elem' a (i-1) >>= fun e=>if i-1==0 then pure (.done (some (hN a b (o.push e) (i-1) j),i-1,j,o.push e,k+1,0)) else if k+1≥g then pure (.done (none,i-1,j,o.push e,k+1,0)) else pure (.yield (none,i-1,j,o.push e,k+1,0))
  else elem' b (j-1) >>= fun e=>if j-1==1 then pure (.done (some (hL a b (o.push e) i (j-1)),i,j-1,o.push e,0,r+1)) else if r+1≥g then pure (.done (none,i,j-1,o.push e,0,r+1)) else pure (.yield (none,i,j-1,o.push e,0,r+1))
 |_=>pure (.done (some (hN a b o i j),i,j,o,k,r))
noncomputable def cB (_:Nat) (s:T6):SM (ForInStep T6):=c1 a b s.2.1 s.2.2.1 s.2.2.2.1 g s.2.2.2.2.1 s.2.2.2.2.2
noncomputable def kB (_:Nat) (s:T5):SM (ForInStep T5):=forIn [0:a.size+b.size] (none,s.2.1,s.2.2.1,s.2.2.2.1,0,0) (cB a b s.2.2.2.2) >>= fun v=>match v.1 with
 |some z=>pure (.done (some z,v.2.1,v.2.2.1,v.2.2.2.1,s.2.2.2.2))
 |none=>liftM (rule y) >>= fun _=>forIn [0:a.size+b.size] (none,v.2.1,v.2.2.1,v.2.2.2.1,s.2.2.2.2+1,v.2.2.2.2.1,v.2.2.2.2.2) (hB a b) >>= fun v=>match v.1 with
  |some z=>pure (.done (some z,v.2.1,v.2.2.1,v.2.2.2.1,v.2.2.2.2.1))
  |none=>lG (v.2.2.2.2.1+1) >>= fun _=>pure (.yield (none,v.2.1,v.2.2.1,v.2.2.2.1,v.2.2.2.2.1+1))
noncomputable def mW:SM (Array Keyed):=liftM (rule x) >>= fun _=>elem' a (a.size-1) >>= fun e=>if a.size-1==0 then pure (hN a b #[e] (a.size-1) b.size) else if b.size==1 then pure (hL a b #[e] (a.size-1) b.size) else get >>= fun t=>forIn [0:a.size+b.size] (none,a.size-1,b.size,#[e],(sortPriv% PySem.Builtin.SortState.minGallop) t) (kB y a b) >>= fun v=>match v.1 with
 |some z=>pure z
 |none=>z
theorem mW_eq:MW=mW "list.sort.merge-hi" "list.sort.gallop" (liftM (unsupported "internal:list.sort.merge-bound")):=by kernel_rfl
end
end
def Qh {ρ:Type} (x y:Array Nat) (t:wG) (k s:Nat) (r:ForInStep (Option (Array Nat)×Nat×Nat×Array Nat×ρ)) (t':wG):Prop:=match r with
 |.done b=>(∃z,b.1=some z/\lS z x y/\t'.1=t.1/\t'.2.1=t.2.1)\/(b.1=none/\Hi x y t k b.2.2.2.1 b.2.1 b.2.2.1 t')
 |.yield b=>b.1=none/\Hi x y t s b.2.2.2.1 b.2.1 b.2.2.1 t'
section
mutual
variable {ρ:Type} {w:ρ} {u:Wd->Array Keyed} {x y:Array Nat}
theorem yN (H:gp o x y i j) (C:v.1=t.1/\v.2.1=t.2.1) (e:∀W,u W=o.map W.f):kh c n (LG lH) (fun W=>pure (.done (some (hN (x.map W.f) (y.map W.f) (u W) i j),i,j,u W,w))) v (Qh x y t k s):=by
 simp only[e,nN'];exact av (.done (some _,i,j,o,w)) (.inl ⟨_,rfl,H.all1,C⟩)
theorem yL (H:gp o x y i j) (C:v.1=t.1/\v.2.1=t.2.1) (e:∀W,u W=o.map W.f):kh c n (LG lH) (fun W=>pure (.done (some (hL (x.map W.f) (y.map W.f) (u W) i j),i,j,u W,w))) v (Qh x y t k s):=by
 simp only[e,nL'];exact av (.done (some _,i,j,o,w)) (.inl ⟨_,rfl,H.all2,C⟩)
theorem yD (H:gp o x y i j) (C:v.1=t.1/\v.2.1=t.2.1) (e:∀W,u W=o.map W.f) (l:(1<=i/\i<=x.size)/\(2<=j/\j<=y.size)/\k+i+j<=x.size+y.size):kh c n (LG lH) (fun W=>pure (.done (none,i,j,u W,w))) v (Qh x y t k s):=by
 simp only[e];exact av (.done (none,i,j,o,w)) (.inr ⟨rfl,H,l.1,l.2.1,l.2.2,C⟩)
theorem yY (H:gp o x y i j) (C:v.1=t.1/\v.2.1=t.2.1) (e:∀W,u W=o.map W.f) (l:(1<=i/\i<=x.size)/\(2<=j/\j<=y.size)/\s+i+j<=x.size+y.size):kh c n (LG lH) (fun W=>pure (.yield (none,i,j,u W,w))) v (Qh x y t k s):=by
 simp only[e];exact av (.yield (none,i,j,o,w)) ⟨rfl,H,l.1,l.2.1,l.2.2,C⟩
variable (hx:∀v∈x,v<n) (hy:∀v∈y,v<n)
include hx
theorem h3L (W:Hi x y t s o i j v) (e:∀W,u W=o.map W.f):kh c n (LG lH) (fun W=>h3 (x.map W.f) (y.map W.f) i j (u W) g k r) v (Qh x y t s s):=by
 obtain⟨H,a,b,q,C⟩:=W;simp only[e];refine ay (fun W b=>W.f b) (dq (by lia) ?_);have H:=H.vw (by lia) (by lia);refine jw (fun _=>?_) (fun _=>NS ?_ ?_)
 ·exact yN H C (by simp)
 ·exact yD H C (by simp) (by lia)
 ·exact yY H C (by simp) (by lia)
include hy
theorem h2L (W:Hi x y t s o i j v) (e:∀W,u W=o.map W.f):kh c n (LG lH) (fun W=>h2 (x.map W.f) (y.map W.f) i j (u W) g k r) v (Qh x y t s s):=by
 obtain⟨H,a,b,q,C⟩:=W;simp only[e];refine ay (fun W b=>W.f b) (dq (by lia) ?_);have H:=H.yg (by lia) (by lia);refine jw (fun _=>?_) (fun _=>?_)
 ·exact yL H C (by simp)
 refine ay (fun W b=>W.f b) (dq (by lia) ?_);refine ay same (u9 (xA hx _) hy (by lia) (by lia) fun r _=>?_);refine bD (fun _=>jw (fun _=>?_) (fun _=>jw (fun _=>?_) (fun _=>?_))) (fun _=>?_)
 ·exact yL (H.ext2 (by lia)) C (by simp)
 ·exact yN (H.ext2 (by lia)) C (by simp)
 ·exact h3L hx ⟨H.ext2 (by lia),a,by lia,by lia,C⟩ (by simp)
 ·exact h3L hx ⟨H,a,by lia,by lia,C⟩ (by simp)
theorem h1L (W:Hi x y t s o i j v):kh c n (LG lH) (fun W=>h1 (x.map W.f) (y.map W.f) i j (o.map W.f) g k r) v (Qh x y t s s):=by
 obtain⟨H,a,b,q,C⟩:=W;refine ay same (vW ?_);refine ay (fun W b=>W.f b) (dq (by lia) ?_);refine ay same (u9 (xA hy _) hx (by lia) (by lia) fun r _=>?_);refine bD (fun _=>jw (fun _=>?_) (fun _=>?_)) (fun _=>?_)
 ·exact yN (H.Ta (by lia)) C (by simp)
 ·exact h2L hx hy ⟨H.Ta (by lia),by lia,b,by lia,C⟩ (by simp)
 ·exact h2L hx hy ⟨H,a,b,q,C⟩ (by simp)
theorem c1L (W:Hi x y t s o i j v) (h:p<=s+1):kh c n (LG lH) (fun W=>c1 (x.map W.f) (y.map W.f) i j (o.map W.f) g k r) v (Qh x y t p (s+1)):=by
 obtain⟨H,a,b,q,C⟩:=W;refine ay (fun W b=>W.f b) (dq (by lia) ?_);refine ay (fun W b=>W.f b) (dq (by lia) ?_);refine ay same (AN (xA hy _) (xA hx _) ?_);refine bD (fun _=>ay (fun W b=>W.f b) (dq (by lia) (jw (fun _=>?_) (fun _=>bD (fun _=>?_) (fun _=>?_))))) (fun _=>ay (fun W b=>W.f b) (dq (by lia) (jw (fun _=>?_) (fun _=>bD (fun _=>?_) (fun _=>?_)))))
 ·have I:=H.vw (by lia) (by lia);exact yN I C (by simp)
 ·have I:=H.vw (by lia) (by lia);exact yD I C (by simp) (by lia)
 ·have I:=H.vw (by lia) (by lia);exact yY I C (by simp) (by lia)
 ·have I:=H.yg (by lia) (by lia);exact yL I C (by simp)
 ·have I:=H.yg (by lia) (by lia);exact yD I C (by simp) (by lia)
 ·have I:=H.yg (by lia) (by lia);exact yY I C (by simp) (by lia)
theorem kL (W:Hi x y t (s+1) o i j v):kh c n (LG lH) (fun W=>kB z (x.map W.f) (y.map W.f) s (none,i,j,o.map W.f,g)) v (Qh x y t (x.size+y.size) (s+2)):=by
 unfold kB;simp only[Array.size_map];refine ay lH (bV (P:=fun b v=>Qh x y t (s+2) (s+2) (.done b) v) (bS (none,i,j,o,0,0) (fun p b v=>b.1=none/\Hi x y t (s+1+p) b.2.2.2.1 b.2.1 b.2.2.1 v) ⟨rfl,W⟩ (fun p b v _ _ H=>?_) (fun b v H=>?_)) fun b v H=>?_)
 ·obtain⟨_,i,j,o,k,r⟩:=b;obtain⟨rfl,H⟩:=H;exact bV (c1L (p:=s+2) hx hy H (by lia)) fun b v H=>by cases b<;>exact H
 ·obtain⟨h,H⟩:=H;exact .inr ⟨h,H.1,H.2.1,H.2.2.1,by have:=H.2.2.2.1;have:=H.2.1;lia,H.2.2.2.2⟩
 obtain⟨b,i,j,o,k,r⟩:=b;rcases H with⟨z,rfl,H⟩|⟨rfl,H⟩
 ·exact av (.done (some z,_,_,_,_)) (.inl ⟨z,rfl,H⟩)
 refine ay same (nV ?_);refine ay lH (bV (P:=fun b v=>Qh x y t (s+2) (s+2) (.done b) v) (bS (none,i,j,o,g+1,k,r) (fun p b v=>b.1=none/\Hi x y t (s+2) b.2.2.2.1 b.2.1 b.2.2.1 v) ⟨rfl,H⟩ (fun p b v _ _ H=>?_) (fun b v H=>.inr H)) fun b v H=>?_)
 ·obtain⟨_,i,j,o,g,k,r⟩:=b;obtain⟨rfl,H⟩:=H;refine bV ?_ (fun b v H=>?_) (P:=Qh x y t (s+2) (s+2))
  ·unfold hB;dsimp only[lH];exact bD (fun _=>h1L hx hy H) (fun _=>h1L hx hy H)
  ·cases b<;>exact H
 obtain⟨b,i,j,o,g,k,r⟩:=b;rcases H with⟨z,rfl,H⟩|⟨rfl,H⟩
 ·exact av (.done (some z,_,_,_,_)) (.inl ⟨z,rfl,H⟩)
 dsimp only[lH];refine ay same (vW ?_);exact av (.yield (none,i,j,_,_)) ⟨rfl,H⟩
theorem FN (h1:1<=x.size) (X:1<=y.size) (h:∀z t',lS z x y->t'.1=t.1->t'.2.1=t.2.1->P z t'):kh c n (fun W z=>z.map W.f) (fun W=>MW (x.map W.f) (y.map W.f)) t P:=by
 rw[mW_eq];unfold mW;simp only[Array.size_map];refine ay same (nV ?_);refine ay (fun W b=>W.f b) (dq (by lia) ?_);have H:gp #[x[x.size-1]] x y (x.size-1) y.size:=by
  have e:gp #[] x y x.size y.size:=fun v=>by rw[List.drop_of_length_le (by simp),List.drop_of_length_le (by simp)];rfl
  exact e.vw (by lia) (by lia)
 refine jw (fun _=>?_) (fun _=>jw (fun _=>?_) (fun _=>?_))
 ·exact av _ (h _ _ H.all1 rfl rfl) (fun W=>by show _=(hN x y #[x[x.size-1]] _ _).map W.f;rw[<-nN'];simp)
 ·exact av _ (h _ _ H.all2 rfl rfl) (fun W=>by show _=(hL x y #[x[x.size-1]] _ _).map W.f;rw[<-nL'];simp)
 refine ay (fun W t=>W.st t) (iC ?_);refine ay lH (bV (P:=fun b v=>Qh x y t (x.size+y.size) 0 (.done b) v) (bS (none,x.size-1,y.size,#[x[x.size-1]],t.2.2) (fun p b v=>b.1=none/\Hi x y t (p+1) b.2.2.2.1 b.2.1 b.2.2.1 v) ⟨rfl,H,by dsimp only;lia,by dsimp only;lia,by dsimp only;lia,rfl,rfl⟩ (fun p b v _ _ H=>?_) (fun b v H=>?_) (fun W=>by simp;rfl)) fun b v H=>?_)
 ·obtain⟨_,i,j,o,g⟩:=b;obtain⟨rfl,H⟩:=H;exact bV (kL hx hy H) fun b v H=>by cases b<;>exact H
 ·obtain⟨h,H⟩:=H;exact .inr ⟨h,H.1,H.2.1,H.2.2.1,by have:=H.2.2.2.1;lia,H.2.2.2.2⟩
 obtain⟨b,i,j,o,g⟩:=b;rcases H with⟨z,rfl,A,C,E⟩|⟨rfl,H⟩
 ·exact av z (h z _ A C E)
 ·have:=H.2.1;have:=H.2.2.2.1;dsimp only at*;lia
end
end
mutual
noncomputable def kq {α:Type} (sa:Nat) (l:List α) (k:Nat) (a:Array α):Array α:=(l.zipIdx k).foldl (fun a p=>a.setIfInBounds (sa+p.2) p.1) a
theorem qU (f:α->β) (sa:Nat):∀(l:List α) (k:Nat) (a:Array α),kq sa (l.map f) k (a.map f)=(kq sa l k a).map f
 | [],_,_=>rfl
 |v::l,k,a=>by
  show kq sa (l.map f) (k+1) ((a.map f).setIfInBounds (sa+k) (f v))=_;rw[<-Array.map_setIfInBounds,qU f sa l (k+1)];rfl
theorem vv (sa:Nat):∀(l:List α) (k:Nat) (a:Array α),sa+k+l.length<=a.size->(kq sa l k a).toList=a.toList.take (sa+k)++l++a.toList.drop (sa+k+l.length)
 | [],k,a,_=>by simp[kq]
 |v::l,k,a,h=>by
  rw[tH] at h;show(kq sa l (k+1) (a.setIfInBounds (sa+k) v)).toList=_;rw[vv sa l (k+1) _ (by rw[Array.size_setIfInBounds];lia),Array.toList_setIfInBounds,tH];have h1:(a.toList.set (sa+k) v).take (sa+(k+1))=a.toList.take (sa+k)++ [v]:=by
   rw[<-Nat.add_assoc,List.take_succ,List.take_set_of_le (cm _),List.getElem?_set_self (by simp;lia)];rfl
  have i:(a.toList.set (sa+k) v).drop (sa+(k+1)+l.length)=a.toList.drop (sa+k+(l.length+1)):=by
   rw[List.drop_set_of_lt (by lia)];congr 1;lia
  rw[h1,i];simp
theorem lS.perm (h:lS z x y):z.toList.Perm (x.toList++y.toList):=List.perm_iff_count.mpr fun v=>by rw[h v,fC]
theorem Qn {g:Wd->SortSt} (t':wG) (h:P ⟨⟩ t') (e:∀W,g W=W.st t':=by intro _;rfl):kh c n same (fun W=>set (g W)) t P:=
 ⟨
  ⟨⟩,t',h,fun W _=>by
  show wpAny _ _ (pure (PUnit.unit,g W)) _ _ _;exact de ⟨rfl,rfl,e W⟩⟩
theorem FO (hx:∀v∈t.1,v<n) (p1:t.2.1[i]?=some (sa,na,pa)) (I:t.2.1[i+1]?=some (sb,nb,pb)) (h1:1<=na) (U:1<=nb) (X:sa+na=sb) (O:sb+nb<=t.1.size) (h:∀t',t'.1.toList.Perm t.1.toList->t'.2.1=(t.2.1.setIfInBounds i (sa,na+nb,pa)).eraseIdxIfInBounds (i+1)->P true t'):kh c n same (fun _=>mergeAt' i) t P:=by
 refine ay (fun W t=>W.st t) (iC ?_);have e1:∀W:Wd,(pendingOf (W.st t))[i]?=some (sa,na,pa):=fun W=>p1;have e2:∀W:Wd,(pendingOf (W.st t))[i+1]?=some (sb,nb,pb):=fun W=>I;simp only[e1,e2];refine ay same (Qn (t.1,(t.2.1.setIfInBounds i (sa,na+nb,pa)).eraseIdxIfInBounds (i+1),t.2.2) ?_);refine ay (fun W b=>W.f b) (dq (x:=t.1) (show sb<t.1.size by lia) ?_);refine aN (u9 (x:=t.1) (xA hx (by lia)) hx (by lia) (by lia) fun k hk=>?_);dsimp only;refine jw (fun _=>?_) (fun e=>?_)
 ·exact av true (h _ (Ys _) rfl)
 refine ay (fun W b=>W.f b) (dq (x:=t.1) (show sa+k+(na-k)-1<t.1.size by lia) ?_);refine aN (u9 (x:=t.1) (xA hx (by lia)) hx (by lia) (by lia) fun m hm=>?_);dsimp only;refine jw (fun _=>?_) (fun Q=>?_)
 ·exact av true (h _ (Ys _) rfl)
 have ex:∀(W:Wd) (a b:Nat),(arrOf (W.st t)).extract a b=(t.1.extract a b).map W.f:=fun W a b=>by
  show(t.1.map W.f).extract a b=_;rw[Array.map_extract]
 simp only[ex];have E:∀a b,∀v∈t.1.extract a b,v<n:=fun a b v F=>hx v (by rw[Array.mem_def,sq] at F;exact Array.mem_def.mpr (List.mem_of_mem_drop (List.mem_of_mem_take F)));have s1:(t.1.extract (sa+k) sb).size=na-k:=by rw[Array.size_extract];lia
 have s2:(t.1.extract sb (sb+m)).size=m:=by rw[Array.size_extract];lia
 have fin:∀(z:Array Nat) (t':wG),lS z (t.1.extract (sa+k) sb) (t.1.extract sb (sb+m))->t'.1=t.1->t'.2.1=(t.2.1.setIfInBounds i (sa,na+nb,pa)).eraseIdxIfInBounds (i+1)->P true (kq (sa+k) z.toList 0 t'.1,t'.2.1,t'.2.2):=fun z t' q u C=>by
  refine h _ ?_ C;dsimp only;have H:=q.perm;have G:=H.length_eq;rw[ey,vp,vp,vp,s1,s2] at G;rw[u,vv _ _ _ _ (by rw[vp];lia),vp,G];refine List.perm_iff_count.mpr fun v=>?_;rw[fC,fC,q v,sq,sq,<-fC,Nat.add_zero];have:=eK (l:=t.1.toList) (i:=sa+k) (v:=v);have:=jd (l:=t.1.toList) (a:=sa+k) (b:=sb) (v:=v) (by lia);have:=jd (l:=t.1.toList) (a:=sb) (b:=sb+m) (v:=v) (by lia);rw[show sa+k+(na-k+m)=sb+m by lia,fC];lia
 refine bD (fun _=>?_) (fun _=>?_)
 ·refine ay (fun W (z:Array Nat)=>z.map W.f) (FL (x:=t.1.extract (sa+k) sb) (y:=t.1.extract sb (sb+m)) (E _ _) (E _ _) (by lia) (by lia) fun z t' q u C=>?_);refine ay same (iB (kq (sa+k) z.toList 0 t'.1,t'.2.1,t'.2.2) ?_ (fun W=>?_))
  ·refine ay (fun W t=>W.st t) (iC ?_);exact av true (fin z t' q u C)
  ·have e:=qU W.f (sa+k) z.toList 0 t'.1;rw[<-Yx] at e;exact Xm (fun a=>SortSt.mk' W.κ a t'.2.1 t'.2.2 none) e
 ·refine ay (fun W (z:Array Nat)=>z.map W.f) (FN (x:=t.1.extract (sa+k) sb) (y:=t.1.extract sb (sb+m)) (E _ _) (E _ _) (by lia) (by lia) fun z t' q u C=>?_);refine ay same (iB (kq (sa+k) z.toList 0 t'.1,t'.2.1,t'.2.2) ?_ (fun W=>?_))
  ·refine ay (fun W t=>W.st t) (iC ?_);exact av true (fin z t' q u C)
  ·have e:=qU W.f (sa+k) z.toList 0 t'.1;rw[<-Yx] at e;exact Xm (fun a=>SortSt.mk' W.κ a t'.2.1 t'.2.2 none) e
theorem LD {α β:Type} (f:α->β) (a:Array α) (i j:Nat):(a.map f).swapIfInBounds i j=(a.swapIfInBounds i j).map f:=by
 rw[Array.swapIfInBounds_def,Array.swapIfInBounds_def];simp only[Array.size_map];split
 ·split
  ·apply Array.ext_getElem?;intro k;simp only[Array.getElem?_swap,Array.getElem?_map,Array.getElem_map]
   repeat' split
   all_goals first|rfl|simp_all
  ·rfl
 ·rfl
theorem wK {α β:Type} (f:α->β) (u v:Nat->Nat):∀(l:List Nat) (a:Array α),l.foldl (fun a k=>a.swapIfInBounds (u k) (v k)) (a.map f)=(l.foldl (fun a k=>a.swapIfInBounds (u k) (v k)) a).map f
 | [],_=>rfl
 |k::l,a=>by
  show l.foldl _ ((a.map f).swapIfInBounds (u k) (v k))=_;rw[LD,wK f u v l];rfl
def iG (t t':wG):Prop:=t'.1.toList.Perm t.1.toList/\t'.2.1=t.2.1
theorem iG.refl:iG t t:=⟨Ys _,rfl⟩
theorem iG.size (h:iG t t'):t'.1.size=t.1.size:=by
 have:=h.1.length_eq;simpa using this
theorem iG.lt (h:iG t t') (hx:∀v∈t.1,v<n):∀v∈t'.1,v<n:=fun v i=>hx v (Array.mem_def.mpr (h.1.mem_iff.mp (Array.mem_def.mp i)))
theorem iG.mir (h:iG t t'):iG t (mirror t'.1 i j d,t'.2.1,t'.2.2):=⟨(Array.perm_iff_toList_perm.mp (mirror_perm t'.1 i j d)).trans h.1,h.2⟩
theorem iG.bub (h:iG t t'):iG t (bubble t'.1 i d,t'.2.1,t'.2.2):=⟨(Array.perm_iff_toList_perm.mp (bubble_perm t'.1 i d)).trans h.1,h.2⟩
theorem D4 (hx:∀v∈t.1,v<n) (u:i<t.1.size) (q:j<t.1.size) (h:∀b,P (some b) t):kh c n same (fun _=>(sortPriv% PySem.Builtin.ltAt) i j) t P:=AM hx u q h
theorem FK (h:P () (mirror t.1 i j ((j-i) / 2),t.2.1,t.2.2)):kh c n same (fun _=>(sortPriv% PySem.Builtin.reverseSlice) i j) t P:=
 iB (mirror t.1 i j ((j-i) / 2),t.2.1,t.2.2) h fun W=>Xm (fun a=>SortSt.mk' W.κ a t.2.1 t.2.2 none) (wK W.f (fun k=>i+k) (fun k=>j-1-k) _ t.1)
theorem NR (h:P () (bubble t.1 i (i-j),t.2.1,t.2.2)):kh c n same (fun _=>(sortPriv% PySem.Builtin.moveDown) i j) t P:=
 iB (bubble t.1 i (i-j),t.2.1,t.2.2) h fun W=>Xm (fun a=>SortSt.mk' W.κ a t.2.1 t.2.2 none) (wK W.f (fun k=>i-k) (fun k=>i-k-1) _ t.1)
theorem D5 {P:β->wG->Prop} {m:Wd->StateT SortSt Sem α} (L:iG t t1) (h:∀t2,iG t t2->kh c n l m t2 P):kh c n l m t1 P:=h t1 L
noncomputable abbrev rS:Nat->Nat->SM Unit:=sortPriv% PySem.Builtin.reverseSlice
end
section
mutual
variable (y:String) (lo m n q:Nat)
noncomputable def cA (_:Nat) (s:Option (Option Nat)×Nat):SM (ForInStep (Option (Option Nat)×Nat)):=ltAt' (lo+s.2) (lo+s.2-1) >>= fun x=>match x with
 |some w=>if w then pure (.done (none,s.2)) else pure (.yield (none,s.2+1))
 |_=>pure (.done (some none,s.2))
noncomputable def cZ:SM (Option Nat):=rS lo (lo+n) >>= fun _=>forIn [n:m] (none,n) (cA lo) >>= fun v=>match v.1 with
 |some r=>pure r
 |none=>pure (some v.2)
noncomputable def cM (_:Nat) (s:Option (Option Nat)×Nat×Nat):SM (ForInStep (Option (Option Nat)×Nat×Nat)):=ltAt' (lo+s.2.1) (lo+s.2.1-1) >>= fun x=>match x with
 |some w=>if w then(if s.2.2>0 then rS (lo+s.2.1-(s.2.2+1)) (lo+s.2.1) >>= fun _=>pure (.yield (none,s.2.1+1,0)) else pure (.yield (none,s.2.1+1,0))) else ltAt' (lo+s.2.1-1) (lo+s.2.1) >>= fun x=>match x with
  |some w=>if w then pure (.done (none,s.2.1,s.2.2)) else pure (.yield (none,s.2.1+1,s.2.2+1))
  |_=>pure (.done (some none,s.2.1,s.2.2))
 |_=>pure (.done (some none,s.2.1,s.2.2))
noncomputable def cX:SM (Option Nat):=liftM (rule y) >>= fun _=>forIn [n+1:m] (none,n+1,0) (cM lo) >>= fun v=>match v.1 with
 |some r=>pure r
 |none=>if v.2.2>0 then rS (lo+v.2.1-(v.2.2+1)) (lo+v.2.1) >>= fun _=>cZ lo m v.2.1 else cZ lo m v.2.1
noncomputable def cW:SM (Option Nat):=if n==m then pure (some n) else if n>1 then ltAt' lo (lo+n-1) >>= fun x=>match x with
 |some w=>if w then pure (some n) else rS lo (lo+n) >>= fun _=>cX y lo m n
 |_=>pure none
 else cX y lo m n
noncomputable def cR:SM (Option Nat):=forIn [1:m] (none,1) (cA lo) >>= fun v=>match v.1 with
 |some r=>pure r
 |none=>cW y lo m v.2
theorem cR_eq:countRun'=cR "list.sort.descending-run":=by kernel_rfl
end
end
section
mutual
variable {lo m n:Nat} {t v:wG}
def Kq (t:wG) (m k:Nat) (r:ForInStep (Option (Option Nat)×Nat)) (t':wG):Prop:=match r with
 |.done b=>iG t t'/\b.1=none/\1<=b.2/\b.2<=m
 |.yield b=>iG t t'/\b.1=none/\1<=b.2/\b.2<=k
def Mq (t:wG) (m k:Nat) (r:ForInStep (Option (Option Nat)×Nat×Nat)) (t':wG):Prop:=match r with
 |.done b=>iG t t'/\b.1=none/\1<=b.2.1/\b.2.1<=m
 |.yield b=>iG t t'/\b.1=none/\1<=b.2.1/\b.2.1<=k
variable (hx:∀v∈t.1,v<n) (G:lo+m<=t.1.size)
include hx G
theorem cAL (L:iG t v) (h1:1<=j) (h2:j<=k) (h3:k<m):kh c n (LG same) (fun _=>cA lo i (none,j)) v (Kq t m (k+1)):=by
 have s:=L.size;unfold cA;dsimp only;exact aN (AM (L.lt hx) (by lia) (by lia) fun b=>bD (fun _=>av (.done (none,j)) ⟨L,rfl,h1,by dsimp only;lia⟩) (fun _=>av (.yield (none,j+1)) ⟨L,rfl,by dsimp only;lia,by dsimp only;lia⟩))
theorem cZL (L:iG t v) (h1:1<=j) (h2:j<=m) (h:∀r t',1<=r->r<=m->iG t t'->P (some r) t'):kh c n same (fun _=>cZ lo m j) v P:=by
 unfold cZ;refine aN (FK ?_);refine aN (bV (P:=fun b v=>Kq t m m (.yield b) v) (bS (none,j) (fun k b v=>iG t v/\b.1=none/\1<=b.2/\b.2<=k) ⟨L.mir,rfl,h1,cm _⟩ (fun i b v H1 H2 H=>?_) (fun b v H=>⟨H.1,H.2.1,H.2.2.1,by have:=H.2.2.2;lia⟩)) fun b v H=>?_)
 ·obtain⟨_,i⟩:=b;obtain⟨L,rfl,a,b⟩:=H;exact bV (cAL hx G L a b H2) fun b v H=>by cases b<;>exact H
 ·obtain⟨_,i⟩:=b;obtain⟨L,rfl,a,b⟩:=H;exact av (some i) (h _ _ a b L)
theorem cML (L:iG t v) (h1:1<=j) (h2:j<=k) (h3:k<m):kh c n (LG same) (fun _=>cM lo i (none,j,q)) v (Mq t m (k+1)):=by
 have s:=L.size;unfold cM;dsimp only;refine aN (AM (L.lt hx) (by lia) (by lia) fun b=>bD (fun _=>bD (fun _=>aN (FK ?_)) (fun _=>?_)) (fun _=>aN (AM (L.lt hx) (by lia) (by lia) fun b=>bD (fun _=>?_) (fun _=>?_))))
 ·exact av (.yield (none,j+1,0)) ⟨L.mir,rfl,by dsimp only;lia,by dsimp only;lia⟩
 ·exact av (.yield (none,j+1,0)) ⟨L,rfl,by dsimp only;lia,by dsimp only;lia⟩
 ·exact av (.done (none,j,q)) ⟨L,rfl,h1,by dsimp only;lia⟩
 ·exact av (.yield (none,j+1,q+1)) ⟨L,rfl,by dsimp only;lia,by dsimp only;lia⟩
theorem cXL (L:iG t v) (h1:1<=j) (h2:j<m) (h:∀r t',1<=r->r<=m->iG t t'->P (some r) t'):kh c n same (fun _=>cX y lo m j) v P:=by
 unfold cX;refine aN (nV ?_);refine aN (bV (P:=fun b v=>Mq t m m (.yield b) v) (bS (none,j+1,0) (fun k b v=>iG t v/\b.1=none/\1<=b.2.1/\b.2.1<=k) ⟨L,rfl,by dsimp only;lia,cm _⟩ (fun i b v H1 H2 H=>?_) (fun b v H=>⟨H.1,H.2.1,H.2.2.1,by have:=H.2.2.2;lia⟩)) fun b v H=>?_)
 ·obtain⟨_,i,q⟩:=b;obtain⟨L,rfl,a,b⟩:=H;exact bV (cML hx G L a b H2) fun b v H=>by cases b<;>exact H
 ·obtain⟨_,i,q⟩:=b;obtain⟨L,rfl,a,b⟩:=H;exact bD (fun _=>aN (FK (cZL hx G L.mir a b h))) (fun _=>cZL hx G L a b h)
theorem K5 (h1:1<=m) (h:∀r t',1<=r->r<=m->iG t t'->P (some r) t'):kh c n same (fun _=>countRun' lo m) t P:=by
 rw[cR_eq];unfold cR;refine aN (bV (P:=fun b v=>Kq t m m (.yield b) v) (bS (none,1) (fun k b v=>iG t v/\b.1=none/\1<=b.2/\b.2<=k) ⟨iG.refl,rfl,cm _,cm _⟩ (fun i b v H1 H2 H=>?_) (fun b v H=>⟨H.1,H.2.1,H.2.2.1,by have:=H.2.2.2;lia⟩)) fun b v H=>?_)
 ·obtain⟨_,i⟩:=b;obtain⟨L,rfl,a,b⟩:=H;exact bV (cAL hx G L a b H2) fun b v H=>by cases b<;>exact H
 obtain⟨_,i⟩:=b;obtain⟨L,rfl,a,b⟩:=H;have s:=L.size;dsimp only at a b;show kh c n same (fun _=>cW _ lo m i) v P;unfold cW;refine jw (fun _=>av (some i) (h _ _ a b L)) (fun _=>bD (fun _=>aN (AM (L.lt hx) (by lia) (by lia) fun b=>bD (fun _=>av (some i) (h _ _ a (by lia) L)) (fun _=>aN (FK (cXL hx G L.mir a (by lia) h))))) (fun _=>cXL hx G L a (by lia) h))
end
end
mutual
theorem Hr {lo:Nat} (hx:∀v∈t.1,v<n) (G:lo+m<=t.1.size) (h:∀t',iG t t'->P true t'):kh c n same (fun _=>binarySort' lo m ok) t P:=by
 refine aN (bV (P:=fun b t'=>b.1=none/\iG t t') (bS (none,()) (fun k b t'=>b.1=none/\iG t t') ⟨rfl,iG.refl⟩ (fun i b t1 E C u=>?_) (fun b t' u=>u)) fun b t' u=>?_)
 ·obtain⟨r,⟨⟩⟩:=b;obtain⟨x,L⟩:=u;dsimp only at x;subst x;dsimp only;have y:=L.lt hx;have F:=L.size;refine aN (bV (P:=fun b t2=>t2=t1/\b.1=none) (bS (none,0,i) (fun k b t2=>t2=t1/\b.1=none/\b.2.2<=i) ⟨rfl,rfl,cm _⟩ (fun k b t2 _ _ u=>?_) (fun b t2 u=>⟨u.1,u.2.1⟩)) fun b t2 u=>?_)
  ·obtain⟨r,l,q⟩:=b;obtain⟨rfl,x,z⟩:=u;dsimp only at x z;subst x;dsimp only;refine bD (fun _=>?_) (fun hl=>?_)
   ·exact av (ForInStep.done (none,l,q)) ⟨rfl,rfl⟩
   refine aN (AM y (by lia) (by lia) fun b=>?_);dsimp only;refine bD (fun _=>?_) (fun _=>?_)
   ·exact av (ForInStep.yield (none,l,(l+q) / 2)) ⟨rfl,rfl,by dsimp only;lia⟩
   ·exact av (ForInStep.yield (none,(l+q) / 2+1,q)) ⟨rfl,rfl,z⟩
  ·obtain⟨r,l,q⟩:=b;obtain⟨rfl,x⟩:=u;dsimp only at x;subst x;dsimp only;refine aN (NR ?_);exact av (ForInStep.yield (none,())) ⟨rfl,L.bub⟩
 ·obtain⟨r,⟨⟩⟩:=b;obtain⟨x,L⟩:=u;dsimp only at x;subst x;exact av true (h _ L)
def Runs:List (Nat×Nat×Nat)->Nat->Nat->Prop
 | [],a,b=>a=b
 |x::r,a,b=>x.1=a/\1<=x.2.1/\Runs r (a+x.2.1) b
theorem Runs.snoc:∀{l:List (Nat×Nat×Nat)} {a b m p:Nat},Runs l a b->1<=m->Runs (l++ [(b,m,p)]) a (b+m)
 | [],a,b,m,p,h,hm=>⟨h.symm,hm,by rw[show a=b from h];rfl⟩
 |x::r,a,b,m,p,h,hm=>⟨h.1,h.2.1,h.2.2.snoc hm⟩
theorem Runs.le:∀{l:List (Nat×Nat×Nat)} {a b:Nat},Runs l a b->a<=b
 | [],a,b,h=>Nat.le_of_eq h
 |x::r,a,b,h=>fv (Nat.le_add_right _ _) h.2.2.le
theorem Runs.two:∀{l:List (Nat×Nat×Nat)} {a b i:Nat} {x y:Nat×Nat×Nat},Runs l a b->l[i]?=some x->l[i+1]?=some y->x.1+x.2.1=y.1/\1<=x.2.1/\1<=y.2.1/\y.1+y.2.1<=b
 | [],_,_,i,_,_,_,e,_=>by simp at e
 | [u],_,_,i,_,_,_,_,e=>by simp at e
 |u::v::r,a,b,0,x,y,h,e1,e2=>by
  simp at e1 e2;subst e1 e2;have:=h.2.2.2.2.le;exact⟨by rw[h.1,h.2.2.1],h.2.1,h.2.2.2.1,by rw[h.2.2.1];exact this⟩
 |u::v::r,a,b,i+1,x,y,h,e1,e2=>Runs.two (l:=v::r) (i:=i) h.2.2 (by simpa using e1) (by simpa using e2)
theorem Runs.merge:∀{l:List (Nat×Nat×Nat)} {a b i:Nat} {x y:Nat×Nat×Nat} {p:Nat},Runs l a b->l[i]?=some x->l[i+1]?=some y->Runs ((l.set i (x.1,x.2.1+y.2.1,p)).eraseIdx (i+1)) a b
 | [],_,_,i,_,_,_,_,e,_=>by simp at e
 | [u],_,_,i,_,_,_,_,_,e=>by simp at e
 |u::v::r,a,b,0,x,y,p,h,e1,e2=>by
  simp at e1 e2;subst e1 e2;have:=h.2.2.2.2;rw[Nat.add_assoc] at this;exact⟨h.1,fv h.2.1 (Nat.le_add_right _ _),this⟩
 |u::v::r,a,b,i+1,x,y,p,h,e1,e2=>⟨h.1,h.2.1,Runs.merge (l:=v::r) (i:=i) (p:=p) h.2.2 (by simpa using e1) (by simpa using e2)⟩
theorem Runs.mod (hf:∀x,(f x).1=x.1/\(f x).2.1=x.2.1):∀{l:List (Nat×Nat×Nat)} {a b i:Nat},Runs l a b->Runs (l.modify i f) a b
 | [],_,_,i,h=>by cases i<;>exact h
 |x::r,a,b,0,h=>by
  show(f x).1=a/\1<=(f x).2.1/\Runs r (a+(f x).2.1) b;rw[(hf x).1,(hf x).2];exact h
 |x::r,a,b,i+1,h=>⟨h.1,h.2.1,Runs.mod hf h.2.2⟩
theorem IQ {P:β->wG->Prop} {m:Wd->StateT SortSt Sem α} (Q:wG->Prop) (i:Q t1) (h:∀t2,Q t2->kh c n l m t2 P):kh c n l m t1 P:=h t1 i
theorem NQ (hx:∀v∈t.1,v<n) (hp:t.2.1 = #[]) (h:∀t',t'.1.toList.Perm t.1.toList->P () t'):kh c n same (fun _=>sortRuns') t P:=by
 refine ay (fun W t=>W.st t) (iC ?_);dsimp only;have sz:∀W:Wd,(arrOf (W.st t)).size=t.1.size:=fun W=>Array.size_map ..;simp only[sz];have pe:∀(W:Wd) (t:wG),pendingOf (W.st t)=t.2.1:=fun _ _=>rfl;have mg:∀{lo k:Nat} {t1:wG} {R:Bool->wG->Prop},t1.1.toList.Perm t.1.toList->Runs t1.2.1.toList 0 lo->lo<=t.1.size->k+1<t1.2.1.size->(∀t2,t2.1.toList.Perm t.1.toList->Runs t2.2.1.toList 0 lo->R true t2)->kh c n same (fun _=>mergeAt' k) t1 R:=fun{lo k t1 R} p1 G hl hk hR=>by
  have l1:iG (t.1,t1.2.1,t1.2.2) t1:=⟨p1,rfl⟩;have e1:t1.2.1[k]?=some t1.2.1[k]:=Xo (by lia);have e2:t1.2.1[k+1]?=some t1.2.1[k+1]:=Xo hk;generalize t1.2.1[k]=u at e1;generalize t1.2.1[k+1]=v at e2;obtain⟨sa,na,pa⟩:=u;obtain⟨sb,nb,pb⟩:=v;have f1:t1.2.1.toList[k]?=some (sa,na,pa):=by rw[<-e1,Array.getElem?_toList]
  have f2:t1.2.1.toList[k+1]?=some (sb,nb,pb):=by rw[<-e2,Array.getElem?_toList]
  obtain⟨q1,q2,q3,q4⟩:=G.two f1 f2;dsimp only at q1 q2 q3 q4;have zs:=l1.size;dsimp only at zs;refine FO (l1.lt hx) e1 e2 q2 q3 q1 (by lia) fun t2 a1 a2=>hR t2 (a1.trans p1) ?_;rw[a2,Array.toList_eraseIdxIfInBounds,Array.toList_setIfInBounds];exact G.merge f1 f2
 refine aN (bV (P:=fun b t'=>b.1=none/\t'.1.toList.Perm t.1.toList/\Runs t'.2.1.toList 0 b.2/\b.2<=t.1.size) (bS (none,0) (fun _ b t'=>b.1=none/\t'.1.toList.Perm t.1.toList/\Runs t'.2.1.toList 0 b.2/\b.2<=t.1.size) ⟨rfl,Ys _,by rw[hp];rfl,kv _⟩ (fun i b t1 _ _ z=>?_) (fun b t' z=>z)) fun b t1 z=>?_)
 ·obtain⟨r,lo⟩:=b;obtain⟨y,p1,G,hl⟩:=z;dsimp only at y G hl;subst y;dsimp only;have l1:iG (t.1,t1.2.1,t1.2.2) t1:=⟨p1,rfl⟩;have zs:=l1.size;dsimp only at zs;refine bD (fun _=>?_) (fun hlo=>?_)
  ·exact av (ForInStep.done (none,lo)) ⟨rfl,p1,G,hl⟩
  refine aN (K5 (l1.lt hx) (by lia) (by lia) fun m t2 hm1 hm2 Lake=>?_);dsimp only;have z2:=Lake.size;refine bD (fun Q=>aN (nV (aN (Hr (Lake.lt (l1.lt hx)) (by lia) fun t3 L3=>?_)))) (fun _=>?_)
  all_goals (try simp only[Bool.not_true,qF,Xs])
  all_goals refine D5 (t:=t1) (by first|exact Lake|exact⟨L3.1.trans Lake.1,L3.2.trans Lake.2⟩) fun H L4=>?_
  all_goals refine ay (fun W t=>W.st t) (iC ?_)
  all_goals simp only[pe]
  all_goals have X:=L4.1.trans p1
  all_goals have U:Runs H.2.1.toList 0 lo:=by rw[L4.2];exact G
  ·have Q:m<minRun' t.1.size t.1.size 0:=Q;cases Y:H.2.1.back? with
    |none=>
     dsimp only;refine aN (iB (H.1,H.2.1.push (lo,(min (t.1.size-lo) (minRun' t.1.size t.1.size 0)),0),H.2.2) ?_ (fun W=>rfl));refine av (ForInStep.yield (none,lo+(min (t.1.size-lo) (minRun' t.1.size t.1.size 0)))) ⟨rfl,X,?_,?_⟩ (fun _=>rfl)
     ·rw[N0];exact U.snoc (by lia)
     ·dsimp only;lia
    |some v=>
     dsimp only;refine aN (bV (P:=fun b q=>b.1=none/\q.1.toList.Perm t.1.toList/\Runs q.2.1.toList 0 lo) (bS (none,()) (fun _ b q=>b.1=none/\q.1.toList.Perm t.1.toList/\Runs q.2.1.toList 0 lo) ⟨rfl,X,U⟩ (fun i b q _ _ z=>?_) (fun b t' z=>z)) fun b q z=>?_)
     ·obtain⟨r,⟨⟩⟩:=b;obtain⟨y,E,F⟩:=z;dsimp only at y;subst y;refine ay (fun W t=>W.st t) (iC ?_);simp only[pe];by_cases O:q.2.1.size > 1
      ·have eg:q.2.1[q.2.1.size-2]?=some q.2.1[q.2.1.size-2]:=Xo (by lia);simp only[bc O,eg];refine bD (fun _=>?_) (fun _=>?_)
       ·exact av (ForInStep.done (none,())) ⟨rfl,E,F⟩
       refine aN (mg E F hl (by lia) fun C I r6=>?_);simp only[Bool.not_true,qF,Xs];exact av (ForInStep.yield (none,())) ⟨rfl,I,r6⟩
      ·simp only[a5 O];exact av (ForInStep.done (none,())) ⟨rfl,E,F⟩
     ·obtain⟨r,⟨⟩⟩:=b;obtain⟨y,E,F⟩:=z;dsimp only at y;subst y;dsimp only;refine aN (iB (q.1,q.2.1.modify (q.2.1.size-1) (fun x=>(x.1,x.2.1,_)),q.2.2) ?_ (fun W=>rfl));refine IQ (fun C=>C.1.toList.Perm t.1.toList/\Runs C.2.1.toList 0 lo) ⟨E,by rw[Array.toList_modify];refine Runs.mod ?_ F;exact fun x=>⟨rfl,rfl⟩⟩ fun C Z=>?_;obtain⟨I,r6⟩:=Z;refine aN (iB (C.1,C.2.1.push (lo,(min (t.1.size-lo) (minRun' t.1.size t.1.size 0)),0),C.2.2) ?_ (fun W=>rfl));refine av (ForInStep.yield (none,lo+(min (t.1.size-lo) (minRun' t.1.size t.1.size 0)))) ⟨rfl,I,?_,?_⟩ (fun _=>rfl)
      ·rw[N0];exact r6.snoc (by lia)
      ·dsimp only;lia
  ·cases Y:H.2.1.back? with
    |none=>
     dsimp only;refine aN (iB (H.1,H.2.1.push (lo,m,0),H.2.2) ?_ (fun W=>rfl));refine av (ForInStep.yield (none,lo+m)) ⟨rfl,X,?_,?_⟩ (fun _=>rfl)
     ·rw[N0];exact U.snoc (by lia)
     ·dsimp only;lia
    |some v=>
     dsimp only;refine aN (bV (P:=fun b q=>b.1=none/\q.1.toList.Perm t.1.toList/\Runs q.2.1.toList 0 lo) (bS (none,()) (fun _ b q=>b.1=none/\q.1.toList.Perm t.1.toList/\Runs q.2.1.toList 0 lo) ⟨rfl,X,U⟩ (fun i b q _ _ z=>?_) (fun b t' z=>z)) fun b q z=>?_)
     ·obtain⟨r,⟨⟩⟩:=b;obtain⟨y,E,F⟩:=z;dsimp only at y;subst y;refine ay (fun W t=>W.st t) (iC ?_);simp only[pe];by_cases O:q.2.1.size > 1
      ·have eg:q.2.1[q.2.1.size-2]?=some q.2.1[q.2.1.size-2]:=Xo (by lia);simp only[bc O,eg];refine bD (fun _=>?_) (fun _=>?_)
       ·exact av (ForInStep.done (none,())) ⟨rfl,E,F⟩
       refine aN (mg E F hl (by lia) fun C I r6=>?_);simp only[Bool.not_true,qF,Xs];exact av (ForInStep.yield (none,())) ⟨rfl,I,r6⟩
      ·simp only[a5 O];exact av (ForInStep.done (none,())) ⟨rfl,E,F⟩
     ·obtain⟨r,⟨⟩⟩:=b;obtain⟨y,E,F⟩:=z;dsimp only at y;subst y;dsimp only;refine aN (iB (q.1,q.2.1.modify (q.2.1.size-1) (fun x=>(x.1,x.2.1,_)),q.2.2) ?_ (fun W=>rfl));refine IQ (fun C=>C.1.toList.Perm t.1.toList/\Runs C.2.1.toList 0 lo) ⟨E,by rw[Array.toList_modify];refine Runs.mod ?_ F;exact fun x=>⟨rfl,rfl⟩⟩ fun C Z=>?_;obtain⟨I,r6⟩:=Z;refine aN (iB (C.1,C.2.1.push (lo,m,0),C.2.2) ?_ (fun W=>rfl));refine av (ForInStep.yield (none,lo+m)) ⟨rfl,I,?_,?_⟩ (fun _=>rfl)
      ·rw[N0];exact r6.snoc (by lia)
      ·dsimp only;lia
 ·obtain⟨r,lo⟩:=b;obtain⟨y,p1,G,hl⟩:=z;dsimp only at y G hl;subst y;dsimp only;refine aN (bV (P:=fun b q=>b.1=none/\q.1.toList.Perm t.1.toList/\Runs q.2.1.toList 0 lo) (bS (none,()) (fun _ b q=>b.1=none/\q.1.toList.Perm t.1.toList/\Runs q.2.1.toList 0 lo) ⟨rfl,p1,G⟩ (fun i b q _ _ z=>?_) (fun b t' z=>z)) fun b q z=>?_)
  ·obtain⟨r,⟨⟩⟩:=b;obtain⟨y,E,F⟩:=z;dsimp only at y;subst y;refine ay (fun W t=>W.st t) (iC ?_);simp only[pe];refine bD (fun _=>?_) (fun O=>?_)
   ·exact av (ForInStep.done (none,())) ⟨rfl,E,F⟩
   refine aN (mg E F hl ?_ fun C I r6=>?_)
   ·have key:∀b:Bool,(if b=true then q.2.1.size-2-1 else q.2.1.size-2)+1<q.2.1.size:=fun b=>by
     cases b
     ·rw[a5 (by decide)];lia
     ·rw[bc rfl];lia
    exact key _
   ·simp only[Bool.not_true,qF,Xs];exact av (ForInStep.yield (none,())) ⟨rfl,I,r6⟩
  ·obtain⟨r,⟨⟩⟩:=b;obtain⟨y,E,F⟩:=z;dsimp only at y;subst y;exact av () (h _ E)
end
end Lake.Tm
namespace Lake
mutual
open PySem PySem.Spec PyProof.Rows
def wB (K:W.Frag) (C:Addr):Prop:=W.findIn K (.ref C) "__init__" = some (some (.builtin "object.__init__"))
theorem MO {K:W.Frag} (h:W.findIn K (.ref C) "__init__" = some (some (.builtin "object.__init__"))):wB K C:=h
def Ud (C:Addr):TE:=fun _ H Q=> ∀x dx,H x=none->H dx=none->dx≠x->Q (.ref x) (upd (upd H dx (.own x)) x (.ins C dx []))
theorem jZ (c:dM X.K X.mg x C) (u:wB X.K C) (hg:Gl X x) (i:autoParam ((x == ("__debug__":Str))=false) qqd):PE X (.Call (.Name x p) [] [] pos) (Ud C):=by
 intro q s σ H Q I h;refine Xn (kz I hg c.Sh ?_ i);have y:=h (s.heap.objs.size+1) s.heap.objs.size (I.hok.fresh (Nat.le_succ _)) (I.hok.fresh (cm _)) (ib (Nat.lt_succ_self _));have v:=Inv.made (C:=C) I;refine W.callWith_K0 (first:=[]) I.lV c.kp (Yq (Ku I.lV c.mks u (fun self=>W.Looks.of_pure (W.oi_bind self)) ?_))
 have Y:=W.makes_of (M:=model X.prog X.w) I.lV c.mks;have hx:((s.heap.push W.emptyDict).push (W.instObj C s.heap.objs.size)).get? (s.heap.objs.size+1)=some (W.instObj C s.heap.objs.size):=by heap_get
 have t1:W.Looks (model X.prog X.w) ((s.heap.push W.emptyDict).push (W.instObj C s.heap.objs.size)) (typeOf (.ref (s.heap.objs.size+1))) (.ref C):=(W.Looks.ld hx).andThen .now;have t2:W.Looks (model X.prog X.w) ((s.heap.push W.emptyDict).push (W.instObj C s.heap.objs.size)) (isInstance (.ref (s.heap.objs.size+1)) (.type "object")) true:=t1.andThen (Y.top.keeps fun b o e=>cP _ (cP _ e));refine XY W.oi_plain W.entry_oi (@W.check_slot (model X.prog X.w) _ _ _ "object.__init__" "object" "__init__" (.ref (s.heap.objs.size+1)) [] [] _ W.oi_kind W.oi_split t2 (W.oi_args (.ref (s.heap.objs.size+1))) ?_);rw[W.oi_run];exact de (And.intro rfl ⟨.ref _,_,v,rfl,y⟩)
def BL (P:Program) (w:World) (K:W.Frag) (mg:Str->Option Value) (base:Heap) (CX:Ga) (m:Str) (n:Nat) (sp:Sp):Prop:= ∀x H Q E,sp [x] H Q E->
 ∃a C dx fs k q i,x = .ref a/\H a=some (.ins C dx fs)/\fs.lookup m=none/\k<=n/\Ri K C/\wC P w K mg base CX C m k q i/\i [.ref a] H Q E
def Lu (sp:Sp) (E:XK) (q:TE):TE:=fun σ H Q=>q σ H fun x i=>sp [x] i Q E
theorem Ip (he:PE X o ta) (G:BL X.prog X.w X.K X.mg X.base CX m k sp) (O:cY n X.A) (hk:k<=n) (hp:Passes CX X E) (ht:eval (.Call (.Attribute o m apos) [] [] pos) X.env=(do
   let ov<-eval o X.env
   standAt apos.atName
   let (f,first)<-holding [ov] (getMethod ov m pl)
   callWith pos f first (backTo pos (starEach [] X.env)) (backToKw pos (keywordEach [] X.env)))):
  PE X (.Call (.Attribute o m apos) [] [] pos) (Lu sp E ta):=by
 intro i s σ H Q I h;refine Yb (pl:=pl) (fL (he i s σ H _ I h) fun u s1 x Y v P q=>?_) ht;obtain⟨a,C,dx,fs,Z,ps,U,rfl,z,l,y,c,⟨f,fd,F,hm,b⟩,q⟩:=G _ _ _ _ q;obtain rfl:u=Value.ref a:=P;refine k7 v z c hm l ?_;exact W.callWith_K0 (first:=[.ref a]) v.lV hm.kp (C5 (us:=[.ref a]) (vs:=[.ref a]) F (O.mono (fv y hk)) b .nil hp v (.cons rfl .nil) q)
theorem ur [Quiet CX] (he:PE X o ta) (G:BL X.prog X.w X.K X.mg X.base CX m k sp) (i:cY n X.A) (hk:k<=n) (ht:eval (.Call (.Attribute o m apos) [] [] pos) X.env=(do
   let ov<-eval o X.env
   standAt apos.atName
   let (f,first)<-holding [ov] (getMethod ov m pl)
   callWith pos f first (backTo pos (starEach [] X.env)) (backToKw pos (keywordEach [] X.env))):=by rfl):
  PE X (.Call (.Attribute o m apos) [] [] pos) (Lu sp E0 ta):=Ip he G i hk (Quiet.pass X) ht
theorem Iq (he:PE X o ta) (G:BL X.prog X.w X.K X.mg X.base (Eu X.prog X.w) m k sp) (q:cY n X.A) (hk:k<=n) (i:Rz X E) (hex:X.ex= []) (ht:eval (.Call (.Attribute o m apos) [] [] pos) X.env=(do
   let ov<-eval o X.env
   standAt apos.atName
   let (f,first)<-holding [ov] (getMethod ov m pl)
   callWith pos f first (backTo pos (starEach [] X.env)) (backToKw pos (keywordEach [] X.env))):=by rfl):
  PE X (.Call (.Attribute o m apos) [] [] pos) (Lu sp E ta):=Ip he G q hk (i.passes hex) ht
structure WV (K:W.Frag) (D:Addr):Prop where
 hg:W.plainGet K D "__class__" = true
 hd:W.hasDictIn K D=true
 ha:W.findIn K (.ref D) "__class__" = some (some (.builtin "object.__class__"))
 hn:W.specialIn K (.builtin "object.__class__") "__get__" = some (some (.builtin "getset_descriptor.__get__"))
 htk:W.takesIn K (.builtin "object.__class__")=some true
 hm:W.mroIn K D (.type "object")=some true
theorem V5 {K:W.Frag} (a:W.plainGet K D "__class__" = true) (b:W.hasDictIn K D=true) (c:W.findIn K (.ref D) "__class__" = some (some (.builtin "object.__class__"))) (d:W.specialIn K (.builtin "object.__class__") "__get__" = some (some (.builtin "getset_descriptor.__get__"))) (e:W.takesIn K (.builtin "object.__class__")=some true) (f:W.mroIn K D (.type "object")=some true):WV K D:=⟨a,b,c,d,e,f⟩
theorem Ry {K:W.Frag} {R:Addr} (X:K.In s.heap) (hx:s.heap.get? x=some ⟨.ref C,some dx,.fields vs,#[]⟩) (hn:s.heap.Ns1 dx m) (hw:PySem.Within m ns) (hl:ns.length<1000) (hc:W.clsIn K C=some cd) (hm:cd.mro = .ref C :: .ref R::CP) (hd:cd.hasDict=true) (hs:W.findIn K (.ref C) "__setattr__" = some (some (.builtin "object.__setattr__"))) (ha:W.findIn K (.ref C) name=some none) (h:∀i t',i.Ns1 dx (fun y=>if y=name then some v else m y)->(∀b o,b≠dx->s.heap.get? b=some o->i.get? b=some o)->Q () {s with heap:=i,toks:=t'}):
  wpAny (model prog w) A (setAttr (.ref x) name v) Q E s:=by
 obtain⟨od,es,Z,G,_⟩:=id hn;have I:W.InstAt s.heap x ⟨.ref C,some dx,.fields vs,#[]⟩ C (some od):=⟨hx,rfl,rfl,G⟩;have F:=PySem.F.store_object;have lc:W.Looks (model prog w) s.heap (classData C) cd:=W.looks_clsIn X hc;have sub:W.Looks (model prog w) s.heap (isInstance (.ref x) (.type "object")) true:=I.type.andThen (X4 X (by unfold W.mroIn;rw[hc,Option.bind_some,hm];rfl));have mro:W.Looks (model prog w) s.heap (mroOf (.ref C)) cd.mro:=lc.andThen .now;refine W.set_plain X I hs ?_;refine XY F.slot.plain F.entry ?_;refine @W.check_slot (model prog w) _ _ {s with toks:=s.toks+1} "object.__setattr__" "object" "__setattr__" (.ref x) [.str name s.toks,v] [] _ F.kind F.split sub (F.args (.ref x) (.str name s.toks) v) ?_;rw[W.osa_eq,refuse_eq];refine cc (cc (I.type.here (s:={s with toks:=s.toks+1}) (cc (mro.here (s:={s with toks:=s.toks+1}) ?_))));rw[hm,refuseLoop_ref,refuseLoop_ref,PySem.F.store_ValueError.passes];refine de (cc (I.type.here (s:={s with toks:=s.toks+1}) (cc ((Yp X ha).here (s:={s with toks:=s.toks+1}) (cc (de ?_))))));refine cc (de (cc (cc (Yo (s:={s with toks:=s.toks+1}) hx (cc (lc.here (s:={s with toks:=s.toks+1}) ?_))))));rw[hd,a5 (by decide)];refine de ?_;show wpAny _ _ (Builtin.ObjectAttr.storeInDict dx (.str name s.toks) name v) _ _ _;unfold Builtin.ObjectAttr.storeInDict Builtin.ObjectAttr.newKeyGuard;refine cc (de (cc (wpAny_nsSet1 (s:={s with toks:=s.toks+1}) hn fun i H O=>?_)));obtain⟨oD,P,Y,z,q,u⟩:=H.count (PySem.Within.cons name v hw);refine cc (wpAny_lookBehind z (by rw[q];exact pastItsLine_dict (fv u (by rw[tH,fR];lia))) ?_);exact de (h i _ H fun b o ne U=>(O.2 b ne).trans U)
theorem Fh:∀{fs:List (Str×V)} {g:Str} {y:V},fs.lookup g=some y->g∈fs.map (·.1)
 | [],_,_,h=>by cases h
 |(k,z)::fs,g,y,h=>by
  simp only[List.lookup] at h;split at h
  ·rename_i e;rw[zp.mp e];exact sm
  ·exact hQ _ (Fh h)
theorem Fj:∀{fs:List (Str×V)} {f g:Str} {y:V},fs.lookup f=none->(fs++ [(f,y)]).lookup g=if g=f then some y else fs.lookup g
 | [],f,g,y,_=>by
  show List.lookup g [(f,y)]=_;by_cases c:g=f
  ·rw[bc c,c];simp[List.lookup]
  ·have:(g == f)=false:=Xi.mpr c;rw[a5 c];simp[List.lookup,this]
 |(k,z)::fs,f,g,y,h=>by
  simp only[List.lookup] at h;split at h
  ·cases h
  ·rename_i e;have i:=Fj (g:=g) (y:=y) h;show List.lookup g ((k,z)::(fs++ [(f,y)]))=_;simp only[List.lookup];split
   ·rename_i e2;have:g≠f:=fun q=>by
     rw[<-q,e2] at e;cases e
    rw[a5 this]
   ·exact i
theorem Inv.Uk {C:Str->Option Value} (I:Inv X pins σ H s) (v:H dx=some (.xd fs)) (hf:fs.lookup f=none) (F:∀g,qA (fs.lookup g) (C g)) (hn:x.Ns1 dx (fun z=>if z=f then some u else C z)) (k:∀b o,b≠dx->s.heap.get? b=some o->x.get? b=some o) (G:RelV y u):
  Inv X pins σ (upd H dx (.xd (fs++ [(f,y)]))) {s with heap:=x,toks:=t'}:=by
 have ne:∀{b:Addr} {o:HO},H b=some o->(∀E,o≠ .xd E)->b≠dx:=fun{b o} q n z=>by
  subst z;rw[v] at q;injection q with q;exact n _ q.symm
 have fr:∀b,H b=none->b≠dx:=fun b q z=>by rw[z,v] at q;cases q
 obtain⟨od,_,_,i,_⟩:=id hn;refine I.un (t':=t') ⟨fun b o q n _ _=>k b o (fr b n) q,fun b o q n _ _=>⟨o.slots,k b o (fr b n) q⟩,fun b o q n _=>?_,fun b o q _=>?_,fun b xs q=>?_,fun b o u q=>?_,fun b O q=>⟨#[],?_⟩⟩ fun b o q=>?_
 ·rw[af (fr b n)];exact n
 ·by_cases z:b=dx
  ·exact⟨_,z▸i⟩
  ·exact⟨o,k b o z q⟩
 ·rw[af (ne q (by simp))];exact q
 ·rw[af (ne q (by simp))];exact q
 ·rw[af (ne q (by simp)),q];simp
 ·by_cases z:b=dx
  ·subst z;rw[ag] at q;cases q;refine⟨_,hn,fun g=>?_⟩;rw[Fj hf];by_cases c:g=f
   ·rw[bc c,bc c];exact G
   ·rw[a5 c,a5 c];exact F g
  ·rw[af z] at q;refine(I.hok b o q).stay (fun c u hc g=>?_) (fun c g=>by rw[af (ne g (by simp))];exact g) fun c xs g=>by rw[af (ne g (by simp))];exact g
   rcases hc with r|r
   ·exact k c u (r▸z) g
   ·exact k c u (ne r (by simp)) g
def LQ (C:Addr) (v q:TE) (f:Str):TS:=fun D σ H=>q σ H fun y u=>v σ u fun x i=> ∃e,x = .ref e/\∃dx fs,i e=some (.ext (tI e C (some dx)))/\i dx=some (.xd fs)/\fs.lookup f=none/\fs.length<1000/\D.nx σ (upd i dx (.xd (fs++ [(f,y)])))
theorem Mu {R:Addr} (c:TQ X.K X.mg x C R) (m:F4 X.K C f) (ha:PE X o ta) (P:PE X value tv) (hs:autoParam (kZ value=false) qqr):PS X (.Assign [.Attribute o f pos'] value pos) (LQ C ta tv f):=by
 intro i s σ H D I h;obtain⟨O,c⟩:=c;obtain⟨cd,hc,hm,hd⟩:=c.cd;refine XG (fL (P i s σ H _ I h) fun u s1 y F G W q=>thn (ha i s1 σ F _ G q) fun Y s2 ⟨x,H2,v,U,e,ex,dx,fs,Z,E,hf,hl,q2⟩=>?_) (kH hs);subst ex;obtain rfl:Y=Value.ref e:=U;obtain⟨⟨vs,he,v1,v2⟩,_⟩:=v.hok e _ Z;obtain⟨mA,hn,z⟩:=(show dJ X.prog X.w H2 s2.heap dx (.xd fs) from v.hok dx _ E);refine Ry v.lV he hn (ns:=fs.map (·.1)) (fun g hg=>?_) (by rw[cF];exact hl) hc hm hd m.sa m.no fun h' t' g1 Q=>⟨σ,_,v.Uk E hf z g1 Q W,q2⟩;have:=z g;cases e1:fs.lookup g with
 |some y=>exact Fh e1
 |none=>
  rw[e1] at this;exact absurd (qA.none_of this) hg
def Wn (K:W.Frag) (C:Addr) (th:TS) (q:TH):TH:=fun D σ cls dx H=>IF (isx K cls C) (∀i,H i=none->th D σ (upd H i (.ext (IL i cls dx)))) (q D σ cls dx H)
theorem Mx {X:Cx} {K:W.Frag} {x:Str} {C:Addr} {np pos:Pos} {E:Stmt} {body:List Stmt} {rest:List ExceptHandler} {th:TS} {Q:TH} (hK:X.K=K) (m:A5 X.K X.mg x C) (hg:Gl X x)
  (hs:∀e,zU (X.hand e) (E::body) th) (Z:PH X rest Q) (O:autoParam ((x == ("__debug__":Str))=false) qqd):PH X (.ExceptHandler (some (.Name x np)) none (E::body) pos::rest) (Wn K C th Q):=by
 subst hK;intro y s σ H D F cls dx T I hx U h;have ok:=I.ok;have Y:Inv (X.hand (.ref F)) y σ (upd H F (.ext (IL F cls dx))) s:=I.hand;obtain⟨oe,vs,he,hc,_⟩:=id hx;refine wpAny_handleBy_cons (codeAny_handlers_test (kz (X:=X.hand (.ref F)) Y hg m.Sh ?_ O)) (by intro q;cases q);unfold Wn at h;cases P:isx X.K cls C with
 |none=>rw[P] at h;exact h.elim
 |some b=>
  rw[P] at h;refine xmatch I.lV he m (by rw[hc];exact P) ?_;cases b with
  |false=>exact Z y s σ H D F cls dx T I hx U h
  |true=>
   refine codeAny_handlers_suite (Fw hx ?_);refine mj (hs (.ref F) y s _ _ _ Y (h F U)) (fun f s2 q=>?_) fun _ _ z=>z.elim;cases f with
   |next=>obtain⟨i,H',G,q⟩:=q;exact⟨i,H',G.unhand ok,q⟩
   |brk=>obtain⟨i,H',G,q⟩:=q;exact⟨i,H',G.unhand ok,q⟩
   |cont=>obtain⟨i,H',G,q⟩:=q;exact⟨i,H',G.unhand ok,q⟩
   |ret u=>obtain⟨v,i,H',G,r,q⟩:=q;exact⟨v,i,H',G.unhand ok,r,q⟩
theorem Ir (he:PE X o ta) (c:dM X.K X.mg x C) (G:wC X.prog X.w X.K X.mg X.base CX C m k ps sp) (z:cY n X.A) (hk:k<=n) (hx:F8 CX X σ0 E) (ht:eval (.Call (.Attribute o m apos) [] [] pos) X.env=(do
   let ov<-eval o X.env
   standAt apos.atName
   let (f,first)<-holding [ov] (getMethod ov m pl)
   callWith pos f first (backTo pos (starEach [] X.env)) (backToKw pos (keywordEach [] X.env))):=by rfl):
  PE X (.Call (.Attribute o m apos) [] [] pos) (Rr σ0 C m sp E ta Bc):=by
 obtain⟨f,Y,F,hm,b⟩:=G;intro v s σ H Q I ⟨hσ,h⟩;subst hσ;refine Yb (fL (he _ s σ H _ I h) fun u s1 x U i O P=>?_) ht;obtain⟨a,ex,dx,fs,y,l,q⟩:=C8 P;subst ex;obtain rfl:u=Value.ref a:=O;refine k7 i y c.cl hm l ?_;exact W.callWith_K0 i.lV hm.kp (C3 (vs:=[.ref a]) F (z.mono hk) b hx i (.cons rfl .nil) q)
def Me (K:W.Frag):List V->Hp->VK->Prop:=fun xs H Q=>match xs with
 | [.ref p,.ty "tuple"]=>(∃i,du K H p i)/\Q (.bl true) H
 |xs=>ES K xs H Q
theorem JS {K:W.Frag}:Me K [.ref p,.ty "tuple"] H Q=((∃i,du K H p i)/\Q (.bl true) H):=rfl
theorem Lc (K:W.Frag) (i:X.K=K):bM X (.builtin "isinstance") (Me K):=by
 intro v s σ H xs us Q I rs q;unfold Me at q;split at q
 ·rename_i p;subst i;obtain⟨⟨E,hy⟩,q⟩:=q;obtain⟨u,c,rfl,x,rc⟩:=vals2 rs;obtain rfl:u=Value.ref p:=x;obtain rfl:c=Value.type _:=rc;obtain⟨y,r,⟨o,h1,C,_⟩,F⟩:=I.tuple hy;exact Xw W.kitx_tuple I.lV ⟨o,h1,C⟩ (Sn _) (fun z=>nomatch z) fun tk=>⟨.bl _,H,I.tok tk,rfl,q⟩
 ·exact x9 K i _ s σ H _ us Q I rs q
noncomputable def anyS:List (Option Bool)->Option Bool
 | []=>some false
 |some true::_=>some true
 |some false::r=>anyS r
 |none::_=>none
structure T5 (K:W.Frag) (C:Addr):Prop where
 ty:W.typeIn K (.ref C)=some (.type "type")
 ex:W.mroIn K C (.type "BaseException")=some true
theorem A5.c {K:W.Frag} (m:A5 K mg x C):T5 K C:=⟨m.ty,m.ex⟩
end
section
mutual
variable {K:W.Frag}
theorem T5.exc (m:T5 K C) (X:K.In s.heap) (h:Q true s):wpAny (model prog w) A (isExcClass (.ref C)) Q E s:=by
 have i:W.Looks (model prog w) _ _ _:=X4 X m.ex;have Lake:W.Looks (model prog w) s.heap (isType (.ref C)) true:=by
  have z:=m.ex;obtain⟨cd,hc,_⟩:=Option.bind_eq_some_iff.mp z;unfold W.clsIn at hc;split at hc
  ·rename_i u;intro x v F y k q;exact cc (Yo (k _ _ (X _ _ u)) (de q))
  ·cases hc
 refine cc (Lake.here ?_);exact i.here h
theorem KH {s:Shared} (X:K.In s.heap) (i:isx K cls C=some b):W.Looks (model prog w) s.heap (isSubtype cls (.ref C)) b:=by
 unfold isx at i;split at i
 ·exact X4 X i
 ·cases i
theorem IK {g:Value->Sem (ForInStep PUnit)} (X:K.In s.heap):∀{Cs:List Addr},(∀C∈Cs,T5 K C)->Q ⟨⟩ s->
  wpAny (model prog w) A (forIn (Cs.map Value.ref) PUnit.unit fun c _=>isExcClass c >>= fun y=>if(!y)=true then g c else pure (ForInStep.yield PUnit.unit)) Q E s
 | [],_,h=>by
  exact de h
 |C::Cs,hm,h=>by
  rw[Xr,Xz];refine cc (cc ((hm C (sm ..)).exc X ?_));refine de ?_;exact IK X (fun D hD=>hm D (hQ _ hD)) h
theorem HQ (X:K.In s.heap):∀{Cs:List Addr},anyS (Cs.map (isx K cls))=some b->Q (if b then some true else none,()) s->
  wpAny (model prog w) A (forIn (Cs.map Value.ref) ((none,()):Option Bool×Unit) fun c _=>isSubtype cls c >>= fun y=>if y=true then pure (ForInStep.done (some true,())) else pure (ForInStep.yield (none,()))) Q E s
 | [],e,h=>by
  cases e;exact de h
 |C::Cs,e,h=>by
  rw[Xr] at e;rw[Xr,Xz];cases e1:isx K _ C with
  |none=>rw[e1] at e;cases e
  |some c=>
   rw[e1] at e;refine cc (cc ((KH X e1).here ?_));cases c with
   |true=>
    cases e;exact de (de h)
   |false=>
    refine de ?_;exact HQ X e h
theorem Oz {Cs:List Addr} (X:K.In s.heap) (he:s.heap.get? e=some oe) (ht:s.heap.get? t=some ⟨.type "tuple",none,.seq (Cs.map Value.ref).toArray n,#[]⟩) (hm:∀C∈Cs,T5 K C) (q:anyS (Cs.map (isx K oe.cls))=some b) (h:Q b s):
  wpAny (model prog w) A (excMatches (.ref e) (.ref t)) Q E s:=by
 have i:W.Looks (model prog w) s.heap (isInstance (.ref t) (.type "tuple")) true:=((W.Looks.ld ht).andThen .now).andThen (W.Looks.of_pure (rfl));have u:W.Looks (model prog w) s.heap (typeOf (.ref e)) oe.cls:=(W.Looks.ld he).andThen .now;refine cc (i.here ?_);refine cc (wpAny_seqItems ht rfl ?_);refine cc (de ?_);refine cc ?_;refine IK (Cs:=Cs) X hm ?_;refine cc (u.here ?_);refine cc (HQ (Cs:=Cs) X q ?_);cases b with
 |true=>exact de h
 |false=>exact de h
end
end
mutual
def Wh (X:Cx) (es:List Expr) (Cs:List Addr):Prop:=(∀C∈Cs,T5 X.K C)/\∀(e:Value) (pos:Pos) (i:List (Addr×Obj)) (s:Shared) (σ:St) (H:Hp) (Q:List Value->Shared->Prop) (E:Value->Shared->Prop),
 Inv (X.hand e) i σ H s->Q (Cs.map Value.ref) s->wpAny (model X.prog X.w) (X.hand e).A (spliced (backTo pos (starEach es X.env))) Q E s
theorem Se:Wh X [] []:=⟨(fun _ h=>nomatch h),fun _ _ _ _ _ _ _ _ _ h=>Calls.spliced_nil h⟩
theorem DG (m:A5 X.K X.mg x C) (hg:Gl X x) (u:Wh X es Cs) (i:autoParam ((x == ("__debug__":Str))=false) qqd):Wh X (.Name x np::es) (C::Cs):=by
 refine⟨fun D hD=>?_,fun e pos q s σ H Q E I h=>?_⟩
 ·rcases cR.mp hD with rfl|hD
  ·exact m.c
  ·exact u.1 D hD
 ·refine Calls.spliced_cons (kz I hg m.Sh ?_ i);exact u.2 e _ _ s σ H _ E I h
def W2 (K:W.Frag) (Cs:List Addr) (th:TS) (q:TH):TH:=fun D σ cls dx H=> ∀t,H t=none->IF (anyS (Cs.map (isx K cls))) (∀i,upd H t (.tup (Cs.map V.ref)) i=none->th D σ (upd (upd H t (.tup (Cs.map V.ref))) i (.ext (IL i cls dx)))) (q D σ cls dx (upd H t (.tup (Cs.map V.ref))))
theorem Lq (h:a≠b):upd (upd H a o) b u=upd (upd H b u) a o:=by
 funext c;by_cases i:c=b
 ·subst i;rw[ag,af (L1 h),ag]
 ·rw[af i];by_cases q:c=a
  ·subst q;rw[ag,ag]
  ·rw[af q,af q,af i]
theorem B8:∀{Cs:List Addr},Vals (Cs.map V.ref) (Cs.map Value.ref)
 | []=> .nil
 |_::_=> .cons rfl B8
theorem RP {X:Cx} {K:W.Frag} {es:List Expr} {Cs:List Addr} {j:_} {np pos:Pos} {x:Stmt} {body:List Stmt} {rest:List ExceptHandler} {th:TS} {tr:TH} (hK:X.K=K) (hn:Wh X es Cs) (hz:Cs.length<=100)
  (hs:∀e,zU (X.hand e) (x::body) th) (hr:PH X rest tr):PH X (.ExceptHandler (some (.Tuple es j np)) none (x::body) pos::rest) (W2 K Cs th tr):=by
 subst hK;intro pins s σ H D E cls dx T I hx hH h;have ok:=I.ok;have Ih:Inv (X.hand (.ref E)) _ σ _ s:=I.hand;obtain⟨oe,vs,he,hc,hx'⟩:=id hx;have hsz:Cs.length<=sizeLine:=by rw[fR];lia
 have C:=eM he;have Q:=Yd C;have fr:=I.hok.fresh (cm _);have Z:=by rw[af Q] at fr;exact fr
 refine wpAny_handleBy_cons (codeAny_handlers_test (wpAny_Tuple_spliced (hn.2 _ _ _ s σ _ _ _ Ih ⟨by simp_all,?_⟩))) (by intro q;cases q);have kp:∀b u,s.heap.get? b=some u->(s.heap.push {cls:= .type "tuple",data:= .seq (Cs.map Value.ref).toArray}).get? b=some u:=fun b u e=>cP _ e;have O:Inv X _ σ (upd _ _ (.tup _)) {s with heap:=s.heap.push _,toks:=s.toks}:=
  I.laid kp (cm _) ⟨by simp_all,_,B8,⟨_,fx _ rfl,rfl,_,rfl⟩⟩
 rw[Lq (L1 Q)] at O;have F:Om (s.heap.push {cls:= .type "tuple",data:= .seq (Cs.map Value.ref).toArray}) E cls dx (some T):=by
  obtain⟨P,Y,hs1,hv,hT,oT,ts,h1,h2,h3⟩:=hx';exact⟨oe,vs,kp _ _ he,hc,P,Y,hs1,hv,hT,oT,ts,kp _ _ h1,h2,h3⟩
 have G:upd H s.heap.objs.size (.tup (Cs.map V.ref)) E=none:=by rw[af (L1 Q)];exact hH
 replace h:=h _ Z;cases hb:anyS _ with
 |none=>rw[hb] at h;exact h.elim
 |some b=>
  rw[hb] at h;refine Oz O.lV (kp _ _ he) (fx _ rfl) hn.1 (by rw[hc];exact hb) ?_;cases b with
  |false=>exact hr _ _ σ _ D E _ dx T O F G h
  |true=>
   have U:Inv (X.hand (.ref E)) _ σ _ _:=O.hand;refine codeAny_handlers_suite (Fw F ?_);refine mj (hs _ _ _ _ _ _ U (h E G)) (fun f s2 q=>?_) fun _ _ z=>z.elim;cases f with
   |next=>obtain⟨i,H',y,q⟩:=q;exact⟨i,H',y.unhand ok,q⟩
   |brk=>obtain⟨i,H',y,q⟩:=q;exact⟨i,H',y.unhand ok,q⟩
   |cont=>obtain⟨i,H',y,q⟩:=q;exact⟨i,H',y.unhand ok,q⟩
   |ret u=>obtain⟨v,i,H',y,r,q⟩:=q;exact⟨v,i,H',y.unhand ok,r,q⟩
theorem TJ {os:List (Option Bool)}:anyS (some true::os)=some true:=rfl
theorem TK {os:List (Option Bool)}:anyS (some false::os)=anyS os:=rfl
open Classical in
def HP (r r' q r3 O:R2) (ta W tc X te Z:TE):TE:=fun σ H Q=>ta σ H fun x P=>W σ P fun y H2=>r x y H2 fun z F=> ∃k,z = .bl k/\
 (if k=true then tc σ F fun v H4=>r' y v H4 fun Y I=> ∃k2,Y = .bl k2/\(if k2=true then X σ I fun w2 U=>q v w2 U fun z3 G=> ∃k3,z3 = .bl k3/\(if k3=true then te σ G fun C H8=>r3 w2 C H8 fun z4 u=> ∃E,z4 = .bl E/\(if E=true then Z σ u fun w4 i=>O C w4 i Q else Q (.bl false) u) else Q (.bl false) G) else Q (.bl false) I) else Q (.bl false) F)
theorem J4 (ho:gq X (compareOp op) r) (P:gq X (compareOp op') r') (E:gq X (compareOp op'') r'') (W:gq X (compareOp op3) Z) (ho4:gq X (compareOp op4) F) (ha:PE X a ta) (hb:PE X b tb) (hc:PE X c tc) (hd:PE X d td) (he:PE X e te) (hf:PE X f tf) (hm:lastMarks [op,op',op'',op3,op4] [b,c,d,e,f]=false:=by with_unfolding_all rfl):PT X (.Compare a [op,op',op'',op3,op4] [b,c,d,e,f] pos) (ve (HP r r' r'' Z F ta tb tc td te tf)):=by
 intro i s σ H Q I h;refine isTrue_chain (fL (ha i s σ H _ I h) fun v s1 x H1 I1 r1 q1=>test_link (fL (hb i s1 σ H1 _ I1 q1) fun u s2 y H2 I2 r2 q2=>
  thn (ho i s2 σ H2 x y v u _ I2 r1 r2 q2) fun d s3 ⟨z,H3,I3,Z,k,e,q3⟩=>?_)) hm
 subst e;cases Z;refine ly ?_;cases k with
 |false=>
  obtain⟨k',C,q⟩:=q3;cases C;exact ite_ff ⟨H3,I3,q⟩
 |true=>
  refine ite_tt (test_link (fL (hc i s3 σ H3 _ I3 q3) fun w' s4 z' H4 I4 F q4=>thn (P i s4 σ H4 y z' u w' _ I4 r2 F q4) fun d' s5 ⟨z2,H5,I5,r5,k2,e2,q5⟩=>?_));subst e2;cases r5;refine ly ?_;cases k2 with
  |false=>
   obtain⟨k',C,q⟩:=q5;cases C;exact ite_ff ⟨H5,I5,q⟩
  |true=>
   refine ite_tt (test_link (fL (hd i s5 σ H5 _ I5 q5) fun w3 s6 z3 H6 I6 r6 q6=>thn (E i s6 σ H6 z' z3 w' w3 _ I6 F r6 q6) fun d' s7 ⟨z4,H7,I7,r7,k4,e4,q7⟩=>?_));subst e4;cases r7;refine ly ?_;cases k4 with
   |false=>
    obtain⟨k',C,q⟩:=q7;cases C;exact ite_ff ⟨H7,I7,q⟩
   |true=>
    refine ite_tt (test_link (fL (he i s7 σ H7 _ I7 q7) fun w4 s8 z5 H8 I8 r8 q8=>thn (W i s8 σ H8 z3 z5 w3 w4 _ I8 r6 r8 q8) fun d' s9 ⟨z6,H9,I9,r9,k6,e6,q9⟩=>?_));subst e6;cases r9;refine ly ?_;cases k6 with
    |false=>
     obtain⟨k',C,q⟩:=q9;cases C;exact ite_ff ⟨H9,I9,q⟩
    |true=>
     refine ite_tt (test_last (fL (hf i s9 σ H9 _ I9 q9) fun w5 s10 z7 Y G r10 q10=>thn (ho4 i s10 σ Y z5 z7 w4 w5 _ G r8 r10 q10) fun d' s11 ⟨z8,O,I11,r11,k8,e8,U⟩=>?_));subst e8;cases r11;exact ly ⟨O,I11,U⟩
open PySem PySem.Spec PyProof.Rows PySem.W Lake.Tm
def T6 (h:Heap) (c:Addr) (m:C4):Prop:= ∃o n t1 t2 q i u v,h.get? c=some o/\o.cls = .type "tuple" /\o.data = .seq #[.int m.1 t1,.int m.2.1 t2,.int m.2.2.1 q,.int m.2.2.2 i,u,v] n
theorem yq (h:Q true s):wpAny (model prog w) A (eqBool v v) Q E s:=by
 unfold eqBool;refine Xq ?_;show wpAny _ _ (if(v == v)=true then _ else _) Q E s;rw[bc (beq_self_eq_true v)];exact cc (wpAny_rule (de h))
theorem PQ (hx:T6 s.heap x a) (hy:T6 s.heap y b) (u:a=b->x=y) (h:Q (WD a b) s):wpAny (model prog w) A (keyLt' (tuples' true) (.ref x) (.ref y)) Q E s:=by
 obtain⟨o,n,t1,t2,C,G,p,r,v,hc,hd⟩:=hx;obtain⟨P,O,u1,I,H,U,F,r',q,z,i⟩:=hy;refine kat_lt v hd q i ?_;unfold WD at h;refine vM (.inl rfl) ?_;by_cases e1:a.1=b.1;rotate_left
 ·rw[a5 e1] at h⊢;exact h
 rw[bc e1] at h⊢;refine vM (.inr rfl) ?_;by_cases e2:a.2.1=b.2.1;rotate_left
 ·rw[a5 e2] at h⊢;exact h
 rw[bc e2] at h⊢;refine vM (.inr rfl) ?_;by_cases e3:a.2.2.1=b.2.2.1;rotate_left
 ·rw[a5 e3] at h⊢;exact h
 rw[bc e3] at h⊢;refine vM (.inr rfl) ?_;by_cases e4:a.2.2.2=b.2.2.2
 ·rw[bc e4];rw[e4,cz (Int.lt_irrefl _)] at h;obtain rfl:=u (Prod.ext e1 (Prod.ext e2 (Prod.ext e3 e4)));rw[v] at q;injection q with q;subst q;rw[hd] at i;injection i with i _;have i:=Xm Array.toList i;simp only[List.cons.injEq] at i;obtain⟨_,_,_,_,rfl,rfl,_⟩:=i;exact kat_cons (yq (kat_yes (kat_cons (yq (kat_yes (kat_nil h))))))
 ·rw[a5 e4];exact h
theorem QI:∀{qs:List (Addr×C4)},(∀q∈qs,T6 h q.1 q.2)->∃fs:List Value,KatTups h (qs.map fun q=>Value.ref q.1) fs/\fs.length=qs.length/\∀v∈fs,∃i t,v=Value.int i t
 | [],_=>⟨[],trivial,rfl,fun v x=>by cases x⟩
 |q::qs,hq=>by
  obtain⟨fs,h1,C,E⟩:=QI (qs:=qs) fun r y=>hq r (.tail _ y);obtain⟨o,n,t1,t2,F,G,u,v,z,hc,hd⟩:=hq q (.head _);refine⟨.int q.2.1 t1::fs,KatTups.cons z hc hd rfl h1,by simp[C],fun v x=>?_⟩;rcases cR.mp x with rfl|x
  ·exact⟨_,_,rfl⟩
  ·exact E v x
theorem KC {qs:List (Addr×C4)} (x:∀q∈qs,T6 s.heap q.1 q.2) (hn:0<qs.length) (h:Q (tuples' true) s):wpAny (model prog w) A (keyKind' (qs.map fun q=>Value.ref q.1).toArray) Q E s:=by
 obtain⟨fs,h1,z,u⟩:=QI x;refine kat_kind (T:= .type "int") h1 (by lia) (fun v y=>?_) rfl h;obtain⟨i,t,rfl⟩:=u v y;exact Looks.of_pure rfl
noncomputable def WL (ms:List C4) (i j:Nat):Bool:=WD (ms.getD i (0,0,0,0)) (ms.getD j (0,0,0,0))
theorem Rv (ms:List C4):∃p:List Nat,p.Perm (List.range ms.length)/\∀W:Wd,W.ok (WL ms) ms.length->wpS (model W.prog W.w) W.A W6 W.s sortRuns' (fun _ st=>arrOf st=p.toArray.map W.f/\failedOf st=none) (W.st ((List.range ms.length).toArray,#[],7)):=by
 obtain⟨b,t',hp,i⟩:=NQ (c:=WL ms) (n:=ms.length) (t:=((List.range ms.length).toArray,#[],7)) (P:=fun _ t'=>t'.1.toList.Perm (List.range ms.length)) (fun v q=>by simpa using q) rfl (fun t' h=>by simpa using h);refine⟨t'.1.toList,hp,fun W ok=>wpS_mono (i W ok) fun a st h=>?_⟩;rw[h.2];exact⟨by rw[Array.toArray_toList];rfl,rfl⟩
def vn (K:W.Frag):List V->Hp->VK->Prop:=fun xs H Q=>match xs with
 | [.ref p]=> ∃qs:List (Addr×C4),cI K H p (qs.map fun q=>V.ref q.1)/\(∀q∈qs,∃f r,du K H q.1 [.int q.2.1,.int q.2.2.1,.int q.2.2.2.1,.int q.2.2.2.2,f,r])/\(∀a∈qs,∀b∈qs,a.2=b.2->a.1=b.1)/\∀l (i:List (Addr×C4)),H l=none->i.Perm qs->Q (.ref l) (upd H l (.lst (i.map fun q=>V.ref q.1)))
 |_=>False
theorem Gq {qs:List (Addr×C4)} (I:Inv X pins σ H s) (i:∀q∈qs,∃f r,du X.K H q.1 [.int q.2.1,.int q.2.2.1,.int q.2.2.2.1,.int q.2.2.2.2,f,r]) (k:Kept s.heap h'):∀q∈qs,T6 h' q.1 q.2:=fun q E=>by
 obtain⟨f,r,i⟩:=i q E;obtain⟨ts,rt,pt,_⟩:=I.tuple i;obtain⟨o,z,hc,n,hd⟩:=pt;cases rt with
 |cons x rt=>cases rt with
  |cons r2 rt=>cases rt with
   |cons C rt=>cases rt with
    |cons u rt=>cases rt with
     |cons F rt=>cases rt with
      |cons r6 rt=>
       cases rt;obtain⟨t1,rfl⟩:=x;obtain⟨t2,rfl⟩:=r2;obtain⟨v,rfl⟩:=C;obtain⟨y,rfl⟩:=u;exact⟨o,n,t1,t2,v,y,_,_,k _ _ z,hc,hd⟩
theorem Ea:bM X (.builtin "sorted") (vn X.K):=by
 intro Z s σ H xs us Q I rs q;unfold vn at q;split at q;rotate_left
 ·exact q.elim
 rename_i p;obtain⟨u,rfl,ru⟩:=vals1 rs;cases ru;obtain⟨qs,hS,hT,U,q⟩:=q;obtain⟨O,r,pl,F⟩:=I.list hS;have em:(qs.map fun q=>V.ref q.1)=(qs.map (·.1)).map V.ref:=by rw[sx];rfl
 rw[em] at r;have ei:=BQ r;have W:O=qs.map fun q=>Value.ref q.1:=by rw[ei,sx];rfl
 subst W;have t4:=fun z (k:Kept s.heap z)=>Gq I hT k;have hlen:(qs.map fun q=>Value.ref q.1).length<=sizeLine:=by rw[cF] at F⊢;exact F
 refine CY (fun out=> ∃v,v.Perm qs/\out=v.map fun q=>Value.ref q.1) pl.isList hlen (fun h2=>⟨qs,Ys _,rfl⟩) (fun h2 z k=>?_) (fun out z D c g _ k hD e=>?_)
 ·rw[cF] at h2;have tt:=t4 z k;refine KC (s:={s with heap:=z}) tt (by lia) ⟨rfl,?_⟩;generalize hv:(qs.map fun q=>Value.ref q.1)=vs;have lv:vs.length=qs.length:=by rw[<-hv,cF]
  have gd:∀i,i<qs.length->vs.getD i Value.none=Value.ref (qs.getD i (0,0,0,0,0)).1:=fun i y=>by rw[<-hv];simp[y]
  have gm:∀i,i<qs.length->(qs.map (·.2)).getD i (0,0,0,0)=(qs.getD i (0,0,0,0,0)).2:=fun i y=>by simp[y]
  have mem:∀i,i<qs.length->qs.getD i (0,0,0,0,0)∈qs:=fun i y=>by simp[y]
  obtain⟨sp,pm,hW⟩:=Rv (qs.map (·.2));have hs:=hW ⟨X.prog,X.w,X.A.in1.in1,{s with heap:=z},tuples' true,kas_item (pairsOf vs)⟩ (fun i j y C Q' E' E=>by
   rw[cF] at y C;dsimp only at E⊢;rw[kas_item_eq,kas_item_eq];dsimp only;rw[gd i y,gd j C];unfold WL at E;rw[gm i y,gm j C] at E;exact PQ (s:={s with heap:=z}) (tt _ (mem i y)) (tt _ (mem j C)) (U _ (mem i y) _ (mem j C)) E)
  have P:SortSt.mk' (tuples' true) (vs.toArray.zip vs.toArray) #[] 7 none=Wd.st ⟨X.prog,X.w,X.A.in1.in1,{s with heap:=z},tuples' true,kas_item (pairsOf vs)⟩ ((List.range (qs.map (·.2)).length).toArray,#[],7):=by
   have e:=kas_range (pairsOf vs);rw[pairsOf_size,lv] at e;unfold Wd.st;dsimp only;rw[cF];exact Xm (fun a=>SortSt.mk' (tuples' true) a #[] 7 none) e.symm
  rw[P];refine mj hs (fun r s' hr=>?_) fun _ _ x=>x;obtain⟨rfl,ha,hf⟩:=hr;have sl:sp.length=qs.length:=by have:=pm.length_eq;simpa using this
  have eo:((arrOf r.2).map (·.2)).toList=(sp.map fun i=>qs.getD i (0,0,0,0,0)).map fun q=>Value.ref q.1:=by
   rw[ha,Array.map_map,Yx,sx];refine List.map_congr_left fun i y=>?_;have G:i<qs.length:=by have:=r4.mp (pm.mem_iff.mp y);simpa using this
   show(kas_item (pairsOf vs) i).2=_;rw[kas_item_eq];exact gd i G
  refine⟨rfl,hf,?_,_,J_ (by simpa using pm),eo⟩;rw[<-vp,eo,cF,cF,sl,lv]
 ·obtain⟨v,Y,eo⟩:=g;have el:out=((v.map (·.1)).map Value.ref).toArray:=by
   apply Array.toList_inj.mp;rw[eo,sx];rfl
  subst el;have ev:(v.map fun q=>V.ref q.1)=(v.map (·.1)).map V.ref:=by rw[sx];rfl
  refine⟨.ref D,_,I.laid (a:=D) (o:= .lst (v.map fun q=>V.ref q.1)) (t':=s.toks) k hD ⟨?_,(v.map (·.1)).map Value.ref,c,?_,e⟩,rfl,q D v (I.hok.fresh hD) Y⟩
  ·rw[cF,Y.length_eq];rw[cF] at F;exact F
  ·rw[ev];exact vc _
theorem BK (K:W.Frag) (h:X.K=K):bM X (.builtin "sorted") (vn K):=h▸Ea
theorem C7 {K:W.Frag}:vn K [.ref p] H Q= ∃qs:List (Addr×C4),cI K H p (qs.map fun q=>V.ref q.1)/\(∀q∈qs,∃f r,du K H q.1 [.int q.2.1,.int q.2.2.1,.int q.2.2.2.1,.int q.2.2.2.2,f,r])/\(∀a∈qs,∀b∈qs,a.2=b.2->a.1=b.1)/\∀l (i:List (Addr×C4)),H l=none->i.Perm qs->Q (.ref l) (upd H l (.lst (i.map fun q=>V.ref q.1))):=rfl
end
end Lake
namespace WaysM
mutual
noncomputable def nsp (a A b B m:Int):Int×Int:=low (3*b*A+((a-m*A).natAbs:Int)*B) (4*(A*B))
noncomputable def nsm (a A m:Int):Int×Int:=low (3*a+m*A) (4*A)
structure St (n:Nat) (P S D a A b B:Int):Prop where
 p:P=4 ^ n
 s0:0<=S
 s1:S<=1000000*P
 d0:0<=D
 d1:D<=2000000*P
 sa:a*P=S*A
 db:b*(2*P)=D*B
 a0:0<=a
 b0:0<=b
 pa:∃i,A=2 ^ i
 pb:∃j,B=2 ^ j
 oa: ¬(a % 2=0/\A % 2=0)
 ob: ¬(b % 2=0/\B % 2=0)
theorem two_pos (i:Nat):(0:Int)<2 ^ i:=by
 have:((2 ^ i:Nat):Int)=2 ^ i:=rfl;have:=zT i;lia
theorem NA (i:Nat):(0:Int)<4 ^ i:=by
 have:((4 ^ i:Nat):Int)=4 ^ i:=rfl;have:0<4 ^ i:=Nat.pow_pos (by decide);lia
theorem St.A0 (h:St n P S D a A b B):0<A:=by obtain⟨i,e⟩:=h.pa;rw[e];exact two_pos i
theorem St.B0 (h:St n P S D a A b B):0<B:=by obtain⟨i,e⟩:=h.pb;rw[e];exact two_pos i
theorem St.P0 (h:St n P S D a A b B):0<P:=by rw[h.p];exact NA n
theorem vj {D:Int} (q:B=2 ^ j) (h:b*2 ^ k=D*B) (o: ¬(b % 2=0/\B % 2=0)):B<=2 ^ k:=by
 by_cases u:j<=k
 ·rw[q];obtain⟨d,rfl⟩:=Nat.exists_eq_add_of_le u;have h1:=by have:=two_pos d;omega
  have i:=two_pos j;rw[YB];have:=XJ h1 (ko i);lia
 ·exfalso;obtain⟨d,rfl⟩:=Nat.exists_eq_add_of_le (show k+1<=j by lia);apply o;have e:(2:Int) ^ (k+1+d)=2 ^ k*(2*2 ^ d):=by rw[YB,Int.pow_succ,Int.mul_assoc]
  rw[q,e] at h;have i:b=D*(2*2 ^ d):=by
   apply Int.eq_of_mul_eq_mul_left (Int.ne_of_gt (two_pos k));rw[Yk,h];rw[Int.mul_left_comm]
  constructor
  ·rw[i,Int.mul_left_comm];exact Int.mul_emod_right _ _
  ·rw[q,e,Int.mul_left_comm];exact Int.mul_emod_right _ _
theorem vQ (n:Nat):(4:Int) ^ n=2 ^ (2*n):=by rw[Int.pow_mul];rfl
theorem St.A1 (h:St n P S D a A b B):A<=P:=by
 obtain⟨i,e⟩:=h.pa;have h1:=h.sa;rw[h.p,vQ] at h1;rw[h.p,vQ];exact vj e h1 h.oa
theorem St.B1 (h:St n P S D a A b B):B<=2*P:=by
 obtain⟨i,e⟩:=h.pb;have h1:=h.db;have e2:2*P=2 ^ (2*n+1):=by rw[h.p,vQ];lia
 rw[e2] at h1⊢;exact vj e h1 h.ob
theorem St.a1 (h:St n P S D a A b B):a<=S:=by
 have h1:=XJ h.A1 h.s0;rw[<-h.sa] at h1;exact Int.le_of_mul_le_mul_right h1 h.P0
theorem St.b1 (h:St n P S D a A b B):b<=D:=by
 have h1:=XJ h.B1 h.d0;rw[<-h.db] at h1;exact Int.le_of_mul_le_mul_right h1 (by have:=h.P0;lia)
theorem cancel {y:Int} (hs:0<s) (h:s*x=s*y):x=y:=Int.eq_of_mul_eq_mul_left (Int.ne_of_gt hs) h
theorem St.first (h0:0<=m) (h1:m<=1000000):St 0 1 m m m 1 (low m 2).1 (low m 2).2:=by
 obtain⟨s,L⟩:=nN (b:=2) h0 (by decide);obtain⟨j,_,i⟩:=qW 1 s _ L.s0 L.b0 (by simpa using L.bb);refine⟨rfl,h0,‹_›,h0,by lia,rfl,?_,h0,L.t0,⟨0,rfl⟩,⟨j,i⟩,by lia,L.od⟩;have e1:=L.tt;have e2:=L.bb;generalize(low m 2).1=t at*
 generalize(low m 2).2=b at*
 rw[e1] at*
 grind
theorem St.step (h:St n P S D a A b B) (h0:0<=m) (h1:m<=1000000):
  St (n+1) (4*P) (3*S+m*P) (3*D+2*((S-m*P).natAbs:Int)) (nsm a A m).1 (nsm a A m).2 (nsp a A b B m).1 (nsp a A b B m).2:=by
 have A0:=h.A0;have B0:=h.B0;have P0:=h.P0;have a0:=h.a0;have b0:=h.b0;have sa:=h.sa;have db:=h.db;have s0:=h.s0;have s1:=h.s1;have d0:=h.d0;have d1:=h.d1;have Z:=xB h0 (ko A0);have Y:=xB h0 (ko P0);have I:=Int.mul_le_mul_of_nonneg_right h1 (ko P0);have X:=Int.mul_pos A0 B0;have bA:=xB b0 (ko A0);have W:=xB (Ye (a-m*A).natAbs) (ko B0);obtain⟨s,L⟩:=nN (t:=3*a+m*A) (b:=4*A) (by lia) (by lia);obtain⟨r,M⟩:=nN (t:=3*b*A+((a-m*A).natAbs:Int)*B) (b:=4*(A*B)) (by lia) (by lia);obtain⟨i,E⟩:=h.pa;obtain⟨j,F⟩:=h.pb;have p1:(2:Int) ^ (i+2)=s*(nsm a A m).2:=by
  refine Eq.trans ?_ L.bb;rw[E,YB,Yk];rfl
 have O:(2:Int) ^ (i+j+2)=r*(nsp a A b B m).2:=by
  refine Eq.trans ?_ M.bb;rw[E,F,<-YB,YB _ _ 2,Yk];rfl
 obtain⟨H,_,v⟩:=qW _ _ _ L.s0 L.b0 p1;obtain⟨Q,_,q⟩:=qW _ _ _ M.s0 M.b0 O;refine⟨by rw[h.p,Int.pow_succ,Yk],by lia,by lia,by lia,by lia,?_,?_,L.t0,M.t0,⟨H,v⟩,⟨Q,q⟩,L.od,M.od⟩
 ·apply cancel L.s0;have e1:=L.tt;have e2:=L.bb;unfold nsm;generalize(low (3*a+m*A) (4*A)).1=t at*
  generalize(low (3*a+m*A) (4*A)).2=u at*
  have k1:s*(t*(4*P))=(3*a+m*A)*(4*P):=by rw[e1];grind
  have k2:s*((3*S+m*P)*u)=(3*S+m*P)*(4*A):=by rw[e2];grind
  rw[k1,k2];have:(3*a+m*A)*(4*P)=12*(a*P)+4*(m*A*P):=by grind
  rw[this,sa]
  grind
 ·apply cancel M.s0;have e1:=M.tt;have e2:=M.bb;unfold nsp;have ab:((a-m*A).natAbs:Int)*P=((S-m*P).natAbs:Int)*A:=by
   have C:((a-m*A)*P).natAbs=((S-m*P)*A).natAbs:=by
    have:(a-m*A)*P=(S-m*P)*A:=by
     rw[Int.sub_mul,Int.sub_mul,sa];grind
    rw[this]
   rw[Int.natAbs_mul,Int.natAbs_mul] at C;have U:((P.natAbs:Nat):Int)=P:=by lia
   have G:((A.natAbs:Nat):Int)=A:=by lia
   have z:(((a-m*A).natAbs*P.natAbs:Nat):Int)=(((S-m*P).natAbs*A.natAbs:Nat):Int):=by rw[C]
   rw[YA,YA,U,G] at z;exact z
  generalize((a-m*A).natAbs:Int)=x at*
  generalize((S-m*P).natAbs:Int)=y at*
  generalize(low (3*b*A+x*B) (4*(A*B))).1=t at*
  generalize(low (3*b*A+x*B) (4*(A*B))).2=u at*
  have k1:r*(t*(2*(4*P)))=(3*b*A+x*B)*(2*(4*P)):=by rw[e1];grind
  have k2:r*((3*D+2*y)*u)=(3*D+2*y)*(4*(A*B)):=by rw[e2];grind
  rw[k1,k2];have:(3*b*A+x*B)*(2*(4*P))=12*A*(b*(2*P))+8*B*(x*P):=by grind
  rw[this,db,ab]
  grind
end
end WaysM
namespace FrameM
mutual
open PySem Lake Com
noncomputable def pL:List V:=[.str "bare",.str "signs",.str "begin",.str "end",.str "ask"]
noncomputable def jK:Str:=" !\"#$&'()*+,-./0123456789:;<=>?@ABCDEFGHIJKLMNOPQRSTUVWXYZ[\\]^_`abcdefghijklmnopqrstuvwxyz{|}~"
noncomputable def Nk (x:V):Bool:=match x with
 | .str i=>!(Builtin.Str.occurrences jK i 0 jK.length 1).isEmpty
 |_=>false
noncomputable def fu (v l h:Int):Bool:=decide (l<=v)&&decide (v<=h)
noncomputable def qP (k i:Str):Bool:=if k = "signs" then(decide (1<=i.length)&&decide (i.length<=4)&&(eP i).all Nk) else decide (i = "")
noncomputable def cB (k:Str) (n a r:Int) (hs:List Int) (i:Str):Bool:=
 Cd (.str k) pL&&fu n 0 (if Cd (.str k) [.str "bare",.str "ask"]=true then 0 else 63)&&fu a 0 63&&fu r 0 16&&Held.eX 0 hs&&qP k i
def pJ (H:Hp) (t:Addr) (k:Str) (n a r:Int) (hs:List Int) (i:Str):Prop:=
 ∃h,H t=some (.tup [.str k,.int n,.int a,.int r,.ref h,.str i])/\H h=some (.tup (hs.map V.int))/\hs.length<=1000/\i.length<=1000
theorem w9 {x y:Nat} (h:y<2 ^ k):Builtin.bitOr ((x:Int)*2 ^ k) (y:Int)=((x*2 ^ k+y:Nat):Int):=by
 have e:(x)*2 ^ k=((x*2 ^ k:Nat):Int):=rfl;rw[e,BitI.Dj,RemM.vC h]
theorem UG {x y:Nat} (h:y<64):Builtin.bitOr ((x:Int)*64) (y:Int)=((x*64+y:Nat):Int):=w9 (k:=6) h
theorem Wz {x y:Nat} (h:y<32):Builtin.bitOr ((x:Int)*32) (y:Int)=((x*32+y:Nat):Int):=w9 (k:=5) h
theorem Xd {x y:Nat} (h:y<8):Builtin.bitOr ((x:Int)*8) (y:Int)=((x*8+y:Nat):Int):=w9 (k:=3) h
theorem UH {x y:Nat} (h:y<128):Builtin.bitOr ((x:Int)*128) (y:Int)=((x*128+y:Nat):Int):=w9 (k:=7) h
theorem Pq {x y:Nat} (h:y<32768):Builtin.bitOr ((x:Int)*32768) (y:Int)=((x*32768+y:Nat):Int):=w9 (k:=15) h
theorem WA {x y:Nat} (h:y<268435456):Builtin.bitOr ((x:Int)*268435456) (y:Int)=((x*268435456+y:Nat):Int):=w9 (k:=28) h
noncomputable def kinds:List Str:=["bare","signs","begin","end","ask"]
noncomputable def kidx (k:Str):Nat:=kinds.idxOf k
theorem KA (h:Cd (.str k) pL=true):k∈kinds:=by
 unfold Cd pL at h;simp only[sj,List.any_nil,Bool.or_false,Bool.or_eq_true,Qi,zp] at h;unfold kinds;rcases h with h|h|h|h|h<;>simp[h]
theorem DM (h:Cd (.str k) pL=true):Fp kinds k (kidx k)/\kidx k<5:=by
 have hm:=KA h;have e:∀z∈kinds,Fp kinds z (kidx z)/\kidx z<5:=by
  intro z v;have d:∀i:_root_.Fin 5,kinds[kidx (kinds.getD i "")]?=some (kinds.getD i "")/\kidx (kinds.getD i "")=i.val/\∀m:_root_.Fin 5,m.val<i.val->kinds[m.val]?≠some (kinds.getD i ""):=by trivial
  obtain⟨i,u,rfl⟩:=List.mem_iff_getElem.mp v;have q:i<5:=u;have e1:kinds.getD i "" = kinds[i]:=by rw[Xl,hI u];rfl
  have d':=d ⟨i,q⟩;simp only[e1] at d';refine⟨⟨d'.1,fun m hm=>d'.2.2 ⟨m,by lia⟩ (by lia)⟩,by lia⟩
 exact e k hm
noncomputable def fM (hs:List Int):Nat:=(hs.map fun h=>2 ^ (h-1).toNat).sum
theorem Cg:∀hs:List Int,(hs.map fun h=>(1:Int)*2 ^ (h-1).toNat).sum=(fM hs:Nat)
 | []=>rfl
 |x::xs=>by
  have i:=Cg xs;unfold fM at i⊢;rw[Xr,List.sum_cons,i];simp
theorem Fq:∀{hs:List Int} {l:Nat},Held.eX (l:Int) hs=true->l<=15->fM hs+2 ^ l<=32768
 | [],l,_,hl=>by
  have:(2) ^ l<=2 ^ 15:=XX (by decide) hl;unfold fM;simpa using this
 |x::xs,l,h,hl=>by
  unfold Held.eX at h;rw[h8,h8,eu,eu] at h;obtain⟨⟨h1,q⟩,i⟩:=h;obtain⟨j,rfl⟩:∃j:Nat,x=(j)+1:=⟨(x-1).toNat,by lia⟩;have u:=Fq (l:=j+1) (‹_›) (by lia);have e:fM (((j)+1)::xs)=2 ^ j+fM xs:=by
   unfold fM;rw[Xr,List.sum_cons];congr 2;lia
  have p:(2) ^ l<=2 ^ j:=XX (by decide) (by lia);lia
noncomputable def sgl:List Nat:=jK.cps.toList
theorem HV:sgl.length=94:=by decide+kernel
noncomputable def sgn (c:Nat):Nat:=sgl.idxOf c
theorem PF:∀j:_root_.Fin 94,Builtin.Str.occurrences jK ⟨#[sgl.getD j 0]⟩ 0 jK.length 1= [sgn (sgl.getD j 0)]/\sgn (sgl.getD j 0)=j.val:=by decide+kernel
theorem ml (h:c∈sgl):Builtin.Str.occurrences jK ⟨#[c]⟩ 0 jK.length 1= [sgn c]/\sgn c<94/\sgl[sgn c]?=some c:=by
 obtain⟨i,u,rfl⟩:=List.mem_iff_getElem.mp h;have q:i<94:=‹_›;have e1:sgl.getD i 0=sgl[i]:=by rw[Xl,hI u];rfl
 have d:=PF ⟨i,q⟩;simp only[e1] at d;have e2:=d.2;refine⟨d.1,by lia,?_⟩;generalize sgn sgl[i]=j at e2;subst e2;exact hI u
theorem P5 (h:Nk (.str ⟨#[c]⟩)=true):c∈sgl:=by
 have i:(!(Builtin.Str.occurrences _ _ 0 _ 1).isEmpty)=true:=h;rw[StrLaws.found_one,eu] at i;exact i
theorem LK:32∈sgl:=by decide+kernel
noncomputable def Bf (b:Nat) (cs:List Nat):Nat:=cs.foldl (fun b c=>b*128+sgn c) b
theorem JA:Bf b (cs++ [c])=Bf b cs*128+sgn c:=by unfold Bf;rw[XO];rfl
theorem EJ:∀(cs:List Nat) (b:Nat),(∀c∈cs,c∈sgl)->Bf b cs<(b+1)*128 ^ cs.length
 | [],b,_=>by show b<(b+1)*1;lia
 |c::cs,b,h=>by
  have i:=EJ cs (b*128+sgn c) fun c hc=>h c (hQ _ hc);have s:=(ml (h c (by simp))).2.1;rw[tH,Yz,XS _ 128,<-X6];exact fy i (Nat.mul_le_mul_right _ (by lia))
theorem HU (h:∀c∈cs,c∈sgl):Bf 0 cs<128 ^ cs.length:=by
 have:=EJ cs 0 h;lia
noncomputable def sF (i:Str):List Nat:=i.cps.toList++List.replicate (4-i.length) 32
noncomputable def Jz (i:Str):Nat:=Bf 0 (sF i)
theorem UQ (h:sg.length<=4):(PR sg 4).cps.toList=sF sg/\(PR sg 4).length=4:=by
 unfold PR sF;have hl:sg.cps.toList.length=sg.length:=rfl;by_cases c:(4:Int)<=sg.length
 ·rw[bc c];have:4-sg.length=0:=by lia
  rw[this];exact⟨by simp,by lia⟩
 ·rw[a5 c];unfold Builtin.Str.padded;refine⟨?_,?_⟩
  ·simp
  ·have e:∀z:Str,z.length=z.cps.toList.length:=fun z=>rfl;rw[e];simp;have:=hl;simp at this;lia
noncomputable def Jb (ki n a r h len s:Nat):Nat:=(((((ki*2 ^ 6+n)*2 ^ 6+a)*2 ^ 5+r)*2 ^ 15+h)*2 ^ 3+len)*2 ^ 28+s
noncomputable def fO (k:Str) (n a r:Int) (hs:List Int) (i:Str):Nat:=Jb (kidx k) n.toNat a.toNat r.toNat (fM hs) i.length (Jz i)
noncomputable def iy (k:Str) (n a r:Int) (hs:List Int) (i:Str):Nat:=fO k n a r hs i*256 |||Rem.R (fO k n a r hs i*256)
structure pK (k:Str) (n a r:Int) (hs:List Int) (sg:Str):Prop where
 hk:Cd (.str k) pL=true
 n0:0<=n/\n<=63
 a0:0<=a/\a<=63
 r0:0<=r/\r<=16
 hh:Held.eX 0 hs=true
 hl:sg.length<=4
 hs:∀c∈sg.cps.toList,c∈sgl
theorem qX (h:cB k n a r hs sg=true):pK k n a r hs sg:=by
 unfold cB fu at h;simp at h;obtain⟨⟨⟨⟨⟨h1,x⟩,u⟩,v⟩,y⟩,i⟩:=h;have q:sg.length<=4/\∀c∈sg.cps.toList,c∈sgl:=by
  unfold qP at i;split at i
  ·simp only[h8,eu] at i;refine⟨i.1.2,fun c hc=>?_⟩;have:=Xu.mp i.2 _ (ke.mpr ⟨c,hc,rfl⟩);exact P5 this
  ·rw[eu] at i;subst i;exact⟨by decide,by decide⟩
 exact⟨h1,⟨x.1,by lia⟩,u,v,y,q.1,q.2⟩
theorem pK.pad {hs:List Int} (p:pK k n a r hs sg):(∀c∈sF sg,c∈sgl)/\(sF sg).length=4:=by
 refine⟨fun c hc=>?_,?_⟩
 ·rcases gs.mp hc with h|h
  ·exact p.hs c h
  ·rw[(List.mem_replicate.mp h).2];exact LK
 ·unfold sF;have hl:sg.cps.toList.length=sg.length:=rfl;rw[ey,XR,hl];have:=p.hl;lia
structure HC (ki n a r h len s:Nat):Prop where
 ki:ki<8
 n:n<64
 a:a<64
 r:r<32
 h:h<32768
 len:len<8
 s:s<268435456
theorem pK.parts {hs:List Int} (p:pK k n a r hs sg):HC (kidx k) n.toNat a.toNat r.toNat (fM hs) sg.length (Jz sg):=by
 have h1:=(DM p.hk).2;have q:=Fq (l:=0) (by exact_mod_cast p.hh) (by decide);have i:=HU p.pad.1;rw[p.pad.2] at i;have:=p.n0;have:=p.a0;have:=p.r0;have:=p.hl;exact⟨by lia,by lia,by lia,by lia,‹_›,by lia,i⟩
theorem HC.lt {ki n a r h len s:Nat} (p:HC ki n a r h len s):Jb ki n a r h len s<2 ^ 66:=by
 obtain⟨h1,x,q,v,y,u,i⟩:=p;unfold Jb;lia
theorem Cj:iy k n a r hs sg=fO k n a r hs sg*256+Rem.R (fO k n a r hs sg*256):=by
 exact RemM.vC (p:=8) (Rem.F7 _)
theorem pK.Ax {hs:List Int} (p:pK k n a r hs sg):iy k n a r hs sg<2 ^ 74:=by
 have h1:=p.parts.lt;have i:=Rem.F7 (fO k n a r hs sg*256);rw[Cj];unfold fO at*
 lia
theorem Ay:Rem.R (iy k n a r hs sg)=0:=RemM.Qz _
theorem dropx (S:aE H H1) (he:H1 e=none) (hd:upd H1 e o d=none):aE H (mz (upd (upd (upd H1 e o) d (.xd [(f,v)])) e (.ext (tI e C (some d)))) e)/\mz (upd (upd (upd H1 e o) d (.xd [(f,v)])) e (.ext (tI e C (some d)))) e d=some (.xd [(f,v)]):=by
 have nd:d≠e:=fun z=>by rw[z,ag] at hd;cases hd
 refine⟨fun b u i=>?_,?_⟩
 ·have h1:=S b u i;have nb:=ar h1 he;rw[gz nb,af nb,af (fun z=>?_),af nb];exact h1;rw[z] at h1;rw[af nd] at hd;rw[h1] at hd;cases hd
 ·rw[gz nd,af nd,ag]
theorem pJ.same (h:pJ H t k n a r hs sg) (e:aE H H'):pJ H' t k n a r hs sg:=by
 obtain⟨hh,h1,q,i⟩:=h;exact⟨hh,e _ _ h1,e _ _ q,i⟩
end
end FrameM
namespace StM
mutual
noncomputable def nameOf (a b c:Nat):Nat:=if a=0 then 0 else if a=1 then(if c=0 then 1 else if c=1 then 2 else 3) else if b=2 then 5 else if c=2 then 6 else 4
structure Sd (p K T t n:Nat):Prop where
 p0:2*t<=p
 p1:p<=2*t+2
 k0:2*t<=K
 k1:K<=p
 t0:2*t<=T
 t1:T<=2*t+2
 sh:p=2*t->T=2*t
 nb: ¬(K=2*t+2/\T=2*t+2)
 nm:n=nameOf (p-2*t) (K-2*t) (T-2*t)
theorem Sd.start:Sd 0 0 0 0 0:=⟨by lia,by lia,by lia,by lia,by lia,by lia,by lia,by lia,rfl⟩
noncomputable def MR (n:Nat):Option Nat:=if n=0 then some 1 else none
noncomputable def Fc (n:Nat):Option Nat:=if n=1\/n=2 then some 4 else if n=3 then some 6 else none
noncomputable def DJ (n:Nat):Nat:=if n=0\/n=1 then 2 else n
noncomputable def Ap (n:Nat):Nat:=if n=2 then 3 else if n=4 then 6 else if n=5 then 0 else n
noncomputable def kD (n:Nat):Nat:=if n=4 then 5 else if n=6 then 0 else n
theorem Sd.T2 (s:Sd p K T t n):n<7:=by
 rw[s.nm];unfold nameOf
 repeat' split
 all_goals lia
theorem Sd.talks (s:Sd p K T t n):min (K / 2) (T / 2)=t:=by
 have:=s.k0;have:=s.k1;have:=s.t0;have:=s.t1;have:=s.nb;have:=s.p1;lia
theorem Sd.rb (s:Sd p K T t n):(n=0↔p=2*t)/\((n=1\/n=2\/n=3)↔p=2*t+1):=by
 have:=s.p0;have:=s.p1;rw[s.nm];unfold nameOf
 repeat' split
 all_goals grind
theorem Sd.begin (s:Sd p K T t n):(n=0->Sd (p+1) K T t 1):=fun h=>by
 have h1:=s.rb.1.mp h;have i:=s.sh h1;have:=s.k0;have:=s.k1;have:=s.nb;refine⟨by lia,by lia,by lia,by lia,by lia,by lia,by lia,by lia,?_⟩;unfold nameOf;rw[a5 (by lia),bc (by lia),bc (by lia)]
theorem Sd.fin (s:Sd p K T t n) (h:Fc n=some m):Sd (p+1) K T t m:=by
 have hn:n=1\/n=2\/n=3:=by
  unfold Fc at h
  repeat' split at h
  ·lia
  ·lia
  ·cases h
 have h1:=s.rb.2.mp hn;have:=s.k0;have:=s.k1;have:=s.nb;have:=s.t0;have:=s.t1;refine⟨by lia,by lia,by lia,by lia,by lia,by lia,by lia,by lia,?_⟩;have e:=s.nm;unfold nameOf at e⊢;rw[a5 (by lia),bc (by lia)] at e;rw[a5 (by lia),a5 (by lia),a5 (by lia)];unfold Fc at h
 repeat' split at e
 all_goals (subst e;simp at h;subst h;first|rw[a5 (by lia)]|rw[bc (by lia)])
theorem Sd.know (s:Sd p K T t n) (h:K<p):(K % 2=0->Sd p (K+1) T t n)/\(K % 2=1->∃t',Sd p (K+1) T t' (kD n)):=by
 have:=s.p0;have:=s.p1;have:=s.k0;have:=s.k1;have:=s.nb;have:=s.t0;have:=s.t1;have:=s.sh;constructor
 ·intro hk;refine⟨by lia,by lia,by lia,by lia,by lia,by lia,by lia,by lia,?_⟩;rw[s.nm];unfold nameOf
  repeat' split
  all_goals lia
 ·intro hk;have e:=s.nm;unfold nameOf at e;rw[a5 (by lia),a5 (by lia),a5 (by lia)] at e;by_cases c:T=2*t+2
  ·refine⟨t+1,by lia,by lia,by lia,by lia,by lia,by lia,by lia,by lia,?_⟩;rw[bc (by lia)] at e;subst e;unfold kD nameOf;rw[a5 (by lia),bc rfl,bc (by lia)]
  ·refine⟨t,by lia,by lia,by lia,by lia,by lia,by lia,by lia,by lia,?_⟩;rw[a5 (by lia)] at e;subst e;unfold kD nameOf;rw[bc rfl,a5 (by lia),a5 (by lia),bc (by lia)]
theorem Sd.take (s:Sd p K T t n) (h:2*(T / 2)<=K):(T % 2=0->n=0->Sd (p+1) K (T+1) t 2)/\(T % 2=0->n≠0->Sd p K (T+1) t (DJ n))/\(T % 2=1->∃t',Sd p K (T+1) t' (Ap n)):=by
 have:=s.p0;have:=s.p1;have:=s.k0;have:=s.k1;have:=s.nb;have:=s.t0;have:=s.t1;have:=s.sh;have na:=s.rb;refine⟨fun ht hn=>?_,fun ht hn=>?_,fun ht=>?_⟩
 ·have hp:=na.1.mp hn;refine⟨by grind,by grind,by grind,by grind,by grind,by grind,by grind,by grind,?_⟩;unfold nameOf;rw[a5 (by grind),bc (by grind),a5 (by grind),bc (by grind)]
 ·have hp:p≠2*t:=fun z=>hn (na.1.mpr z);refine⟨by grind,by grind,by grind,by grind,by grind,by grind,by grind,by grind,?_⟩;have e:=s.nm;unfold nameOf at e⊢;rw[a5 (by grind)] at e⊢;unfold DJ
  repeat' split at e
  all_goals (subst e;first|grind|((repeat' split)<;>grind))
 ·have hp:p≠2*t:=fun z=>by have:=s.sh z;grind
  have e:=s.nm;unfold nameOf at e;rw[a5 (by grind)] at e;by_cases c:K=2*t+2
  ·refine⟨t+1,by grind,by grind,by grind,by grind,by grind,by grind,by grind,by grind,?_⟩;rw[a5 (by grind),bc (by grind)] at e;subst e;unfold Ap nameOf;rw[a5 (by grind),a5 (by grind),bc rfl,bc (by grind)]
  ·refine⟨t,by grind,by grind,by grind,by grind,by grind,by grind,by grind,by grind,?_⟩;unfold Ap nameOf
   repeat' split at e
   all_goals (subst e;first|grind|((repeat' split)<;>grind))
theorem LW (s:Sd p K T t n) (v:(((p+1) / 2:Nat):Int)-(t:Nat)=B1) (r2:((p / 2:Nat):Int)-(t:Nat)=B2) (x:((K / 2:Nat):Int)-(t:Nat)=B3) (q:(((T+1) / 2:Nat):Int)-(t:Nat)=B4) (u:((T / 2:Nat):Int)-(t:Nat)=B5):
  (B1=0/\B2=0/\B3=0/\B4=0/\B5=0/\n=0)\/(B1=1/\B2=0/\B3=0/\B4=0/\B5=0/\n=1)\/(B1=1/\B2=0/\B3=0/\B4=1/\B5=0/\n=2)\/(B1=1/\B2=0/\B3=0/\B4=1/\B5=1/\n=3)\/(B1=1/\B2=1/\B3=0/\B4=0/\B5=0/\n=4)\/(B1=1/\B2=1/\B3=0/\B4=1/\B5=0/\n=4)\/(B1=1/\B2=1/\B3=1/\B4=0/\B5=0/\n=5)\/(B1=1/\B2=1/\B3=1/\B4=1/\B5=0/\n=5)\/(B1=1/\B2=1/\B3=0/\B4=1/\B5=1/\n=6):=by
 obtain⟨p0,p1,k0,k1,t0,t1,sh,nb,nm⟩:=s;obtain⟨a,rfl⟩:∃a,p=2*t+a:=⟨p-2*t,by lia⟩;obtain⟨b,rfl⟩:∃b,K=2*t+b:=⟨K-2*t,by lia⟩;obtain⟨c,rfl⟩:∃c,T=2*t+c:=⟨T-2*t,by lia⟩;rw[show 2*t+a-2*t=a by lia,show 2*t+b-2*t=b by lia,show 2*t+c-2*t=c by lia] at nm;rcases(show a=0\/a=1\/a=2 by lia) with rfl|rfl|rfl
 ·have:n=0:=nm;have:=sh (by lia);have:n=0:=nm;exact .inl ⟨by lia,by lia,by lia,by lia,by lia,this⟩
 ·rcases(show c=0\/c=1\/c=2 by lia) with rfl|rfl|rfl
  ·have:n=1:=nm;exact .inr (.inl ⟨by lia,by lia,by lia,by lia,by lia,this⟩)
  ·have:n=2:=nm;exact .inr (.inr (.inl ⟨by lia,by lia,by lia,by lia,by lia,this⟩))
  ·have:n=3:=nm;exact .inr (.inr (.inr (.inl ⟨by lia,by lia,by lia,by lia,by lia,this⟩)))
 ·rcases(show b=2\/(b≠2/\c=2)\/(b≠2/\c≠2) by lia) with rfl|⟨h1,rfl⟩|⟨h1,i⟩
  ·have:n=5:=nm;rcases(show c=0\/c=1 by lia) with rfl|rfl
   ·exact .inr (.inr (.inr (.inr (.inr (.inr (.inl ⟨by lia,by lia,by lia,by lia,by lia,this⟩))))))
   ·exact .inr (.inr (.inr (.inr (.inr (.inr (.inr (.inl ⟨by lia,by lia,by lia,by lia,by lia,this⟩)))))))
  ·have:n=6:=by rw[nm];unfold nameOf;rw[a5 (by lia),a5 (by lia),a5 h1,bc rfl]
   exact .inr (.inr (.inr (.inr (.inr (.inr (.inr (.inr (⟨by lia,by lia,by lia,by lia,by lia,this⟩))))))))
  ·have:n=4:=by rw[nm];unfold nameOf;rw[a5 (by lia),a5 (by lia),a5 h1,a5 i]
   rcases(show c=0\/c=1 by lia) with rfl|rfl
   ·exact .inr (.inr (.inr (.inr (.inl ⟨by lia,by lia,by lia,by lia,by lia,this⟩))))
   ·exact .inr (.inr (.inr (.inr (.inr (.inl ⟨by lia,by lia,by lia,by lia,by lia,this⟩)))))
noncomputable def up {α:Type} (f:Nat->α) (i:Nat) (v:α):Nat->α:=fun k=>if k=i then v else f k
theorem cf {v:α}:up f i v i=v:=bc rfl
theorem fb {v:α} (h:k≠i):up f i v k=f k:=a5 h
structure Jn (p K T n:Nat->Nat) (h:Nat->Nat->Nat):Prop where
 sd:∀i<2,∃t,Sd (p i) (K i) (T i) t (n i)
 kt:∀i<2,K i<=T (1-i)
 tp:∀i<2,T i<=p (1-i)
 h0:∀i<2,∀j<p i,2*(j / 2)<=h i j
 h1:∀i<2,∀j<p i,h i j<=T i
theorem Jn.start:Jn (fun _=>0) (fun _=>0) (fun _=>0) (fun _=>0) (fun _ _=>0):=
 ⟨fun _ _=>⟨0,Sd.start⟩,fun _ _=>cm _,fun _ _=>cm _,fun _ _ _ i=>absurd i (by lia),fun _ _ _ i=>absurd i (by lia)⟩
theorem Jn.put (J:Jn p K T n h) (x:i<2) (y:T'=T i\/(T'=T i+1/\T i<p (1-i))) (s:Sd (p i+1) (K i) T' t m) (hh:2*(p i / 2)<=T'):
  Jn (up p i (p i+1)) K (up T i T') (up n i m) (up h i (up (h i) (p i) T')):=by
 have ne:∀{k:Nat},k<2->k≠i->k=1-i:=fun hk hn=>(by decide:∀i<2,∀k<2,k≠i->k=1-i) i x _ hk hn
 have v:T i<=T':=by lia
 refine⟨fun k hk=>?_,fun k hk=>?_,fun k hk=>?_,fun k hk j u=>?_,fun k hk j u=>?_⟩
 ·by_cases c:k=i
  ·subst c;rw[cf,cf,cf];exact⟨t,s⟩
  ·rw[fb c,fb c,fb c];exact J.sd k hk
 ·have:=J.kt k hk;by_cases c:1-k=i
  ·rw[c,cf];rw[c] at this;lia
  ·rw[fb c];exact this
 ·have h1:=J.tp k hk;by_cases c:k=i
  ·subst c;rw[cf,fb (by lia)];lia
  ·rw[fb c];by_cases q:1-k=i
   ·rw[q,cf];rw[q] at h1;lia
   ·rw[fb q];exact h1
 ·by_cases c:k=i
  ·subst c;rw[cf] at u;rw[cf];by_cases q:j=p k
   ·rw[q,cf];exact hh
   ·rw[fb q];exact J.h0 k hk j (by lia)
  ·rw[fb c] at u;rw[fb c];exact J.h0 k hk j u
 ·by_cases c:k=i
  ·subst c;rw[cf] at u;rw[cf,cf];by_cases q:j=p k
   ·rw[q,cf];exact cm _
   ·rw[fb q];have:=J.h1 k hk j (by lia);lia
  ·rw[fb c] at u;rw[fb c,fb c];exact J.h1 k hk j u
theorem QH {f:Nat->α}:up f i (f i)=f:=by
 funext k;by_cases c:k=i
 ·rw[c,cf]
 ·rw[fb c]
theorem Jn.begin (J:Jn p K T n h) (q:i<2) (h0:n i=0):Jn (up p i (p i+1)) K T (up n i 1) (up h i (up (h i) (p i) (T i))):=by
 obtain⟨t,s⟩:=J.sd i q;have hp:=s.rb.1.mp h0;have:=s.t0;have z:=J.put q (T':=T i) (.inl rfl) (s.begin h0) (by lia);rwa [QH] at z
theorem Jn.fin (J:Jn p K T n h) (q:i<2) (h0:Fc (n i)=some m):Jn (up p i (p i+1)) K T (up n i m) (up h i (up (h i) (p i) (T i))):=by
 obtain⟨t,s⟩:=J.sd i q;have u:=s.fin h0;have:=s.t0;have:=u.p1;have z:=J.put q (T':=T i) (.inl rfl) u (by lia);rwa [QH] at z
theorem Jn.know (J:Jn p K T n h) (u:i<2) (hk:K i<T (1-i)):Jn p (up K i (K i+1)) T (up n i (if K i % 2=1 then kD (n i) else n i)) h:=by
 obtain⟨t,s⟩:=J.sd i u;have tp:=J.tp (1-i) (by lia);rw[Nat.sub_sub_self (Nat.le_of_lt_succ u)] at tp;obtain⟨k0,k1⟩:=s.know (by lia);refine⟨fun k q=>?_,fun k q=>?_,J.tp,J.h0,J.h1⟩
 ·by_cases c:k=i
  ·subst c;rw[cf,cf];split
   ·exact k1 ‹_›
   ·exact⟨t,k0 (by lia)⟩
  ·rw[fb c,fb c];exact J.sd k q
 ·by_cases c:k=i
  ·subst c;rw[cf];lia
  ·rw[fb c];exact J.kt k q
theorem Jn.took (J:Jn p K T n h) (u:i<2) (ht:T i<p (1-i)) (s:Sd (p i) (K i) (T i+1) t m):Jn p K (up T i (T i+1)) (up n i m) h:=by
 refine⟨fun k hk=>?_,fun k hk=>?_,fun k hk=>?_,J.h0,fun k hk j q=>?_⟩
 ·by_cases c:k=i
  ·subst c;rw[cf,cf];exact⟨t,s⟩
  ·rw[fb c,fb c];exact J.sd k hk
 ·have:=J.kt k hk;by_cases c:1-k=i
  ·rw[c,cf];rw[c] at this;lia
  ·rw[fb c];exact this
 ·by_cases c:k=i
  ·subst c;rw[cf];lia
  ·rw[fb c];exact J.tp k hk
 ·have:=J.h1 k hk j q;by_cases c:k=i
  ·subst c;rw[cf];lia
  ·rw[fb c];exact this
theorem Jn.Ua (J:Jn p K T n h) (q:i<2) (ht:T i<p (1-i)) (u:2*(T i / 2)<=K i) (he:T i % 2=0) (hn:n i=0):Jn (up p i (p i+1)) K (up T i (T i+1)) (up n i 2) (up h i (up (h i) (p i) (T i+1))):=by
 obtain⟨t,s⟩:=J.sd i q;have hp:=s.rb.1.mp hn;have:=s.t0;exact J.put q (.inr ⟨rfl,ht⟩) ((s.take u).1 he hn) (by lia)
theorem Jn.take1 (J:Jn p K T n h) (q:i<2) (ht:T i<p (1-i)) (u:2*(T i / 2)<=K i) (he:T i % 2=0) (hn:n i≠0):Jn p K (up T i (T i+1)) (up n i (DJ (n i))) h:=by
 obtain⟨t,s⟩:=J.sd i q;exact J.took q ht ((s.take u).2.1 he hn)
theorem Jn.take2 (J:Jn p K T n h) (q:i<2) (ht:T i<p (1-i)) (u:2*(T i / 2)<=K i) (he:T i % 2=1):Jn p K (up T i (T i+1)) (up n i (Ap (n i))) h:=by
 obtain⟨t,s⟩:=J.sd i q;obtain⟨t',v⟩:=(s.take u).2.2 he;exact J.took q ht v
end
end StM
namespace Lake
open PySem PySem.Spec PyProof.Rows
section
mutual
variable {X:Cx} {CX:Ga} {k n:Nat} {ps:List Str} {sp:Sp} {x:Str} {p pos pos' apos:Pos} {e a b o:Expr} {es:List Expr} {t:TA} {te ta tb:TE} {C:Addr} {f m:Str} {K:W.Frag}
theorem aO [Quiet CX] (G:FnAt X.prog X.w X.K X.mg X.base CX x k ps sp) (q:cY n X.A) (ha:PA X (e::es) t) (hk:autoParam (k<=n) qqd) (hg:autoParam (Gl X x) qqx)
    (i:autoParam ((x == ("__debug__":Str))=false) qqd) (h:autoParam ((e::es).any isStar=false) qqr):PE X (.Call (.Name x p) (e::es) [] pos) (BW sp [] E0 t):=RX G q hk hg ha i h
theorem bK [Quiet CX] {pl:Sem Bool} (he:PE X o ta) (c:dM X.K X.mg x C) (G:wC X.prog X.w X.K X.mg X.base CX C m k ps sp) (q:cY n X.A) (ha:PA X (e::es) t) (hk:autoParam (k<=n) qqd) (i:autoParam ((e::es).any isStar=false) qqr)
    (ht:eval (.Call (.Attribute o m apos) (e::es) [] pos) X.env=(do
      let ov<-eval o X.env
      standAt apos.atName
      let (f,first)<-holding [ov] (getMethod ov m pl)
      callWith pos f first (backTo pos (starEach (e::es) X.env)) (backToKw pos (keywordEach [] X.env))):=by rfl):PE X (.Call (.Attribute o m apos) (e::es) [] pos) (Lv C m sp ta t):=RV he c G q hk ha i ht
theorem bI [Quiet CX] {pl:Sem Bool} (he:PE X o ta) (c:dM X.K X.mg x C) (G:wC X.prog X.w X.K X.mg X.base CX C m k ps sp) (i:cY n X.A) (hk:autoParam (k<=n) qqd)
    (ht:eval (.Call (.Attribute o m apos) [] [] pos) X.env=(do
      let ov<-eval o X.env
      standAt apos.atName
      let (f,first)<-holding [ov] (getMethod ov m pl)
      callWith pos f first (backTo pos (starEach [] X.env)) (backToKw pos (keywordEach [] X.env))):=by rfl):PE X (.Call (.Attribute o m apos) [] [] pos) (Lv C m sp ta Bc):=Pk he c G i hk ht
theorem ai (he:PE X e ta) (c:dM X.K X.mg x C) (nn:a8 X.K C f) (i:autoParam (attributeBase e f X.env (eval e X.env)=eval e X.env) qqx):PE X (.Attribute e f pos) (HN C f ta):=Pn he c nn i
theorem aw (i:Nat) (q:X.N.Nodup) (he:PE X e te) (u:autoParam (X.N[i]?=some x) qqx) (hx:autoParam (Loc X.env.scope x) qqw) (h:autoParam (kZ e=false) qqr) (hf:autoParam (X.fn x=true\/X.env.scope.names.lookup x=some .local) qqw):
    PS X (.Assign [.Name x pos'] e pos) (Gy te (nQ i)):=Pb q u hx he h hf
theorem aA (K:W.Frag) (ha:PE X a ta) (q:PE X b tb) (i:autoParam (X.K=K) qqx) (hs:Eo b:=by exact fun _ _=>rfl):PE X (.Subscript a b pos) (Er (JR K) ta tb):=QV (WH K i) ha q hs
theorem cG (K:W.Frag) (ha:PE X a ta) (q:PE X b tb) (i:autoParam (X.K=K) qqx) (hs:Eo b:=by exact fun _ _=>rfl):PE X (.Subscript a b pos) (Er (yV K) ta tb):=QV (UU K i) ha q hs
theorem cu (K:W.Frag) (u:cY n X.A) (ha:PE X a ta) (q:PE X b tb) (i:autoParam (X.K=K) qqx):PT X (.Compare a [.Eq] [b] pos) (ve (Er (uk K false) ta tb)):=zG (zL K i u.units) ha q (nomark _)
theorem qV (K:W.Frag) (u:cY n X.A) (ha:PE X a ta) (q:PE X b tb) (i:autoParam (X.K=K) qqx):PT X (.Compare a [.NotEq] [b] pos) (ve (Er (uk K true) ta tb)):=zG (Pt K i u.units) ha q (nomark _)
theorem a_ {op:CmpOp} {r:R2} (i:gq X (compareOp op) r) (ha:PE X a ta) (q:PE X b tb) (hm:behindInMarks op b=false:=by exact nomark _):PT X (.Compare a [op] [b] pos) (ve (Er r ta tb)):=zG i ha q hm
theorem fE {op:CmpOp} {r:R2} (i:gq X (compareOp op) r) (ha:PE X a ta) (q:PE X b tb) (hm:behindInMarks op b=false:=by exact nomark _):PE X (.Compare a [op] [b] pos) (Er r ta tb):=zK i ha q hm
theorem aF (K:W.Frag) (ha:PE X a ta) (i:PE X b tb) (q:autoParam (X.K=K) qqx):PE X (.BinOp a .Add b pos) (Er (Ae K) ta tb):=au (Pw K q) ha i
theorem aJ (i:Nat) (q:X.N.Nodup) (u:autoParam (X.N[i]?=some x) qqx) (hx:autoParam (Loc X.env.scope x) qqw) (hf:autoParam (X.fn x=true\/X.env.scope.names.lookup x=some .local) qqw):PG X (.Name x pos) (nQ i):=Pg q u hx hf
theorem cJ (ha:PE X e te) (h:autoParam (isStar e=false) qqr):PA X [e] (vf te Bc):=bq ha gU h
theorem cb (ha:PE X a ta) (q:PE X b tb) (h:autoParam (isStar a=false) qqr) (i:autoParam (isStar b=false) qqr):PA X [a,b] (vf ta (vf tb Bc)):=bq ha (bq q gU i) h
end
end
mutual
def zqr (l:List V) (f:Addr->List V->Prop):Prop:=match l with
 |.ref x::r=>f x r
 |_=>False
@[elab_as_elim]
theorem zqre {f:Addr->List V->Prop} {G:List V->Prop} (h:zqr l f) (k:∀x r,f x r->G (.ref x::r)):G l:=by
 unfold zqr at h;split at h
 ·exact k _ _ h
 ·exact h.elim
def zqi (l:List V) (f:Int->List V->Prop):Prop:=match l with
 |.int x::r=>f x r
 |_=>False
@[elab_as_elim]
theorem zqie {f:Int->List V->Prop} {G:List V->Prop} (h:zqi l f) (k:∀x r,f x r->G (.int x::r)):G l:=by
 unfold zqi at h;split at h
 ·exact k _ _ h
 ·exact h.elim
def zqs (l:List V) (f:Str->List V->Prop):Prop:=match l with
 |.str x::r=>f x r
 |_=>False
@[elab_as_elim]
theorem zqse {f:Str->List V->Prop} {G:List V->Prop} (h:zqs l f) (k:∀x r,f x r->G (.str x::r)):G l:=by
 unfold zqs at h;split at h
 ·exact k _ _ h
 ·exact h.elim
def zqv (l:List V) (f:V->List V->Prop):Prop:=match l with
 |x::r=>f x r
 |_=>False
@[elab_as_elim]
theorem zqve {f:V->List V->Prop} {G:List V->Prop} (h:zqv l f) (k:∀x r,f x r->G (x::r)):G l:=by
 unfold zqv at h;split at h
 ·exact k _ _ h
 ·exact h.elim
def zqn (l:List V) (p:Prop):Prop:=match l with
 | []=>p
 |_=>False
@[elab_as_elim]
theorem zqne {p:Prop} {G:List V->Prop} (h:zqn l p) (k:p->G []):G l:=by
 unfold zqn at h;split at h
 ·exact k h
 ·exact h.elim
end
end Lake
namespace Tactic
noncomputable section
mutual
open PySem Lake Com FrameM StM
def jm (u:TS):TS:=u
theorem aj (h:zU X l u):zU X l (jm u):=h
theorem kR (h:Ox X l u):Ox X l (jm u):=⟨h.h⟩
noncomputable def top (i:Nat):Stmt:=Challenge.pw_slowroad_k68_whole_hands_on_any_road.main.body.getD i (.Pass ⟨0,0,0,0⟩)
abbrev Wj (q:List Str) (x y:Str) (s:Stmt):Prop:= ∀(kV doc pm:Value) (an:Option Addr) (i ct:Value) (us:List Value),us.length=q.length->bindArgs (W.fnOf x y (eY s) (c7 s) (a9 s) .none kV doc pm an i ct) ⟨us,[]⟩=pure (q.zip us)
theorem Q0 {α:Type} {us:List α} (h:us.length=1):∃a0,us= [a0]:=List.length_eq_one_iff.mp h
theorem QZ {α:Type} {us:List α} (h:us.length=2):∃a0 a1,us= [a0,a1]:=by
 obtain⟨a,t,rfl⟩:=mx h;obtain⟨b0,rfl⟩:=Q0 (Ym h);exact⟨a,b0,rfl⟩
theorem QY {α:Type} {us:List α} (h:us.length=3):∃a0 a1 i,us= [a0,a1,i]:=by
 obtain⟨a,t,rfl⟩:=mx h;obtain⟨b0,b1,rfl⟩:=QZ (Ym h);exact⟨a,b0,b1,rfl⟩
theorem US {α:Type} {us:List α} (h:us.length=4):∃a0 a1 i q,us= [a0,a1,i,q]:=by
 obtain⟨a,t,rfl⟩:=mx h;obtain⟨b0,b1,u,rfl⟩:=QY (Ym h);exact⟨a,b0,b1,u,rfl⟩
theorem QX {α:Type} {us:List α} (h:us.length=5):∃a0 a1 i q x,us= [a0,a1,i,q,x]:=by
 obtain⟨a,t,rfl⟩:=mx h;obtain⟨b0,b1,v,u,rfl⟩:=US (Ym h);exact⟨a,b0,b1,v,u,rfl⟩
theorem QW {α:Type} {us:List α} (h:us.length=6):∃a0 a1 i q z v,us= [a0,a1,i,q,z,v]:=by
 obtain⟨a,t,rfl⟩:=mx h;obtain⟨b0,b1,y,u,x,rfl⟩:=QX (Ym h);exact⟨a,b0,b1,y,u,x,rfl⟩
theorem UR {α:Type} {us:List α} (h:us.length=7):∃a0 a1 i C z q v,us= [a0,a1,i,C,z,q,v]:=by
 obtain⟨a,t,rfl⟩:=mx h;obtain⟨b0,b1,y,E,u,x,rfl⟩:=QW (Ym h);exact⟨a,b0,b1,y,E,u,x,rfl⟩
abbrev FA (P:Program) (w:World) (K:W.Frag) (mg:Str->Option Value) (base:Heap) (x:Str) (k:Nat) (i:List Str) (sp:Sp):Prop:=FnAt P w K mg base (Eu P w) x k i sp
abbrev MA (P:Program) (w:World) (K:W.Frag) (mg:Str->Option Value) (base:Heap) (C:Addr) (x:Str) (k:Nat) (i:List Str) (sp:Sp):Prop:=wC P w K mg base (Eu P w) C x k i sp
noncomputable abbrev ic (i j:Nat):Stmt:=inClass (top i) j
abbrev SB (N i:List Str) (x y:Str) (s:Stmt):Prop:=jl N i (a9 s)/\Wj i x y s
abbrev SC (i:List Str) (x y:Str) (s:Stmt):Prop:=jl i i (a9 s)/\Wj i x y s
abbrev SY (i:List Str) (x:Str) (s:Stmt):Prop:=jl i i (a9 s)/\Wj i x x s
abbrev SZ (N i:List Str) (x:Str) (s:Stmt):Prop:=jl N i (a9 s)/\Wj i x x s
set_option hygiene false in
local macro_rules | `(tactic| exists 2) => `(tactic| (refine⟨⟨rfl,rfl,rfl,by decide +kernel,rfl,by decide +kernel,by decide +kernel⟩, ?_⟩; intro _ _ _ _ _ _ us hl; first | (obtain⟨_,rfl⟩ := Q0 hl; rfl) | (obtain⟨_,_,rfl⟩ := QZ hl; rfl) | (obtain⟨_,_,_,rfl⟩ := QY hl; rfl) | (obtain⟨_,_,_,_,_,rfl⟩ := QX hl; rfl) | (obtain⟨_,_,_,_,_,_,rfl⟩ := QW hl; rfl) | (obtain⟨_,_,_,_,_,_,_,rfl⟩ := UR hl; rfl)))
theorem gb:SC ["self","frame"] "__init__" "NoFrame.__init__" (ic 3 0):=by exists 2
theorem gN:SC ["self","frame"] "__init__" "Spoilt.__init__" (ic 4 0):=by exists 2
theorem f_:SC ["self","what"] "__init__" "NoPiece.__init__" (ic 5 0):=by exists 2
theorem gR:SC ["self","state","wish"] "__init__" "NotNow.__init__" (ic 9 0):=by exists 2
theorem ui:SY ["value","low","high"] "is_from" (top 11):=by exists 2
theorem lY:SZ ["thing","kind"] ["thing"] "is_piece" (top 27):=by exists 2
theorem iX:SZ ["held","last","step"] ["held"] "is_held" (top 28):=by exists 2
theorem oR:SY ["kind","signs"] "are_signs" (top 29):=by exists 2
theorem hV:SZ ["bits","left"] ["bits"] "remainder" (top 30):=by exists 2
theorem oP:SZ ["piece","unchecked"] ["piece"] "written" (top 31):=by exists 2
theorem dX:SZ ["piece","body"] ["piece"] "body_of" (top 32):=by exists 2
theorem jO:SY ["held"] "bits_of_held" (top 33):=by exists 2
theorem cS:SZ ["signs","bits","sign"] ["signs"] "bits_of_signs" (top 34):=by exists 2
theorem qR:SY ["number"] "is_frame" (top 35):=by exists 2
theorem zD:SZ ["frame","piece"] ["frame"] "read" (top 36):=by exists 2
theorem jM:SY ["body"] "likely_piece" (top 37):=by exists 2
theorem t9:SY ["code"] "kind_of" (top 38):=by exists 2
theorem uj:SY ["bits"] "held_of" (top 39):=by exists 2
theorem qQ:SY ["bits"] "signs_of" (top 40):=by exists 2
theorem t8:SY ["code"] "sign_of" (top 41):=by exists 2
theorem h_:SC ["self","most"] "__init__" "Meter.__init__" (ic 43 0):=by exists 2
theorem hZ:SB ["self","many","piece"] ["self","many"] "known" "Meter.known" (ic 43 1):=by exists 2
theorem h9:SC ["self"] "know_one" "Meter.know_one" (ic 43 2):=by exists 2
theorem m7:SC ["self"] "half" "Meter.half" (ic 43 3):=by exists 2
theorem i7:SC ["self"] "ran_out" "Meter.ran_out" (ic 43 4):=by exists 2
theorem i8:SC ["self"] "hurried" "Meter.hurried" (ic 43 5):=by exists 2
theorem Aa:SY ["ring","one","other"] "ahead" (top 45):=by exists 2
theorem se:SZ ["top","bottom","shared"] ["top","bottom"] "lowest" (top 48):=by exists 2
theorem iZ:SC ["self","first","longest"] "__init__" "Ways.__init__" (ic 49 0):=by exists 2
theorem iY:SC ["self","m"] "measured" "Ways.measured" (ic 49 1):=by exists 2
theorem cH:SB ["self","m","bottoms","away"] ["self","m"] "next_spread" "Ways.next_spread" (ic 49 2):=by exists 2
theorem fY:SC ["self","m"] "next_smooth" "Ways.next_smooth" (ic 49 3):=by exists 2
theorem d4:SB ["self","top"] ["self"] "least_wait" "Ways.least_wait" (ic 49 4):=by exists 2
theorem jQ:SC ["self"] "ran_out" "Ways.ran_out" (ic 49 5):=by exists 2
theorem gQ:SC ["self","ring","first","longest","most"] "__init__" "Sender.__init__" (ic 52 0):=by exists 2
theorem mY:SC ["self","thing"] "put" "Sender.put" (ic 52 1):=by exists 2
theorem kQ:SC ["self"] "many" "Sender.many" (ic 52 2):=by exists 2
theorem jS:SC ["self","place"] "thing" "Sender.thing" (ic 52 3):=by exists 2
theorem c9:SB ["self","number","room","held","turn","steps","fresh","place"] ["self","number","room","held","turn"] "heard" "Sender.heard" (ic 52 4):=by exists 2
theorem dv:SB ["self","steps","low"] ["self","steps"] "grow_base" "Sender.grow_base" (ic 52 5):=by exists 2
theorem f9:SC ["self","held"] "note_held" "Sender.note_held" (ic 52 6):=by exists 2
theorem cg:SB ["self","places","fresh","place"] ["self","places"] "newly_known" "Sender.newly_known" (ic 52 7):=by exists 2
theorem cV:SC ["self"] "known_above_base" "Sender.known_above_base" (ic 52 8):=by exists 2
theorem fZ:SC ["self"] "under_way" "Sender.under_way" (ic 52 9):=by exists 2
theorem eQ:SC ["self"] "thing_waits" "Sender.thing_waits" (ic 52 10):=by exists 2
theorem d6:SC ["self","turn"] "clock_is_out" "Sender.clock_is_out" (ic 52 11):=by exists 2
theorem d5:SC ["self"] "hurry_is_due" "Sender.hurry_is_due" (ic 52 12):=by exists 2
theorem fg:SC ["self"] "new_may_go" "Sender.new_may_go" (ic 52 13):=by exists 2
theorem oW:SC ["self","turn"] "go" "Sender.go" (ic 52 14):=by exists 2
theorem f7:SC ["self","turn"] "set_clock" "Sender.set_clock" (ic 52 15):=by exists 2
theorem gP:SC ["self","turn"] "go_again" "Sender.go_again" (ic 52 16):=by exists 2
theorem fz:SB ["self","turn","place"] ["self","turn"] "go_new" "Sender.go_new" (ic 52 17):=by exists 2
theorem d7:SC ["self","turn"] "ask_for_room" "Sender.ask_for_room" (ic 52 18):=by exists 2
theorem bP:SC ["self"] "wish_begin" "State.wish_begin" (ic 54 1):=by exists 2
theorem df:SC ["self"] "wish_end" "State.wish_end" (ic 54 2):=by exists 2
theorem dA:SC ["self"] "may_put" "State.may_put" (ic 54 3):=by exists 2
theorem dB:SC ["self"] "begun" "State.begun" (ic 54 4):=by exists 2
theorem fe:SC ["self"] "ended" "State.ended" (ic 54 5):=by exists 2
theorem cE:SC ["self"] "answered" "State.answered" (ic 54 6):=by exists 2
theorem oV:SC ["self"] "name" "Shut.name" (ic 55 0):=by exists 2
theorem gO:SC ["self"] "wish_begin" "Shut.wish_begin" (ic 55 1):=by exists 2
theorem mX:SC ["self"] "begun" "Shut.begun" (ic 55 2):=by exists 2
theorem jX:SC ["self"] "name" "Calling.name" (ic 56 0):=by exists 2
theorem gg:SC ["self"] "wish_end" "Calling.wish_end" (ic 56 1):=by exists 2
theorem gS:SC ["self"] "may_put" "Calling.may_put" (ic 56 2):=by exists 2
theorem jc:SC ["self"] "begun" "Calling.begun" (ic 56 3):=by exists 2
theorem oX:SC ["self"] "name" "Open.name" (ic 57 0):=by exists 2
theorem i6:SC ["self"] "wish_end" "Open.wish_end" (ic 57 1):=by exists 2
theorem jT:SC ["self"] "may_put" "Open.may_put" (ic 57 2):=by exists 2
theorem mZ:SC ["self"] "ended" "Open.ended" (ic 57 3):=by exists 2
theorem oY:SC ["self"] "name" "Left.name" (ic 58 0):=by exists 2
theorem i9:SC ["self"] "wish_end" "Left.wish_end" (ic 58 1):=by exists 2
theorem jU:SC ["self"] "may_put" "Left.may_put" (ic 58 2):=by exists 2
theorem jV:SC ["self"] "name" "Leaving.name" (ic 59 0):=by exists 2
theorem i_:SC ["self"] "ended" "Leaving.ended" (ic 59 1):=by exists 2
theorem gc:SC ["self"] "answered" "Leaving.answered" (ic 59 2):=by exists 2
theorem jR:SC ["self"] "name" "Waiting.name" (ic 60 0):=by exists 2
theorem i5:SC ["self"] "ended" "Waiting.ended" (ic 60 1):=by exists 2
theorem jW:SC ["self"] "name" "Closing.name" (ic 61 0):=by exists 2
theorem gf:SC ["self"] "answered" "Closing.answered" (ic 61 1):=by exists 2
theorem hX:SC ["self","ring","room"] "__init__" "Taker.__init__" (ic 63 0):=by exists 2
theorem gM:SC ["self"] "room_left" "Taker.room_left" (ic 63 1):=by exists 2
theorem gv:SB ["self","number","thing","steps","place"] ["self","number","thing"] "take" "Taker.take" (ic 63 2):=by exists 2
theorem cD:SB ["self","things"] ["self"] "stand_in_order" "Taker.stand_in_order" (ic 63 3):=by exists 2
theorem gB:SB ["self","held"] ["self"] "answer" "Taker.answer" (ic 63 4):=by exists 2
theorem gw:SB ["self","most","things","place"] ["self","most"] "read" "Taker.read" (ic 63 5):=by exists 2
theorem t_:SY ["text"] "is_text" (top 68):=by exists 2
theorem jL:SY ["frame"] "read_or_none" (top 69):=by exists 2
theorem jb:SC ["self","side","terms"] "__init__" "Hand.__init__" (ic 70 0):=by exists 2
theorem oZ:SC ["self"] "name" "Hand.name" (ic 70 1):=by exists 2
theorem m8:SC ["self"] "begin" "Hand.begin" (ic 70 2):=by exists 2
theorem qS:SC ["self"] "end" "Hand.end" (ic 70 3):=by exists 2
theorem lZ:SB ["self","text","at"] ["self","text"] "put" "Hand.put" (ic 70 4):=by exists 2
theorem ie:SB ["self","many","had_room","things"] ["self","many"] "read" "Hand.read" (ic 70 5):=by exists 2
theorem kj:SB ["self","frame","turn","piece"] ["self","frame","turn"] "come" "Hand.come" (ic 70 6):=by exists 2
theorem ig:SB ["self","piece","turn","low","place"] ["self","piece","turn"] "hear" "Hand.hear" (ic 70 7):=by exists 2
theorem eE:SB ["self","number","thing","taken","in_order"] ["self","number","thing"] "take_in" "Hand.take_in" (ic 70 8):=by exists 2
theorem ja:SC ["self","kind"] "stand_to" "Hand.stand_to" (ic 70 9):=by exists 2
theorem fA:SB ["self","turn","what","word","place"] ["self","turn"] "send" "Hand.send" (ic 70 10):=by exists 2
theorem dC:SB ["self","word","place","answer","thing"] ["self","word","place"] "piece_of" "Hand.piece_of" (ic 70 11):=by exists 2
theorem C0:SY ["room","lag"] "need" (top 72):=by exists 2
theorem oS:SY ["rooms"] "are_rooms" (top 79):=by exists 2
theorem oQ:SY ["first","longest"] "are_waits" (top 80):=by exists 2
theorem eV:SB ["self","ring","rooms","lag","first","longest","least"] ["self","ring","rooms","lag","first","longest"] "__init__" "Terms.__init__" (ic 81 0):=by exists 2
theorem jP:SY ["_law_script","_law_k"] "_law_cell_at" (top 83):=by exists 2
theorem eF:SZ ["_law_cell","_law_k","_law_number","_law_turn_here"] ["_law_cell","_law_k"] "_law_mixed" (top 84):=by exists 2
theorem bT:SZ ["_law_cell","_law_other","_law_rooms","_law_lag","_law_least","_law_first","_law_ring"] ["_law_cell","_law_other"] "_law_terms" (top 85):=by exists 2
theorem dc:SZ ["_law_cell","_law_size","_law_some","_law_signs","_law_k"] ["_law_cell","_law_size"] "_law_text" (top 86):=by exists 2
theorem dY:SZ ["_law_hand","_law_cell","_law_size","_law_told"] ["_law_hand","_law_cell"] "_law_wish" (top 87):=by exists 2
theorem kP:SY ["_law_hand"] "_law_things" (top 88):=by exists 2
theorem bE:SZ ["_law_found","_law_turn_here","_law_lag","_law_cell","_law_first","_law_copies_here","_law_k","_law_part","_law_run","_law_when","_law_rank","_law_frame"] ["_law_found","_law_turn_here","_law_lag","_law_cell","_law_first"] "_law_copies" (top 89):=by exists 2
theorem aY:SZ ["_law_hand","_law_turn_here","_law_copies_here","_law_when","_law_rank","_law_order","_law_k","_law_frame","_law_rest","_law_is_spoilt","_law_word","_law_place","_law_got","_law_due","_law_found"] ["_law_hand","_law_turn_here","_law_copies_here"] "_law_come" (top 90):=by exists 2
theorem oU:SY ["_law_things_here","_law_kind"] "_law_many" (top 91):=by exists 2
theorem mW:SY ["_law_row"] "_law_table" (top 92):=by exists 2
theorem dZ:SZ ["_law_own","_law_base","_law_other","_law_heard","_law_ends","_law_n","_law_row"] ["_law_own","_law_base","_law_other"] "_law_name" (top 93):=by exists 2
theorem cO:SZ ["_law_hands","_law_outs","_law_rooms","_law_side","_law_own","_law_other","_law_sender","_law_taker"] ["_law_hands","_law_outs","_law_rooms"] "_law_right" (top 94):=by exists 2
theorem da:SZ ["_law_hands","_law_roads","_law_outs","_law_turn_here","_law_cell","_law_first","_law_lag","_law_number","_law_side","_law_due","_law_found"] ["_law_hands","_law_roads","_law_outs","_law_turn_here","_law_cell","_law_first","_law_lag"] "_law_turn" (top 95):=by exists 2
theorem jN:SZ ["_law_script","_law_terms_here","_law_hands","_law_roads","_law_outs","_law_turn_here","_law_cell","_law_again"] ["_law_script"] "law" (top 96):=by exists 2
end
section
mutual
variable {x v0 v1 v2 v3 v4 v5 v6 v7 v8 v9 v10 v11:V}
abbrev lk (F:List (Str×V)) (n:Str) (v:V):Prop:=F.lookup n=some v
abbrev nk (F:List (Str×V)) (n:Str):Prop:=F.lookup n=none
local macro_rules | `(tactic| exists 4) => `(tactic| exact⟨by kernel_rfl,Nat.le_of_ble_eq_true rfl⟩)
noncomputable def rA:List Str:=["most","window","knee","counted"]
noncomputable def vR:List Str:=["longest","smooth","spread","wait"]
noncomputable def cT:List Str:=["ring","ways","meter","things","base","top","edge","clock","base_hurried","known_places","first_turns","gone_again"]
noncomputable def rq:List Str:=["ring","room","got","out","kept"]
noncomputable def kA:List Str:=["side","ring","taker","sender","state","answer_due","end_places"]
noncomputable def rp:List Str:=["ring","rooms","lag","first","longest"]
noncomputable def uU (v0:V):List (Str×V):=rA.zip [v0]
theorem AJ:bH "most" v0 []=uU v0/\(uU v0).length<1000:=by exists 4
noncomputable def uT (v0 v1:V):List (Str×V):=rA.zip [v0,v1]
theorem AI:bH "window" v1 (uU v0)=uT v0 v1/\(uT v0 v1).length<1000:=by exists 4
noncomputable def uS (v0 v1 v2:V):List (Str×V):=rA.zip [v0,v1,v2]
theorem AH:bH "knee" v2 (uT v0 v1)=uS v0 v1 v2/\(uS v0 v1 v2).length<1000:=by exists 4
noncomputable def aV (v0 v1 v2 v3:V):List (Str×V):=rA.zip [v0,v1,v2,v3]
theorem D0:bH "counted" v3 (uS v0 v1 v2)=aV v0 v1 v2 v3/\(aV v0 v1 v2 v3).length<1000:=by exists 4
theorem D1:(fun F=>lk F "most" v0/\lk F "window" v1/\lk F "knee" v2/\lk F "counted" v3) (aV v0 v1 v2 v3):=by repeat' constructor
theorem FD:(fun F=>nk F "known" /\nk F "know_one" /\nk F "half" /\nk F "ran_out" /\nk F "hurried") (aV v0 v1 v2 v3):=by repeat' constructor
theorem DZ:(fun F=>bH "window" x F=aV v0 x v2 v3/\bH "knee" x F=aV v0 v1 x v3/\bH "counted" x F=aV v0 v1 v2 x) (aV v0 v1 v2 v3):=by repeat' constructor
noncomputable def xI (v0:V):List (Str×V):=vR.zip [v0]
theorem Bu:bH "longest" v0 []=xI v0/\(xI v0).length<1000:=by exists 4
noncomputable def xH (v0 v1:V):List (Str×V):=vR.zip [v0,v1]
theorem Bt:bH "smooth" v1 (xI v0)=xH v0 v1/\(xH v0 v1).length<1000:=by exists 4
noncomputable def xG (v0 v1 v2:V):List (Str×V):=vR.zip [v0,v1,v2]
theorem Bs:bH "spread" v2 (xH v0 v1)=xG v0 v1 v2/\(xG v0 v1 v2).length<1000:=by exists 4
noncomputable def bO (v0 v1 v2 v3:V):List (Str×V):=vR.zip [v0,v1,v2,v3]
theorem Fy:bH "wait" v3 (xG v0 v1 v2)=bO v0 v1 v2 v3/\(bO v0 v1 v2 v3).length<1000:=by exists 4
theorem Fz:(fun F=>lk F "longest" v0/\lk F "smooth" v1/\lk F "spread" v2/\lk F "wait" v3) (bO v0 v1 v2 v3):=by repeat' constructor
theorem Hm:(fun F=>nk F "measured" /\nk F "next_spread" /\nk F "next_smooth" /\nk F "least_wait" /\nk F "ran_out") (bO v0 v1 v2 v3):=by repeat' constructor
theorem Fx:(fun F=>bH "smooth" x F=bO v0 x v2 v3/\bH "spread" x F=bO v0 v1 x v3/\bH "wait" x F=bO v0 v1 v2 x) (bO v0 v1 v2 v3):=by repeat' constructor
noncomputable def g8 (v0:V):List (Str×V):=cT.zip [v0]
theorem zx:bH "ring" v0 []=g8 v0/\(g8 v0).length<1000:=by exists 4
noncomputable def jv (v0 v1:V):List (Str×V):=cT.zip [v0,v1]
theorem zw:bH "ways" v1 (g8 v0)=jv v0 v1/\(jv v0 v1).length<1000:=by exists 4
noncomputable def ju (v0 v1 v2:V):List (Str×V):=cT.zip [v0,v1,v2]
theorem zv:bH "meter" v2 (jv v0 v1)=ju v0 v1 v2/\(ju v0 v1 v2).length<1000:=by exists 4
noncomputable def rF (v0 v1 v2 v3:V):List (Str×V):=cT.zip [v0,v1,v2,v3]
theorem zu:bH "things" v3 (ju v0 v1 v2)=rF v0 v1 v2 v3/\(rF v0 v1 v2 v3).length<1000:=by exists 4
noncomputable def rE (v0 v1 v2 v3 v4:V):List (Str×V):=cT.zip [v0,v1,v2,v3,v4]
theorem zt:bH "base" v4 (rF v0 v1 v2 v3)=rE v0 v1 v2 v3 v4/\(rE v0 v1 v2 v3 v4).length<1000:=by exists 4
noncomputable def rD (v0 v1 v2 v3 v4 v5:V):List (Str×V):=cT.zip [v0,v1,v2,v3,v4,v5]
theorem zr:bH "top" v5 (rE v0 v1 v2 v3 v4)=rD v0 v1 v2 v3 v4 v5/\(rD v0 v1 v2 v3 v4 v5).length<1000:=by exists 4
noncomputable def rC (v0 v1 v2 v3 v4 v5 v6:V):List (Str×V):=cT.zip [v0,v1,v2,v3,v4,v5,v6]
theorem zq:(rC v0 v1 v2 v3 v4 v5 v6).length<1000:=by show 7<1000;decide
theorem zo:bH "edge" v6 (rD v0 v1 v2 v3 v4 v5)=rC v0 v1 v2 v3 v4 v5 v6:=rfl
noncomputable def rB (v0 v1 v2 v3 v4 v5 v6 v7:V):List (Str×V):=cT.zip [v0,v1,v2,v3,v4,v5,v6,v7]
theorem zm:(rB v0 v1 v2 v3 v4 v5 v6 v7).length<1000:=by show 8<1000;decide
theorem zk:bH "clock" v7 (rC v0 v1 v2 v3 v4 v5 v6)=rB v0 v1 v2 v3 v4 v5 v6 v7:=rfl
noncomputable def jt (v0 v1 v2 v3 v4 v5 v6 v7 v8:V):List (Str×V):=cT.zip [v0,v1,v2,v3,v4,v5,v6,v7,v8]
theorem zj:(jt v0 v1 v2 v3 v4 v5 v6 v7 v8).length<1000:=by show 9<1000;decide
theorem zi:bH "base_hurried" v8 (rB v0 v1 v2 v3 v4 v5 v6 v7)=jt v0 v1 v2 v3 v4 v5 v6 v7 v8:=rfl
noncomputable def iA (v0 v1 v2 v3 v4 v5 v6 v7 v8 v9:V):List (Str×V):=cT.zip [v0,v1,v2,v3,v4,v5,v6,v7,v8,v9]
theorem xN:(iA v0 v1 v2 v3 v4 v5 v6 v7 v8 v9).length<1000:=by show 10<1000;decide
theorem xM:bH "known_places" v9 (jt v0 v1 v2 v3 v4 v5 v6 v7 v8)=iA v0 v1 v2 v3 v4 v5 v6 v7 v8 v9:=rfl
noncomputable def iz (v0 v1 v2 v3 v4 v5 v6 v7 v8 v9 v10:V):List (Str×V):=cT.zip [v0,v1,v2,v3,v4,v5,v6,v7,v8,v9,v10]
theorem xK:(iz v0 v1 v2 v3 v4 v5 v6 v7 v8 v9 v10).length<1000:=by show 11<1000;decide
theorem xJ:bH "first_turns" v10 (iA v0 v1 v2 v3 v4 v5 v6 v7 v8 v9)=iz v0 v1 v2 v3 v4 v5 v6 v7 v8 v9 v10:=rfl
noncomputable def aZ (v0 v1 v2 v3 v4 v5 v6 v7 v8 v9 v10 v11:V):List (Str×V):=cT.zip [v0,v1,v2,v3,v4,v5,v6,v7,v8,v9,v10,v11]
theorem Bx:(fun F=>lk F "ring" v0/\lk F "ways" v1/\lk F "meter" v2/\lk F "things" v3/\lk F "base" v4/\lk F "top" v5/\lk F "edge" v6/\lk F "clock" v7/\lk F "base_hurried" v8/\lk F "known_places" v9/\lk F "first_turns" v10/\lk F "gone_again" v11) (aZ v0 v1 v2 v3 v4 v5 v6 v7 v8 v9 v10 v11):=by repeat' constructor
theorem vT:(fun F=>nk F "put" /\nk F "many" /\nk F "thing" /\nk F "heard" /\nk F "grow_base" /\nk F "note_held" /\nk F "newly_known" /\nk F "known_above_base" /\nk F "under_way" /\nk F "thing_waits" /\nk F "clock_is_out" /\nk F "hurry_is_due" /\nk F "new_may_go" /\nk F "go" /\nk F "set_clock" /\nk F "go_again" /\nk F "go_new" /\nk F "ask_for_room") (aZ v0 v1 v2 v3 v4 v5 v6 v7 v8 v9 v10 v11):=by repeat' constructor
theorem Bw:(aZ v0 v1 v2 v3 v4 v5 v6 v7 v8 v9 v10 v11).length<1000:=by show 12<1000;decide
theorem Bv:bH "gone_again" v11 (iz v0 v1 v2 v3 v4 v5 v6 v7 v8 v9 v10)=aZ v0 v1 v2 v3 v4 v5 v6 v7 v8 v9 v10 v11:=rfl
theorem uR:bH "base" x (aZ v0 v1 v2 v3 v4 v5 v6 v7 v8 v9 v10 v11)=aZ v0 v1 v2 v3 x v5 v6 v7 v8 v9 v10 v11:=rfl
theorem vS:bH "top" x (aZ v0 v1 v2 v3 v4 v5 v6 v7 v8 v9 v10 v11)=aZ v0 v1 v2 v3 v4 x v6 v7 v8 v9 v10 v11:=rfl
theorem uQ:bH "edge" x (aZ v0 v1 v2 v3 v4 v5 v6 v7 v8 v9 v10 v11)=aZ v0 v1 v2 v3 v4 v5 x v7 v8 v9 v10 v11:=rfl
theorem sT:bH "clock" x (aZ v0 v1 v2 v3 v4 v5 v6 v7 v8 v9 v10 v11)=aZ v0 v1 v2 v3 v4 v5 v6 x v8 v9 v10 v11:=rfl
theorem k_:bH "base_hurried" x (aZ v0 v1 v2 v3 v4 v5 v6 v7 v8 v9 v10 v11)=aZ v0 v1 v2 v3 v4 v5 v6 v7 x v9 v10 v11:=rfl
noncomputable def uP (v0 v1:V):List (Str×V):=rq.zip [v0,v1]
theorem AG:bH "room" v1 (g8 v0)=uP v0 v1/\(uP v0 v1).length<1000:=by exists 4
noncomputable def uO (v0 v1 v2:V):List (Str×V):=rq.zip [v0,v1,v2]
theorem AF:bH "got" v2 (uP v0 v1)=uO v0 v1 v2/\(uO v0 v1 v2).length<1000:=by exists 4
noncomputable def uN (v0 v1 v2 v3:V):List (Str×V):=rq.zip [v0,v1,v2,v3]
theorem AE:bH "out" v3 (uO v0 v1 v2)=uN v0 v1 v2 v3/\(uN v0 v1 v2 v3).length<1000:=by exists 4
noncomputable def dH (v0 v1 v2 v3 v4:V):List (Str×V):=rq.zip [v0,v1,v2,v3,v4]
theorem DX:bH "kept" v4 (uN v0 v1 v2 v3)=dH v0 v1 v2 v3 v4/\(dH v0 v1 v2 v3 v4).length<1000:=by exists 4
theorem DY:(fun F=>lk F "ring" v0/\lk F "room" v1/\lk F "got" v2/\lk F "out" v3/\lk F "kept" v4) (dH v0 v1 v2 v3 v4):=by repeat' constructor
theorem FC:(fun F=>nk F "room_left" /\nk F "take" /\nk F "stand_in_order" /\nk F "answer" /\nk F "read") (dH v0 v1 v2 v3 v4):=by repeat' constructor
theorem DW:(fun F=>bH "got" x F=dH v0 v1 x v3 v4/\bH "out" x F=dH v0 v1 v2 x v4) (dH v0 v1 v2 v3 v4):=by repeat' constructor
noncomputable def xP (v0:V):List (Str×V):=kA.zip [v0]
theorem BE:bH "side" v0 []=xP v0/\(xP v0).length<1000:=by exists 4
noncomputable def nU (v0 v1:V):List (Str×V):=kA.zip [v0,v1]
theorem BD:bH "ring" v1 (xP v0)=nU v0 v1/\(nU v0 v1).length<1000:=by exists 4
noncomputable def eJ (v0 v1 v2:V):List (Str×V):=kA.zip [v0,v1,v2]
theorem BC:bH "taker" v2 (nU v0 v1)=eJ v0 v1 v2/\(eJ v0 v1 v2).length<1000:=by exists 4
noncomputable def dI (v0 v1 v2 v3:V):List (Str×V):=kA.zip [v0,v1,v2,v3]
theorem BB:bH "sender" v3 (eJ v0 v1 v2)=dI v0 v1 v2 v3/\(dI v0 v1 v2 v3).length<1000:=by exists 4
noncomputable def xO (v0 v1 v2 v3 v4:V):List (Str×V):=kA.zip [v0,v1,v2,v3,v4]
theorem BA:bH "state" v4 (dI v0 v1 v2 v3)=xO v0 v1 v2 v3 v4/\(xO v0 v1 v2 v3 v4).length<1000:=by exists 4
noncomputable def so (v0 v1 v2 v3 v4 v5:V):List (Str×V):=kA.zip [v0,v1,v2,v3,v4,v5]
theorem By:bH "answer_due" v5 (xO v0 v1 v2 v3 v4)=so v0 v1 v2 v3 v4 v5/\(so v0 v1 v2 v3 v4 v5).length<1000:=by exists 4
noncomputable def aT (v0 v1 v2 v3 v4 v5 v6:V):List (Str×V):=kA.zip [v0,v1,v2,v3,v4,v5,v6]
theorem FG:(fun F=>lk F "ring" v1/\lk F "taker" v2/\lk F "sender" v3/\lk F "state" v4/\lk F "answer_due" v5/\lk F "end_places" v6) (aT v0 v1 v2 v3 v4 v5 v6):=by repeat' constructor
theorem Ho:(fun F=>nk F "name" /\nk F "begin" /\nk F "end" /\nk F "put" /\nk F "read" /\nk F "come" /\nk F "hear" /\nk F "take_in" /\nk F "stand_to" /\nk F "send" /\nk F "piece_of") (aT v0 v1 v2 v3 v4 v5 v6):=by repeat' constructor
theorem FF:(aT v0 v1 v2 v3 v4 v5 v6).length<1000:=by show 7<1000;decide
theorem FE:bH "end_places" v6 (so v0 v1 v2 v3 v4 v5)=aT v0 v1 v2 v3 v4 v5 v6:=rfl
theorem vU:bH "state" x (aT v0 v1 v2 v3 v4 v5 v6)=aT v0 v1 v2 v3 x v5 v6:=rfl
theorem pG:bH "answer_due" x (aT v0 v1 v2 v3 v4 v5 v6)=aT v0 v1 v2 v3 v4 x v6:=rfl
noncomputable def uM (v0 v1:V):List (Str×V):=rp.zip [v0,v1]
theorem AD:bH "rooms" v1 (g8 v0)=uM v0 v1/\(uM v0 v1).length<1000:=by exists 4
noncomputable def uL (v0 v1 v2:V):List (Str×V):=rp.zip [v0,v1,v2]
theorem AA:bH "lag" v2 (uM v0 v1)=uL v0 v1 v2/\(uL v0 v1 v2).length<1000:=by exists 4
noncomputable def uK (v0 v1 v2 v3:V):List (Str×V):=rp.zip [v0,v1,v2,v3]
theorem Az:bH "first" v3 (uL v0 v1 v2)=uK v0 v1 v2 v3/\(uK v0 v1 v2 v3).length<1000:=by exists 4
noncomputable def nT (v0 v1 v2 v3 v4:V):List (Str×V):=rp.zip [v0,v1,v2,v3,v4]
theorem DV:(fun F=>lk F "ring" v0/\lk F "rooms" v1/\lk F "lag" v2/\lk F "first" v3/\lk F "longest" v4) (nT v0 v1 v2 v3 v4):=by repeat' constructor
theorem DU:bH "longest" v4 (uK v0 v1 v2 v3)=nT v0 v1 v2 v3 v4:=by kernel_rfl
end
end
mutual
abbrev aK:Addr:=311
abbrev aX:Addr:=381
abbrev ax:Addr:=522
abbrev bG:Addr:=870
abbrev az:Addr:=989
abbrev fK:Addr:=1027
abbrev bZ:Addr:=31
abbrev aS:Addr:=51
abbrev ba:Addr:=70
abbrev aG:Addr:=89
abbrev aL:Addr:=151
abbrev QD:Addr:=585
abbrev iH:Addr:=620
abbrev dQ:Addr:=660
abbrev lQ:Addr:=700
abbrev lR:Addr:=733
abbrev dO:Addr:=766
abbrev dN:Addr:=792
abbrev dP:Addr:=818
abbrev Mf {N i:List Str} {x y:Str} {s:Stmt} (_:SB N i x y s) (K:W.Frag) (C:Addr):Prop:=MethAt K C x y s
abbrev Df {N i:List Str} {x:Str} {s:Stmt} (_:SZ N i x s) (K:W.Frag) (mg:Str->Option Value):Prop:=yS K mg x s
abbrev OM (P:Program) (w:World) (mg:Str->Option Value) (base:Heap) {K:W.Frag} {C:Addr} {N i:List Str} {x y:Str} {s:Stmt} (_:MethAt K C x y s) (_:SB N i x y s) (k:Nat) (sp:Sp):Prop:=wC P w K mg base (Eu P w) C x k i sp
abbrev OF (P:Program) (w:World) (base:Heap) {K:W.Frag} {mg:Str->Option Value} {N i:List Str} {x:Str} {s:Stmt} (_:yS K mg x s) (_:SZ N i x s) (k:Nat) (sp:Sp):Prop:=FnAt P w K mg base (Eu P w) x k i sp
structure Txt (K:W.Frag) (mg:Str->Option Value):Prop where
 bF:dM K mg "Meter" aK
 vK:a8 K aK "most"
 bU:a8 K aK "window"
 iu:a8 K aK "knee"
 c_:a8 K aK "counted"
 bC:dM K mg "Ways" aX
 kY:a8 K aX "longest"
 br:a8 K aX "smooth"
 cv:a8 K aX "spread"
 gY:a8 K aX "wait"
 ak:dM K mg "Sender" ax
 tF:a8 K ax "ring"
 eG:a8 K ax "ways"
 fq:a8 K ax "meter"
 gE:a8 K ax "things"
 aI:a8 K ax "base"
 bB:a8 K ax "top"
 gy:a8 K ax "edge"
 dF:a8 K ax "clock"
 c6:a8 K ax "base_hurried"
 cZ:a8 K ax "known_places"
 ft:a8 K ax "first_turns"
 gi:a8 K ax "gone_again"
 aQ:dM K mg "Taker" bG
 pz:a8 K bG "ring"
 vJ:a8 K bG "room"
 bY:a8 K bG "got"
 fo:a8 K bG "out"
 d9:a8 K bG "kept"
 aH:dM K mg "Hand" az
 Fb:a8 K az "side"
 mr:a8 K az "ring"
 cw:a8 K az "taker"
 bu:a8 K az "sender"
 bN:a8 K az "state"
 di:a8 K az "answer_due"
 iw:a8 K az "end_places"
 d_:dM K mg "Terms" fK
 ky:a8 K fK "ring"
 jk:a8 K fK "rooms"
 yk:a8 K fK "lag"
 tE:a8 K fK "first"
 p7:a8 K fK "longest"
 OB:A5 K mg "RoadError" bZ
 Gh:A5 K mg "NoFrame" aS
 Jj:A5 K mg "Spoilt" ba
 Gg:A5 K mg "NoPiece" aG
 Jk:A5 K mg "NotNow" aL
 BN:TQ K mg "NoFrame" aS bZ
 K1:Od K aS
 Hb:W.keepIn K (.ref aS)=true
 m_:F4 K aS "frame"
 GL:W.kitOne K (.ref aS) (.type "ValueError")=some true
 sE:W.kitOne K (.ref aS) (.ref bZ)=some true
 sR:isx K (.ref aS) bZ=some true
 ma:W.kitOne K (.ref aS) (.ref aS)=some true
 my:isx K (.ref aS) aS=some true
 wW:W.kitOne K (.ref aS) (.ref ba)=some false
 xx:isx K (.ref aS) ba=some false
 vt:W.kitOne K (.ref aS) (.ref aG)=some false
 vL:isx K (.ref aS) aG=some false
 wX:W.kitOne K (.ref aS) (.ref aL)=some false
 xy:isx K (.ref aS) aL=some false
 Ew:TQ K mg "Spoilt" ba bZ
 Nr:Od K ba
 Kz:W.keepIn K (.ref ba)=true
 pM:F4 K ba "frame"
 J1:W.kitOne K (.ref ba) (.type "ValueError")=some true
 um:W.kitOne K (.ref ba) (.ref bZ)=some true
 uG:isx K (.ref ba) bZ=some true
 nE:W.kitOne K (.ref ba) (.ref aS)=some false
 nL:isx K (.ref ba) aS=some false
 pV:W.kitOne K (.ref ba) (.ref ba)=some true
 p8:isx K (.ref ba) ba=some true
 wQ:W.kitOne K (.ref ba) (.ref aG)=some false
 xr:isx K (.ref ba) aG=some false
 yW:W.kitOne K (.ref ba) (.ref aL)=some false
 ze:isx K (.ref ba) aL=some false
 wH:TQ K mg "NoPiece" aG bZ
 K0:Od K aG
 Ar:W.keepIn K (.ref aG)=true
 pO:F4 K aG "what"
 GK:W.kitOne K (.ref aG) (.type "ValueError")=some true
 sD:W.kitOne K (.ref aG) (.ref bZ)=some true
 sQ:isx K (.ref aG) bZ=some true
 l_:W.kitOne K (.ref aG) (.ref aS)=some false
 mw:isx K (.ref aG) aS=some false
 nF:W.kitOne K (.ref aG) (.ref ba)=some false
 nM:isx K (.ref aG) ba=some false
 l9:W.kitOne K (.ref aG) (.ref aG)=some true
 mv:isx K (.ref aG) aG=some true
 wV:W.kitOne K (.ref aG) (.ref aL)=some false
 xv:isx K (.ref aG) aL=some false
 qC:TQ K mg "NotNow" aL bZ
 Nt:Od K aL
 xD:W.keepIn K (.ref aL)=true
 pN:F4 K aL "state"
 qB:F4 K aL "wish"
 J2:W.kitOne K (.ref aL) (.type "ValueError")=some true
 uo:W.kitOne K (.ref aL) (.ref bZ)=some true
 uH:isx K (.ref aL) bZ=some true
 wU:W.kitOne K (.ref aL) (.ref aS)=some false
 xu:isx K (.ref aL) aS=some false
 yX:W.kitOne K (.ref aL) (.ref ba)=some false
 zf:isx K (.ref aL) ba=some false
 wR:W.kitOne K (.ref aL) (.ref aG)=some false
 xt:isx K (.ref aL) aG=some false
 yY:W.kitOne K (.ref aL) (.ref aL)=some true
 zg:isx K (.ref aL) aL=some true
 V7:dM K mg "State" QD
 m9:dM K mg "Shut" iH
 g7:dM K mg "Calling" dQ
 pC:dM K mg "Open" lQ
 rj:dM K mg "Left" lR
 fH:dM K mg "Leaving" dO
 gZ:dM K mg "Waiting" dN
 fJ:dM K mg "Closing" dP
 DI:wB K iH
 xR:Mf df K iH
 zy:Mf dA K iH
 BF:Mf fe K iH
 xT:Mf cE K iH
 G6:wB K dQ
 qy:Mf bP K dQ
 xZ:Mf fe K dQ
 sY:Mf cE K dQ
 Iy:wB K lQ
 uW:Mf bP K lQ
 BG:Mf dB K lQ
 xU:Mf cE K lQ
 PJ:wB K lR
 uX:Mf bP K lR
 BI:Mf dB K lR
 BH:Mf fe K lR
 xV:Mf cE K lR
 An:wB K dO
 qw:Mf bP K dO
 sW:Mf df K dO
 uY:Mf dA K dO
 xW:Mf dB K dO
 G5:wB K dN
 qv:Mf bP K dN
 sU:Mf df K dN
 uV:Mf dA K dN
 xQ:Mf dB K dN
 sV:Mf cE K dN
 Ao:wB K dP
 qx:Mf bP K dP
 sX:Mf df K dP
 uZ:Mf dA K dP
 xY:Mf dB K dP
 xX:Mf fe K dP
 lE:Mf gb K aS
 mE:Mf gN K ba
 lD:Mf f_ K aG
 mI:Mf gR K aL
 Cv:Df ui K mg
 AQ:Df lY K mg
 Cu:Df iX K mg
 yw:Df oR K mg
 yt:Df hV K mg
 Co:Df oP K mg
 Cz:Df dX K mg
 rK:Df jO K mg
 qb:Df cS K mg
 AR:Df qR K mg
 NV:Df zD K mg
 rJ:Df jM K mg
 Cr:Df t9 K mg
 Cw:Df uj K mg
 AO:Df qQ K mg
 Cq:Df t8 K mg
 nZ:Mf h_ K aK
 tO:Mf hZ K aK
 nY:Mf h9 K aK
 wk:Mf m7 K aK
 qh:Mf i7 K aK
 qi:Mf i8 K aK
 IV:Df Aa K mg
 FQ:Df se K mg
 qd:Mf iZ K aX
 qc:Mf iY K aX
 lq:Mf cH K aX
 lu:Mf fY K aX
 mC:Mf d4 K aX
 rM:Mf jQ K aX
 mH:Mf gQ K ax
 wg:Mf mY K ax
 tL:Mf kQ K ax
 rP:Mf jS K ax
 rQ:Mf c9 K ax
 lC:Mf dv K ax
 lB:Mf f9 K ax
 jy:Mf cg K ax
 fN:Mf cV K ax
 lx:Mf fZ K ax
 jx:Mf eQ K ax
 iL:Mf d6 K ax
 iK:Mf d5 K ax
 j9:Mf fg K ax
 yF:Mf oW K ax
 lA:Mf f7 K ax
 mG:Mf gP K ax
 qf:Mf fz K ax
 iM:Mf d7 K ax
 yE:Mf oV K iH
 mF:Mf gO K iH
 we:Mf mX K iH
 rX:Mf jX K dQ
 lI:Mf gg K dQ
 mJ:Mf gS K dQ
 qp:Mf jc K dQ
 yG:Mf oX K lQ
 qg:Mf i6 K lQ
 rR:Mf jT K lQ
 wj:Mf mZ K lQ
 yH:Mf oY K lR
 qj:Mf i9 K lR
 rS:Mf jU K lR
 rT:Mf jV K dO
 qk:Mf i_ K dO
 lF:Mf gc K dO
 rN:Mf jR K dN
 qe:Mf i5 K dN
 rW:Mf jW K dP
 lG:Mf gf K dP
 nX:Mf hX K bG
 mD:Mf gM K bG
 wb:Mf gv K bG
 iD:Mf cD K bG
 rO:Mf gB K bG
 wc:Mf gw K bG
 Ct:Df t_ K mg
 rH:Df jL K mg
 qo:Mf jb K az
 yK:Mf oZ K az
 wo:Mf m8 K az
 AU:Mf qS K az
 AS:Mf lZ K az
 yJ:Mf ie K az
 yM:Mf kj K az
 yL:Mf ig K az
 rV:Mf eE K az
 ql:Mf ja K az
 yI:Mf fA K az
 qm:Mf dC K az
 NW:Df C0 K mg
 yx:Df oS K mg
 yu:Df oQ K mg
 nW:Mf eV K fK
 rL:Df jP K mg
 wa:Df eF K mg
 vY:Df bT K mg
 yA:Df dc K mg
 yy:Df dY K mg
 tJ:Df kP K mg
 tK:Df bE K mg
 yD:Df aY K mg
 yC:Df oU K mg
 vZ:Df mW K mg
 yB:Df dZ K mg
 v_:Df cO K mg
 yz:Df da K mg
 Q9:Df jN K mg
 VN:mg "abs" = none
 N_:mg "all" = none
 TF:mg "bool" = none
 VM:mg "int" = none
 dr:mg "isinstance" = none
 j_:mg "len" = none
 TC:mg "list" = none
 CJ:mg "max" = none
 FZ:mg "min" = none
 eC:mg "range" = none
 N9:mg "sorted" = none
 Ra:mg "str" = none
 VL:mg "sum" = none
 sv:mg "tuple" = none
 zR:TupAt K mg "KINDS" [.str "bare",.str "signs",.str "begin",.str "end",.str "ask"]
 wx:gA mg "SIGNS" (.str " !\"#$&'()*+,-./0123456789:;<=>?@ABCDEFGHIJKLMNOPQRSTUVWXYZ[\\]^_`abcdefghijklmnopqrstuvwxyz{|}~")
 Ee:TupAt K mg "UNNUMBERED" [.str "bare",.str "ask"]
 tP:gA mg "NUMBER_MOST" (.int 63)
 u_:gA mg "ROOM_MOST_pieces" (.int 16)
 yQ:gA mg "HELD_MOST" (.int 15)
 kB:gA mg "SIGNS_MOST" (.int 4)
 Ef:gA mg "FRAME_BITS" (.int 74)
 wz:gA mg "CHECK_BITS" (.int 8)
 Lf:gA mg "DIVISOR" (.int 263)
 A2:gA mg "DIVISOR_BITS" (.int 9)
 ya:gA mg "REMAINDER_MOST" (.int 255)
 Le:gA mg "NO_KIND" (.str "")
 Ld:gA mg "NO_SIGN" (.str "\n")
 wu:gA mg "WAIT_LEAST_ways" (.int 2)
 yb:gA mg "KNOWN_TO_HURRY" (.int 2)
 FX:gA mg "TEXT_MOST" (.int 60)
 Ja:TupAt K mg "BEGIN" [.str "begin",.str ""]
 VI:TupAt K mg "END" [.str "end",.str ""]
 FY:gA mg "RING_MOST" (.int 64)
 wy:gA mg "ROOM_MOST_terms" (.int 16)
 Hx:gA mg "LAG_MOST" (.int 32)
 lL:gA mg "WAIT_LEAST_terms" (.int 2)
 FW:gA mg "WAIT_MOST" (.int 64)
end
section
mutual
open PySem PySem.W
structure Em where
 t:BT
 a:Nat
 k:Nat
 d:List DictEntry
 l:List Value
 m:Value
noncomputable def ups:List Obj->BT->Nat->BT
 | [],t,_=>t
 |o::r,t,n=>ups r (t.ins n o) (n+1)
noncomputable def txs:List Str->Nat->List Value
 | [],_=>[]
 |x::r,k=> .str x k::txs r (k+1)
noncomputable def ob (c:Value) (d:Data):Obj:=⟨c,none,d,#[]⟩
noncomputable def tpl (x:List Value):Obj:=ob (.type "tuple") (.seq x.toArray)
noncomputable def fld (x:List Value) (c:Value:= .none):Obj:=ob c (.fields x.toArray)
noncomputable def dic (x:List DictEntry) (n:Nat):Obj:=ob (.type "dict") (.dict x.toArray n)
noncomputable def den (P:Params) (x:Str) (k:Nat) (v:Value):DictEntry:=⟨PyData.keyHash P x,.str x k,v⟩
noncomputable def cod (n y:Str) (k:Nat) (l:Nat) (d g:Nat) (r:Nat) (o:Bool) (v w x:Value) (i:Nat):Obj:=
 fld [.str n k,.str y (k+1),.str "/claim/cut.py" (k+2),.int l 0,.int d 0,.int 0 0,.int 0 0,.int g 0,.ref r,.bool o,.int 181 0,.ref (r+1),.none,v,w,x,.int i 0,.int l 0,.str "/claim/cut.py" (i+1)] (.type "code")
noncomputable def lns (t:Stmt):Option (List Str×List Str):=localNames (eY t) (a9 t) (.stmts (c7 t))
noncomputable def nv (t:Stmt):Nat:=(lns t).elim 0 (·.1.length)
noncomputable def fnx (n y:Str) (t:Stmt) (o:Value) (g:Addr) (m c:Value):Obj:=ob o (.func (FuncData.mk n y (eY t) (.stmts (c7 t)) (a9 t) g [] .none .none .none m none c .none 0))
noncomputable def Wa (y:Str) (m:Value) (k r:Nat) (t:Stmt):List Obj:=match t with
 | .FunctionDef n p _ _ _ _ _ _ _ q=>
  tpl []::fld []::(match lns t with
   |some v=>[tpl (txs v.1 (k+3)),tpl [],fnx n y t .none 0 .none .none,cod n y k q.line p.args.length 3 r true (.ref (r+2)) (.ref (r+3)) (.ref (r+4)) (k+3+v.1.length),fnx n y t (.type "function") 3 m (.ref (r+5))]
   |none=>[fnx n y t .none 0 .none .none,cod n y k q.line p.args.length 3 r true .none .none (.ref (r+2)) (k+3),fnx n y t (.type "function") 3 m (.ref (r+3))])
 |_=>[]
noncomputable def lin (q:Pos) (a:Nat):List Value:=[.int q.line 0,.int q.col 0,.ref a]
structure Ms where
 o:List Obj
 e:List DictEntry
 l:List Value
 k:Nat
 a:Nat
noncomputable def ms (P:Params) (n:Str) (m:Value):List Stmt->Nat->Nat->Ms
 | [],k,a=>⟨[],[],[],k,a⟩
 |t::r,k,a=>match t with
  | .FunctionDef x _ _ _ _ _ _ _ _ q=>
   let o:=Wa (n ++ "." ++x) m k a t;let b:=a+o.length;let c:=k+5+nv t;let z:=ms P n m r (c+1) b
   ⟨o++z.o,den P x c (.ref (b-1))::z.e,lin q (b-2)++z.l,z.k,z.a⟩
  |_=>ms P n m r k a
noncomputable def kon:Expr->Nat->Value
 | .Constant (.str s) _ _,k=> .str s k
 | .Constant (.int s) _ _,k=> .int s k
 |_,_=> .none
noncomputable def kons:List Expr->Nat->List Value
 | [],_=>[]
 |x::r,k=>kon x k::kons r (k+1)
noncomputable abbrev QF:=Value×List Value×Option Value×Nat
noncomputable def BO:QF:=(.type "object",[.type "object"],some (.builtin "object.__new__"),2)
noncomputable def BV:QF:=(.type "ValueError",[.type "ValueError",.type "Exception",.type "BaseException",.type "object"],some (.builtin "ValueError.__new__"),1)
noncomputable def bx (r:Nat) (b:QF):QF:=(.ref r,.ref r::b.2.1,b.2.2.1,0)
noncomputable def frm (a b:Nat) (m:Value):Obj:=⟨.type "frame",none,.plain,#[some (.ref a),some (.ref 3),some (.ref b),none,some m,none,some (.ref 0)]⟩
noncomputable def sbc (l:List Value) (o:Obj):Obj:=match o.data with
 | .cls z=>{o with data:= .cls {z with subclasses:=z.subclasses++l}}
 |_=>o
noncomputable def clo (n:Str) (bs:List Expr) (k a:Nat) (B:QF) (c d:Nat) (s:List Value):Obj:=⟨.type "type",none,.cls (.mk n [B.1] (.ref c::B.2.1) d n true [] s false none false),#[(match bs with | []=>none|_=>some (.ref a)),none,some (.str n k),some (.str n (k+8)),B.2.2.1,some (.bool true)]⟩
noncomputable def W4 (P:Params) (m:Value) (k a:Nat) (B:QF) (t:Stmt):Ms:=match t with
  |
    .ClassDef n bs _ b _ _ _ _ _ sa q=>
    let M:=ms P n m b (k+12) (a+7);let c:=M.a+2;let s:=M.k+sa.length;let g:=B.2.2.2;let i (x y:String) (z:Value) (k:Nat):Obj:=fld [.str (Str.ofString x) k,.ref c,.builtin y,z] (.type "getset_descriptor");let w:=i "__weakref__" "ExceptionGroup.__weakref__" .none;let E:=den P "__firstlineno__" (k+11) (.int q.line (k+10))::(M.e++ [den P "__static_attributes__" s (.ref M.a)]);let m0:=den P "__module__" (k+7) m;let G:List DictEntry×List Obj:=match g with
      |2=>([den P "__dict__" (s+2) (.ref (c+1)),den P "__weakref__" (s+4) (.ref (c+2))],[i "__dict__" "function.__dict__" (.builtin "function.__dict__#set") (s+1),w (s+3)])
      |1=>([den P "__weakref__" (s+2) (.ref (c+1))],[w (s+1)])
      |_=>([],[])
    let u (x:String) (v:Value):Obj:=fld [.builtin x,v] (.type "builtin_function_or_method");let
        o:=[tpl (match bs with | []=>[]|_=>[B.1]),u "type.__prepare__" (.type "type"),
        dic (m0::den P "__qualname__" (k+9) (.str n (k+8))::E) (M.e.length+4),tpl [],fld M.l,cod n n (k+2) q.line 0 0 (a+3) false .none .none .none (k+5),
        frm (a+5) (a+2) m]++M.o++
      [tpl (txs sa M.k),dic (m0::E++G.1++ [den P "__doc__" (s+1+2*g) .none]) (2+g),
       clo n bs k a B c (c-1) []]++
      G.2++ [fld [.ref c,.ref c,.ref c] (.type "super"),u "object.__init_subclass__" (.ref c)]
    ⟨o,[den P n (s+3+2*g) (.ref c)],lin q (a+5),s+2*g+4,c⟩
  |_=>⟨[],[],[],k,a⟩
noncomputable def em (P:Params) (e:Em) (t:Stmt):Em:=match t with
 | .FunctionDef n _ _ _ _ _ _ _ _ q=>
  let o:=Wa n e.m e.k e.a t;let a:=e.a+o.length;let k:=e.k+5+nv t
  ⟨ups o e.t e.a,a,k+1,e.d++ [den P n k (.ref (a-1))],e.l++lin q (a-2),e.m⟩
 | .Assign [.Name x _] v _=>(match v with
  | .Tuple es _ _=>⟨e.t.ins e.a (tpl (kons es e.k)),e.a+1,e.k+es.length+1,e.d++ [den P x (e.k+es.length) (.ref e.a)],e.l,e.m⟩
  |_=>bif x == "__name__" then{e with m:=kon v e.k,k:=e.k+2} else{e with k:=e.k+2,d:=e.d++ [den P x (e.k+1) (kon v e.k)]})
 | .ClassDef _ bs _ _ _ _ _ _ _ _ _=>
  let B:QF×List Value:=match bs with
   | [.Name x _]=>(match e.d.find? (·.key.isStr x) with
    |some ⟨_,_,.ref r⟩=>((match e.t.get r with
     |some ⟨_,_,.cls z,sl⟩=>(.ref r,z.mro,sl.getD 4 none,0)
     |_=>BO),[.ref r])
    |_=>(BV,[]))
   |_=>(BO,[])
  let z:=W4 P e.m e.k e.a B.1 t;let u:=match B.2 with
   | [.ref r]=>e.t.set r (sbc [.ref z.a])
   |_=>e.t
  ⟨ups z.o u e.a,e.a+z.o.length,z.k,e.d++z.e,e.l++z.l,e.m⟩
 |_=>e
variable (w:World) (os:OsState)
noncomputable abbrev Et:Program:=Challenge.rw_slowroad_k68_whole_hands_on_any_road.row.prog
noncomputable def DR:List Stmt:=behindTheImports Et
noncomputable def IH:Env:={scope:=Et.main.scope,locals:=mainNs,globals:=mainNs,cells:=[],code:=Value.ref 13,frame:=some 14}
noncomputable def Q6:Code:= .body DR IH
noncomputable abbrev T4:Pos:=⟨0,0,0,0⟩
noncomputable abbrev Vv:List Frame:=[topFrame T4]
noncomputable abbrev hdn:Option Value:=some (.ref 6)
noncomputable abbrev lif:Life:= .mk [] [] [] 0 [] [] false #[] [] 0 false false false 0 [2000,10,10] false 0 true [] [] 0 false
noncomputable def e0 (P:Params):Em:=⟨ups [boot_o_0 P,boot_o_1 P,boot_o_2 P,boot_o_3 P,boot_o_4 P,boot_o_5 P,boot_o_6 P,boot_o_7 P,boot_o_8 P,boot_o_9 P,boot_o_10 P,tpl [],fld [],cod "<module>" "<module>" 182 1 0 0 11 false .none .none .none 185,frm 13 3 (.str "__main__" 164)] .nil 0,15,187,(match (boot_o_3 P).data with | .dict es _=>es.toList.drop 1|_=>[]),[],.str "__main__" 164⟩
noncomputable def dct (P:Params) (e:Em):Obj:=dic (den P "__name__" 165 e.m::e.d) (e.d.length+1)
noncomputable def tre (P:Params) (e:Em):BT:=(e.t.ins 3 (dct P e)).ins 12 (fld e.l)
noncomputable abbrev shd (e:Params->Em) (w:World) (os:OsState):SharedT:=⟨tre w.params (e w.params),(e w.params).a,lif,#[],⟨0,0,0,0⟩,(e w.params).k,os⟩
noncomputable def hgg (i j:Nat):List Stmt:=(DR.drop i).take j
noncomputable def ems (P:Params):List Stmt->Em->Em
 | [],e=>e
 |t::r,e=>ems P r (em P e t)
noncomputable def nxt (i j a k:Nat) (e:Params->Em) (P:Params):Em:={ems P (hgg i j) (e P) with a:=a,k:=k}
abbrev sgr (w:World) (os:OsState) (n:Nat) (a:Params->Em) (i j:Nat) (p:Pos) (b:Params->Em) (q:Pos):Prop:=segRunT treeTable Et w 11 hdn 1 n (shd a w os) (piecesOf (hgg i j) IH Q6 p Vv)=some (.next,shd b w os,Q6,q)
theorem SQ:topGo treeTable Et w 11 hdn 12 ⟨boot_heap w.params,#[],boot_drawn,boot_toks,os⟩ (topStub Et)=some ((shd e0 w os).abs,⟨denote treeTable Q6,Q6,T4,Vv⟩):=by kernel_rfl
theorem SS:segRun treeTable Et w 11 hdn 1 1 (shd e0 w os).abs (blockOf DR IH Q6 T4 Vv)=some (.next,(shd e0 w os).abs,Q6,T4):=by kernel_rfl
noncomputable def e1:=nxt 0 20 163 405 e0
theorem Vu:sgr w os 1999 e0 0 20 T4 e1 ⟨42,0,42,10⟩:=by unfold sgr;kernel_rfl
noncomputable def e2:=nxt 20 32 386 702 e1
theorem Vt:sgr w os 1381 e1 20 32 ⟨42,0,42,10⟩ e2 ⟨192,0,192,14⟩:=by unfold sgr;kernel_rfl
noncomputable def e3:=nxt 52 5 663 1038 e2
theorem Vs:sgr w os 1860 e2 52 5 ⟨192,0,192,14⟩ e3 ⟨338,0,350,21⟩:=by unfold sgr;kernel_rfl
noncomputable def e4:=nxt 57 13 889 1317 e3
theorem Vr:sgr w os 1988 e3 57 13 ⟨338,0,350,21⟩ e4 ⟨443,0,447,19⟩:=by unfold sgr;kernel_rfl
noncomputable def e5:=nxt 70 27 1122 1681 e4
theorem Vq:sgr w os 1457 e4 70 27 ⟨443,0,447,19⟩ e5 ⟨692,0,708,15⟩:=by unfold sgr;kernel_rfl
noncomputable abbrev hfin (P:Params):Heap:=absHeap (tre P (e5 P)) 1122 lif
noncomputable abbrev DQ (w:PySem.World) (os:PySem.OsState):Shared:=⟨hfin w.params,#[],⟨0,0,0,0⟩,1681,os⟩
theorem SR:topRun treeTable Et w 11 hdn 2 (shd e5 w os).abs ⟨doneF .next,Q6,⟨692,0,708,15⟩,Vv⟩=some (DQ w os):=by kernel_rfl
theorem P_:topRun treeTable Et w 11 hdn 8687 (shd e0 w os).abs (restOf DR IH Q6 T4 Vv)=some (DQ w os):= .trans (by kernel_rfl) (piece_app (segRun_of (Vu w os)) (piece_app (segRun_of (Vt w os)) (piece_app (segRun_of (Vs w os)) (piece_app (segRun_of (Vr w os)) (piece_app (segRun_of (Vq w os)) (piece_nil (SR w os)))))))
theorem SO:topRun treeTable Et w 11 hdn 8700 ⟨boot_heap w.params,#[],boot_drawn,boot_toks,os⟩ (topStub Et)=some (DQ w os):=go_top (n:=12) (N:=8688) (SQ w os) (piece_block (n:=1) (N:=8687) (SS w os) (P_ w os))
theorem Qa:∀w:World,(fencedOpening treeTable Et w 20000).map (fun s=>(s.heap,s.gens,s.drawn,s.toks))=some (boot_heap w.params,#[],boot_drawn,boot_toks):=boot_open rfl (by decide) (fun s=>rfl)
theorem P9:∀w:World,((boot_heap w.params).isNs mainGlobals&&(#[]:Array GenState).size == 0,(boot_heap w.params).objs.size,(boot_heap w.params).nsMap mainGlobals "__annotations__")=(true,11,hdn):=fun w=>by kernel_rfl
noncomputable def isNm:Stmt->Bool
 | .Assign [.Name x _] _ _=>x == "__name__"
 |_=>false
noncomputable def b8:Program:={Challenge.pw_slowroad_k68_whole_hands_on_any_road with main:={Challenge.pw_slowroad_k68_whole_hands_on_any_road.main with body:=Challenge.pw_slowroad_k68_whole_hands_on_any_road.main.body.filter (!isNm ·)}}
noncomputable def mo:List (Nat×Nat)->Nat->Value
 | [],_=> .str "__main__" 164
 |p::r,i=>match Nat.ble p.1 i,top p.1 with
  |true,.Assign _ v _=>kon v p.2
  |_,_=>mo r i
noncomputable def mof:=mo [(82,1529),(73,1472),(71,1462),(64,1294),(62,1216),(53,886),(50,698),(46,611),(44,600),(42,529),(12,384),(10,373),(1,194)]
noncomputable def dnm:Stmt->Str
 | .FunctionDef n _ _ _ _ _ _ _ _ _=>n
 |_=>""
noncomputable def fno (t:Stmt) (y:Str) (i k a j:Nat):Obj:=let l:=Wa y (mof i) k (a+1-(Wa y .none 0 0 t).length) t;l.getD (l.length-j) (tpl [])
noncomputable def kfn (i k a:Nat):Obj:=fno (top i) (dnm (top i)) i k a 2
noncomputable def kme (y:Str) (i n k a:Nat):Obj:=fno (inClass (top i) n) y i k a 2
noncomputable def kfu (y:Str) (i c:Nat) (t:Stmt):Obj:=fnx (dnm t) y t (.type "function") 3 (mof i) (.ref c)
noncomputable def kcl (P:Params) (c i k a:Nat) (B:QF) (j:Nat):Obj:=(W4 P (mof i) k a B (top i)).o.getD (c-a+j-1) (tpl [])
noncomputable def kco (i k a:Nat) (B:QF) (c d:Nat) (s:List Value):Obj:=match top i with
 | .ClassDef n bs _ _ _ _ _ _ _ _ _=>clo n bs k a B c d s
 |_=>tpl []
noncomputable def ktp (i k:Nat):Obj:=match top i with
 | .Assign _ (.Tuple es _ _) _=>tpl (kons es k)
 |_=>tpl []
local macro_rules
 | `(#[0, $n:num, $x]) => `(List.cons (nat_lit $n, $x) List.nil)
 | `(#[0, $n:num, $x, $xs,*]) => `(List.cons (nat_lit $n, $x) #[0, $xs,*])
local macro_rules
 | `(#[0, ($i, $k, $a:num), $xs,*]) => let n (i : Nat) := Lean.Syntax.mkNumLit (toString (a.getNat + i - 1)); `(#[0, $(n 0),kfn $i $k $a, $a,kfu (dnm (top $i)) $i $(n 0) (top $i), $xs,*])
local macro_rules
 | `(#[0, ($y:str, $i, $n, $k, $a:num), $xs,*]) => let m (i : Nat) := Lean.Syntax.mkNumLit (toString (a.getNat + i - 1)); `(#[0, $(m 0),kme $y $i $n $k $a, $a,kfu $y $i $(m 0) (inClass (top $i) $n), $xs,*])
local macro_rules
 | `(#[0, {$P:term, $c:num, $i, $k, $a, $B, $s}, $xs,*]) => let n (i : Nat) := Lean.Syntax.mkNumLit (toString (c.getNat + i - 1)); `(#[0, $(n 0),kcl $P $c $i $k $a $B 0, $c,kco $i $k $a $B $c $(n 0) $s, $(n 2),kcl $P $c $i $k $a $B 2, $(n 3),kcl $P $c $i $k $a $B 3, $xs,*])
noncomputable def KU:Params->Frag:=fun P=>#[0,{P,31,2,196,22,BV,[.ref 51,.ref 70,.ref 89,.ref 101,.ref 120,.ref 132,.ref 151]},{P,51,3,214,35,(bx 31 BV),[]},("NoFrame.__init__",3,0,226,48),{P,70,4,239,54,(bx 31 BV),[]},("Spoilt.__init__",4,0,251,67),{P,89,5,264,73,(bx 31 BV),[]},("NoPiece.__init__",5,0,276,86),{P,101,6,289,92,(bx 31 BV),[]},{P,120,7,305,104,(bx 31 BV),[]},("NotWide.__init__",7,0,317,117),{P,132,8,330,123,(bx 31 BV),[]},{P,151,9,346,135,(bx 31 BV),[]},("NotNow.__init__",9,0,358,148),{P,311,43,531,260,BO,[]},("Meter.__init__",43,0,543,273),("Meter.known",43,1,551,280),("Meter.know_one",43,2,560,287),("Meter.half",43,3,567,294),("Meter.ran_out",43,4,574,301),("Meter.hurried",43,5,581,308),{P,381,49,624,330,BO,[]},("Ways.__init__",49,0,636,343),("Ways.measured",49,1,645,350),("Ways.next_spread",49,2,653,357),("Ways.next_smooth",49,3,663,364),("Ways.least_wait",49,4,671,371),("Ways.ran_out",49,5,679,378),{P,522,52,702,386,BO,[]},("Sender.__init__",52,0,714,399),("Sender.put",52,1,725,406),("Sender.many",52,2,733,413),("Sender.thing",52,3,740,420),("Sender.heard",52,4,748,427),("Sender.grow_base",52,5,762,434),("Sender.note_held",52,6,771,439),("Sender.newly_known",52,7,777,444),("Sender.known_above_base",52,8,783,449),("Sender.under_way",52,9,789,456),("Sender.thing_waits",52,10,796,463),("Sender.clock_is_out",52,11,803,470),("Sender.hurry_is_due",52,12,811,477),("Sender.new_may_go",52,13,818,484),("Sender.go",52,14,825,491),("Sender.set_clock",52,15,833,498),("Sender.go_again",52,16,841,505),("Sender.go_new",52,17,849,512),("Sender.ask_for_room",52,18,858,519),{P,585,54,888,527,BO,[.ref 620,.ref 660,.ref 700,.ref 733,.ref 766,.ref 792,.ref 818]},("State.name",54,0,900,540),("State.wish_begin",54,1,907,547),("State.wish_end",54,2,914,554),("State.may_put",54,3,921,561),("State.begun",54,4,928,568),("State.ended",54,5,935,575),("State.answered",54,6,942,582),{P,620,55,957,590,(bx 585 BO),[]},("Shut.name",55,0,969,603),("Shut.wish_begin",55,1,976,610),("Shut.begun",55,2,983,617),{P,660,56,994,623,(bx 585 BO),[]},("Calling.name",56,0,1006,636),("Calling.wish_end",56,1,1013,643),("Calling.may_put",56,2,1020,650),("Calling.begun",56,3,1027,657),{P,700,57,1038,663,(bx 585 BO),[]},("Open.name",57,0,1050,676),("Open.wish_end",57,1,1057,683),("Open.may_put",57,2,1064,690),("Open.ended",57,3,1071,697),{P,733,58,1082,703,(bx 585 BO),[]},("Left.name",58,0,1094,716),("Left.wish_end",58,1,1101,723),("Left.may_put",58,2,1108,730),{P,766,59,1119,736,(bx 585 BO),[]},("Leaving.name",59,0,1131,749),("Leaving.ended",59,1,1138,756),("Leaving.answered",59,2,1145,763),{P,792,60,1156,769,(bx 585 BO),[]},("Waiting.name",60,0,1168,782),("Waiting.ended",60,1,1175,789),{P,818,61,1186,795,(bx 585 BO),[]},("Closing.name",61,0,1198,808),("Closing.answered",61,1,1205,815),{P,870,63,1218,821,BO,[]},("Taker.__init__",63,0,1230,834),("Taker.room_left",63,1,1239,841),("Taker.take",63,2,1246,848),("Taker.stand_in_order",63,3,1257,855),("Taker.answer",63,4,1265,860),("Taker.read",63,5,1271,867),{P,989,70,1317,889,BO,[]},("Hand.__init__",70,0,1329,902),("Hand.name",70,1,1338,909),("Hand.begin",70,2,1345,916),("Hand.end",70,3,1352,923),("Hand.put",70,4,1359,930),("Hand.read",70,5,1368,937),("Hand.come",70,6,1378,944),("Hand.hear",70,7,1388,951),("Hand.take_in",70,8,1399,958),("Hand.stand_to",70,9,1410,965),("Hand.send",70,10,1418,972),("Hand.piece_of",70,11,1429,979),("Hand.quiet",70,12,1440,986),{P,1027,81,1498,1013,BO,[]},("Terms.__init__",81,0,1510,1024),(0,187,21),(11,375,160),(27,419,169),(28,427,176),(29,436,181),(30,442,188),(31,450,195),(32,458,202),(33,466,207),(34,472,214),(35,481,221),(36,488,228),(37,496,235),(38,503,242),(39,510,247),(40,516,252),(41,522,259),(45,602,322),(48,615,329),(68,1304,881),(69,1310,888),(72,1464,1000),(79,1484,1005),(80,1490,1012),(83,1531,1038),(84,1539,1045),(85,1549,1050),(86,1555,1057),(87,1566,1064),(88,1576,1069),(89,1582,1076),(90,1600,1083),(91,1621,1088),(92,1627,1095),(93,1634,1102),(94,1647,1109),(95,1661,1114),(96,1667,1121),161,ktp 13 386,162,ktp 15 394,875,ktp 66 1298,876,ktp 67 1301,2,boot_o_2 P,3,dct P (e5 P)]
noncomputable def p9:List Addr:=(KU {strHash:=fun _=>0,shareClass:=fun _=>0,mergeTok:=id,idOf:=fun _=>0,idOfShared:=fun _ _=>0,followText:=fun _=>true,idOfImm:=fun _=>0}).map (·.1)
theorem vN:∀P,p9=(KU P).map (·.1):=fun _=>by kernel_rfl
theorem Vn:(staticsOk (importedModules Et.main.body) (boot_heap w.params) (hfin w.params)&&namesBound Et (hfin w.params)&&gensDone (DQ w os)&&laidKept (boot_heap w.params) (hfin w.params))=true:=by kernel_rfl
theorem Q5 {α β i:Type} {f:α->i} {g:β->i} {l:List α} {m:List β} (k n:Nat) (h:((l.drop k).take n).map f=((m.drop k).take n).map g) (t:(l.drop (k+n)).map f=(m.drop (k+n)).map g):(l.drop k).map f=(m.drop k).map g:=by
 rw[<-List.take_append_drop n (l.drop k),<-List.take_append_drop n (m.drop k),Xh,Xh,h,List.drop_drop,List.drop_drop,t]
noncomputable abbrev Qb (w:PySem.World) (os:PySem.OsState):=openSeen b8 [] (importedModules Et.main.body) (fun s=>xlAt b8 [] s&&recOk Challenge.rw_slowroad_k68_whole_hands_on_any_road.row.records s) true (DQ w os)
theorem Ci (x:a=true) (y:b=true):(a&&b)=true:=by rw[x,y];rfl
noncomputable abbrev V8:List Str:=["KINDS","UNNUMBERED","BEGIN","END"]
theorem Q4:looseW b8 []=V8:=by kernel_rfl
theorem U7:(DQ w os).heap.keysOk V8 ((PyProof.Rows.recsOf b8).map (·.name)) ((PyProof.Rows.litsOf b8).map (·.1)) ((PyProof.Rows.clssOf b8 V8).map (·.name))=true:=by kernel_rfl
theorem U6:(DQ w os).heap.accountedOkI (importedModules Et.main.body)=true:=by kernel_rfl
theorem U5:(DQ w os).heap.isNs mainGlobals=true:=by kernel_rfl
theorem U4:(DQ w os).heap.isNs builtinsNs=true:=by kernel_rfl
theorem U3:PyProof.Rows.tablesOk b8 (DQ w os).heap=true:=by kernel_rfl
theorem U2:(fun s=>xlAt b8 [] s&&recOk Challenge.rw_slowroad_k68_whole_hands_on_any_road.row.records s) (DQ w os)=true:=by kernel_rfl
noncomputable abbrev Ft:=PyProof.Rows.plainsOf b8 V8
theorem Vj:((Ft.drop 0).take 3).map (fun c=>(DQ w os).heap.plainShapeAt c.withCmp)=((Ft.drop 0).take 3).map (fun c=>some c.withCmp.plainShape):=by kernel_rfl
theorem Vi:((Ft.drop 3).take 3).map (fun c=>(DQ w os).heap.plainShapeAt c.withCmp)=((Ft.drop 3).take 3).map (fun c=>some c.withCmp.plainShape):=by kernel_rfl
theorem Vh:(Ft.drop 6).map (fun c=>(DQ w os).heap.plainShapeAt c.withCmp)=(Ft.drop 6).map (fun c=>some c.withCmp.plainShape):=by kernel_rfl
theorem Vf:(Qb w os).1=PyProof.Rows.expectedOf b8:=by kernel_rfl
theorem Ve:(Qb w os).2.1=bltViewBooted:=by kernel_rfl
theorem Vd:(Qb w os).2.2.1=true:= .trans (by kernel_rfl) (Ci (Ci (Ci (Ci (Ci (Ci ((Xm (fun l=>(DQ w os).heap.keysOk l ((PyProof.Rows.recsOf b8).map (·.name)) ((PyProof.Rows.litsOf b8).map (·.1)) ((PyProof.Rows.clssOf b8 l).map (·.name))=true) Q4).mpr (U7 w os)) (U6 w os)) (U5 w os)) (U4 w os)) (U3 w os)) (U2 w os)) (.refl true))
theorem Vc:(Qb w os).2.2.2.1=true:=by kernel_rfl
theorem Vb:(Qb w os).2.2.2.2.1=pinGoodD (PyProof.Rows.drecsOf b8):=by kernel_rfl
theorem Vg:Ft.map (fun c=>(DQ w os).heap.plainShapeAt c.withCmp)=Ft.map (fun c=>some c.withCmp.plainShape):= .trans (by kernel_rfl) (.trans (Q5 0 3 (Vj w os) (Q5 3 3 (Vi w os) (Vh w os))) (by kernel_rfl))
theorem Va:(Qb w os).2.2.2.2.2.1=PyProof.Rows.plainGoodE b8 (looseW b8 []):= .trans (by kernel_rfl) (.trans ((Xm (fun l=>(PyProof.Rows.plainsOf b8 l).map (fun c=>(DQ w os).heap.plainShapeAt c.withCmp)=(PyProof.Rows.plainsOf b8 l).map (fun c=>some c.withCmp.plainShape)) Q4).mpr (Vg w os)) (by kernel_rfl))
theorem U_:(Qb w os).2.2.2.2.2.2.1=PyProof.Rows.plainGoodD b8 []:=by kernel_rfl
theorem U9:(Qb w os).2.2.2.2.2.2.2.1=wideGood b8:=by kernel_rfl
theorem U8:(Qb w os).2.2.2.2.2.2.2.2=clsGoodW b8 []:=by kernel_rfl
theorem yp {α β:Type} {p:α×β} {a:α} {b:β} (h:p.1=a) (t:p.2=b):p=(a,b):=by cases p;cases h;cases t;rfl
theorem Vm:openSeen b8 [] (importedModules Et.main.body) (fun s=>xlAt b8 [] s&&recOk Challenge.rw_slowroad_k68_whole_hands_on_any_road.row.records s) true (DQ w os)=openGood b8 []:= .trans (by kernel_rfl) (.trans (yp (Vf w os) (yp (Ve w os) (yp (Vd w os) (yp (Vc w os) (yp (Vb w os) (yp (Va w os) (yp (U_ w os) (yp (U9 w os) (U8 w os))))))))) (by kernel_rfl))
noncomputable def Nm (o:Option Obj):Option Obj:=match o with
 |some ⟨_,_,.freed,_⟩=>none
 |o=>o
theorem Vp (P:Params):(hfin P).get?=(fun a=>Nm (if a<1122 then some (((tre P (e5 P)).get a).getD default) else none)):=funext fun a=>show Nm _=_ by rw[show(hfin P).objs[a]?=_ from absHeap_at _ 1122 _ a]
theorem Vk (P:Params):p9.map (fun a=>Nm (if a<1122 then some (((tre P (e5 P)).get a).getD default) else none))=(KU P).map (fun p=>some p.2):=by kernel_rfl
theorem Vl:(kHook KU p9 vN).obs (DQ w os)=(kHook KU p9 vN).val w:= .trans (by kernel_rfl) (.trans ((Xm (fun f=>p9.map f=(KU w.params).map (fun p=>some p.2)) (Vp w.params)).mpr (Vk w.params)) (by kernel_rfl))
theorem Vo:∀w:World,Option.map (fun s=>(openSeen b8 [] (importedModules Et.main.body) (fun s=>xlAt b8 [] s&&recOk Challenge.rw_slowroad_k68_whole_hands_on_any_road.row.records s) true s,(kHook KU p9 vN).obs s)) (openEnds treeTable Et w 20000)=some (openGood b8 [],(kHook KU p9 vN).val w):=LeftO.of_pieces (H₀:=boot_heap) (H₁:=hfin) Qa P9 SO (by decide) (fun w=>funext fun os=>looks_pair (Vn w os) (looks_pair (Vm w os) (Vl w os)))
end
end
mutual
def tX:Sp|vs,H,Q,E=>zqi vs fun v vs=>zqi vs fun l vs=>zqi vs fun h vs=>zqn vs (Q (.bl (fu v l h)) H)
def tW:Sp|vs,H,Q,E=>zqr vs fun h vs=>zqn vs ( ∃hs:List Int,H h=some (.tup (hs.map V.int))/\hs.length<=1000/\Q (.bl (Held.eX 0 hs)) H)
def ox:Sp|vs,H,Q,E=>zqs vs fun k vs=>zqs vs fun sg vs=>zqn vs (sg.length<=1000/\∀H',aE H H'->Q (.bl (qP k sg)) H')
def qJ:Sp|vs,H,Q,E=>zqr vs fun t vs=>zqn vs ( ∃k n a r hs i,pJ H t k n a r hs i/\∀H',aE H H'->Q (.bl (cB k n a r hs i)) H')
def ou:Sp|vs,H,Q,E=>zqi vs fun n vs=>zqn vs ((0<=n/\n<2 ^ 400)/\Q (.int (Rem.R n.toNat:Nat)) H)
def fX:Sp|vs,H,Q,E=>zqr vs fun e vs=>zqv vs fun v vs=>zqn vs (H e=some (.ext (tI e aS none))/\∀d,H d=none->Q .non (upd (upd H d (.xd [("frame",v)])) e (.ext (tI e aS (some d)))))
def gI:Sp|vs,H,Q,E=>zqr vs fun e vs=>zqv vs fun v vs=>zqn vs (H e=some (.ext (tI e ba none))/\∀d,H d=none->Q .non (upd (upd H d (.xd [("frame",v)])) e (.ext (tI e ba (some d)))))
def fW:Sp|vs,H,Q,E=>zqr vs fun e vs=>zqv vs fun v vs=>zqn vs (H e=some (.ext (tI e aG none))/\∀d,H d=none->Q .non (upd (upd H d (.xd [("what",v)])) e (.ext (tI e aG (some d)))))
def jC:Sp|vs,H,Q,E=>zqr vs fun h vs=>zqn vs ( ∃hs:List Int,H h=some (.tup (hs.map V.int))/\Held.eX 0 hs=true/\hs.length<=1000/\∀H',aE H H'->Q (.int (fM hs:Nat)) H')
def iP:Sp|vs,H,Q,E=>zqs vs fun i vs=>zqn vs ((i.length<=4/\∀c∈i.cps.toList,c∈sgl)/\Q (.int (Jz i:Nat)) H)
def tZ:Sp|vs,H,Q,E=>zqr vs fun t vs=>zqn vs ( ∃k n a r hs i,pJ H t k n a r hs i/\pK k n a r hs i/\∀H',aE H H'->Q (.int (fO k n a r hs i:Nat)) H')
def tS:Sp|vs,H,Q,E=>zqr vs fun t vs=>zqn vs ( ∃k n a r hs i,pJ H t k n a r hs i/\(cB k n a r hs i=true->∀H',aE H H'->Q (.int (iy k n a r hs i:Nat)) H')/\(cB k n a r hs i=false->∀H' d,aE H H'->H' d=some (.xd [("what",.ref t)])->E (.ref aG) (some d) H'))
noncomputable def sgc (c:Nat):Str:=if c<94 then⟨#[sgl.getD c 0]⟩ else "\n"
noncomputable def lK (b:Nat):List Str:=[sgc (b / 2097152 % 128),sgc (b / 16384 % 128),sgc (b / 128 % 128),sgc (b % 128)]
noncomputable def qu (b:Nat):Str:=if b / 9223372036854775808<5 then kinds.getD (b / 9223372036854775808) "" else ""
noncomputable def Es (b:Nat):Int:=(b / 144115188075855872 % 64:Nat)
noncomputable def Kw (b:Nat):Int:=(b / 2251799813685248 % 64:Nat)
noncomputable def Ov (b:Nat):Int:=(b / 70368744177664 % 32:Nat)
noncomputable def hbit (b:Nat) (s:Int):Bool:=decide (b / 2147483648 / 2 ^ (s-1).toNat % 2=1)
noncomputable def uI (b:Nat):List Int:=Held.ones.filter (hbit b)
noncomputable def B9 (b:Nat):Str:=Txt.slice (Txt.join "" (lK b)) none (some ((b / 268435456 % 8:Nat):Int))
theorem rZ {x:Nat}:Builtin.bitAnd (x:Int) ((2 ^ k-1:Nat):Int)=((x % 2 ^ k:Nat):Int):=by
 rw[BitI.Jf,Nat.and_two_pow_sub_one_eq_mod]
theorem Rc {x:Nat}:Builtin.bitAnd (x:Int) 63=((x % 64:Nat):Int):=rZ (k:=6)
theorem VR {x:Nat}:Builtin.bitAnd (x:Int) 31=((x % 32:Nat):Int):=rZ (k:=5)
theorem WN {x:Nat}:Builtin.bitAnd (x:Int) 7=((x % 8:Nat):Int):=rZ (k:=3)
theorem TN {x:Nat}:Builtin.bitAnd (x:Int) 127=((x % 128:Nat):Int):=rZ (k:=7)
theorem WO {x:Nat}:Builtin.bitAnd (x:Int) 1=((x % 2:Nat):Int):=rZ (k:=1)
theorem K8 (b:Nat):((lK b).map (·.length)).sum=4:=by
 have e:∀c,(sgc c).length=1:=fun c=>by unfold sgc;split<;>rfl
 unfold lK;simp[e]
theorem Fm (b:Nat):(Txt.join "" (lK b)).length=4:=by
 have e:∀c,∃x,sgc c=⟨#[x]⟩:=fun c=>by unfold sgc;split;exact⟨_,rfl⟩;exact⟨10,rfl⟩
 unfold lK;obtain⟨v,e1⟩:=e _;obtain⟨i,e2⟩:=e _;obtain⟨q,e3⟩:=e _;obtain⟨u,e4⟩:=e _;rw[e1,e2,e3,e4];rfl
theorem IB (b:Nat):(uI b).length<=15:=fv (j0 _ _) (by decide)
noncomputable def rl (f:Nat):Bool:=cB (qu (f / 256)) (Es (f / 256)) (Kw (f / 256)) (Ov (f / 256)) (uI (f / 256)) (B9 (f / 256))&&decide (iy (qu (f / 256)) (Es (f / 256)) (Kw (f / 256)) (Ov (f / 256)) (uI (f / 256)) (B9 (f / 256))=f)
def Of (H:Hp) (t:Addr) (b:Nat):Prop:=pJ H t (qu b) (Es b) (Kw b) (Ov b) (uI b) (B9 b)
def qK:Sp|vs,H,Q,E=>zqi vs fun f vs=>zqn vs (Q (.bl (decide (0<=f/\f<18889465931478580854784))) H)
def tT:Sp|vs,H,Q,E=>zqi vs fun c vs=>zqn vs (0<=c/\Q (.str (sgc c.toNat)) H)
def qI:Sp|vs,H,Q,E=>zqi vs fun b vs=>zqn vs (0<=b/\∀H',aE H H'->Q (.str (Txt.join "" (lK b.toNat))) H')
def tU:Sp|vs,H,Q,E=>zqi vs fun c vs=>zqn vs (0<=c/\Q (.str (if c.toNat<5 then kinds.getD c.toNat "" else "")) H)
def tY:Sp|vs,H,Q,E=>zqi vs fun b vs=>zqn vs (0<=b/\∀h H',aE H H'->H' h=some (.tup ((Held.ones.filter fun s=>decide (b.toNat / 2 ^ (s-1).toNat % 2=1)).map V.int))->Q (.ref h) H')
def jB:Sp|vs,H,Q,E=>zqi vs fun b vs=>zqn vs (0<=b/\∀t H',aE H H'->Of H' t b.toNat->Q (.ref t) H')
def CU:Sp|vs,H,Q,E=>zqi vs fun f vs=>zqn vs ((¬(0<=f/\f<18889465931478580854784)->∀H' d,aE H H'->H' d=some (.xd [("frame",.int f)])->E (.ref aS) (some d) H')/\(0<=f/\f<18889465931478580854784->Rem.R f.toNat≠0->∀H' d,aE H H'->H' d=some (.xd [("frame",.int f)])->E (.ref ba) (some d) H')/\(0<=f/\f<18889465931478580854784->Rem.R f.toNat=0->rl f.toNat=false->∀H' d,aE H H'->H' d=some (.xd [("what",.int f)])->E (.ref aG) (some d) H')/\(0<=f/\f<18889465931478580854784->Rem.R f.toNat=0->rl f.toNat=true->∀t H',aE H H'->Of H' t (f.toNat / 256)->Q (.ref t) H'))
theorem J6 (h:a<=b):(2:Nat) ^ b=2 ^ a*2 ^ (b-a):=by rw[<-Yv];congr 1;lia
theorem Cf:∀{hs:List Int} {l:Nat},Held.eX (l:Int) hs=true->(∃m,fM hs=m*2 ^ l)/\∀s:Nat,l<s->(((s:Int)∈hs)↔fM hs / 2 ^ (s-1) % 2=1)
 | [],l,_=>⟨⟨0,by simp[fM]⟩,fun s _=>by simp[fM]⟩
 |x::xs,l,h=>by
  unfold Held.eX at h;rw[h8,h8,eu,eu] at h;obtain⟨⟨h1,E⟩,v⟩:=h;obtain⟨j,rfl⟩:∃j:Nat,x=((j+1:Nat):Int):=⟨(x-1).toNat,by lia⟩;obtain⟨⟨m,hm⟩,z⟩:=Cf (hs:=xs) (l:=j+1) v;have e:fM (((j+1:Nat):Int)::xs)=2 ^ j+m*2 ^ (j+1):=by
   rw[<-hm];unfold fM;rw[Xr,List.sum_cons];congr 2;lia
  have C:l<=j:=by lia
  have big:∀y∈xs,((j+1:Nat):Int)<y:=fun y hy=>by
   have:=(Held.nP.mp v).2 y hy;lia
  have u:(2:Nat) ^ (j+1)=2*2 ^ j:=by lia
  refine⟨⟨2 ^ (j-l)+m*2 ^ (j+1-l),?_⟩,fun s hs=>?_⟩
  ·rw[e,Nat.add_mul,<-Yv,X6,<-Yv];congr 2
   ·simp_all
   ·congr 1;lia
  ·rw[e];rcases Nat.lt_trichotomy s (j+1) with c|c|c
   ·have ev:(2 ^ j+m*2 ^ (j+1)) / 2 ^ (s-1) % 2=0:=by
     have e1:(2:Nat) ^ j=2 ^ (s-1)*(2*2 ^ (j-s)):=by
      rw[show(2:Nat)*2 ^ (j-s)=2 ^ (j-s+1) by rw[Yz];lia,<-Yv];congr 1;lia
     have e2:2 ^ j+m*2 ^ (j+1)=2 ^ (s-1)*(2*(2 ^ (j-s)+m*(2*2 ^ (j-s)))):=by
      rw[u,e1];generalize(2:Nat) ^ (s-1)=A;generalize(2:Nat) ^ (j-s)=B;rw[Nat.mul_add,Nat.mul_add];congr 1;rw[<-X6 m,XS (m*2),X6 A,XS m 2];simp only[X6,XS,Nat.mul_left_comm]
     rw[e2,Nat.mul_div_cancel_left _ (zT _),Nat.mul_mod_right]
    constructor
    ·intro i;rcases cR.mp i with q|q
     ·lia
     ·have:=big _ q;lia
    ·intro q;lia
   ·subst c;have e2:(2 ^ j+m*2 ^ (j+1)) / 2 ^ (j+1-1) % 2=1:=by
     rw[u,show j+1-1=j by lia,show 2 ^ j+m*(2*2 ^ j)=(1+2*m)*2 ^ j by rw[Nat.add_mul,Nat.one_mul];simp only[X6,XS,Nat.mul_left_comm],Nat.mul_div_cancel _ (zT _)];lia
    exact⟨fun _=>e2,fun _=>by simp⟩
   ·have e2:(2 ^ j+m*2 ^ (j+1)) / 2 ^ (s-1)=fM xs / 2 ^ (s-1):=by
     rw[hm,J6 (show j+1<=s-1 by lia),<-Nat.div_div_eq_div_mul,<-Nat.div_div_eq_div_mul,Nat.mul_div_cancel _ (zT _)];congr 1;rw[Nat.add_mul_div_right _ _ (zT _),Nat.div_eq_of_lt (by rw[u];have:=zT j;lia),Nat.zero_add]
    rw[e2,<-z s (by lia)];constructor
    ·intro i;rcases cR.mp i with q|q
     ·lia
     ·exact q
    ·intro q;exact hQ _ q
theorem Jc (q:i<15):(X*32768+h) / 2 ^ i % 2=h / 2 ^ i % 2:=by
 have e:X*32768=2 ^ i*(2*(X*2 ^ (14-i))):=by
  have:(32768)=2 ^ i*(2*2 ^ (14-i)):=by
   rw[<-Nat.pow_succ',<-Yv,show i+(14-i+1)=15 by lia]
  rw[this];simp only[Nat.mul_left_comm]
 rw[e,Nat.add_comm,Nat.add_mul_div_left _ _ (zT _),Nat.add_mul_mod_self_left]
theorem KS (h:Held.eX 0 hs=true):(Held.ones.filter fun s=>decide ((X*32768+fM hs) / 2 ^ (s-1).toNat % 2=1))=hs:=by
 obtain⟨h1,v⟩:=Held.nP.mp h;have u:=(Cf (l:=0) (‹_›)).2;refine Held.zY (Held.yi.filter _) h1 fun z=>?_;rw[R1,Held.Ff,eu];constructor
 ·rintro⟨i,q⟩;obtain⟨s,rfl⟩:∃s:Nat,z=(s):=⟨z.toNat,by lia⟩;rw[u s (by lia)];rw[show((s:Int)-1).toNat=s-1 by lia] at q;rw[Jc (by lia)] at q;exact q
 ·intro i;have x:=v z i;refine⟨‹_›,?_⟩;obtain⟨s,rfl⟩:∃s:Nat,z=(s):=⟨z.toNat,by lia⟩;rw[show((s:Int)-1).toNat=s-1 by lia,Jc (by lia)];exact(u s (by lia)).mp i
theorem zC (h:c∈sgl):sgc (sgn c)=⟨#[c]⟩:=by
 obtain⟨_,q,i⟩:=ml h;unfold sgc;rw[bc q,Xl,i];rfl
theorem UT:Txt.join "" [⟨#[a]⟩,⟨#[b]⟩,⟨#[c]⟩,⟨#[d]⟩]=⟨#[a,b,c,d]⟩:=rfl
theorem LM {n:Nat} (h:n<=z.length):Txt.slice z none (some (n:Int))=⟨(z.cps.toList.take n).toArray⟩:=by
 have hl:z.cps.toList.length=z.length:=rfl;have e:=StrLaws.sliceText_to (x:=z) (j:=(n)) ⟨by lia,by lia⟩;exact e
theorem dg0 {x y m:Nat} (h:y<m):(x*m+y)/m=x/\(x*m+y)%m=y:=⟨by rw[Nat.mul_comm,Nat.mul_add_div (Nat.zero_lt_of_lt h),Nat.div_eq_of_lt h,Nat.add_zero],by rw[Nat.mul_comm,Nat.mul_add_mod,Nat.mod_eq_of_lt h]⟩
theorem dg1 {B x y z m k:Nat} (e:B/k=x*m+y) (h:y<m) (c:z=k*m):B/z=x/\B/k%m=y:=by
 rw[c,<-Nat.div_div_eq_div_mul,e];exact dg0 h
theorem dgs {B k n a r f l x v i u:Nat} (h:n<64/\a<64/\r<32/\f<32768/\l<8/\x<128/\v<128/\i<128/\u<128) (e:B=(((((k*64+n)*64+a)*32+r)*32768+f)*8+l)*268435456+(((x*128+v)*128+i)*128+u)):
 (B/9223372036854775808=k/\B/144115188075855872%64=n/\B/2251799813685248%64=a/\B/70368744177664%32=r/\B/2147483648=(((k*64+n)*64+a)*32+r)*32768+f)/\B/268435456%8=l/\B/2097152%128=x/\B/16384%128=v/\B/128%128=i/\B%128=u:=by
 obtain⟨h1,h2,h3,h4,h5,h6,h7,h8,h9⟩:=h
 have e0:B/1=((((((((k*64+n)*64+a)*32+r)*32768+f)*8+l)*128+x)*128+v)*128+i)*128+u:=by rw[Nat.div_one,e];grind
 have q1:=dg1 (z:=128) e0 h9 rfl
 have q2:=dg1 (z:=16384) q1.1 h8 rfl
 have q3:=dg1 (z:=2097152) q2.1 h7 rfl
 have q4:=dg1 (z:=268435456) q3.1 h6 rfl
 have q5:=dg1 (z:=2147483648) q4.1 h5 rfl
 have q6:=dg1 (z:=70368744177664) q5.1 h4 rfl
 have q7:=dg1 (z:=2251799813685248) q6.1 h3 rfl
 have q8:=dg1 (z:=144115188075855872) q7.1 h2 rfl
 have q9:=dg1 (z:=9223372036854775808) q8.1 h1 rfl
 exact⟨⟨q9.1,q9.2,q8.2,q7.2,q5.1⟩,q5.2,q4.2,q3.2,q2.2,by have:=q1.2;rwa[Nat.div_one] at this⟩
theorem IA (p:pK k n a r hs sg):qu (fO k n a r hs sg)=k/\Es (fO k n a r hs sg)=n/\Kw (fO k n a r hs sg)=a/\Ov (fO k n a r hs sg)=r/\uI (fO k n a r hs sg)=hs/\B9 (fO k n a r hs sg)=sg:=by
 have pb:=p.parts;have C:=DM p.hk;obtain⟨q,z⟩:=p.pad;obtain⟨x,v,i,u,hc⟩:∃x v i u,sF sg= [x,v,i,u]:=by
  match h:sF sg,z with
  | [x,v,i,u],_=>exact⟨x,v,i,u,rfl⟩
 have m1:=q x (by simp_all);have E:=q v (by simp_all);have G:=q i (by simp_all);have F:=q u (by simp_all);have s1:=(ml m1).2.1;have s2:=(ml E).2.1;have s3:=(ml G).2.1;have O:=(ml F).2.1;have es:Jz sg=((sgn x*128+sgn v)*128+sgn i)*128+sgn u:=by
  unfold Jz;rw[hc];simp[Bf]
 obtain⟨b1,W,Y,P,U,Z,X⟩:=pb;have y:=C.2;have I:kinds.getD (kidx k) "" = k:=by rw[Xl,C.1.1];rfl
 have D:=dgs (B:=fO k n a r hs sg) (k:=kidx k) (n:=n.toNat) (a:=a.toNat) (r:=r.toNat) (f:=fM hs) (l:=sg.length) (x:=sgn x) (v:=sgn v) (i:=sgn i) (u:=sgn u) ⟨‹_›,‹_›,‹_›,‹_›,‹_›,by omega,by omega,by omega,by omega⟩ (by rw[<-es];rfl);refine⟨?_,?_,?_,?_,?_,?_⟩
 ·unfold qu;rw[D.1.1,bc y,I]
 ·unfold Es;rw[D.1.2.1];exact Int.toNat_of_nonneg p.n0.1
 ·unfold Kw;rw[D.1.2.2.1];exact Int.toNat_of_nonneg p.a0.1
 ·unfold Ov;rw[D.1.2.2.2.1];exact Int.toNat_of_nonneg p.r0.1
 ·unfold uI hbit;rw[D.1.2.2.2.2];exact KS p.hh
 ·unfold B9 lK;obtain⟨_,e5,e1,e2,e3,e4⟩:=D
  rw[e1,e2,e3,e4,e5,zC m1,zC E,zC G,zC F,UT,LM (by show sg.length<=4;exact p.hl)];have H:([x,v,i,u]:List Nat).take sg.length=sg.cps.toList:=by
   rw[<-hc];unfold sF;have:sg.length=sg.cps.toList.length:=by simp[Str.length]
   rw[this,List.take_left]
  show(⟨(([x,v,i,u]:List Nat).take sg.length).toArray⟩:Str)=sg;rw[H]
theorem KZ (h:cB k n a r hs sg=true):rl (iy k n a r hs sg)=true/\iy k n a r hs sg / 256=fO k n a r hs sg:=by
 have e:iy k n a r hs sg / 256=fO k n a r hs sg:=by
  rw[Cj];have:=Rem.F7 (fO k n a r hs sg*256);lia
 refine⟨?_,e⟩;unfold rl;rw[e];obtain⟨h1,v,i,u,x,q⟩:=IA (qX h);rw[h1,v,i,u,x,q,h,pd,eT rfl]
theorem nR:fu v l h=true↔l<=v/\v<=h:=by
 unfold fu;rw[h8,eu,eu]
theorem DT (c:l<=v/\v<=h):fu v l h=true:=nR.mpr c
theorem Qe (c: ¬(l<=v/\v<=h)):fu v l h=false:=by
 cases e:fu v l h
 ·rfl
 ·exact absurd (nR.mp e) c
noncomputable def j8 (r l:Int):Int:=if r=1 then 2+l / 2 else 2*r+l-1
noncomputable def pB (o t g:Int):Int:=if j8 o g<j8 t g then j8 t g else j8 o g
def good (r o t g f l:Int):Prop:=(2<=r/\r<=64)/\((1<=o/\o<=16)/\(1<=t/\t<=16))/\(1<=g/\g<=32)/\(2<=l/\l<=64)/\(2<=f/\f<=l)
def CV:Sp|vs,H,Q,E=>zqi vs fun r vs=>zqi vs fun l vs=>zqn vs (Q (.int (j8 r l)) H)
def oy:Sp|vs,H,Q,E=>zqr vs fun p vs=>zqn vs ( ∃o t,H p=some (.tup [.int o,.int t])/\∀H',aE H H'->Q (.bl (decide ((1<=o/\o<=16)/\(1<=t/\t<=16)))) H')
def ow:Sp|vs,H,Q,E=>zqi vs fun f vs=>zqi vs fun l vs=>zqn vs (Q (.bl (decide ((2<=l/\l<=64)/\2<=f/\f<=l))) H)
def g_:Sp|vs,H,Q,E=>zqr vs fun x vs=>zqi vs fun r vs=>zqr vs fun p vs=>zqi vs fun g vs=>zqi vs fun f vs=>zqi vs fun l vs=>zqn vs ( ∃o t dx,H p=some (.tup [.int o,.int t])/\H x=some (.ins fK dx [])/\good r o t g f l/\¬r<pB o t g/\∀H',jf x H H'->H' x=some (.ins fK dx (nT (.int r) (.ref p) (.int g) (.int f) (.int l)))->Q .non H')
def hU:Sp|vs,H,Q,E=>zqr vs fun p vs=>zqi vs fun m vs=>zqn vs ( ∃dx,H p=some (.ins aK dx [])/\Q .non (upd H p (.ins aK dx (aV (.int m) (.int (MeterM.mn 2 m)) (.int m) (.int 0)))))
def hJ:Sp|vs,H,Q,E=>zqr vs fun p vs=>zqn vs ( ∃dx m w k c,H p=some (.ins aK dx (aV (.int m) (.int w) (.int k) (.int c)))/\Q .non (upd H p (.ins aK dx (aV (.int m) (.int (MeterM.k1 m k (w,c)).1) (.int k) (.int (MeterM.k1 m k (w,c)).2)))))
def kN:Sp|vs,H,Q,E=>zqr vs fun p vs=>zqi vs fun n vs=>zqn vs ((0<=n/\n<1000)/\∃dx m w k c,H p=some (.ins aK dx (aV (.int m) (.int w) (.int k) (.int c)))/\Q .non (upd H p (.ins aK dx (aV (.int m) (.int (MeterM.kn m k n.toNat (w,c)).1) (.int k) (.int (MeterM.kn m k n.toNat (w,c)).2)))))
def mU:Sp|vs,H,Q,E=>zqr vs fun p vs=>zqn vs ( ∃dx m w k c,H p=some (.ins aK dx (aV (.int m) (.int w) (.int k) (.int c)))/\Q (.int (MeterM.hf w)) H)
def iS:Sp|vs,H,Q,E=>zqr vs fun p vs=>zqn vs ( ∃dx m w k c,H p=some (.ins aK dx (aV (.int m) (.int w) (.int k) (.int c)))/\Q .non (upd H p (.ins aK dx (aV (.int m) (.int 1) (.int (MeterM.hf w)) (.int 0)))))
def iT:Sp|vs,H,Q,E=>zqr vs fun p vs=>zqn vs ( ∃dx m w k c,H p=some (.ins aK dx (aV (.int m) (.int w) (.int k) (.int c)))/\Q .non (upd H p (.ins aK dx (aV (.int m) (.int (MeterM.hf w)) (.int (MeterM.hf w)) (.int 0)))))
structure Wb (a A b B m:Int):Prop where
 m0:0<=m
 m1:m<=1000000
 a0:0<=a
 A0:0<A
 b0:0<=b
 B0:0<B
 a1:Bd 1000 a
 A1:Bd 1000 A
 b1:Bd 1000 b
 B1:Bd 1000 B
def CK (aX:Addr) (H:Hp) (p dx:Addr) (L w a A b B:Int):Prop:= ∃q i,H p=some (.ins aX dx (bO (.int L) (.ref q) (.ref i) (.int w)))/\H q=some (.tup [.int a,.int A])/\H i=some (.tup [.int b,.int B])
noncomputable abbrev nsp:=WaysM.nsp
noncomputable abbrev nsm:=WaysM.nsm
noncomputable def lw (a A b B:Int):Int:=-(-(a*B+4*b*A) / (A*B))
noncomputable def wt (L a A b B:Int):Int:=if 2<(if lw a A b B<L then lw a A b B else L) then(if lw a A b B<L then lw a A b B else L) else 2
theorem Wb.mB (W:Wb a A b B m):Bd 20 m:=Bd.of W.m0 (by have:=W.m1;lia)
theorem Wb.UO (W:Wb a A b B m):0<=3*a+m*A/\0<4*A:=by
 have:=xB W.m0 (ko W.A0);have:=W.a0;have:=W.A0;lia
theorem Wb.UN (W:Wb a A b B m):0<=3*b*A+((a-m*A).natAbs:Int)*B/\0<4*(A*B):=by
 have p1:=Int.mul_pos W.A0 W.B0;have:=xB (xB (show(0)<=3 by decide) W.b0) (ko W.A0);have:=xB (Ye (a-m*A).natAbs) (ko W.B0);lia
theorem Wb.WC (W:Wb a A b B m):0<=(nsm a A m).1/\0<(nsm a A m).2/\Bd 2000 (nsm a A m).1/\Bd 2000 (nsm a A m).2:=by
 obtain⟨s,Lo⟩:=WaysM.nN W.UO.1 W.UO.2;have h1:=(((Bd.c (k:=3) (by decide)).mul W.a1).up (show 2+1000<=1020 by decide)).add (W.mB.mul W.A1);exact⟨Lo.t0,Lo.b0,(h1.le Lo.t0 Lo.tl).up (by decide),(Bd.le ((Bd.c (n:=3) (by decide)).mul W.A1) (ko Lo.b0) Lo.bl).up (by decide)⟩
theorem Wb.WB (W:Wb a A b B m):0<=(nsp a A b B m).1/\0<(nsp a A b B m).2/\Bd 3000 (nsp a A b B m).1/\Bd 3000 (nsp a A b B m).2:=by
 obtain⟨s,Lo⟩:=WaysM.nN W.UN.1 W.UN.2;have d:=((W.a1.up (show 1000<=1020 by decide)).sub (W.mB.mul W.A1)).abs;have h1:=((((Bd.c (k:=3) (by decide)).mul W.b1).mul W.A1).up (show 2+1000+1000<=2021 by decide)).add (d.mul W.B1);exact⟨Lo.t0,Lo.b0,(h1.le Lo.t0 Lo.tl).up (by decide),(Bd.le ((Bd.c (n:=3) (by decide)).mul (W.A1.mul W.B1)) (ko Lo.b0) Lo.bl).up (by decide)⟩
theorem Wb.of (h:WaysM.St n P S D a A b B) (hn:n<=440) (h0:0<=m) (h1:m<=1000000):Wb a A b B m:=by
 have e:(4) ^ n=((2 ^ (2*n):Nat):Int):=by rw[WaysM.vQ];simp
 have i:Bd 881 P:=by rw[h.p,e];exact Bd.c (Nat.pow_lt_pow_right (by decide) (by lia))
 have q:=Bd.le ((Bd.c (n:=20) (by decide)).mul i) h.s0 h.s1;have hD:=Bd.le ((Bd.c (n:=21) (by decide)).mul i) h.d0 h.d1;exact⟨h0,h1,h.a0,h.A0,h.b0,h.B0,(q.le h.a0 h.a1).up (by decide),(i.le (ko h.A0) h.A1).up (by decide),(hD.le h.b0 h.b1).up (by decide),(Bd.le ((Bd.c (n:=2) (by decide)).mul i) (ko h.B0) h.B1).up (by decide)⟩
def wL:Sp|vs,H,Q,E=>zqi vs fun t vs=>zqi vs fun b vs=>zqn vs ((0<=t/\0<b/\Bd 8000 b)/\∀p,H p=none->Q (.ref p) (upd H p (.tup [.int (WaysM.low t b).1,.int (WaysM.low t b).2])))
def iQ:Sp|vs,H,Q,E=>zqr vs fun p vs=>zqi vs fun f vs=>zqi vs fun l vs=>zqn vs ( ∃dx,H p=some (.ins aX dx [])/\Q .non (upd H p (.ins aX dx (bO (.int l) .non .non (.int f)))))
def fP:Sp|vs,H,Q,E=>zqr vs fun p vs=>zqi vs fun m vs=>zqn vs ( ∃dx L w a A b B,Wb a A b B m/\CK aX H p dx L w a A b B/\∀q,H q=none->Q (.ref q) (upd H q (.tup [.int (nsp a A b B m).1,.int (nsp a A b B m).2])))
def fQ:Sp|vs,H,Q,E=>zqr vs fun p vs=>zqi vs fun m vs=>zqn vs ( ∃dx L s i w a A,(0<=m/\m<=1000000/\0<=a/\0<A/\Bd 1000 A)/\H p=some (.ins aX dx (bO (.int L) (.ref i) s (.int w)))/\H i=some (.tup [.int a,.int A])/\∀q,H q=none->Q (.ref q) (upd H q (.tup [.int (nsm a A m).1,.int (nsm a A m).2])))
def gG:Sp|vs,H,Q,E=>zqr vs fun p vs=>zqn vs ( ∃dx L w a A b B,(0<A/\0<B/\Bd 2000 a/\Bd 2000 A/\Bd 3000 b/\Bd 3000 B)/\CK aX H p dx L w a A b B/\Q (.int (lw a A b B)) H)
def fw (aX:Addr):Sp|vs,H,Q,E=>zqr vs fun p vs=>zqi vs fun m vs=>zqn vs ((0<=m/\m<=1000000)/\((∃dx L w,H p=some (.ins aX dx (bO (.int L) .non .non (.int w)))/\∀H',jf p H H'->CK aX H' p dx L (wt L m 1 (WaysM.low m 2).1 (WaysM.low m 2).2) m 1 (WaysM.low m 2).1 (WaysM.low m 2).2->Q .non H')\/(∃dx L w a A b B,Wb a A b B m/\CK aX H p dx L w a A b B/\∀H',jf p H H'->CK aX H' p dx L (wt L (nsm a A m).1 (nsm a A m).2 (nsp a A b B m).1 (nsp a A b B m).2) (nsm a A m).1 (nsm a A m).2 (nsp a A b B m).1 (nsp a A b B m).2->Q .non H')))
def jE:Sp|vs,H,Q,E=>zqr vs fun p vs=>zqn vs ( ∃dx L s sp w,H p=some (.ins aX dx (bO (.int L) s sp (.int w)))/\Q .non (upd H p (.ins aX dx (bO (.int L) s sp (.int (if L<2*w then L else 2*w))))))
noncomputable abbrev Wg:=Option (Int×Int×Int×Int)
def WS (C:Addr) (H:Hp) (p dx:Addr) (L w:Int) (g:Wg) (k:Nat):Prop:=2<=L/\(2<=w/\w<=L)/\((k=0/\g=none/\H p=some (.ins C dx (bO (V.int L) V.non V.non (V.int w))))\/∃n P S D a A b B,g=some (a,A,b,B)/\n+1=k/\WaysM.St n P S D a A b B/\CK C H p dx L w a A b B)
noncomputable def mgs (g:Wg) (m:Int):Wg:=match g with
 |none=>some (m,1,(WaysM.low m 2).1,(WaysM.low m 2).2)
 |some (a,A,b,B)=>some ((nsm a A m).1,(nsm a A m).2,(nsp a A b B m).1,(nsp a A b B m).2)
noncomputable def mws (L:Int) (g:Wg):Int:=match g with
 |none=>2
 |some (a,A,b,B)=>wt L a A b B
theorem QG (h:2<=L):2<=wt L a A b B/\wt L a A b B<=L:=by
 unfold wt
 grind
theorem WS.meas (h:WS C H p dx L w g k) (hk:k<=440) (m0:0<=m) (m1:m<=1000000) (q:∀H',jf p H H'->WS C H' p dx L (mws L (mgs g m)) (mgs g m) (k+1)->Q .non H'):fw C [.ref p,.int m] H Q E:=by
 obtain⟨i,hw,⟨h1,rfl,y⟩|⟨n,P,S,D,a,A,b,B,rfl,h1,x,z⟩⟩:=h
 ·exact⟨⟨m0,m1⟩,.inl ⟨dx,L,w,y,fun H' u v=>q H' u ⟨i,QG i,.inr ⟨0,_,_,_,_,_,_,_,rfl,by lia,WaysM.St.first m0 m1,v⟩⟩⟩⟩
 ·exact⟨⟨m0,m1⟩,.inr ⟨dx,L,w,a,A,b,B,Wb.of x (by lia) m0 m1,z,fun H' u v=>q H' u ⟨i,QG i,.inr ⟨_,_,_,_,_,_,_,_,rfl,by lia,x.step m0 m1,v⟩⟩⟩⟩
theorem WS.ins (h:WS C H p dx L w g k):∃s sp,H p=some (.ins C dx (bO (V.int L) s sp (V.int w))):=by
 obtain⟨_,_,⟨_,_,i⟩|⟨n,P,S,D,a,A,b,B,_,_,_,⟨u,q,g1,_⟩⟩⟩:=h
 ·exact⟨_,_,i⟩
 ·exact⟨_,_,g1⟩
theorem WS.keep (h:WS C H p dx L w g k) (hp:∀o,H p=some o->H' p=some o) (ht:∀t l,H t=some (.tup l)->H' t=some (.tup l)):WS C H' p dx L w g k:=by
 obtain⟨h0,h1,⟨a1,i,z⟩|⟨n,P,S,D,a,A,b,B,b0,b1,y,⟨x,u,g1,q,v⟩⟩⟩:=h
 ·exact⟨h0,h1,.inl ⟨a1,i,hp _ z⟩⟩
 ·exact⟨h0,h1,.inr ⟨n,P,S,D,a,A,b,B,b0,b1,y,⟨x,u,hp _ g1,ht _ _ q,ht _ _ v⟩⟩⟩
def MS (C:Addr) (H:Hp) (p dx:Addr) (mo wi kn co:Int):Prop:=H p=some (.ins C dx (aV (.int mo) (.int wi) (.int kn) (.int co)))/\MeterM.TX mo (wi,co)
structure Ad where
 dx:Addr
 pw:Addr
 pm:Addr
 pt:Addr
 pk:Addr
 pf:Addr
 pa:Addr
 dw:Addr
 dm:Addr
structure Sd where
 R:Int
 b:Int
 t:Int
 e:Int
 clk:V
 hur:Bool
 T:List V
 Kn:List (Key×V)
 Fi:List (Key×V)
 Ag:List (Key×V)
 L:Int
 w:Int
 k:Nat
 wi:Int
 g:Wg
 mo:Int
 kn:Int
 co:Int
structure g9 (CS CW CM:Addr) (H:Hp) (x:Addr) (A:Ad) (z:Sd):Prop where
 hx:H x=some (.ins CS A.dx (aZ (.int z.R) (.ref A.pw) (.ref A.pm) (.ref A.pt) (.int z.b) (.int z.t) (.int z.e) z.clk (.bl z.hur) (.ref A.pk) (.ref A.pf) (.ref A.pa)))
 ht:H A.pt=some (.lst z.T)
 hk:H A.pk=some (.dK z.Kn)
 hf:H A.pf=some (.dK z.Fi)
 ha:H A.pa=some (.dK z.Ag)
 ws:WS CW H A.pw A.dw z.L z.w z.g z.k
 ms:MS CM H A.pm A.dm z.mo z.wi z.kn z.co
 kf:A.pk≠A.pf
 ka:A.pk≠A.pa
 fa:A.pf≠A.pa
 xw:x≠A.pw
 xm:x≠A.pm
 wm:A.pw≠A.pm
theorem g9.same (h:g9 CS CW CM H x A z) (e:aE H H'):g9 CS CW CM H' x A z:=by
 obtain⟨e1,i⟩:=h.ms;exact⟨e _ _ h.hx,e _ _ h.ht,e _ _ h.hk,e _ _ h.hf,e _ _ h.ha,h.ws.keep (fun o q=>e _ _ q) (fun t l q=>e _ _ q),⟨e _ _ e1,i⟩,h.kf,h.ka,h.fa,h.xw,h.xm,h.wm⟩
theorem g9.put (h:g9 CS CW CM H x A z) (b t e:Int) (c:V) (u:Bool):g9 CS CW CM (upd H x (.ins CS A.dx (aZ (.int z.R) (.ref A.pw) (.ref A.pm) (.ref A.pt) (.int b) (.int t) (.int e) c (.bl u) (.ref A.pk) (.ref A.pf) (.ref A.pa)))) x A {z with b:=b,t:=t,e:=e,clk:=c,hur:=u}:=by
 obtain⟨e1,i⟩:=h.ms;refine⟨ag,by rw[af (bL h.ht h.hx (by simp))];exact h.ht,by rw[af (bL h.hk h.hx (by simp))];exact h.hk,by rw[af (bL h.hf h.hx (by simp))];exact h.hf,by rw[af (bL h.ha h.hx (by simp))];exact h.ha,
  h.ws.keep (fun o q=>by rw[af h.xw.symm];exact q) (fun t l q=>by rw[af (bL q h.hx (by simp))];exact q),⟨by rw[af h.xm.symm];exact e1,i⟩,h.kf,h.ka,h.fa,h.xw,h.xm,h.wm⟩
theorem g9.row (h:g9 CS CW CM H x A z) (P:H q=some o) (T:List V) (Kn Fi:List (Key×V)) (n1:∀C d l,o≠ .ins C d l) (I:∀l,o≠ .tup l) (g1:upd H q u A.pt=some (.lst T)) (y:upd H q u A.pk=some (.dK Kn)) (F:upd H q u A.pf=some (.dK Fi)) (v:q≠A.pa):g9 CS CW CM (upd H q u) x A {z with T:=T,Kn:=Kn,Fi:=Fi}:=by
 obtain⟨e1,G⟩:=h.ms;have i:∀p C d l,H p=some (.ins C d l)->p≠q:=fun p C d l e c=>by simp_all
 obtain⟨s,sp,E⟩:=h.ws.ins;exact⟨by rw[af (i _ _ _ _ h.hx)];exact h.hx,g1,y,F,by rw[af v.symm];exact h.ha,h.ws.keep (fun O e=>by rw[af (i _ _ _ _ E)];exact e) (fun t l e=>by rw[af (fun c=>by simp_all)];exact e),⟨by rw[af (i _ _ _ _ e1)];exact e1,G⟩,h.kf,h.ka,h.fa,h.xw,h.xm,h.wm⟩
def ye (x:Addr) (A:Ad) (H H':Hp):Prop:= ∀b u,H b=some u->b≠x->b≠A.pw->b≠A.pm->b≠A.pt->b≠A.pk->b≠A.pf->H' b=some u
theorem ye.of (h:aE H H'):ye x A H H':=fun b u e _ _ _ _ _ _=>h b u e
theorem ye.trans (h:ye x A H H') (C:ye x A H' H''):ye x A H H'':=fun b u e a1 i q z v y=>C b u (h b u e a1 i q z v y) a1 i q z v y
theorem g9.nw (h:g9 CS CW CM H x A z) (e:H b=some o) (n:∀C d l,o≠ .ins C d l):b≠x/\b≠A.pw/\b≠A.pm:=by
 obtain⟨s,sp,i⟩:=h.ws.ins;obtain⟨em,_⟩:=h.ms;exact⟨bL e h.hx (n _ _ _),bL e i (n _ _ _),bL e em (n _ _ _)⟩
theorem g9.ways (h:g9 CS CW CM H x A z) (i:jf A.pw H H') (hw:WS CW H' A.pw A.dw z.L w g k):g9 CS CW CM H' x A {z with w:=w,g:=g,k:=k}:=by
 obtain⟨em,q⟩:=h.ms;exact⟨i _ _ h.hx h.xw,i _ _ h.ht (h.nw h.ht (by simp)).2.1,i _ _ h.hk (h.nw h.hk (by simp)).2.1,i _ _ h.hf (h.nw h.hf (by simp)).2.1,i _ _ h.ha (h.nw h.ha (by simp)).2.1,hw,⟨i _ _ em h.wm.symm,q⟩,h.kf,h.ka,h.fa,h.xw,h.xm,h.wm⟩
theorem g9.meter {kn:Int} (h:g9 CS CW CM H x A z) (i:jf A.pm H H') (hm:MS CM H' A.pm A.dm z.mo wi kn co):g9 CS CW CM H' x A {z with wi:=wi,kn:=kn,co:=co}:=by
 obtain⟨em,q⟩:=h.ms;exact⟨i _ _ h.hx h.xm,i _ _ h.ht (h.nw h.ht (by simp)).2.2,i _ _ h.hk (h.nw h.hk (by simp)).2.2,i _ _ h.hf (h.nw h.hf (by simp)).2.2,i _ _ h.ha (h.nw h.ha (by simp)).2.2,h.ws.keep (fun o e=>i _ _ e h.wm) (fun t l e=>i _ _ e (bL e em (by simp))),hm,h.kf,h.ka,h.fa,h.xw,h.xm,h.wm⟩
theorem ye.tup (f:ye x A H H') (h:g9 CS CW CM H x A z) (e:H t=some (.tup l)):H' t=some (.tup l):=by
 obtain⟨a1,i,q⟩:=h.nw e (by simp);exact f t _ e a1 i q (bL e h.ht (by simp)) (bL e h.hk (by simp)) (bL e h.hf (by simp))
theorem ye.lst (f:ye x A H H') (h:g9 CS CW CM H x A z) (e:H t=some (.lst l)) (n:t≠A.pt):H' t=some (.lst l):=by
 obtain⟨a1,i,q⟩:=h.nw e (by simp);exact f t _ e a1 i q n (bL e h.hk (by simp)) (bL e h.hf (by simp))
theorem ye.none {y v C x p:Addr} {H H':Hp} {A:Ad} {z:Sd} (f:ye x A H H') (h:g9 y v C H' x A z) (e:H' p=none):H p=none:=by
 obtain⟨s,sp,i⟩:=h.ws.ins;obtain⟨em,_⟩:=h.ms;cases q:H p with
 |none=>rfl
 |some u=>
  have nn:∀{b:Addr} {o:HO},H' b=some o->p≠b:=fun{b o} eb c=>by simp_all
  rw[f p u q (nn h.hx) (nn i) (nn em) (nn h.ht) (nn h.hk) (nn h.hf)] at e;cases e
theorem zO (e:aE H H') (h:H' p=none):H p=none:=by
 cases q:H p with
 |none=>rfl
 |some o=>rw[e _ _ q] at h;cases h
noncomputable def knw (D:List (Key×V)) (j:Int):Bool:=(bj D (ik j)).isSome
noncomputable def kab (z:Sd):Nat:=((List.range (z.t-(z.b+1)).toNat).filter fun j:Nat=>knw z.Kn (z.b+1+(j:Int))).length
theorem SD:kab z<=(z.t-(z.b+1)).toNat:=by
 exact fv (j0 _ _) (by simp_all)
theorem PV {z:Sd} {N:Nat} (h:N=(z.t-(z.b+1)).toNat):(List.map (fun v=>v) (List.filter (fun v=>match v with|V.int i=>knw z.Kn i|_=>false) (lU (z.b+1) N))).length=kab z:=by
 subst h;unfold lU kab;rw[List.map_id',X_,cF];rfl
noncomputable def putAll (D:List (Key×V)) (i:List Int):List (Key×V):=i.foldl (fun D n=>putK D (ik n) (.bl true)) D
noncomputable def frs (D:List (Key×V)) (i:List Int):List Int:=i.filter fun n=>!knw D n
theorem SW {D:List (Key×V)} {q:List Int}:List.map (fun v=>v) (List.filter (fun v=>match v with|V.int i=>!knw D i|_=>false) (q.map V.int))=(frs D q).map V.int:=by
 rw[List.map_id',X_];rfl
theorem o5:(putAll D ps).length<=D.length+ps.length:=by
 induction ps generalizing D with
 |nil=>exact cm _
 |cons a t i=>
  have h1:=i (D:=putK D (ik a) (.bl true));have q:=js D (ik a) (.bl true);show(putAll _ t).length<=_;simp only[tH];lia
theorem putAll_snoc:putAll D (ps++ [n])=putK (putAll D ps) (ik n) (.bl true):=by
 unfold putAll;rw[XO];rfl
noncomputable def irg (b:Int) (n:Nat):List Int:=(List.range n).map fun j:Nat=>b+(j:Int)
theorem SJ:lU b n=(irg b n).map V.int:=by
 unfold lU irg;rw[sx];rfl
noncomputable def hld (z:Sd) (hs:List Int):List Int:=(hs.filter fun h=>decide (z.b+h<z.t)).map fun h=>z.b+h
theorem SK {z:Sd} {hs:List Int}:List.map (fun v=>match v with|V.int i=>V.int (z.b+i)|v=>v) (List.filter (fun v=>match v with|V.int i=>decide (z.b+i<z.t)|_=>false) (hs.map V.int))=(hld z hs).map V.int:=by
 unfold hld;rw[X_,sx,sx];rfl
theorem DP:(hld z hs).length<=hs.length:=by
 unfold hld;rw[cF];exact j0 _ _
def A_ (x:Addr) (A:Ad) (H H':Hp):Prop:= ∀b u,H b=some u->b≠x->b≠A.pw->b≠A.pm->b≠A.pt->b≠A.pk->b≠A.pf->b≠A.pa->H' b=some u
theorem ye.seven (h:ye x A H H'):A_ x A H H':=fun b u e a1 i q z v y _=>h b u e a1 i q z v y
theorem A_.trans (h:A_ x A H H') (E:A_ x A H' H''):A_ x A H H'':=fun b u e a1 i v C y z q=>E b u (h b u e a1 i v C y z q) a1 i v C y z q
theorem g9.Wt (h:g9 CS CW CM H x A z) (Ag:List (Key×V)):g9 CS CW CM (upd H A.pa (.dK Ag)) x A {z with Ag:=Ag}:=by
 obtain⟨e1,u⟩:=h.ms;have i:∀{p C d:Addr} {l:List _},H p=some (.ins C d l)->p≠A.pa:=fun e=>bL e h.ha (by simp);obtain⟨s,sp,q⟩:=h.ws.ins;exact⟨by rw[af (i h.hx)];exact h.hx,by rw[af (bL h.ht h.ha (by simp))];exact h.ht,by rw[af h.ka];exact h.hk,by rw[af h.fa];exact h.hf,ag,h.ws.keep (fun v e=>by rw[af (i q)];exact e) (fun t l e=>by rw[af (bL e h.ha (by simp))];exact e),⟨by rw[af (i e1)];exact e1,u⟩,h.kf,h.ka,h.fa,h.xw,h.xm,h.wm⟩
theorem A_.none {y v C x p:Addr} {H H':Hp} {A:Ad} {z:Sd} (f:A_ x A H H') (h:g9 y v C H' x A z) (e:H' p=none):H p=none:=by
 obtain⟨s,sp,i⟩:=h.ws.ins;obtain⟨em,_⟩:=h.ms;cases q:H p with
 |none=>rfl
 |some u=>
  have nn:∀{b:Addr} {o:HO},H' b=some o->p≠b:=fun{b o} eb c=>by simp_all
  rw[f p u q (nn h.hx) (nn i) (nn em) (nn h.ht) (nn h.hk) (nn h.hf) (nn h.ha)] at e;cases e
def W_ (c:V) (n:Int) (r:Bool):Prop:=(c = .non/\r=false)\/∃i,c = .int i/\r=decide (i<=n)
structure Bz (z:Sd):Prop where
 b0:0<=z.b
 bt:z.b<=z.t
 t1:z.t<=900
noncomputable abbrev qz:=g9 ax aX aK
def mT:Sp|vs,H,Q,E=>zqr vs fun x vs=>zqv vs fun th vs=>zqn vs ( ∃A z,qz H x A z/\z.T.length<1000/\∀H',jf A.pt H H'->qz H' x A {z with T:=z.T++ [th]}->Q .non H')
def kM:Sp|vs,H,Q,E=>zqr vs fun x vs=>zqn vs ( ∃A z,qz H x A z/\Q (.int z.T.length) H)
def jH:Sp|vs,H,Q,E=>zqr vs fun x vs=>zqi vs fun p vs=>zqn vs ( ∃A z v,qz H x A z/\iN z.T p=some v/\Q v H)
def cU:Sp|vs,H,Q,E=>zqr vs fun x vs=>zqn vs ( ∃A z,qz H x A z/\Bz z/\∀H',aE H H'->Q (.int (kab z)) H')
def fS:Sp|vs,H,Q,E=>zqr vs fun x vs=>zqn vs ( ∃A z,qz H x A z/\Bz z/\∀H',aE H H'->Q (.int (z.t-z.b-kab z)) H')
def eN:Sp|vs,H,Q,E=>zqr vs fun x vs=>zqn vs ( ∃A z,qz H x A z/\Q (.bl (decide (z.t<z.T.length))) H)
def dS:Sp|vs,H,Q,E=>zqr vs fun x vs=>zqn vs ( ∃A z,qz H x A z/\Bz z/\∀H',aE H H'->Q (.bl (decide (z.b<z.t) && !z.hur&&decide ((2:Int)<=kab z))) H')
def fc:Sp|vs,H,Q,E=>zqr vs fun x vs=>zqn vs ( ∃A z,qz H x A z/\Bz z/\∀H',aE H H'->Q (.bl (decide (z.t<z.T.length)&&decide (z.t<z.e)&&decide (z.t-z.b-kab z<z.wi))) H')
def eO:Sp|vs,H,Q,E=>zqr vs fun x vs=>zqr vs fun l vs=>zqn vs ( ∃A z,∃i:List Int,qz H x A z/\H l=some (.lst (i.map V.int))/\z.Kn.length<1000000/\i.length<=1000/\∀p H',H p=none->ye x A H H'->qz H' x A {z with Kn:=putAll z.Kn (frs z.Kn i)}->H' p=some (.lst ((frs z.Kn i).map V.int))->Q (.ref p) H')
def fT:Sp|vs,H,Q,E=>zqr vs fun x vs=>zqi vs fun n vs=>zqn vs ( ∃A z,qz H x A z/\∀H',jf x H H'->qz H' x A {z with clk:= .int (n+z.w)}->Q .non H')
def fV:Sp|vs,H,Q,E=>zqr vs fun x vs=>zqi vs fun st vs=>zqn vs ( ∃A z,qz H x A z/\Bz z/\(0<=st/\st<=z.t-z.b)/\z.Kn.length<1000000/\∀fs p H',fs=frs z.Kn (irg z.b st.toNat)->H p=none->ye x A H H'->qz H' x A {z with b:=z.b+st,Kn:=putAll z.Kn fs}->H' p=some (.lst (fs.map V.int))->Q (.ref p) H')
def fU:Sp|vs,H,Q,E=>zqr vs fun x vs=>zqr vs fun t vs=>zqn vs ( ∃A z,∃hs:List Int,qz H x A z/\H t=some (.tup (hs.map V.int))/\hs.length<=1000/\z.Kn.length<1000000/\∀fs p H',fs=frs z.Kn (hld z hs)->H p=none->ye x A H H'->qz H' x A {z with Kn:=putAll z.Kn fs}->H' p=some (.lst (fs.map V.int))->Q (.ref p) H')
def gJ:Sp|vs,H,Q,E=>zqr vs fun x vs=>zqi vs fun n vs=>zqn vs ( ∃A z,qz H x A z/\z.Ag.length<1000000/\∀p H',H p=none->A_ x A H H'->qz H' x A {z with clk:= .int (n+z.w),hur:=true,Ag:=putK z.Ag (ik z.b) (.bl true)}->H' p=some (.tup [.str "again",.int z.b])->Q (.ref p) H')
def dU:Sp|vs,H,Q,E=>zqr vs fun x vs=>zqi vs fun n vs=>zqn vs ( ∃A z r,qz H x A z/\W_ z.clk n r/\Q (.bl r) H)
def iR:Sp|vs,H,Q,E=>zqr vs fun x vs=>zqi vs fun n vs=>zqn vs ( ∃A z,qz H x A z/\z.Fi.length<1000000/\∀p H',H p=none->ye x A H H'->qz H' x A {z with clk:=if z.b=z.t then .int (n+z.w) else z.clk,t:=z.t+1,Fi:=putK z.Fi (ik z.t) (.int n)}->H' p=some (.tup [.str "new",.int z.t])->Q (.ref p) H')
noncomputable def w2 (z:Sd):Int:=if z.L<2*z.w then z.L else 2*z.w
theorem WS.ran (h:WS C H p dx L w g k):∃s sp,H p=some (.ins C dx (bO (V.int L) s sp (V.int w)))/\WS C (upd H p (.ins C dx (bO (V.int L) s sp (V.int (if L<2*w then L else 2*w))))) p dx L (if L<2*w then L else 2*w) g k:=by
 obtain⟨h0,h1,⟨a1,u,z⟩|⟨n,P,S,D,a,A,b,B,b0,b1,y,⟨x,v,g1,i,q⟩⟩⟩:=h
 ·exact⟨_,_,z,h0,by split<;>lia,.inl ⟨a1,u,ag⟩⟩
 ·exact⟨_,_,g1,h0,by split<;>lia,.inr ⟨n,P,S,D,a,A,b,B,b0,b1,y,⟨x,v,ag,by rw[af (bL i g1 (by simp))];exact i,by rw[af (bL q g1 (by simp))];exact q⟩⟩⟩
noncomputable def GR (c:V) (n:Int):Bool:=match c with
 | .int i=>decide (i<=n)
 |_=>false
noncomputable def He (z:Sd):Bool:=decide (z.b<z.t) && !z.hur&&decide ((2:Int)<=kab z)
noncomputable def pq (z:Sd):Bool:=decide (z.t<z.T.length)&&decide (z.t<z.e)&&decide (z.t-z.b-kab z<z.wi)
noncomputable def Q1 (z:Sd) (n:Int):Sd:={z with w:=w2 z,wi:=1,kn:=MeterM.hf z.wi,co:=0,clk:= .int (n+w2 z),hur:=true,Ag:=putK z.Ag (ik z.b) (.bl true)}
noncomputable def UZ (z:Sd) (n:Int):Sd:={z with wi:=MeterM.hf z.wi,kn:=MeterM.hf z.wi,co:=0,clk:= .int (n+z.w),hur:=true,Ag:=putK z.Ag (ik z.b) (.bl true)}
noncomputable def UP (z:Sd) (n:Int):Sd:={z with clk:=if z.b=z.t then .int (n+z.w) else z.clk,t:=z.t+1,Fi:=putK z.Fi (ik z.t) (.int n)}
noncomputable def VQ (z:Sd) (n:Int):Sd:={z with w:=w2 z,clk:= .int (n+w2 z)}
noncomputable def Uo (z:Sd) (n:Int):Sd:={z with clk:= .int (n+z.w)}
def V4 (z q:Sd) (n:Int) (v:V) (H H':Hp):Prop:=(z.clk = .non/\q=Uo z n/\v = .non)\/(∃i,z.clk = .int i/\n<i/\q=z/\v = .non)\/(∃i,z.clk = .int i/\i<=n/\q=VQ z n/\∃p,v = .ref p/\H p=none/\H' p=some (.tup [.str "ask",.non]))
def W9 (z i:Sd) (n:Int) (v:V) (H H':Hp):Prop:=
 (z.b<z.t/\GR z.clk n=true/\i=Q1 z n/\∃p,v = .ref p/\H p=none/\H' p=some (.tup [.str "again",.int z.b]))\/
 (
  (z.b<z.t->GR z.clk n=false)/\((He z=true/\i=UZ z n/\∃p,v = .ref p/\H p=none/\H' p=some (.tup [.str "again",.int z.b]))\/
  (
   He z=false/\((pq z=true/\i=UP z n/\∃p,v = .ref p/\H p=none/\H' p=some (.tup [.str "new",.int z.t]))\/
   (pq z=false/\((z.t<z.T.length/\z.b=z.t/\V4 z i n v H H')\/(¬(z.t<z.T.length/\z.b=z.t)/\i=z/\v = .non)))))))
theorem V4.fr (h:V4 z z' n v H H') (f:∀p,H p=none->H0 p=none):V4 z z' n v H0 H':=by
 rcases h with h|h|⟨i,h1,y,q,p,x,C,u⟩
 ·exact .inl h
 ·exact .inr (.inl h)
 ·exact .inr (.inr ⟨i,h1,y,q,p,x,f p C,u⟩)
def dW:Sp|vs,H,Q,E=>zqr vs fun x vs=>zqi vs fun n vs=>zqn vs ( ∃A z,qz H x A z/\(z.clk = .non\/∃i,z.clk = .int i)/\∀v H' q,A_ x A H H'->qz H' x A q->V4 z q n v H H'->Q v H')
def oI:Sp|vs,H,Q,E=>zqr vs fun x vs=>zqi vs fun n vs=>zqn vs ( ∃A z,qz H x A z/\Bz z/\(z.clk = .non\/∃i,z.clk = .int i)/\z.Ag.length<1000000/\z.Fi.length<1000000/\∀v H' q,A_ x A H H'->qz H' x A q->W9 z q n v H H'->Q v H')
noncomputable def cnt (D:List (Key×V)) (t:Nat):Nat:=((List.range t).filter fun j:Nat=>knw D (j:Int)).length
theorem N2:cnt D t<=t:=by
 exact fv (j0 _ _) (by simp_all)
theorem AY:cnt D (t+1)=cnt D t+if knw D (t:Int) then 1 else 0:=by
 unfold cnt;rw[List.range_succ,List.filter_append];rw[XD];split<;>simp
theorem DK:knw (putK D (ik a) v) b=(decide (b=a)||knw D b):=by
 unfold knw;rw[vd];by_cases c:b=a
 ·simp_all
 ·simp_all
theorem IY (h:knw D a=false) (h0:0<=a):∀{t:Nat},cnt (putK D (ik a) v) t=cnt D t+if a<(t:Int) then 1 else 0
 |0=>by show 0=0+_;rw[a5 (by lia)]
 |t+1=>by
  rw[AY,AY,IY h h0,DK];by_cases c:(t)=a
  ·subst c;rw[h];simp;lia
  ·lia
theorem wq {t:Nat}:∀{fs:List Int} {D:List (Key×V)},fs.Nodup->(∀a∈fs,knw D a=false/\0<=a/\a<(t:Int))->cnt (putAll D fs) t=cnt D t+fs.length
 | [],_,_,_=>rfl
 |a::l,D,hn,h=>by
  obtain⟨h1,q,i⟩:=h a (sm ..);obtain⟨n1,v⟩:=Sk.mp hn;show cnt (putAll _ l) t=_;rw[wq v (fun b u=>?_),IY h1 q,bc i,tH]
  ·lia
  ·obtain⟨k1,k2,k3⟩:=h b (hQ _ u);have:b≠a:=fun e=>n1 (by simp_all);exact⟨by rw[DK,k1];simp[this],k2,k3⟩
theorem Cc:(irg b n).Nodup:=by
 unfold irg;unfold List.Nodup;rw[Yu];exact(List.nodup_range).imp fun h e=>h (by lia)
theorem IE (h:a∈irg b n):b<=a/\a<b+n:=by
 obtain⟨j,i,rfl⟩:=ke.mp h;have:=r4.mp i;lia
theorem Ce (h:hs.Nodup):(hld z hs).Nodup:=by
 unfold hld;unfold List.Nodup;rw[Yu];exact(X0 _ h).imp fun h e=>h (by lia)
theorem IG (h:a∈hld z hs):a<z.t/\∃k∈hs,a=z.b+k:=by
 obtain⟨k,hk,rfl⟩:=ke.mp h;obtain⟨m1,i⟩:=R1.mp hk;exact⟨by simpa using i,k,m1,rfl⟩
theorem zN (h:a∈frs D ps):a∈ps/\knw D a=false:=by
 obtain⟨m1,i⟩:=R1.mp h;exact⟨m1,by simp_all⟩
def Tq (z:Sd) (tn:Int):Prop:= ∀j:Int,0<=j->j<z.t->∃f,bj z.Fi (ik j)=some (.int f)/\0<=tn-f/\tn-f<=1000000
noncomputable def far' (z:Sd) (nu:Int):Int:=(nu-z.b) % z.R
noncomputable def wF (z:Sd) (nu:Int):List Int:=frs z.Kn (irg z.b (far' z nu).toNat)
noncomputable def kC (z:Sd) (nu:Int):Sd:={z with b:=z.b+far' z nu,Kn:=putAll z.Kn (wF z nu)}
noncomputable def vb (z:Sd) (nu:Int) (hs:List Int):List Int:=frs (kC z nu).Kn (hld (kC z nu) hs)
noncomputable def fsh (z:Sd) (nu:Int) (hs:List Int):List Int:=wF z nu++vb z nu hs
noncomputable def Qd (z:Sd) (p:Int):Int:=match bj z.Fi (ik p) with
 |some (.int f)=>f
 |_=>0
noncomputable abbrev Ws:=Int×Wg×Nat
noncomputable def Lh (z:Sd) (tn:Int) (s:Ws) (p:Int):Ws:=if knw z.Ag p then s else(mws z.L (mgs s.2.1 (tn-Qd z p)),mgs s.2.1 (tn-Qd z p),s.2.2+1)
noncomputable def mall (z:Sd) (tn:Int) (fs:List Int):Ws:=fs.foldl (Lh z tn) (z.w,z.g,z.k)
theorem Kt:mall z tn (fs++ [c])=Lh z tn (mall z tn fs) c:=by unfold mall;rw[XO];rfl
noncomputable def hrd (z:Sd) (nu rm:Int) (hs:List Int) (tn:Int):Sd:=
 ⟨z.R,z.b+far' z nu,z.t,if z.e<z.b+far' z nu+rm then z.b+far' z nu+rm else z.e,if 0<far' z nu then(if z.b+far' z nu<z.t then .int (tn+(mall z tn (fsh z nu hs)).1) else .non) else z.clk,if 0<far' z nu then false else z.hur,z.T,putAll (kC z nu).Kn (vb z nu hs),z.Fi,z.Ag,z.L,(mall z tn (fsh z nu hs)).1,(mall z tn (fsh z nu hs)).2.2,(MeterM.kn z.mo z.kn (fsh z nu hs).length (z.wi,z.co)).1,(mall z tn (fsh z nu hs)).2.1,z.mo,z.kn,(MeterM.kn z.mo z.kn (fsh z nu hs).length (z.wi,z.co)).2⟩
def jI:Sp|vs,H,Q,E=>zqr vs fun x vs=>zqi vs fun nu vs=>zqi vs fun rm vs=>zqr vs fun hd vs=>zqi vs fun tn vs=>zqn vs ( ∃A z,∃hs:List Int,qz H x A z/\Bz z/\0<z.R/\H hd=some (.tup (hs.map V.int))/\hs.length<=100/\hs.Nodup/\(∀k∈hs,0<=k)/\Tq z tn/\z.Kn.length<900000/\z.t<=430/\z.k<=cnt z.Kn z.t.toNat/\∀p H',H p=none->A_ x A H H'->((z.t-z.b<far' z nu/\aE H H'/\H' p=some (.lst []))\/(far' z nu<=z.t-z.b/\qz H' x A (hrd z nu rm hs tn)/\H' p=some (.lst ((fsh z nu hs).map V.int))))->Q (.ref p) H')
theorem dG (b:jf x H H') (n:x≠p) (h:H' p=none):H p=none:=by
 cases q:H p with
 |none=>rfl
 |some o=>rw[b _ _ q n.symm] at h;cases h
def gK:Sp|vs,H,Q,E=>zqr vs fun x vs=>zqi vs fun r vs=>zqi vs fun f vs=>zqi vs fun l vs=>zqi vs fun m vs=>zqn vs ((2<=f/\f<=l/\1<=m)/\∃dx,H x=some (.ins ax dx [])/\∀A H',jf x H H'->(∀b,b∈[A.pw,A.pm,A.pt,A.pk,A.pf,A.pa]->H b=none)->qz H' x A ⟨r,0,0,1,.non,false,[],[],[],[],l,f,0,MeterM.mn 2 m,none,m,m,0⟩->Q .non H')
structure Tk where
 R:Int
 M:Int
 g:Int
 o:Int
 D:List (Key×V)
structure A6 (C:Addr) (H:Hp) (x dx pk:Addr) (z:Tk):Prop where
 hx:H x=some (.ins C dx (dH (.int z.R) (.int z.M) (.int z.g) (.int z.o) (.ref pk)))
 hD:H pk=some (.dK z.D)
theorem A6.n1 (h:A6 C H x dx pk z):pk≠x:=bL h.hD h.hx (by simp)
theorem A6.same (h:A6 C H x dx pk z) (e:aE H H'):A6 C H' x dx pk z:=⟨e _ _ h.hx,e _ _ h.hD⟩
theorem A6.put (h:A6 C H x dx pk z) (R M g o:Int):A6 C (upd H x (.ins C dx (dH (.int R) (.int M) (.int g) (.int o) (.ref pk)))) x dx pk ⟨R,M,g,o,z.D⟩:=⟨ag,by rw[af h.n1];exact h.hD⟩
def Ji (x pk:Addr) (H H':Hp):Prop:= ∀b u,H b=some u->b≠x->b≠pk->H' b=some u
noncomputable def vals (D:List (Key×V)) (g:Int) (n:Nat):List V:=(List.range n).map fun j:Nat=>(bj D (ik (g+(j:Int)))).getD .non
theorem wI {n:Nat} (h:bj D (ik (g+n))=some v):vals D g (n+1)=vals D g n++ [v]:=by
 simp[vals,List.range_succ,h]
def Run (D:List (Key×V)) (g:Int) (n:Nat):Prop:=(∀j:Nat,j<n->(bj D (ik (g+j))).isSome=true)/\bj D (ik (g+n))=none
theorem Jl {j:Key}:bj (rG kvs k) j=if j=k then none else bj kvs j:=by
 unfold bj rG;by_cases c:j=k
 ·simp_all
 ·rw[a5 c];congr 1;rw[List.find?_filter];congr 1;funext a;by_cases d:a.1=j
  ·simp_all
  ·simp[d]
noncomputable def yo (D:List (Key×V)) (g:Int) (n:Nat):List Int:=((List.range n).filter fun j:Nat=>(bj D (ik (g+(1+(j:Int))))).isSome).map (fun j:Nat=>1+(j:Int))
theorem held_eq {D:List (Key×V)} {g:Int} {n:Nat}:List.map (fun v=>v) (List.filter (fun v=>match v with|V.int i=>(bj D (ik (g+i))).isSome|_=>false) (lU 1 n))=(yo D g n).map V.int:=by
 unfold lU yo;rw[X_,sx,sx];rfl
def zX:Sp|vs,H,Q,E=>zqi vs fun r vs=>zqi vs fun a vs=>zqi vs fun b vs=>zqn vs (0<r/\Q (.int ((b-a) % r)) H)
noncomputable abbrev Gd:=A6 bG
def hG:Sp|vs,H,Q,E=>zqr vs fun x vs=>zqi vs fun r vs=>zqi vs fun m vs=>zqn vs ( ∃dx,H x=some (.ins bG dx [])/\∀pk H',H pk=none->jf x H H'->Gd H' x dx pk ⟨r,m,0,0,[]⟩->Q .non H')
def gH:Sp|vs,H,Q,E=>zqr vs fun x vs=>zqn vs ( ∃dx pk z,Gd H x dx pk z/\Q (.int (z.o+z.M-z.g)) H)
def dz:Sp|vs,H,Q,E=>zqr vs fun x vs=>zqn vs ( ∃dx pk z B,Gd H x dx pk z/\(∀i,(bj z.D (ik i)).isSome=true->i<B)/\B<=z.g+1000/\∀n p H',Run z.D z.g n->H p=none->Ji x pk H H'->Gd H' x dx pk {z with g:=z.g+n}->H' p=some (.lst (vals z.D z.g n))->Q (.ref p) H')
def mR:Sp|vs,H,Q,E=>zqr vs fun x vs=>zqi vs fun m vs=>zqr vs fun th vs=>zqn vs ( ∃dx pk z B,Gd H x dx pk z/\0<z.R/\(∀i,(bj z.D (ik i)).isSome=true->i<B)/\B<=z.g+1000/\z.o+z.M<=B/\z.D.length<1000/\((z.o+z.M-z.g<=(m-z.g) % z.R/\∀p l H',aE H H'->H p=none->H l=none->H' p=some (.tup [.non,.ref l])->H' l=some (.lst [])->Q (.ref p) H')\/((m-z.g) % z.R<z.o+z.M-z.g/\∀q,q=(if(bj z.D (ik (z.g+(m-z.g) % z.R))).isSome then z.D else putK z.D (ik (z.g+(m-z.g) % z.R)) (.ref th))->∀n p l H',Run q z.g n->H p=none->H l=none->p≠l->Ji x pk H H'->Gd H' x dx pk ⟨z.R,z.M,z.g+n,z.o,q⟩->H' l=some (.lst (vals q z.g n))->H' p=some (.tup [.int (z.g+(m-z.g) % z.R),.ref l])->Q (.ref p) H')))
def jG:Sp|vs,H,Q,E=>zqr vs fun x vs=>zqn vs ( ∃dx pk z,Gd H x dx pk z/\0<z.R/\(0<=z.o+z.M-z.g/\z.o+z.M-z.g<=1000)/\∀p t hs H',aE H H'->hs=yo z.D z.g (z.o+z.M-z.g-1).toNat->H p=none->H t=none->H' t=some (.tup (hs.map V.int))->H' p=some (.tup [.int (z.g % z.R),.int (z.o+z.M-z.g),.ref t])->Q (.ref p) H')
def mS:Sp|vs,H,Q,E=>zqr vs fun x vs=>zqi vs fun m vs=>zqn vs ( ∃dx pk z,Gd H x dx pk z/\(0<=m/\m<=1000/\0<=z.o/\z.o<=z.g/\z.g<=10000)/\(∀i,z.o<=i->i<z.g->(bj z.D (ik i)).isSome=true)/\∀n p q H',n=((if z.g<z.o+m then z.g else z.o+m)-z.o).toNat->H p=none->(∀i,bj q (ik i)=if z.o<=i/\i<z.o+n then none else bj z.D (ik i))->q.Sublist z.D->Ji x pk H H'->Gd H' x dx pk ⟨z.R,z.M,z.g,z.o+n,q⟩->H' p=some (.lst (vals z.D z.o n))->Q (.ref p) H')
noncomputable def tbl:List (Addr×Str):=[(iH,"shut"),(dQ,"calling"),(lQ,"open"),(lR,"left"),(dO,"leaving"),(dN,"waiting"),(dP,"closing")]
def TR (i:List (Addr×Str)) (H:Hp) (x:Addr) (nm:Str):Prop:= ∃C dx,H x=some (.ins C dx [])/\(C,nm)∈i
noncomputable def Qk:List (Str×Str×Str):=[("shut","begin","calling"),("shut","begun","open"),("calling","end","leaving"),("calling","begun","open"),("open","end","leaving"),("open","ended","left"),("left","end","closing"),("leaving","ended","closing"),("leaving","answered","waiting"),("waiting","ended","shut"),("closing","answered","shut")]
noncomputable def bR (nm w:Str):Option Str:=match Qk.find? (fun t=>decide (t.1=nm)&&decide (t.2.1=w)) with
 |some t=>some t.2.2
 |none=>if w = "begin" \/w = "end" then none else some nm
noncomputable def PN (nm:Str):Bool:=decide (nm = "calling")||decide (nm = "open")||decide (nm = "left")
theorem dropxl (S:aE H H1) (he:H1 e=none) (hd:upd H1 e o d=none):aE H (mz (upd (upd (upd H1 e o) d (.xd l)) e (.ext (tI e C (some d)))) e)/\mz (upd (upd (upd H1 e o) d (.xd l)) e (.ext (tI e C (some d)))) e d=some (.xd l):=by
 have nd:d≠e:=fun z=>by rw[z,ag] at hd;cases hd
 refine⟨fun b u i=>?_,?_⟩
 ·have h1:=S b u i;have nb:=ar h1 he;rw[gz nb,af nb,af (fun z=>?_),af nb];exact h1;rw[z] at h1;rw[af nd] at hd;rw[h1] at hd;cases hd
 ·rw[gz nd,af nd,ag]
def gL:Sp|vs,H,Q,E=>zqr vs fun e vs=>zqv vs fun v vs=>zqv vs fun u vs=>zqn vs (H e=some (.ext (tI e aL none))/\∀d,H d=none->Q .non (upd (upd H d (.xd [("state",v),("wish",u)])) e (.ext (tI e aL (some d)))))
def vg:Sp|vs,H,Q,E=>zqr vs fun x vs=>zqn vs (Q (.str "shut") H)
def pU:Sp|vs,H,Q,E=>zqr vs fun x vs=>zqn vs (Q (.str "calling") H)
def vh:Sp|vs,H,Q,E=>zqr vs fun x vs=>zqn vs (Q (.str "open") H)
def vi:Sp|vs,H,Q,E=>zqr vs fun x vs=>zqn vs (Q (.str "left") H)
def pS:Sp|vs,H,Q,E=>zqr vs fun x vs=>zqn vs (Q (.str "leaving") H)
def pP:Sp|vs,H,Q,E=>zqr vs fun x vs=>zqn vs (Q (.str "waiting") H)
def pT:Sp|vs,H,Q,E=>zqr vs fun x vs=>zqn vs (Q (.str "closing") H)
noncomputable abbrev yR:=TR tbl
def kL:Sp|vs,H,Q,E=>zqr vs fun x vs=>zqn vs ( ∀y H',aE H H'->yR H' y "calling" ->Q (.ref y) H')
def j6:Sp|vs,H,Q,E=>zqr vs fun x vs=>zqn vs ( ∀y H',aE H H'->yR H' y "leaving" ->Q (.ref y) H')
def nq:Sp|vs,H,Q,E=>zqr vs fun x vs=>zqn vs ( ∀y H',aE H H'->yR H' y "leaving" ->Q (.ref y) H')
def nz:Sp|vs,H,Q,E=>zqr vs fun x vs=>zqn vs ( ∀y H',aE H H'->yR H' y "closing" ->Q (.ref y) H')
def s_:Sp|vs,H,Q,E=>zqr vs fun x vs=>zqn vs ( ∀y H',aE H H'->yR H' y "open" ->Q (.ref y) H')
def nC:Sp|vs,H,Q,E=>zqr vs fun x vs=>zqn vs ( ∀y H',aE H H'->yR H' y "open" ->Q (.ref y) H')
def tj:Sp|vs,H,Q,E=>zqr vs fun x vs=>zqn vs ( ∀y H',aE H H'->yR H' y "left" ->Q (.ref y) H')
def nB:Sp|vs,H,Q,E=>zqr vs fun x vs=>zqn vs ( ∀y H',aE H H'->yR H' y "closing" ->Q (.ref y) H')
def nh:Sp|vs,H,Q,E=>zqr vs fun x vs=>zqn vs ( ∀y H',aE H H'->yR H' y "shut" ->Q (.ref y) H')
def j4:Sp|vs,H,Q,E=>zqr vs fun x vs=>zqn vs ( ∀y H',aE H H'->yR H' y "waiting" ->Q (.ref y) H')
def j5:Sp|vs,H,Q,E=>zqr vs fun x vs=>zqn vs ( ∀y H',aE H H'->yR H' y "shut" ->Q (.ref y) H')
def qM:Sp|vs,H,Q,E=>zqr vs fun x vs=>zqn vs (Q (.ref x) H)
def qL:Sp|vs,H,Q,E=>zqr vs fun x vs=>zqn vs (Q (.ref x) H)
def lX:Sp|vs,H,Q,E=>zqr vs fun x vs=>zqn vs (Q (.ref x) H)
def j3:Sp|vs,H,Q,E=>zqr vs fun x vs=>zqn vs ( ∃nm,yR H x nm/\∀H' d,aE H H'->H' d=some (.xd [("state",.str nm),("wish",.str "begin")])->E (.ref aL) (some d) H')
def lW:Sp|vs,H,Q,E=>zqr vs fun x vs=>zqn vs ( ∃nm,yR H x nm/\∀H' d,aE H H'->H' d=some (.xd [("state",.str nm),("wish",.str "end")])->E (.ref aL) (some d) H')
def kO:Sp|vs,H,Q,E=>zqr vs fun x vs=>zqn vs (Q (.bl true) H)
def pQ:Sp|vs,H,Q,E=>zqr vs fun x vs=>zqn vs (Q (.bl true) H)
def pR:Sp|vs,H,Q,E=>zqr vs fun x vs=>zqn vs (Q (.bl true) H)
def nj:Sp|vs,H,Q,E=>zqr vs fun x vs=>zqn vs (Q (.bl false) H)
def wM:Sp:=fun vs H Q E=>match vs with
 | [.ref x]=> ∃nm,yR H x nm/\Q (.str nm) H
 |_=>False
def oG:Sp:=fun vs H Q E=>match vs with
 | [.ref x]=> ∃nm,yR H x nm/\Q (.bl (PN nm)) H
 |_=>False
def jF:Sp:=fun vs H Q E=>match vs with
 | [.ref x]=> ∃nm,yR H x nm/\(∀nx,bR nm "begin" = some nx->∀y H',aE H H'->yR H' y nx->Q (.ref y) H')/\(bR nm "begin" = none->∀H' d,aE H H'->H' d=some (.xd [("state",.str nm),("wish",.str "begin")])->E (.ref aL) (some d) H')
 |_=>False
def mO:Sp:=fun vs H Q E=>match vs with
 | [.ref x]=> ∃nm,yR H x nm/\(∀nx,bR nm "end" = some nx->∀y H',aE H H'->yR H' y nx->Q (.ref y) H')/\(bR nm "end" = none->∀H' d,aE H H'->H' d=some (.xd [("state",.str nm),("wish",.str "end")])->E (.ref aL) (some d) H')
 |_=>False
def t7:Sp:=fun vs H Q E=>match vs with
 | [.ref x]=> ∃nm,yR H x nm/\(∀nx,bR nm "begun" = some nx->∀y H',aE H H'->yR H' y nx->Q (.ref y) H')
 |_=>False
def oH:Sp:=fun vs H Q E=>match vs with
 | [.ref x]=> ∃nm,yR H x nm/\(∀nx,bR nm "ended" = some nx->∀y H',aE H H'->yR H' y nx->Q (.ref y) H')
 |_=>False
def mQ:Sp:=fun vs H Q E=>match vs with
 | [.ref x]=> ∃nm,yR H x nm/\(∀nx,bR nm "answered" = some nx->∀y H',aE H H'->yR H' y nx->Q (.ref y) H')
 |_=>False
def Kp (S:List Addr) (H H':Hp):Prop:= ∀b o,H b=some o->b ∉ S->H' b=some o
theorem Kp.refl:Kp S H H:=fun _ _ h _=>h
theorem Kp.of (h:aE H H'):Kp S H H':=fun b o e _=>h b o e
theorem Kp.trans (h:Kp S H H1) (i:Kp S H1 H2):Kp S H H2:=fun b o e n=>i b o (h b o e n) n
theorem Kp.more (h:Kp S H H') (i:∀b∈S,b∈S'):Kp S' H H':=fun b o e n=>h b o e fun m=>n (i b m)
theorem Kp.one {p:Addr} {H:Hp} {o:HO}:Kp [p] H (upd H p o):=fun b u e n=>by rw[af (fun z=>n (by simp_all))];exact e
theorem gX {l:List Addr} {j:Nat} (h:l.Nodup) (x:l[i]?=some a) (v:l[j]?=some b) (n:i≠j):a≠b:=fun e=>by
 obtain⟨h1,e1⟩:=ek.mp x;obtain⟨u,e2⟩:=ek.mp v;rcases Nat.lt_trichotomy i j with q|q|q
 ·exact List.pairwise_iff_getElem.mp h i j h1 u q (by simp_all)
 ·exact n q
 ·exact List.pairwise_iff_getElem.mp h j i u h1 q (by simp_all)
def Ge (o:HO):Prop:=(∃l,o = .tup l)\/(∃C d,o = .ins C d [])\/∃u v,o = .frz u v
theorem Kp.upd (m:p∈S):Kp S H (Lake.upd H p o):=fun b u e n=>by rw[af (fun z=>n (by simp_all))];exact e
theorem Kp.but (h:jf p H H') (m:p∈S):Kp S H H':=fun b u e n=>h b u e fun z=>n (by simp_all)
theorem jf.V_ (h:jf A.pt H H'):A_ x A H H':=fun b u e _ _ _ n _ _ _=>h b u e n
theorem sk: ¬Ge (.lst l):=fun q=>by rcases q with⟨l,q⟩|⟨C,d,q⟩|⟨u,v,q⟩<;>cases q
structure Wi where
 dx:Addr
 tk:Addr
 dt:Addr
 kd:Addr
 sd:Addr
 S:Ad
 st:Addr
 pe:Addr
structure Hn where
 side:Int
 R:Int
 tk:Tk
 sd:Sd
 nm:Str
 due:Bool
 ends : List Int
noncomputable def foot (x:Addr) (A:Wi):List Addr:=[x,A.tk,A.kd,A.sd,A.S.pw,A.S.pm,A.S.pt,A.S.pk,A.S.pf,A.S.pa,A.pe]
structure cC (CH CT CS CW CM:Addr) (tb:List (Addr×Str)) (H:Hp) (x:Addr) (A:Wi) (z:Hn):Prop where
 hx:H x=some (.ins CH A.dx (aT (.int z.side) (.int z.R) (.ref A.tk) (.ref A.sd) (.ref A.st) (.bl z.due) (.ref A.pe)))
 tk:A6 CT H A.tk A.dt A.kd z.tk
 sd:g9 CS CW CM H A.sd A.S z.sd
 st:TR tb H A.st z.nm
 he:H A.pe=some (.lst (z.ends.map V.int))
 nd:(foot x A).Nodup
theorem A_.kp (h:A_ x A H H'):Kp [x,A.pw,A.pm,A.pt,A.pk,A.pf,A.pa] H H':=fun b o e n=>by
 simp at n;exact h b o e n.1 n.2.1 n.2.2.1 n.2.2.2.1 n.2.2.2.2.1 n.2.2.2.2.2.1 n.2.2.2.2.2.2
theorem Ji.kp (h:Ji x p H H'):Kp [x,p] H H':=fun b o e n=>by
 simp at n;exact h b o e n.1 n.2
theorem g9.kp (h:g9 CS CW CM H x A z) (k:Kp S H H') (d:∀b∈[x,A.pw,A.pm,A.pt,A.pk,A.pf,A.pa],b ∉ S) (tp:∀t l,H t=some (.tup l)->t ∉ S):g9 CS CW CM H' x A z:=by
 obtain⟨e1,i⟩:=h.ms;exact⟨k _ _ h.hx (d _ (by simp)),k _ _ h.ht (d _ (by simp)),k _ _ h.hk (d _ (by simp)),k _ _ h.hf (d _ (by simp)),k _ _ h.ha (d _ (by simp)),h.ws.keep (fun o q=>k _ _ q (d _ (by simp))) (fun t l q=>k _ _ q (tp t l q)),⟨k _ _ e1 (d _ (by simp)),i⟩,h.kf,h.ka,h.fa,h.xw,h.xm,h.wm⟩
theorem cC.imm (h:cC CH CT CS CW CM tb H x A z) (e:H b=some o) (i:Ge o):b ∉ foot x A:=by
 obtain⟨e1,_⟩:=h.sd.ms;obtain⟨s,sp,e2⟩:=h.sd.ws.ins;intro m;simp only[foot,cR,d3,lj] at m;have key:∀{p:Addr} {u:HO},H p=some u->¬Ge u->b≠p:=fun{p u} q n c=>by
  simp_all
 have y:∀{C d:Addr} {l:List _},l≠[]->¬Ge (.ins C d l):=fun n q=>by
  rcases q with⟨l,q⟩|⟨C,d,q⟩|⟨u,v,q⟩
  ·cases q
  ·simp_all
  ·cases q
 have nl:∀{l:List V},¬Ge (.lst l):=fun q=>by rcases q with⟨l,q⟩|⟨C,d,q⟩|⟨u,v,q⟩<;>cases q
 have nk:∀{l:List _},¬Ge (.dK l):=fun q=>by rcases q with⟨l,q⟩|⟨C,d,q⟩|⟨u,v,q⟩<;>cases q
 rcases m with m|m|m|m|m|m|m|m|m|m|m
 ·exact key h.hx (y (by simp[aT,kA])) m
 ·exact key h.tk.hx (y (by simp[dH,rq])) m
 ·exact key h.tk.hD nk m
 ·exact key h.sd.hx (y (by simp[aZ,cT])) m
 ·exact key e2 (y (by simp[bO,vR])) m
 ·exact key e1 (y (by simp[aV,rA])) m
 ·exact key h.sd.ht nl m
 ·exact key h.sd.hk nk m
 ·exact key h.sd.hf nk m
 ·exact key h.sd.ha nk m
 ·exact key h.he nl m
theorem cC.live (h:cC CH CT CS CW CM tb H x A z) (m:b∈foot x A):∃u,H b=some u:=by
 obtain⟨e1,_⟩:=h.sd.ms;obtain⟨s,sp,e2⟩:=h.sd.ws.ins;simp only[foot,cR,d3,lj] at m;rcases m with m|m|m|m|m|m|m|m|m|m|m<;>rw[m]
 ·exact⟨_,h.hx⟩
 ·exact⟨_,h.tk.hx⟩
 ·exact⟨_,h.tk.hD⟩
 ·exact⟨_,h.sd.hx⟩
 ·exact⟨_,e2⟩
 ·exact⟨_,e1⟩
 ·exact⟨_,h.sd.ht⟩
 ·exact⟨_,h.sd.hk⟩
 ·exact⟨_,h.sd.hf⟩
 ·exact⟨_,h.sd.ha⟩
 ·exact⟨_,h.he⟩
theorem cC.fresh (h:cC CH CT CS CW CM tb H x A z) (e:H b=none):b ∉ foot x A:=fun m=>by
 obtain⟨u,q⟩:=h.live m;rw[e] at q;cases q
theorem cC.kp (h:cC CH CT CS CW CM tb H x A z) (k:Kp S H H') (d:∀b∈foot x A,b ∉ S) (im:∀b o,H b=some o->Ge o->b ∉ S):cC CH CT CS CW CM tb H' x A z:=by
 obtain⟨C,dd,e,hm⟩:=h.st;simp only[foot,cR,d3,lj] at d;exact⟨k _ _ h.hx (d _ (by simp)),⟨k _ _ h.tk.hx (d _ (by simp)),k _ _ h.tk.hD (d _ (by simp))⟩,h.sd.kp k (fun b i=>d _ (by grind)) (fun t l q=>im _ _ q (.inl ⟨l,rfl⟩)),
  ⟨C,dd,k _ _ e (im _ _ e (.inr (.inl ⟨C,dd,rfl⟩))),hm⟩,k _ _ h.he (d _ (by simp)),h.nd⟩
theorem cC.same (h:cC CH CT CS CW CM tb H x A z) (s:aE H H'):cC CH CT CS CW CM tb H' x A z:=h.kp (Kp.of s) (fun _ _=>d3) (fun _ _ _ _=>d3)
theorem cC.sender (h:cC CH CT CS CW CM tb H x A z) (f:A_ A.sd A.S H H') (s:g9 CS CW CM H' A.sd A.S v):cC CH CT CS CW CM tb H' x A {z with sd:=v}:=by
 have nd:=h.nd;have k:=f.kp;obtain⟨C,dd,e,hm⟩:=h.st;have im:=h.imm e (.inr (.inl ⟨C,dd,rfl⟩));have sub:∀{b:Addr},b ∉ foot x A->b ∉ [A.sd,A.S.pw,A.S.pm,A.S.pt,A.S.pk,A.S.pf,A.S.pa]:=fun n m=>n (by simp only[foot,cR,d3,lj] at m⊢;rcases m with q|q|q|q|q|q|q<;>subst q<;>simp)
 have out:∀{i:Nat} {b:Addr},(foot x A)[i]?=some b->(i<3\/i=10)->b ∉ [A.sd,A.S.pw,A.S.pm,A.S.pt,A.S.pk,A.S.pf,A.S.pa]:=fun{i b} u hh m=>by
  simp at m;rcases m with q|q|q|q|q|q|q
  ·exact gX nd u (j:=3) rfl (by lia) q
  ·exact gX nd u (j:=4) rfl (by lia) q
  ·exact gX nd u (j:=5) rfl (by lia) q
  ·exact gX nd u (j:=6) rfl (by lia) q
  ·exact gX nd u (j:=7) rfl (by lia) q
  ·exact gX nd u (j:=8) rfl (by lia) q
  ·exact gX nd u (j:=9) rfl (by lia) q
 exact⟨k _ _ h.hx (out (i:=0) rfl (by lia)),⟨k _ _ h.tk.hx (out (i:=1) rfl (by lia)),k _ _ h.tk.hD (out (i:=2) rfl (by lia))⟩,s,⟨C,dd,k _ _ e (sub im),hm⟩,k _ _ h.he (out (i:=10) rfl (by lia)),nd⟩
theorem cC.taker (h:cC CH CT CS CW CM tb H x A z) (f:Ji A.tk A.kd H H') (s:A6 CT H' A.tk A.dt A.kd E):cC CH CT CS CW CM tb H' x A {z with tk:=E}:=by
 have nd:=h.nd;have k:=f.kp;obtain⟨C,dd,e,hm⟩:=h.st;have sub:∀{b:Addr},b ∉ foot x A->b ∉ [A.tk,A.kd]:=fun n m=>n (by simp only[foot,cR,d3,lj] at m⊢;rcases m with q|q<;>subst q<;>simp)
 have out:∀{i:Nat} {b:Addr},(foot x A)[i]?=some b->i≠1->i≠2->b ∉ [A.tk,A.kd]:=fun{i b} u h1 y m=>by
  simp only[cR,d3,lj] at m;rcases m with q|q
  ·exact gX nd u rfl h1 q
  ·exact gX nd u rfl y q
 refine⟨k _ _ h.hx (out (i:=0) rfl (by lia) (by lia)),s,h.sd.kp k (fun b v=>?_) (fun t l q=>sub (h.imm q (.inl ⟨l,rfl⟩))),⟨C,dd,k _ _ e (sub (h.imm e (.inr (.inl ⟨C,dd,rfl⟩)))),hm⟩,k _ _ h.he (out (i:=10) rfl (by lia) (by lia)),nd⟩;simp only[cR,d3,lj] at v;rcases v with q|q|q|q|q|q|q<;>subst q
 ·exact out (i:=3) rfl (by lia) (by lia)
 ·exact out (i:=4) rfl (by lia) (by lia)
 ·exact out (i:=5) rfl (by lia) (by lia)
 ·exact out (i:=6) rfl (by lia) (by lia)
 ·exact out (i:=7) rfl (by lia) (by lia)
 ·exact out (i:=8) rfl (by lia) (by lia)
 ·exact out (i:=9) rfl (by lia) (by lia)
theorem cC.own (h:cC CH CT CS CW CM tb H x A z) (hs:TR tb H s nm) (due:Bool):cC CH CT CS CW CM tb (upd H x (.ins CH A.dx (aT (.int z.side) (.int z.R) (.ref A.tk) (.ref A.sd) (.ref s) (.bl due) (.ref A.pe)))) x {A with st:=s} {z with nm:=nm,due:=due}:=by
 have nd:=h.nd;have out:∀{i:Nat} {b:Addr},(foot x A)[i]?=some b->i≠0->b ∉ [x]:=fun{i b} v h1 m=>gX nd v rfl h1 (ec.mp m);have sub:∀{b:Addr},b ∉ foot x A->b ∉ [x]:=fun n m=>n (by rw[ec.mp m];simp[foot]);have k:Kp _ H (upd H x (.ins CH A.dx (aT (.int z.side) (.int z.R) (.ref A.tk) (.ref A.sd) (.ref s) (.bl due) (.ref A.pe)))):=Kp.one;obtain⟨C,dd,e,hm⟩:=hs;refine⟨ag,⟨k _ _ h.tk.hx (out (i:=1) rfl (by lia)),k _ _ h.tk.hD (out (i:=2) rfl (by lia))⟩,h.sd.kp k (fun b u=>?_) (fun t l q=>sub (h.imm q (.inl ⟨l,rfl⟩))),⟨C,dd,k _ _ e (sub (h.imm e (.inr (.inl ⟨C,dd,rfl⟩)))),hm⟩,k _ _ h.he (out (i:=10) rfl (by lia)),nd⟩;simp only[cR,d3,lj] at u;rcases u with q|q|q|q|q|q|q<;>subst q
 ·exact out (i:=3) rfl (by lia)
 ·exact out (i:=4) rfl (by lia)
 ·exact out (i:=5) rfl (by lia)
 ·exact out (i:=6) rfl (by lia)
 ·exact out (i:=7) rfl (by lia)
 ·exact out (i:=8) rfl (by lia)
 ·exact out (i:=9) rfl (by lia)
theorem cC.ends (h:cC CH CT CS CW CM tb H x A z):cC CH CT CS CW CM tb (upd H A.pe (.lst (l.map V.int))) x A {z with ends:=l}:=by
 have nd:=h.nd;have out:∀{i:Nat} {b:Addr},(foot x A)[i]?=some b->i≠10->b ∉ [A.pe]:=fun{i b} v h1 m=>gX nd v rfl h1 (ec.mp m);have sub:∀{b:Addr},b ∉ foot x A->b ∉ [A.pe]:=fun n m=>n (by rw[ec.mp m];simp[foot]);have k:Kp _ H (upd H A.pe (.lst (l.map V.int))):=Kp.one;obtain⟨C,dd,e,hm⟩:=h.st;refine⟨k _ _ h.hx (out (i:=0) rfl (by lia)),⟨k _ _ h.tk.hx (out (i:=1) rfl (by lia)),k _ _ h.tk.hD (out (i:=2) rfl (by lia))⟩,h.sd.kp k (fun b u=>?_) (fun t l q=>sub (h.imm q (.inl ⟨l,rfl⟩))),⟨C,dd,k _ _ e (sub (h.imm e (.inr (.inl ⟨C,dd,rfl⟩)))),hm⟩,ag,nd⟩;simp only[cR,d3,lj] at u;rcases u with q|q|q|q|q|q|q<;>subst q
 ·exact out (i:=3) rfl (by lia)
 ·exact out (i:=4) rfl (by lia)
 ·exact out (i:=5) rfl (by lia)
 ·exact out (i:=6) rfl (by lia)
 ·exact out (i:=7) rfl (by lia)
 ·exact out (i:=8) rfl (by lia)
 ·exact out (i:=9) rfl (by lia)
theorem cK {R:α->β->Prop}:∀{xs:List α} {i:List β},Paired R xs i->xs.length=i.length
 |_,_,.nil=>rfl
 |_,_,.cons _ t=>by simp[cK t]
theorem aP {R:α->β->Prop}:∀{xs:List α} {i:List β},Paired R xs i->(∀x y,R x y->R' x y)->Paired R' xs i
 |_,_,.nil,_=> .nil
 |_,_,.cons r t,h=> .cons (h _ _ r) (aP t h)
theorem kT {R:α->β->Prop}:∀{xs:List α} {v:List β} {i:List α} {u:List β},Paired R xs v->Paired R i u->Paired R (xs++i) (v++u)
 |_,_,_,_,.nil,q=>q
 |_,_,_,_,.cons r t,q=> .cons r (kT t q)
theorem De {R:α->γ->Prop}:∀{xs:List α} {i:List β},Paired (fun x y=>R x (f y)) xs i->Paired R xs (i.map f)
 |_,_,.nil=> .nil
 |_,_,.cons r t=> .cons r (De t)
theorem Dg {R:α->β->Prop}:∀{xs:List α} {q:List β} {i:Nat} {x:α},Paired R xs q->xs[i]?=some x->∃y,q[i]?=some y/\R x y
 |_,_,_,_,.nil,e=>by trivial
 |_,_,0,_,.cons r _,e=>by simp_all
 |_,_,i+1,_,.cons _ t,e=>by simpa using Dg t (‹_›)
noncomputable def qE (z:Str):Bool:=decide (1<=z.length)&&decide (z.length<=60)&&(eP z).all Nk
noncomputable def chunk (t:Str) (i:Nat):Str:=Txt.slice t (some ((4*i:Nat):Int)) (some ((4*i+4:Nat):Int))
noncomputable def chunks (t:Str):List Str:=(List.range ((t.length+3) / 4)).map (chunk t)
def W5 (H:Hp) (v:V) (k s:Str):Prop:= ∃p,v = .ref p/\H p=some (.tup [.str k,.str s])
noncomputable def vO (side R own other f l:Int):Hn:=⟨side,R,⟨R,own,0,0,[]⟩,⟨R,0,0,1,.non,false,[],[],[],[],l,f,0,MeterM.mn 2 other,none,other,other,0⟩,"shut",false,[]⟩
def F6 (i:Addr) (H:Hp) (x:Addr) (r o t g f l:Int):Prop:= ∃dx p,H x=some (.ins i dx (nT (.int r) (.ref p) (.int g) (.int f) (.int l)))/\H p=some (.tup [.int o,.int t])
theorem F6.same (h:F6 CT H x r o t g f l) (s:aE H H'):F6 CT H' x r o t g f l:=by
 obtain⟨dx,p,h1,i⟩:=h;exact⟨dx,p,s _ _ h1,s _ _ i⟩
def tV:Sp|vs,H,Q,E=>zqs vs fun z vs=>zqn vs (z.length<=1000/\∀H',aE H H'->Q (.bl (qE z)) H')
noncomputable abbrev Jh:=cC az bG ax aX aK tbl
def iW:Sp|vs,H,Q,E=>zqr vs fun x vs=>zqi vs fun side vs=>zqr vs fun tm vs=>zqn vs ( ∃dx r o t g f l,H x=some (.ins az dx [])/\F6 fK H tm r o t g f l/\good r o t g f l/\(side=0\/side=1)/\∀A H',jf x H H'->(∀b,b∈(foot x A).tail->H b=none)->Jh H' x A (vO side r (if side=0 then o else t) (if side=0 then t else o) f l)->Q .non H')
def oM:Sp|vs,H,Q,E=>zqr vs fun x vs=>zqn vs ( ∃A z,Jh H x A z/\Q (.str z.nm) H)
def mV (K:W.Frag):Sp|vs,H,Q,E=>zqr vs fun x vs=>zqn vs ( ∃A z,Jh H x A z/\z.sd.T.length<1000/\(∀nx,bR z.nm "begin" = some nx->∀a i H',(∀H,du K H a [.str "begin",.str ""])->Kp (foot x A) H H'->Jh H' x {A with st:=i} {z with nm:=nx,sd:={z.sd with T:=z.sd.T++ [.ref a]}}->Q .non H')/\(bR z.nm "begin" = none->∀H' d,aE H H'->H' d=some (.xd [("state",.str z.nm),("wish",.str "begin")])->E (.ref aL) (some d) H'))
def qO (K:W.Frag):Sp|vs,H,Q,E=>zqr vs fun x vs=>zqn vs ( ∃A z,Jh H x A z/\z.sd.T.length<1000/\z.ends.length<1000/\(∀nx,bR z.nm "end" = some nx->∀a i H',(∀H,du K H a [.str "end",.str ""])->Kp (foot x A) H H'->Jh H' x {A with st:=i} {z with nm:=nx,ends:=z.ends++ [(z.sd.T.length:Int)],sd:={z.sd with T:=z.sd.T++ [.ref a]}}->Q .non H')/\(bR z.nm "end" = none->∀H' d,aE H H'->H' d=some (.xd [("state",.str z.nm),("wish",.str "end")])->E (.ref aL) (some d) H'))
def qN:Sp|vs,H,Q,E=>zqr vs fun x vs=>zqs vs fun t vs=>zqn vs ( ∃A z,Jh H x A z/\z.sd.T.length<=980/\t.length<=1000/\qE t=true/\(PN z.nm=false->∀H' d,aE H H'->H' d=some (.xd [("state",.str z.nm),("wish",.str "put")])->E (.ref aL) (some d) H')/\(PN z.nm=true->∀vs H',Kp (foot x A) H H'->Jh H' x A {z with sd:={z.sd with T:=z.sd.T++vs}}->Paired (fun v s=>W5 H' v "signs" s) vs (chunks t)->Q .non H'))
noncomputable abbrev Th:=Str×Str
def sA (K:W.Frag) (H:Hp) (v:V) (t:Th):Prop:= ∃p,v = .ref p/\du K H p [.str t.1,.str t.2]
theorem sA.keep (h:sA K H v t) (k:∀p o,H p=some o->Ge o->H' p=some o):sA K H' v t:=by
 obtain⟨p,rfl,h⟩:=h;refine⟨p,rfl,?_⟩;rcases h with(h|⟨o,h⟩)|h
 ·exact .inl (.inl (k _ _ h (.inl ⟨_,rfl⟩)))
 ·exact .inl (.inr ⟨o,k _ _ h (.inr (.inr ⟨_,_,rfl⟩))⟩)
 ·exact .inr h
def jz (H H':Hp):Prop:= ∀p o,H p=some o->Ge o->H' p=some o
theorem jz.of (s:aE H H'):jz H H':=fun p o e _=>s p o e
theorem jz.trans (a:jz H H1) (b:jz H1 H2):jz H H2:=fun p o e i=>b p o (a p o e i) i
structure gF where
 side:Int
 R:Int
 M:Int
 g:Int
 o:Int
 D:Int->Option Th
 s:Sd
 T:List Th
 nm:Str
 due:Bool
 ends : List Int
structure c8 (K:W.Frag) (H:Hp) (z:Hn) (a:gF):Prop where
 side:z.side=a.side
 R:z.R=a.R
 tR:z.tk.R=a.R
 tM:z.tk.M=a.M
 g:z.tk.g=a.g
 o:z.tk.o=a.o
 dn:∀i:Int,bj z.tk.D (ik i)=none->a.D i=none
 ds:∀(i:Int) v,bj z.tk.D (ik i)=some v->∃t,a.D i=some t/\sA K H v t
 dk:(z.tk.D.map Prod.fst).Nodup
 db:∀k∈z.tk.D.map Prod.fst,∃i:Int,k=ik i/\a.o<=i/\i<a.o+a.M
 s:∃vs,z.sd={a.s with T:=vs}/\Paired (sA K H) vs a.T/\a.s.T.length=vs.length
 nm:z.nm=a.nm
 due:z.due=a.due
 ends : z.ends = a.ends
theorem c8.keep (h:c8 K H z a) (k:jz H H'):c8 K H' z a:=by
 obtain⟨vs,e1,e2,e3⟩:=h.s;exact{h with ds:=fun i v e=>by {obtain⟨t,t1,t2⟩:=h.ds i v e;exact⟨t,t1,t2.keep k⟩},s:=⟨vs,e1,aP e2 fun _ _ q=>q.keep k,e3⟩}
theorem Hd (h:ik i=ik j):i=j:=by injection h
theorem c8.len (h:c8 K H z a) (hm:0<=a.M):(z.tk.D.length:Int)<=a.M:=by
 have hn:=h.dk;have v:=h.db;have key:∀(n:Nat) (l:List _),l.Nodup->(∀k∈l,∃i:Int,k=ik i/\a.o<=i/\i<a.o+n)->l.length<=n:=by
  intro n
  induction n with
  |zero=>
   intro l _ h;cases l with
   |nil=>trivial
   |cons k l=>obtain⟨i,_,h1,q⟩:=h k (sm ..);lia
  |succ n u=>
   intro l hl h;have q:=u (l.filter fun k=>!decide (k=ik (a.o+n))) (Yn X7 hl) (fun k hk=>by
    grind)
   have y:l.length<=(l.filter fun k=>!decide (k=ik (a.o+n))).length+1:=by
    clear h q u
    induction l with
    |nil=>simp_all
    |cons k l u=>
     obtain⟨n1,x⟩:=Sk.mp hl;by_cases e:k=ik (a.o+n)
     ·have:(l.filter fun k=>!decide (k=ik (a.o+n)))=l:=XF.mpr fun b v=>by
       lia
      rw[XD,a5 (by simp[e]),this];simp
     ·simp_all
   lia
 have:=key a.M.toNat _ hn (fun k hk=>by
  obtain⟨i,e,h1,q⟩:=v k hk;exact⟨i,e,h1,by lia⟩)
 rw[cF] at this;lia
def HM (u i q y C:Addr) (v:List (Addr×Str)) (K:W.Frag) (H:Hp) (x:Addr) (A:Wi) (a:gF):Prop:= ∃z,cC u i q y C v H x A z/\c8 K H z a
theorem HM.same (h:HM CH CT CS CW CM tb K H x A a) (s:aE H H'):HM CH CT CS CW CM tb K H' x A a:=by
 obtain⟨z,h1,i⟩:=h;exact⟨z,h1.same s,i.keep (jz.of s)⟩
noncomputable def bH (a:gF) (ts:List Th):gF:={a with T:=a.T++ts,s:={a.s with T:=a.s.T++ts.map fun _=>V.non}}
noncomputable def dR (a:gF) (m:Int):Nat:=((if a.g<a.o+m then a.g else a.o+m)-a.o).toNat
noncomputable def vk (a:gF) (m:Int):List Th:=(List.range (dR a m)).map fun j:Nat=>(a.D (a.o+(j:Int))).getD (Str.ofString "",Str.ofString "")
noncomputable def l8 (a:gF) (m:Int):gF:={a with o:=a.o+(dR a m:Int),D:=fun i=>if a.o<=i/\i<a.o+(dR a m:Int) then none else a.D i,due:=a.due||(decide (a.o+a.M-a.g<=0)&&decide (0<a.o+(dR a m:Int)+a.M-a.g))}
noncomputable def jn (a:gF) (k:Str):gF:=
 if k = "begin" then{(if a.nm = "shut" then bH a [(Str.ofString "begin",Str.ofString "")] else a) with nm:=(bR a.nm "begun").getD a.nm}
 else if k = "end" then{a with nm:=(bR a.nm "ended").getD a.nm} else a
theorem Lm {k:Key} (h:k∈D.map Prod.fst):(bj D k).isSome=true:=by
 obtain⟨e,he,rfl⟩:=ke.mp h;unfold bj;rw[XM,List.find?_isSome];exact⟨e,he,by simp⟩
theorem c8.read {due:Bool} (h:c8 K H z a) (F:n=dR a m) (hD:∀i:Int,bj x (ik i)=if a.o<=i/\i<a.o+n then none else bj z.tk.D (ik i)) (E:x.Sublist z.tk.D) (C:due=(l8 a m).due):c8 K H {z with tk:=⟨z.tk.R,z.tk.M,z.tk.g,z.tk.o+n,x⟩,due:=due} (l8 a m):=by
 subst F;have y:(x.map Prod.fst).Sublist _:=E.map _;refine⟨h.side,h.R,h.tR,h.tM,h.g,by show z.tk.o+_=a.o+_;rw[h.o],fun i e=>?_,fun i v e=>?_,Yn y h.dk,fun k hk=>?_,h.s,h.nm,C,h.ends⟩
 ·have q:=e;rw[hD] at q;show(if a.o<=i/\i<a.o+(dR a m) then none else a.D i)=none;split
  ·rfl
  ·rename_i c;rw[a5 c] at q;exact h.dn i q
 ·have q:=e;rw[hD] at q;show∃t,(if a.o<=i/\i<a.o+(dR a m) then none else a.D i)=some t/\_;split at q
  ·cases q
  ·rename_i c;rw[a5 c];exact h.ds i v q
 ·have u:=hk;obtain⟨i,rfl,G,i2⟩:=h.db k (y.subset u);have:=Lm u;rw[hD] at this;refine⟨i,rfl,?_,?_⟩
  ·show a.o+_<=i;split at this
   ·trivial
   ·lia
  ·show i<a.o+_+a.M;lia
theorem c8.vals {K:W.Frag} {H:Hp} {z:Hn} {a:gF} (h:c8 K H z a):∀(n:Nat) (o:Int),(∀i,o<=i->i<o+n->(a.D i).isSome=true)->Paired (sA K H) (vals z.tk.D o n) ((List.range n).map fun j:Nat=>(a.D (o+(j:Int))).getD (Str.ofString "",Str.ofString ""))
 |0,_,_=> .nil
 |n+1,o,hs=>by
  have k:=h.vals n o (fun i h1 q=>hs i h1 (by lia));have h1:=hs (o+n) (by lia) (by lia);cases e:bj _ (ik _) with
  |none=>rw[h.dn _ e] at h1;cases h1
  |some v=>
   obtain⟨t,t1,t2⟩:=h.ds _ v e;rw[wI e,List.range_succ,Xh];refine kT k (.cons ?_ .nil);show sA K H v ((a.D _).getD _);rw[t1];exact t2
theorem uD {w:Str} (h:w≠ "begin") (i:w≠ "end"):bR nm w=some ((bR nm w).getD nm):=by
 unfold bR;split
 ·rfl
 ·simp_all
theorem c8.name {nm:Str} (h:c8 K H z a):c8 K H {z with nm:=nm} {a with nm:=nm}:={h with nm:=rfl}
theorem c8.Ww (h:c8 K H z a) (i:sA K H v t):c8 K H {z with sd:={z.sd with T:=z.sd.T++ [v]}} (bH a [t]):=by
 obtain⟨vs,e1,e2,e3⟩:=h.s;refine{h with s:=⟨_,?_,kT e2 (.cons i .nil),?_⟩}
 ·rw[e1];rfl
 ·show(a.s.T++ [V.non]).length=_;rw[ey,ey,e3];rfl
noncomputable abbrev sZ:=HM az bG ax aX aK tbl
def oK (K:W.Frag):Sp|vs,H,Q,E=>zqr vs fun x vs=>zqi vs fun m vs=>zqn vs ( ∃A a,sZ K H x A a/\(0<=m/\m<=1000/\0<=a.o/\a.o<=a.g/\a.g<=10000)/\(∀i,a.o<=i->i<a.g->(a.D i).isSome=true)/\∀p vs H',H p=none->Kp (foot x A) H H'->sZ K H' x A (l8 a m)->H' p=some (.lst vs)->Paired (sA K H') vs (vk a m)->Q (.ref p) H')
def iU (K:W.Frag):Sp|vs,H,Q,E=>zqr vs fun x vs=>zqs vs fun k vs=>zqn vs ( ∃A a,sZ K H x A a/\a.T.length<990/\∀i H',Kp (foot x A) H H'->sZ K H' x {A with st:=i} (jn a k)->Q .non H')
theorem EK (h:H p=none):aE H (upd H p o):=fun b u e=>by rw[af (fun z=>by simp_all)];exact e
noncomputable def runN (D:Int->Option Th):Nat->Int->Nat
 |0,_=>0
 |k+1,g=>if(D g).isSome then runN D k (g+1)+1 else 0
theorem HW:∀(k n:Nat) (g:Int),(∀j:Nat,j<n->(D (g+j)).isSome=true)->D (g+n)=none->n<=k->runN D k g=n
 |0,n,g,_,_,h=>by unfold runN;lia
 |k+1,0,g,_,h2,_=>by
  unfold runN;rw[a5 (by simp_all)]
 |k+1,n+1,g,h1,h2,h=>by
  unfold runN;rw[bc (by have:=h1 0 (by lia);rwa [show g+((0:Nat))=g by lia] at this)];rw[HW k n _ (fun j i=>by grind) (by lia) (by lia)]
theorem C6:∀(k:Nat) (g:Int),runN D k g<=k
 |0,_=>by unfold runN;lia
 |k+1,g=>by
  unfold runN;have:=C6 (D:=D) k (g+1);split<;>lia
noncomputable def qt (a:gF) (m:Int):Int:=a.g+(m-a.g) % a.R
noncomputable def iO (a:gF) (m:Int) (t:Th):Int->Option Th:=fun j=>if j=qt a m then(if(a.D j).isSome then a.D j else some t) else a.D j
noncomputable def gu (a:gF) (m:Int) (t:Th):Nat:=runN (iO a m t) a.M.toNat a.g
noncomputable def sC (a:gF) (m:Int) (t:Th):List Th:=(List.range (gu a m t)).map fun j:Nat=>(iO a m t (a.g+(j:Int))).getD (Str.ofString "",Str.ofString "")
noncomputable def qH (a:gF):List Th->gF:=List.foldl (fun a u=>jn a u.1) a
noncomputable def EF (a:gF) (m:Int) (t:Th):gF:=if a.o+a.M-a.g<=(m-a.g) % a.R then a else qH {a with g:=a.g+(gu a m t:Int),D:=iO a m t} (sC a m t)
noncomputable def Gs (a:gF) (m:Int):List V:=if a.o+a.M-a.g<=(m-a.g) % a.R then[.str "old",.non] else[.str "filed",.int (qt a m)]
theorem Ey {k:Key} (h:(bj D k).isSome=true):k∈D.map Prod.fst:=by
 unfold bj at h;rw[XM,List.find?_isSome] at h;obtain⟨e,he,hk⟩:=h;exact ke.mpr ⟨e,he,by simp_all⟩
theorem KP (h:c8 K H z a) (P:sA K H v t) (m0:0<=a.M) (og:a.o<=a.g) (I:0<a.R) (lt:(m-a.g) % a.R<a.o+a.M-a.g) (E:q=if(bj z.tk.D (ik (qt a m))).isSome then z.tk.D else putK z.tk.D (ik (qt a m)) v) (y:Run q a.g n):c8 K H {z with tk:=⟨z.tk.R,z.tk.M,z.tk.g+n,z.tk.o,q⟩} {a with g:=a.g+(gu a m t:Int),D:=iO a m t}/\n=gu a m t/\Paired (sA K H) (vals q a.g n) (sC a m t):=by
 have O:0<=(m-a.g) % a.R:=ny _ (by lia);have Q:a.o<=qt a m/\qt a m<a.o+a.M:=by unfold qt;lia
 have i:∀j:Int,(bj q (ik j)=none->iO a m t j=none)/\(∀u,bj q (ik j)=some u->∃t',iO a m t j=some t'/\sA K H u t'):=fun j=>by
  unfold iO;rw[E];cases e:bj z.tk.D (ik (qt a m)) with
  |some u0=>
   rw[bc (show(some u0).isSome=true from rfl)];by_cases c:j=qt a m
   ·subst c;obtain⟨t0,t1,t2⟩:=h.ds _ _ e;rw[bc rfl,bc (by simp_all)];exact⟨(fun z=>by simp_all),fun u x=>h.ds _ _ x⟩
   ·rw[a5 c];exact⟨h.dn j,h.ds j⟩
  |none=>
   rw[a5 (by decide),vd];by_cases c:j=qt a m
   ·rw[bc (by rw[c]),bc c,a5 (by rw[c,h.dn _ e];decide)];exact⟨(fun z=>by cases z),fun u x=>by simp_all⟩
   ·rw[a5 (fun z=>c (Hd z)),a5 c];exact⟨h.dn j,h.ds j⟩
 have F:∀k∈q.map Prod.fst,∃j:Int,k=ik j/\a.o<=j/\j<a.o+a.M:=fun k hk=>by
  rw[E] at hk;cases e:bj z.tk.D (ik (qt a m)) with
  |some u0=>rw[e,bc (show(some u0).isSome=true from rfl)] at hk;exact h.db k hk
  |none=>
   rw[e,a5 (by decide),EX v e,Xh,gs] at hk;rcases hk with hk|hk
   ·exact h.db k hk
   ·simp_all
 have kn:(q.map Prod.fst).Nodup:=by
  rw[E];cases e:bj z.tk.D (ik (qt a m)) with
  |some u0=>rw[bc (show(some u0).isSome=true from rfl)];exact h.dk
  |none=>rw[a5 (by decide)];exact PL v h.dk e
 have C:n=gu a m t:=by
  unfold gu;refine(HW _ _ _ (fun j G=>?_) ((i _).1 y.2) ?_).symm
  ·obtain⟨u,x⟩:=ro.mp (y.1 j G);obtain⟨t',e1,_⟩:=(i _).2 u x;rw[e1];rfl
  ·cases n with
   |zero=>simp_all
   |succ k=>
    obtain⟨j,e1,_,e2⟩:=F _ (Ey (y.1 k (by lia)));have:=Hd e1;lia
 have R:c8 K H {z with tk:=⟨z.tk.R,z.tk.M,z.tk.g+n,z.tk.o,q⟩} {a with g:=a.g+(gu a m t:Int),D:=iO a m t}:=⟨h.side,h.R,h.tR,h.tM,by show z.tk.g+_=a.g+_;rw[h.g,C],h.o,fun j=>(i j).1,fun j=>(i j).2,kn,F,h.s,h.nm,h.due,h.ends⟩;refine⟨R,C,?_⟩;have:=c8.vals R n a.g (fun j h1 U=>by
  obtain⟨k,rfl⟩:∃k:Nat,j=a.g+k:=⟨(j-a.g).toNat,by lia⟩;obtain⟨u,x⟩:=ro.mp (y.1 k (by lia));obtain⟨t',e1,_⟩:=(i _).2 u x;show(iO a m t _).isSome=true;rw[e1];rfl)
 unfold sC;rw[<-C];exact this
theorem LH (a:gF) (k:Str):(jn a k).T.length<=a.T.length+1:=by
 unfold jn;split
 ·show(if a.nm = "shut" then bH a _ else a).T.length<=_;split
  ·show(a.T++ [_]).length<=_;rw[ey];exact cm _
  ·lia
 ·split
  ·simp_all
  ·lia
theorem EI:∀(ts:List Th) (a:gF),(qH a ts).T.length<=a.T.length+ts.length
 | [],a=>cm _
 |t::ts,a=>by
  have h1:=EI ts (jn a t.1);have i:=LH a t.1;show(qH (jn a _) ts).T.length<=_;rw[tH];lia
theorem Jt {ts:List Th} (h:ts[i]?=some t):qH a (ts.take (i+1))=jn (qH a (ts.take i)) t.1:=by
 unfold qH;rw[ON,h,XO];rfl
def jJ (K:W.Frag):Sp|vs,H,Q,E=>zqr vs fun x vs=>zqi vs fun m vs=>zqr vs fun th vs=>zqn vs ( ∃A a t,sZ K H x A a/\sA K H (.ref th) t/\(0<a.R/\0<=a.M/\a.M<=16/\a.o<=a.g/\a.T.length<960)/\∀i r H',Kp (foot x A) H H'->sZ K H' x {A with st:=i} (EF a m t)->du K H' r (Gs a m)->Q (.ref r) H')
noncomputable def cq (s:Sd) (nu rm:Int) (hs:List Int) (tn:Int):Sd:=if s.t-s.b<far' s nu then s else hrd s nu rm hs tn
noncomputable def pI (lo i:Int) (q:List Int) (nm:Str):Str:=q.foldl (fun nm p=>if lo<=p/\p<i then(bR nm "answered").getD nm else nm) nm
noncomputable def Au (a:gF) (nu rm:Int) (hs:List Int) (tn:Int):gF:={a with s:=cq a.s nu rm hs tn,nm:=pI a.s.b (cq a.s nu rm hs tn).b a.ends a.nm}
structure A7 (s:Sd) (hs:List Int) (tn:Int):Prop where
 bz:Bz s
 r0:0<s.R
 hl:hs.length<=100
 hn:hs.Nodup
 hp:∀k∈hs,0<=k
 tq:Tq s tn
 kl:s.Kn.length<900000
 tm:s.t<=430
 kc:s.k<=cnt s.Kn s.t.toNat
theorem P7:cq {s with T:=vs} nu rm hs tn={cq s nu rm hs tn with T:=vs}:=by
 unfold cq;show(if s.t-s.b<far' s nu then _ else _)=_;split
 ·rfl
 ·rfl
theorem Fs:(cq s nu rm hs tn).T=s.T:=by
 unfold cq;split<;>rfl
theorem c8.snd {nm:Str} (h:c8 K H z a) (e2:Paired (sA K H) vs a.T) (e3:s2.T.length=vs.length):c8 K H {z with sd:={s2 with T:=vs},nm:=nm} {a with s:=s2,nm:=nm}:=
 {h with s:=⟨vs,rfl,e2,e3⟩,nm:=rfl}
theorem oo {q:List Int} (h:q[i]?=some p):pI lo hi (q.take (i+1)) nm=if lo<=p/\p<hi then(bR (pI lo hi (q.take i) nm) "answered").getD (pI lo hi (q.take i) nm) else pI lo hi (q.take i) nm:=by
 unfold pI;rw[ON,h,XO];rfl
def oN (K:W.Frag):Sp|vs,H,Q,E=>zqr vs fun x vs=>zqr vs fun pc vs=>zqi vs fun tn vs=>zqn vs ( ∃A a kd n nu rm hd q hs,sZ K H x A a/\H pc=some (.tup [kd,n,.int nu,.int rm,.ref hd,q])/\H hd=some (.tup (hs.map V.int))/\A7 a.s hs tn/\∀i H',Kp (foot x A) H H'->sZ K H' x {A with st:=i} (Au a nu rm hs tn)->Q .non H')
theorem c8.dued (h:c8 K H z a):c8 K H {z with due:=d} {a with due:=d}:={h with due:=rfl}
noncomputable def sS (f:Int):Bool:=decide (0<=f/\f<18889465931478580854784)&&(decide (Rem.R f.toNat=0)&&rl f.toNat)
def jA:Sp|vs,H,Q,E=>zqi vs fun f vs=>zqn vs ((sS f=false->∀H',aE H H'->Q .non H')/\(sS f=true->∀t H',aE H H'->Of H' t (f.toNat / 256)->Q (.ref t) H'))
noncomputable def gx (f:Int):Nat:=f.toNat / 256
noncomputable def eB (a:gF) (f:Int):Bool:=sS f&&(decide (Es (gx f)<a.R)&&decide (Kw (gx f)<a.R))
noncomputable def qr (a:gF) (f tn:Int):gF:=Au a (Kw (gx f)) (Ov (gx f)) (uI (gx f)) tn
noncomputable def yO (a:gF) (f tn:Int):gF:=if eB a f then(if qu (gx f) = "bare" then qr a f tn else if qu (gx f) = "ask" then{qr a f tn with due:=true} else EF {qr a f tn with due:=true} (Es (gx f)) (qu (gx f),B9 (gx f))) else a
noncomputable def CB (a:gF) (f tn:Int):List V:=if eB a f then(if qu (gx f) = "bare" then[.str "bare",.non] else if qu (gx f) = "ask" then[.str "ask",.non] else Gs {qr a f tn with due:=true} (Es (gx f))) else[.str "spoilt",.non]
def oO (K:W.Frag):Sp|vs,H,Q,E=>zqr vs fun x vs=>zqi vs fun f vs=>zqi vs fun tn vs=>zqn vs ( ∃A a,sZ K H x A a/\(eB a f=true->A7 a.s (uI (gx f)) tn)/\(0<a.R/\0<=a.M/\a.M<=16/\a.o<=a.g/\a.T.length<960)/\∀i r H',Kp (foot x A) H H'->sZ K H' x {A with st:=i} (yO a f tn)->du K H' r (CB a f tn)->Q (.ref r) H')
theorem Ij {R:α->β->Prop}:∀{xs:List α} {q:List β} {i:Nat} {y:β},Paired R xs q->q[i]?=some y->∃x,xs[i]?=some x/\R x y
 |_,_,_,_,.nil,e=>by trivial
 |_,_,0,_,.cons r _,e=>by simp_all
 |_,_,i+1,_,.cons _ t,e=>by simpa using Ij t (‹_›)
theorem RM {R:α->β->Prop} (h:Paired R xs ys) (e:iN ys i=some y):∃x,iN xs i=some x/\R x y:=by
 have hl:=cK h;unfold iN at e⊢;rw[hl];cases q:Li _ i with
 |none=>simp_all
 |some j=>rw[q] at e;exact Ij h e
noncomputable def yd (a:gF):List Int:=((List.range (a.o+a.M-a.g-1).toNat).filter fun j:Nat=>(a.D (a.g+(1+(j:Int)))).isSome).map (fun j:Nat=>1+(j:Int))
theorem c8.held (h:c8 K H z a):yo z.tk.D z.tk.g (z.tk.o+z.tk.M-z.tk.g-1).toNat=yd a:=by
 unfold yo yd;rw[h.g,h.o,h.tM];congr 1;congr 1;funext j;cases e:bj _ (ik _) with
 |none=>rw[h.dn _ e];rfl
 |some v=>obtain⟨t,t1,_⟩:=h.ds _ v e;rw[t1];rfl
def iV (K:W.Frag):Sp|vs,H,Q,E=>zqr vs fun x vs=>zqs vs fun w vs=>zqv vs fun pl vs=>zqn vs ( ∃A a,sZ K H x A a/\(0<a.R/\0<=a.o+a.M-a.g/\a.o+a.M-a.g<=1000)/\((pl = .non/\∀t H',aE H H'->pJ H' t w 0 (a.g % a.R) (a.o+a.M-a.g) (yd a) ""->Q (.ref t) H')\/(∃p th,pl = .int p/\iN a.T p=some th/\th.2.length<=1000/\∀t H',aE H H'->pJ H' t th.1 (p % a.R) (a.g % a.R) (a.o+a.M-a.g) (yd a) th.2->Q (.ref t) H')))
noncomputable def xF (s:Sd) (n:Int):Sd×Option (Str×Option Int):=
 if s.b<s.t/\GR s.clk n=true then(Q1 s n,some (Str.ofString "again",some s.b))
 else if He s=true then(UZ s n,some (Str.ofString "again",some s.b))
 else if pq s=true then(UP s n,some (Str.ofString "new",some s.t))
 else if s.t<s.T.length/\s.b=s.t then(match s.clk with
  | .int i=>if n<i then(s,none) else(VQ s n,some (Str.ofString "ask",none))
  |_=>(Uo s n,none))
 else(s,none)
noncomputable def J8:Option Int->V
 |none=> .non
 |some i=> .int i
theorem Vw (h:W9 z z' n v H H'):z'=(xF z n).1/\(((xF z n).2=none/\v = .non)\/∃w pl p,(xF z n).2=some (w,pl)/\v = .ref p/\H p=none/\H' p=some (.tup [.str w,J8 pl])):=by
 unfold xF;rcases h with⟨h1,x,rfl,p,rfl,u,q⟩|⟨h1,h⟩
 ·rw[bc ⟨h1,x⟩];exact⟨rfl,.inr ⟨_,_,p,rfl,rfl,u,q⟩⟩
 ·rw[a5 (fun c=>by simp_all)];rcases h with⟨x,rfl,p,rfl,u,q⟩|⟨x,h⟩
  ·rw[bc x];exact⟨rfl,.inr ⟨_,_,p,rfl,rfl,u,q⟩⟩
  ·rw[a5 (by simp_all)];rcases h with⟨u,rfl,p,rfl,q,y⟩|⟨u,h⟩
   ·rw[bc u];exact⟨rfl,.inr ⟨_,_,p,rfl,rfl,q,y⟩⟩
   ·rw[a5 (by simp_all)];rcases h with⟨q,y,h⟩|⟨q,rfl,rfl⟩
    ·rw[bc ⟨q,y⟩];rcases h with⟨c,rfl,rfl⟩|⟨i,c,E,rfl,rfl⟩|⟨i,c,E,rfl,p,rfl,C,F⟩
     ·rw[c];exact⟨rfl,.inl ⟨rfl,rfl⟩⟩
     ·simp_all
     ·rw[c];refine⟨?_,.inr ⟨_,none,p,?_,rfl,C,F⟩⟩
      ·show _=(if n<i then _ else _:Sd×Option _).1;rw[a5 (by lia)]
      ·show(if n<i then _ else _:Sd×Option _).2=_;rw[a5 (by lia)]
    ·rw[a5 q];exact⟨rfl,.inl ⟨rfl,rfl⟩⟩
theorem Vx (hl:s.T.length=vs.length):xF {s with T:=vs} n=({(xF s n).1 with T:=vs},(xF s n).2):=by
 have e1:pq {s with T:=vs}=pq s:=by show(decide (s.t<(vs.length:Int))&&_&&_)=_;rw[<-hl];rfl
 unfold xF;rw[e1];show(if s.b<s.t/\GR s.clk n=true then _ else if He s=true then _ else if pq s=true then _ else if s.t<(vs.length:Int)/\s.b=s.t then _ else _)=_;rw[<-hl];split
 ·rfl
 ·split
  ·rfl
  ·split
   ·rfl
   ·split
    ·cases e:s.clk with
     |int i=>
      by_cases c:n<i
      ·simp only[bc c,e]
      ·simp only[a5 c];rfl
     |_=>rfl
    ·rfl
noncomputable def yU (a:gF) (n:Int):Option (Str×Option Int):=match (xF a.s n).2 with
 |some q=>some q
 |none=>if a.due then some (Str.ofString "bare",none) else none
noncomputable def b9 (a:gF) (n:Int):gF:={a with s:=(xF a.s n).1,due:=false}
noncomputable def GO (a:gF) (w:Str):Option Int->Str×Str
 |none=>(w,Str.ofString "")
 |some p=>(iN a.T p).getD (Str.ofString "",Str.ofString "")
noncomputable def RN (a:gF):Option Int->Int
 |none=>0
 |some p=>p % a.R
noncomputable def LL (a:gF) (w:Str) (pl:Option Int):Bool:=cB (GO a w pl).1 (RN a pl) (a.g % a.R) (a.o+a.M-a.g) (yd a) (GO a w pl).2
noncomputable def Jw (a:gF) (w:Str) (pl:Option Int):Nat:=iy (GO a w pl).1 (RN a pl) (a.g % a.R) (a.o+a.M-a.g) (yd a) (GO a w pl).2
structure Oe (a:gF) (n:Int):Prop where
 bz:Bz a.s
 ck:a.s.clk = .non\/∃i,a.s.clk = .int i
 la:a.s.Ag.length<1000000
 lf:a.s.Fi.length<1000000
 r0:0<a.R
 m0:0<=a.o+a.M-a.g
 m1:a.o+a.M-a.g<=1000
 pb:∀w pl,yU a n=some (w,pl)->LL a w pl=true/\∀p,pl=some p->∃th,iN a.T p=some th/\th.2.length<=1000
theorem c8.sent (h:c8 K H z a) (e2:Paired (sA K H) vs a.T) (e3:s2.T.length=vs.length):c8 K H {z with sd:={s2 with T:=vs},due:=d} {a with s:=s2,due:=d}:=
 {h with s:=⟨vs,rfl,e2,e3⟩,due:=rfl}
theorem Np:(xF s n).1.T=s.T:=by
 unfold xF;split
 ·rfl
 ·split
  ·rfl
  ·split
   ·rfl
   ·split
    ·cases e:s.clk with
     |int i=>
      by_cases c:n<i
      ·simp_all
      ·simp only[a5 c];rfl
     |_=>rfl
    ·rfl
def oJ (K:W.Frag):Sp|vs,H,Q,E=>zqr vs fun x vs=>zqi vs fun n vs=>zqn vs ( ∃A a,sZ K H x A a/\Oe a n/\(yU a n=none->∀H',Kp (foot x A) H H'->sZ K H' x A (b9 a n)->Q .non H')/\(∀w pl,yU a n=some (w,pl)->∀r H',Kp (foot x A) H H'->sZ K H' x A (b9 a n)->H' r=some (.tup [.int (Jw a w pl:Nat),.str w,J8 pl])->Q (.ref r) H'))
def jD (K:W.Frag):Sp|vs,H,Q,E=>zqr vs fun a vs=>zqi vs fun k vs=>zqn vs ( ∃ns:List Int,cI K H a (ns.map V.int)/\0<=k/\∀n,Q (.int n) H)
def mN:Sp|vs,H,Q,E=>zqi vs fun c vs=>zqi vs fun k vs=>zqn vs (0<=k/\∀v,0<=v->v<2147483648->Q (.int v) H)
def wide (r o t g f l:Int):Prop:=good r o t g f l/\¬r<pB o t g
def mK:Sp|vs,H,Q,E=>zqi vs fun c vs=>zqi vs fun n vs=>zqn vs ( ∀x r o t g f l H',aE H H'->F6 fK H' x r o t g f l->wide r o t g f l->Q (.ref x) H')
def oB:Sp|vs,H,Q,E=>zqi vs fun c vs=>zqi vs fun n vs=>zqn vs ((0<=n/\n<=100)/\∀z H',aE H H'->(z.length:Int)=n->(∀c∈z.cps.toList,c∈sgl)->Q (.str z) H')
structure Gk (z z':Sd):Prop where
 R:z'.R=z.R
 L:z'.L=z.L
 b:z'.b=z.b
 e:z'.e=z.e
 T:z'.T=z.T
 Kn:z'.Kn=z.Kn
 k:z'.k=z.k
 g:z'.g=z.g
 ck:z'.clk = .non\/∃i,z'.clk = .int i
structure Hk (z z':Sd) (nu rm:Int) (hs:List Int):Prop where
 R:z'.R=z.R
 L:z'.L=z.L
 t:z'.t=z.t
 T:z'.T=z.T
 Fi:z'.Fi=z.Fi
 Ag:z'.Ag=z.Ag
 b:z'.b=z.b+far' z nu
 e:z'.e=if z.e<z.b+far' z nu+rm then z.b+far' z nu+rm else z.e
 Kn:z'.Kn=putAll (kC z nu).Kn (vb z nu hs)
 k:z'.k<=z.k+(wF z nu).length+(vb z nu hs).length
 ck:(z'.clk = .non\/∃i,z'.clk = .int i)
theorem MX:∀{fs:List Int} {s:Ws},(fs.foldl (Lh z tn) s).2.2<=s.2.2+fs.length
 | [],_=>cm _
 |a::l,s=>by
  have h1:=MX (z:=z) (tn:=tn) (fs:=l) (s:=Lh z tn s a);have i:(Lh z tn s a).2.2<=s.2.2+1:=by
   unfold Lh;split
   ·lia
   ·simp_all
  show((l.foldl _ (Lh z tn s a)).2.2)<=_;rw[tH];lia
theorem U0 (hc:z.clk = .non\/∃i,z.clk = .int i):Hk z (hrd z nu rm hs tn) nu rm hs:=by
 refine⟨rfl,rfl,rfl,rfl,rfl,rfl,rfl,rfl,rfl,?_,?_⟩
 ·have h1:(hrd z nu rm hs tn).k<=z.k+(fsh z nu hs).length:=MX;have q:(fsh z nu hs).length=(wF z nu).length+(vb z nu hs).length:=ey;lia
 ·show(if 0<far' z nu then(if z.b+far' z nu<z.t then V.int _ else .non) else z.clk) = .non\/∃i,(if 0<far' z nu then(if z.b+far' z nu<z.t then V.int _ else .non) else z.clk) = .int i;split
  ·split
   ·simp_all
   ·simp
  ·exact hc
structure Jx (z:Sd) (r tn:Int) (m:Nat):Prop where
 R:z.R=r
 r0:0<r
 B:Bz z
 te:z.t<=z.e
 tm:z.t<=z.T.length
 tl:z.t<=m
 k:z.k<=cnt z.Kn z.t.toNat
 kn:∀j:Int,z.t<=j->knw z.Kn j=false
 ck:z.clk = .non\/∃i,z.clk = .int i
 tq:∀j:Int,0<=j->j<z.t->∃f,bj z.Fi (ik j)=some (.int f)/\0<=f/\f<=tn
 TY:0<=tn
 T_:tn<=900000
 s1:z.Kn.length<=cnt z.Kn z.t.toNat
 s2:z.Fi.length<=m
 s3:z.Ag.length<=m
theorem Jx.turn (h:Jx z r tn m) (h1:tn<900000):Jx z r (tn+1) m:=by
 have e1:=h.TY;exact{h with tq:=fun j a b=>by {obtain⟨f,i,q,u⟩:=h.tq j a b;exact⟨f,i,q,by lia⟩},TY:=by lia,T_:=by lia}
theorem Jx.Wq (h:Jx z r tn m) (h1:z.T.length<=T'.length):Jx {z with T:=T'} r tn m:=by
 have e1:=h.tm;exact{h with B:=⟨h.B.b0,h.B.bt,h.B.t1⟩,tm:=by {show z.t<=(T'.length:Int);lia}}
theorem FT:cnt D t<=cnt D (t+1):=by rw[AY];lia
def Xf (z i:Sd) (n:Int) (o:Option (Str×Option Int)):Prop:=(i.t=z.t/\i.Fi=z.Fi/\i.Ag=z.Ag/\(o=none\/o=some (Str.ofString "ask",none)))\/(o=some (Str.ofString "again",some z.b)/\z.b<z.t/\i.t=z.t/\i.Fi=z.Fi/\i.Ag=putK z.Ag (ik z.b) (.bl true))\/(o=some (Str.ofString "new",some z.t)/\z.t<z.T.length/\z.t<z.e/\i.t=z.t+1/\i.Fi=putK z.Fi (ik z.t) (.int n)/\i.Ag=z.Ag)
theorem tG (hc:s.clk = .non\/∃i,s.clk = .int i):Gk s (xF s n).1/\Xf s (xF s n).1 n (xF s n).2:=by
 unfold xF;split
 ·rename_i c;exact⟨⟨rfl,rfl,rfl,rfl,rfl,rfl,rfl,rfl,.inr ⟨_,rfl⟩⟩,.inr (.inl ⟨rfl,c.1,rfl,rfl,rfl⟩)⟩
 ·split
  ·rename_i c;unfold He at c;rw[h8,h8,eu] at c;exact⟨⟨rfl,rfl,rfl,rfl,rfl,rfl,rfl,rfl,.inr ⟨_,rfl⟩⟩,.inr (.inl ⟨rfl,c.1.1,rfl,rfl,rfl⟩)⟩
  ·split
   ·rename_i c;unfold pq at c;rw[h8,h8,eu,eu] at c;refine⟨⟨rfl,rfl,rfl,rfl,rfl,rfl,rfl,rfl,?_⟩,.inr (.inr ⟨rfl,c.1.1,c.1.2,rfl,rfl,rfl⟩)⟩;show(if s.b=s.t then V.int (n+s.w) else s.clk) = .non\/∃i,(if s.b=s.t then V.int (n+s.w) else s.clk) = .int i;split
    ·exact .inr ⟨_,rfl⟩
    ·exact hc
   ·split
    ·rcases hc with e|⟨i,e⟩
     ·simp only[e];exact⟨⟨rfl,rfl,rfl,rfl,rfl,rfl,rfl,rfl,.inr ⟨_,rfl⟩⟩,.inl ⟨rfl,rfl,rfl,.inl rfl⟩⟩
     ·simp only[e];split
      ·exact⟨⟨rfl,rfl,rfl,rfl,rfl,rfl,rfl,rfl,.inr ⟨_,e⟩⟩,.inl ⟨rfl,rfl,rfl,.inl rfl⟩⟩
      ·exact⟨⟨rfl,rfl,rfl,rfl,rfl,rfl,rfl,rfl,.inr ⟨_,rfl⟩⟩,.inl ⟨rfl,rfl,rfl,.inr rfl⟩⟩
    ·exact⟨⟨rfl,rfl,rfl,rfl,rfl,rfl,rfl,rfl,hc⟩,.inl ⟨rfl,rfl,rfl,.inl rfl⟩⟩
theorem Jx.go (h:Jx z r tn m) (hm:m<900):Jx (xF z tn).1 r tn (m+1):=by
 obtain⟨g,o⟩:=tG (n:=tn) h.ck;generalize(xF z tn).1=v at*
 have e0:=h.B.b0;have e3:=h.s1;have e4:=h.s2;have e5:=h.s3;have E:=h.B.bt;have F:=h.tl;have C:=h.tm;have same:v.t=z.t->v.Fi=z.Fi->v.Ag.length<=m+1->Jx v r tn (m+1):=fun a1 i u=>
  ⟨g.R.trans h.R,h.r0,⟨by rw[g.b];exact h.B.b0,by rw[g.b,a1];exact h.B.bt,by rw[a1];exact h.B.t1⟩,by rw[a1,g.e];exact h.te,by rw[a1,g.T];exact h.tm,by rw[a1];lia,by rw[g.k,g.Kn,a1];exact h.k,fun j y=>by rw[g.Kn];exact h.kn j (by lia),g.ck,fun j a b=>by rw[i];exact h.tq j a (by lia),h.TY,h.T_,by rw[g.Kn,a1];lia,by rw[i];lia,u⟩
 rcases o with⟨a1,i,u,_⟩|⟨_,_,a1,i,u⟩|⟨_,b1,G,a1,i,u⟩
 ·exact same a1 i (by rw[u];lia)
 ·exact same a1 i (by rw[u];have:=js z.Ag (ik z.b) (.bl true);lia)
 ·have x:v.t.toNat=z.t.toNat+1:=by lia
  refine⟨g.R.trans h.R,h.r0,⟨by rw[g.b];exact h.B.b0,by rw[g.b,a1];lia,by lia⟩,by rw[g.e];lia,by rw[g.T];lia,by lia,by rw[g.k,g.Kn,x];exact fv h.k FT,fun j y=>by rw[g.Kn];exact h.kn j (by lia),g.ck,fun j a b=>?_,h.TY,h.T_,by rw[g.Kn,x];exact fv e3 FT,by rw[i];have:=js z.Fi (ik z.t) (.int tn);lia,by rw[u];lia⟩;rw[i,vd];by_cases c:j=z.t
  ·subst c;rw[bc rfl];exact⟨tn,rfl,h.TY,t6 _⟩
  ·rw[a5 (by intro q;exact c (by injection q))];exact h.tq j a (by lia)
theorem DL:∀{fs:List Int} {D:List (Key×V)},(∀a∈fs,a≠j)->knw (putAll D fs) j=knw D j
 | [],_,_=>rfl
 |a::l,D,h=>by
  show knw (putAll _ l) j=_;rw[DL fun b i=>h b (hQ _ i),DK];have:=h a (sm ..);simp[this.symm]
theorem S_:(wF z nu).length<=(far' z nu).toNat:=by
 have h1:(wF z nu).length<=(irg _ _).length:=j0 _ _;have i:(irg z.b (far' z nu).toNat).length=(far' z nu).toNat:=by unfold irg;rw[cF,p6]
 lia
theorem S9:(vb z nu hs).length<=hs.length:=by
 have h1:(vb z nu hs).length<=(hld _ hs).length:=j0 _ _;exact fv h1 DP
theorem Jx.hrd (h:Jx z r tn m) (hn:hs.Nodup) (h0:∀k∈hs,0<=k) (hf:far' z nu<=z.t-z.b) (g:Hk z z' nu rm hs):Jx z' r tn m:=by
 have r0:=h.r0;have O:=h.R;have u:0<=far' z nu:=ny _ (by lia);have b0:=h.B.b0;have bt:=h.B.bt;have e3:=h.s1;have e4:=h.s2;have e5:=h.s3;have U:=h.tl;have I:=h.tm;have l1:=S_ (z:=z) (nu:=nu);have l2:=S9 (z:=z) (nu:=nu) (hs:=hs);have m1:∀a∈wF z nu,knw z.Kn a=false/\0<=a/\a<(z.t.toNat:Int):=fun a ha=>by
  obtain⟨i,q⟩:=zN ha;have:=IE i;exact⟨q,by lia,by lia⟩
 have v:∀a∈vb z nu hs,knw (kC z nu).Kn a=false/\0<=a/\a<(z.t.toNat:Int):=fun a ha=>by
  obtain⟨i,q⟩:=zN ha;obtain⟨E,k,F,G⟩:=IG i;have Q:=h0 k F;have W:a<z.t:=E;have P:a=z.b+far' z nu+k:=G;exact⟨q,by lia,by lia⟩
 have C:cnt (kC z nu).Kn z.t.toNat=cnt z.Kn z.t.toNat+(wF z nu).length:=wq (Cc.filter _) m1;have y:cnt (putAll (kC z nu).Kn (vb z nu hs)) z.t.toNat=cnt (kC z nu).Kn z.t.toNat+(vb z nu hs).length:=wq ((Ce hn).filter _) v;have k1:(kC z nu).Kn.length<=z.Kn.length+(wF z nu).length:=o5;have k2:(putAll (kC z nu).Kn (vb z nu hs)).length<=(kC z nu).Kn.length+(vb z nu hs).length:=o5;have H:=g.k;have hk:=h.k;have te:=h.te;refine⟨g.R.trans h.R,h.r0,⟨by rw[g.b];lia,by rw[g.b,g.t];lia,by rw[g.t];exact h.B.t1⟩,by rw[g.t,g.e];split<;>lia,by rw[g.t,g.T];exact h.tm,by rw[g.t];exact h.tl,by rw[g.Kn,g.t,y,C];lia,fun j x=>?_,g.ck,fun j a b=>by rw[g.Fi];exact h.tq j a (by rw[g.t] at b;exact b),h.TY,h.T_,by rw[g.Kn,g.t,y,C];lia,by rw[g.Fi];lia,by rw[g.Ag];lia⟩
 rw[g.t] at x;rw[g.Kn,DL fun a ha=>by have:=(v a ha).2.2;lia];show knw (putAll z.Kn (wF z nu)) j=false;rw[DL fun a ha=>by have:=(m1 a ha).2.2;lia];exact h.kn j x
theorem M5 (b:Nat):(uI b).Nodup/\∀k∈uI b,0<=k:=by
 refine⟨X0 _ (Held.yi.imp fun h e=>by lia),fun k hk=>?_⟩;have:=Held.Ff.mp (R1.mp hk).1;lia
noncomputable def fi (nm:Str):Nat:=if nm = "shut" \/nm = "leaving" \/nm = "waiting" \/nm = "closing" then 1 else 0
def CN (t:Th):Prop:=t.1≠ "bare" /\t.1≠ "ask" /\t.2.length<=4/\∀n a r hs,0<=n->n<64->0<=a->a<64->0<=r->r<=16->Held.eX 0 hs=true->cB t.1 n a r hs t.2=true
theorem UM (nm:Str):fi ((bR nm "answered").getD nm)=fi nm:=by
 unfold bR;split
 ·rename_i t ht;have hm:=List.mem_of_find?_eq_some ht;have hp:=List.find?_some ht;rw[h8,eu,eu] at hp;rw[<-hp.1];have key:∀t∈Qk,t.2.1="answered" ->fi t.2.2=fi t.1:=by decide+kernel
  exact key t hm hp.2
 ·rfl
theorem UK (nm:Str):fi ((bR nm "ended").getD nm)=fi nm:=by
 unfold bR;split
 ·rename_i t ht;have hm:=List.mem_of_find?_eq_some ht;have hp:=List.find?_some ht;rw[h8,eu,eu] at hp;rw[<-hp.1];have key:∀t∈Qk,t.2.1="ended" ->fi t.2.2=fi t.1:=by decide+kernel
  exact key t hm hp.2
 ·rfl
theorem UL (nm:Str):fi ((bR nm "begun").getD nm)+(if nm = "shut" then 1 else 0)<=fi nm:=by
 unfold bR;split
 ·rename_i t ht;have hm:=List.mem_of_find?_eq_some ht;have hp:=List.find?_some ht;rw[h8,eu,eu] at hp;rw[<-hp.1];have key:∀t∈Qk,t.2.1="begun" ->fi t.2.2+(if t.1="shut" then 1 else 0)<=fi t.1:=by decide+kernel
  exact key t hm hp.2
 ·rename_i hn;have i:nm≠"shut" :=fun e=>by
   rw[e] at hn;exact absurd hn (by decide+kernel)
  rw[a5 i,a5 (by decide+kernel)];exact cm _
theorem Je:∀(i:List Int) (nm:Str),fi (pI lo hi i nm)=fi nm
 | [],_=>rfl
 |p::i,nm=>by
  show fi (pI lo hi i (if lo<=p/\p<hi then(bR nm "answered").getD nm else nm))=_;rw[Je i];split
  ·exact UM nm
  ·rfl
structure HI (a:gF) (tn:Int) (m N:Nat):Prop where
 j:Jx a.s a.R tn m
 r2:2<=a.R
 r6:a.R<=64
 m1:1<=a.M
 m6:a.M<=16
 o0:0<=a.o
 og:a.o<=a.g
 gm:a.g<=a.o+a.M
 hk:∀i,a.o<=i->i<a.g->(a.D i).isSome=true
 hd:∀i,(a.D i).isSome=true->a.o<=i/\i<a.o+a.M
 gd:∀t∈a.T,CN t
 tl:a.T.length+fi a.nm<=N
 sl:a.s.T.length=a.T.length
 el:a.ends.length<=N
theorem DS {k:Str} (hk:k="begin" \/k="end"):CN (k,Str.ofString ""):=by
 refine⟨by rcases hk with rfl|rfl<;>decide+kernel,by rcases hk with rfl|rfl<;>decide+kernel,kv _,fun n a r hs n0 n1 a0 a1 r0 i hh=>?_⟩
 have e1:Cd (.str k) pL=true:=by rcases hk with rfl|rfl<;>decide+kernel
 have e2:Cd (.str k) [.str "bare",.str "ask"]=false:=by rcases hk with rfl|rfl<;>decide+kernel
 have e3:qP k ""=true:=by rcases hk with rfl|rfl<;>decide+kernel
 show cB k n a r hs ""=true;unfold cB fu;rw[e1,e2,e3,hh];simp;lia
theorem KY {w:Str} (hw:w="bare" \/w="ask") (a0:0<=a) (a1:a<64) (r0:0<=r) (i:r<=16) (hh:Held.eX 0 hs=true):cB w 0 a r hs ""=true:=by
 have e1:Cd (.str w) pL=true:=by rcases hw with rfl|rfl<;>decide+kernel
 have e2:Cd (.str w) [.str "bare",.str "ask"]=true:=by rcases hw with rfl|rfl<;>decide+kernel
 have e3:qP w ""=true:=by rcases hw with rfl|rfl<;>decide+kernel
 unfold cB fu;rw[e1,e2,e3,hh];simp;lia
theorem Qx (h:a.o+a.M-a.g<=16):Held.eX 0 (yd a)=true:=by
 rw[Held.nP];unfold yd;constructor
 ·rw[Yu];exact(List.pairwise_lt_range.filter _).imp fun h=>by lia
 ·intro x hx;obtain⟨j,i,rfl⟩:=ke.mp hx;have:=r4.mp (R1.mp i).1;lia
theorem F3 {l:List α} {i:Int} (h0:0<=i) (h1:i<l.length):∃x,iN l i=some x/\x∈l:=by
 obtain⟨j,rfl⟩:∃j:Nat,i=(j:Int):=⟨i.toNat,by lia⟩;exact⟨l[j]'(by lia),rY (hI (by lia)),List.getElem_mem _⟩
theorem HI.GD (h:HI a n m N) (v:m<900000):Oe a n:=by
 have e1:=h.r2;have e2:=h.r6;have e3:=h.m6;have e4:=h.og;have e5:=h.gm;have b0:=h.j.B.b0;have bt:=h.j.B.bt;have tm:=h.j.tm;have s2:=h.j.s2;have s3:=h.j.s3;have hh:=Qx (a:=a) (by lia);have g0:=ny a.g (show a.R≠0 by lia);have g1:=nt a.g (show 0<a.R by lia);have sl:=h.sl;refine⟨h.j.B,h.j.ck,by lia,by lia,by lia,by lia,by lia,fun w pl e=>?_⟩;have word:∀w:Str,w="bare" \/w="ask" ->LL a w none=true:=fun w hw=>by
  unfold LL GO RN;exact KY hw g0 (by lia) (by lia) (by lia) hh
 have i:∀(w:Str) (p:Int),0<=p->p<a.T.length->LL a w (some p)=true/\∀q,some p=some q->∃th,iN a.T q=some th/\th.2.length<=1000:=fun w p p0 p1=>by
  obtain⟨th,t1,t2⟩:=F3 p0 p1;obtain⟨_,_,k1,k2⟩:=h.gd th t2;constructor
  ·show cB ((iN a.T p).getD (Str.ofString "",Str.ofString "")).1 (p % a.R) (a.g % a.R) (a.o+a.M-a.g) (yd a) ((iN a.T p).getD (Str.ofString "",Str.ofString "")).2=true;rw[t1];exact k2 _ _ _ _ (ny _ (by lia)) (by have:=nt p (show 0<a.R by lia);lia) g0 (by lia) (by lia) (by lia) hh
  ·intro q e;injection e with e;subst e;exact⟨th,t1,by lia⟩
 have no:∀p:Int,none=some p->∃th,iN a.T p=some th/\th.2.length<=1000:=fun p e=>by cases e
 obtain⟨_,o⟩:=tG (n:=n) h.j.ck;unfold yU at e;rcases o with⟨_,_,_,o|o⟩|⟨o,u,_⟩|⟨o,u,_⟩
 ·rw[o] at e;dsimp only at e;split at e
  ·injection e with e;injection e with e1 e2;subst e1 e2;exact⟨word _ (.inl rfl),no⟩
  ·cases e
 ·rw[o] at e;injection e with e;injection e with e1 e2;subst e1 e2;exact⟨word _ (.inr rfl),no⟩
 ·rw[o] at e;injection e with e;injection e with e1 e2;subst e1 e2;exact i _ _ (by lia) (by lia)
 ·rw[o] at e;injection e with e;injection e with e1 e2;subst e1 e2;exact i _ _ (by lia) (by lia)
theorem HI.send (h:HI a n m N) (hm:m<900):HI (b9 a n) n (m+1) N:=by
 refine{h with j:=h.j.go hm,sl:=?_}
 ·show(xF a.s n).1.T.length=a.T.length;rw[Np];exact h.sl
theorem HI.turn (h:HI a n m N) (h1:n<900000):HI a (n+1) m N:={h with j:=h.j.turn h1}
theorem HI.more (h:HI a n m N) (i:N<=N'):HI a n m N':=by
 have e2:=h.tl;have e3:=h.el;exact{h with tl:=by lia,el:=by lia}
theorem HI.wsh (h:HI a n m N) (hg:∀t∈ts,CN t) (h1:a.T.length+ts.length+fi nm<=N') (i:es.length<=N'):HI {a with nm:=nm,ends:=es,T:=a.T++ts,s:={a.s with T:=a.s.T++ts.map fun _=>V.non}} n m N':=by
 have e:=h.sl;refine{h with j:=h.j.Wq (by rw[ey];lia),gd:=fun t ht=>?_,tl:=?_,sl:=?_,el:=i}
 ·rcases gs.mp ht with ht|ht
  ·exact h.gd t ht
  ·exact hg t ht
 ·show(a.T++ts).length+fi nm<=N';rw[ey];exact h1
 ·show(a.s.T++ts.map fun _=>V.non).length=(a.T++ts).length;rw[ey,ey,cF,e]
theorem vm (h:z.o<=z.g) (hm:0<=m):z.o+(dR z m:Int)<=z.g:=by
 unfold dR;split<;>lia
theorem HI.read (h:HI a n m N) (hm:0<=m'):HI (l8 a m') n m N:=by
 have r:=vm h.og hm;have e1:=h.o0;have e2:=h.gm;have e3:=h.m1;refine{h with o0:=?_,og:=?_,gm:=?_,hk:=fun i x v=>?_,hd:=fun i u=>?_}
 ·show 0<=a.o+_;lia
 ·exact r
 ·show a.g<=a.o+_+a.M;lia
 ·have y:a.o+(dR a m':Int)<=i:=x;show(if a.o<=i/\i<a.o+(dR a m':Int) then none else a.D i).isSome=true;rw[a5 (by lia)];exact h.hk i (by lia) v
 ·have q:(if a.o<=i/\i<a.o+(dR a m':Int) then none else a.D i).isSome=true:=u;show a.o+(dR a m':Int)<=i/\i<a.o+(dR a m':Int)+a.M;split at q
  ·cases q
  ·have:=h.hd i q;lia
theorem HI.std (h:HI a n m N):HI (jn a k) n m N:=by
 have e:=h.tl;unfold jn;split
 ·have b:=UL a.nm;by_cases c:a.nm="shut"
  ·rw[bc c] at b⊢;have w:=h.wsh (N':=N) (nm:=(bR a.nm "begun").getD a.nm) (es:=a.ends) (ts:=[(Str.ofString "begin",Str.ofString "")]) (fun t ht=>by rw[ec.mp ht];exact DS (.inl rfl)) (by simp only[me];lia) h.el;exact w
  ·rw[a5 c] at b⊢;exact{h with tl:=by {show a.T.length+fi ((bR a.nm "begun").getD a.nm)<=N;lia}}
 ·split
  ·exact{h with tl:=by {show a.T.length+fi ((bR a.nm "ended").getD a.nm)<=N;rw[UK];exact e}}
  ·exact h
theorem HI.qH {n:Int} {m N:Nat}:∀(ts:List Th) {a:gF},HI a n m N->HI (qH a ts) n m N
 | [],_,h=>h
 |t::ts,a,h=>HI.qH ts (a:=jn a t.1) h.std
theorem Ab:∀(k:Nat) (g:Int) (j:Nat),j<runN D k g->(D (g+j)).isSome=true
 |0,_,j,h=>by unfold runN at h;lia
 |k+1,g,j,h=>by
  unfold runN at h;split at h
  ·rename_i c;cases j with
   |zero=>rw[show g+((0:Nat):Int)=g by lia];exact c
   |succ j=>
    rw[show g+((j+1:Nat):Int)=g+1+(j:Int) by lia];exact Ab k (g+1) j (by lia)
  ·lia
theorem HI.take1 (h:HI a n m N) (c: ¬a.o+a.M-a.g<=(v-a.g) % a.R):HI {a with g:=a.g+(gu a v t:Int),D:=iO a v t} n m N:=by
 have C:=ny (v-a.g) (show a.R≠0 by have:=h.r2;lia);have og:=h.og;have gm:=h.gm;have m1:=h.m1;have m6:=h.m6;have nd:∀i,(iO a v t i).isSome=true->a.o<=i/\i<a.o+a.M:=fun i u=>by
  unfold iO at u;split at u
  ·rename_i e;unfold qt at e;lia
  ·exact h.hd i u
 have nl:gu a v t<=a.M.toNat:=C6 _ _;have y:=Ab (D:=iO a v t) a.M.toNat a.g;have E:a.g+(gu a v t:Int)<=a.o+a.M:=by
  by_cases z:gu a v t=0
  ·rw[z];lia
  ·have:=nd _ (y (gu a v t-1) (by unfold gu at z⊢;lia));lia
 refine{h with og:=?_,gm:=E,hk:=fun i C G=>?_,hd:=nd}
 ·show a.o<=a.g+_;lia
 ·have q:i<a.g+(gu a v t:Int):=G;show(iO a v t i).isSome=true;by_cases F:i<a.g
  ·have:=h.hk i C F;unfold iO;by_cases x:i=qt a v
   ·rw[bc x,bc this];exact this
   ·rw[a5 x];exact this
  ·have:=y (i-a.g).toNat (by unfold gu at q;lia);rwa [show a.g+((i-a.g).toNat:Int)=i by lia] at this
theorem HI.SN (h:HI a n m N) (hm:m<=420) (b:Nat):A7 a.s (uI b) n:=by
 have l:=IB b;obtain⟨l1,l2⟩:=M5 b;have e1:=h.j.s1;have e2:=h.j.tl;have e3:=h.j.T_;have e4:=N2 (D:=a.s.Kn) (t:=a.s.t.toNat);refine⟨h.j.B,by rw[h.j.R];have:=h.r2;lia,by lia,l1,l2,fun j q u=>?_,by lia,by lia,h.j.k⟩;obtain⟨f,i,v,x⟩:=h.j.tq j q u;exact⟨f,i,by lia,by lia⟩
theorem HI.hear (h:HI a n m N):HI (Au a nu rm (uI b) n) n m N:=by
 obtain⟨l1,l2⟩:=M5 b;have tl:=h.tl;refine{h with j:=?_,tl:=?_,sl:=?_}
 ·show Jx (cq a.s nu rm (uI b) n) a.R n m;unfold cq;split
  ·exact h.j
  ·rename_i c;exact h.j.hrd l1 l2 (by lia) (U0 h.j.ck)
 ·show a.T.length+fi (pI _ _ a.ends a.nm)<=N;rw[Je];exact tl
 ·show(cq a.s nu rm (uI b) n).T.length=_;rw[Fs];exact h.sl
theorem HI.dued (h:HI a n m N) (d:Bool):HI {a with due:=d} n m N:={h with}
noncomputable def Kj (n:Nat):Str:=if n=0 then "shut" else if n=1 then "calling" else if n=2 then "open" else if n=3 then "left" else if n=4 then "leaving" else if n=5 then "waiting" else "closing"
noncomputable def wordOf (j:Nat):Str:=if j % 2=0 then "begin" else "end"
theorem n7 (h:n<7):n=0\/n=1\/n=2\/n=3\/n=4\/n=5\/n=6:=by decide+revert
theorem ML (h:n<7):bR (Kj n) "begin" = (MR n).map Kj:=by
 rcases n7 h with rfl|rfl|rfl|rfl|rfl|rfl|rfl<;>decide+kernel
theorem Sb (h:n<7):bR (Kj n) "end" = (Fc n).map Kj:=by
 rcases n7 h with rfl|rfl|rfl|rfl|rfl|rfl|rfl<;>decide+kernel
theorem MK (h:n<7):bR (Kj n) "begun" = some (Kj (DJ n)):=by
 rcases n7 h with rfl|rfl|rfl|rfl|rfl|rfl|rfl<;>decide+kernel
theorem MJ (h:n<7):bR (Kj n) "ended" = some (Kj (Ap n)):=by
 rcases n7 h with rfl|rfl|rfl|rfl|rfl|rfl|rfl<;>decide+kernel
theorem E9 (h:n<7):bR (Kj n) "answered" = some (Kj (kD n)):=by
 rcases n7 h with rfl|rfl|rfl|rfl|rfl|rfl|rfl<;>decide+kernel
theorem Iw (h:n<7):(Kj n = "shut")↔n=0:=by
 rcases n7 h with rfl|rfl|rfl|rfl|rfl|rfl|rfl<;>decide+kernel
noncomputable def Br (t:Th):Bool:=decide (t.1 = "begin")||decide (t.1 = "end")
noncomputable abbrev cn (l:List Th):Nat:=l.countP Br
def Alt (T:List Th):Prop:= ∀(i:Nat) (t:Th),T[i]?=some t->Br t=true->t.1=wordOf (cn (T.take i))
structure Rh (es:List Int) (T:List Th):Prop where
 mem:∀p∈es,∃k:Nat,p=k/\∃t,T[k]?=some t/\t.1 = "end"
 all:∀(k:Nat) (t:Th),T[k]?=some t->t.1 = "end" ->(k:Int)∈es
 nd:es.Nodup
noncomputable def pr {α:Type} (x y:α) (i:Nat):α:=if i=0 then x else y
theorem Ik {y:α}:(fun i=>pr x y (1-i))=pr y x:=by
 funext i;unfold pr;by_cases c:i=0
 ·subst c;rfl
 ·lia
theorem nG {v:α}:up (pr x y) 0 v=pr v y:=by
 funext i;unfold up pr;split<;>rfl
theorem Jn.flip (J:Jn p K T n h):Jn (fun i=>p (1-i)) (fun i=>K (1-i)) (fun i=>T (1-i)) (fun i=>n (1-i)) (fun i=>h (1-i)):=
 ⟨fun i q=>J.sd _ (by lia),fun i q=>J.kt _ (by lia),fun i q=>J.tp _ (by lia),fun i q=>J.h0 _ (by lia),fun i q=>J.h1 _ (by lia)⟩
theorem zQ {T:List Th} (h:T[i]?=some t):cn (T.take (i+1))=cn (T.take i)+(if Br t then 1 else 0):=by
 rw[ON,h];show List.countP _ (T.take i++ [t])=_;rw[List.countP_append,List.countP_singleton]
theorem IZ {T:List Th} (h:i<=j):cn (T.take i)<=cn (T.take j):=by
 rw[show T.take i=(T.take j).take i by grind];exact(List.take_sublist i _).countP_le
theorem VH:cn (T.take i)<=cn T:=(List.take_sublist i _).countP_le
theorem Q_ (h:T[i]?=some t) (b:Br t=true):cn (T.take i)<cn T:=by
 have e:=zQ h;rw[bc b] at e;have:=VH (T:=T) (i:=i+1);lia
theorem cA {ts:List Th} (h:i<=T.length):(T++ts).take i=T.take i:=List.take_append_of_le_length h
theorem qD:wordOf j = "end" ↔j % 2=1:=by
 unfold wordOf;by_cases c:j % 2=0
 ·rw[bc c];exact⟨fun e=>absurd e (by trivial),fun e=>by lia⟩
 ·simp_all
theorem ot:wordOf j = "begin" ↔j % 2=0:=by
 unfold wordOf;by_cases c:j % 2=0
 ·simp_all
 ·rw[a5 c];exact⟨fun e=>absurd e (by trivial),fun e=>absurd e c⟩
theorem P4 {t:Th} (h:t.1 = "end"):Br t=true:=by unfold Br;rw[h];decide+kernel
theorem KL {t:Th} (h:t.1 = "begin"):Br t=true:=by unfold Br;rw[h];decide+kernel
theorem DO (h:Br t=false):t.1≠ "begin" /\t.1≠ "end" :=by
 unfold Br at h;rw[ni,decide_eq_false_iff_not,decide_eq_false_iff_not] at h;exact h
theorem Alt.nil:Alt []:=fun i t h=>by simp at h
theorem Alt.app (h:Alt T) (ht:Br t=true->t.1=wordOf (cn T)):Alt (T++ [t]):=by
 intro i u q v;by_cases c:i<T.length
 ·rw[mu c] at q;rw[cA (by lia)];exact h i u q v
 ·have x:i=T.length:=by
   have:=(ek.mp q).1;rw[ey,me] at this;lia
  subst x;rw[Xk (cm _),Nat.sub_self] at q;injection q with q;subst q;rw[cA (cm _),AB];exact ht v
theorem Rh.app {es:List Int} {T:List Th} {t:Th} (h:Rh es T) (ht:t.1≠ "end"):Rh es (T++ [t]):=by
 refine⟨fun p hp=>?_,fun k u i he=>?_,h.nd⟩
 ·obtain⟨k,e,u,i,he⟩:=h.mem p hp;exact⟨k,e,u,by rw[mu (ek.mp i).1];exact i,he⟩
 ·by_cases c:k<T.length
  ·rw[mu c] at i;exact h.all k u i he
  ·have q:k=T.length:=by
    have:=(ek.mp i).1;rw[ey,me] at this;lia
   subst q;rw[Xk (cm _),Nat.sub_self] at i;injection i with i;subst i;exact absurd he ht
theorem Rh.WM {es:List Int} {T:List Th} {t:Th} (h:Rh es T) (ht:t.1 = "end"):Rh (es++ [(T.length:Int)]) (T++ [t]):=by
 refine⟨fun p hp=>?_,fun k u i he=>?_,?_⟩
 ·rcases gs.mp hp with hp|hp
  ·obtain⟨k,e,u,i,he⟩:=h.mem p hp;exact⟨k,e,u,by rw[mu (ek.mp i).1];exact i,he⟩
  ·exact⟨_,ec.mp hp,t,by simp_all,ht⟩
 ·by_cases c:k<T.length
  ·rw[mu c] at i;exact ez _ (h.all k u i he)
  ·have q:k=T.length:=by
    have:=(ek.mp i).1;rw[ey,me] at this;lia
   subst q;exact ej _ (ec.mpr rfl)
 ·refine ij.mpr ⟨h.nd,by simp,fun x hx y hy e=>?_⟩;obtain⟨k,e1,u,i,_⟩:=h.mem x hx;have:=(ek.mp i).1;rw[ec] at hy;lia
noncomputable def Oc (nm:Str):Str:=(bR nm "answered").getD nm
noncomputable def Ob:Nat->Str->Str
 |0,nm=>nm
 |c+1,nm=>Ob c (Oc nm)
theorem TM:∀{nm:Str},Ob (c+1) nm=Oc (Ob c nm):=by
 induction c with
 |zero=>intro nm;rfl
 |succ c i=>exact i
theorem Ej:∀{i:List Int} {nm:Str},pI lo hi i nm=Ob (i.countP fun p=>decide (lo<=p/\p<hi)) nm
 | [],_=>rfl
 |p::i,nm=>by
  have q:∀{nm:Str},List.foldl _ nm i=Ob (i.countP fun p=>decide (lo<=p/\p<hi)) nm:=fun{nm}=>Ej;unfold pI;rw[List.foldl_cons,q,List.countP_cons];by_cases c:lo<=p/\p<hi
  ·rw[bc c,eT c];rfl
  ·rw[a5 c,cz c];rfl
theorem N1 (hl:lo<=hi):∀{es:List Int},es.Nodup->es.countP (fun p=>decide (lo<=p/\p<hi+1))=es.countP (fun p=>decide (lo<=p/\p<hi))+(if hi∈es then 1 else 0)
 | [],_=>rfl
 |p::ps,nd=>by
  obtain⟨n1,i⟩:=Sk.mp nd;rw[List.countP_cons,List.countP_cons,N1 hl i];by_cases c:p=hi
  ·grind
  ·have e:(hi∈p::ps)↔hi∈ps:=⟨fun h=>(cR.mp h).elim (fun z=>absurd z.symm c) id,fun h=>hQ _ h⟩;have e2:(lo<=p/\p<hi+1)↔(lo<=p/\p<hi):=by lia
   simp only[e,e2];lia
theorem Qw (hl:lo<=hi) (nd:es.Nodup):pI lo (hi+1) es nm=if hi∈es then Oc (pI lo hi es nm) else pI lo hi es nm:=by
 rw[Ej,Ej,N1 hl nd];by_cases c:hi∈es
 ·rw[bc c,bc c,TM]
 ·simp_all
theorem TL:pI lo lo es nm=nm:=by
 rw[Ej,List.countP_eq_zero.mpr fun p _=>by simp_all];rfl
theorem MQ (h:Fc n=some m):n=1\/n=2\/n=3:=by
 unfold Fc at h;split at h
 ·lia
 ·simp_all
structure Sj (T0:List Th) (b0 g0:Nat) (nm0:Str) (es0:List Int) (T1:List Th) (b1 g1:Nat) (nm1:Str) (es1:List Int) (n0 n1:Nat) (h:Nat->Nat->Nat):Prop where
 J:Jn (pr (cn T0) (cn T1)) (pr (cn (T0.take b0)) (cn (T1.take b1))) (pr (cn (T1.take g0)) (cn (T0.take g1))) (pr n0 n1) h
 m0:nm0=Kj n0
 m1:nm1=Kj n1
 A0:Alt T0
 A1:Alt T1
 E0:Rh es0 T0
 E1:Rh es1 T1
 l0:g0<=T1.length
 l1:g1<=T0.length
 k0:b0<=g1
 k1:b1<=g0
theorem Sj.flip (s:Sj T0 b0 g0 nm0 es0 T1 b1 g1 nm1 es1 n0 n1 h):Sj T1 b1 g1 nm1 es1 T0 b0 g0 nm0 es0 n1 n0 (fun i=>h (1-i)):=by
 have J:=Jn.flip s.J;rw[Ik,Ik,Ik,Ik] at J;exact⟨J,s.m1,s.m0,s.A1,s.A0,s.E1,s.E0,s.l1,s.l0,s.k1,s.k0⟩
theorem Sj.sd (s:Sj T0 b0 g0 nm0 es0 T1 b1 g1 nm1 es1 n0 n1 h):∃t,StM.Sd (cn T0) (cn (T0.take b0)) (cn (T1.take g0)) t n0:=s.J.sd 0 (by lia)
theorem Sj.T2 (s:Sj T0 b0 g0 nm0 es0 T1 b1 g1 nm1 es1 n0 n1 h):n0<7:=by
 obtain⟨t,sd⟩:=s.sd;exact sd.T2
theorem Sj.know (s:Sj T0 b0 g0 nm0 es0 T1 b1 g1 nm1 es1 n0 n1 h) (x:b0<g1):∃z,Sj T0 (b0+1) g0 (if(b0:Int)∈es0 then Oc nm0 else nm0) es0 T1 b1 g1 nm1 es1 z n1 h:=by
 obtain⟨t,ht⟩:∃t,T0[b0]?=some t:=⟨_,hI (by have:=s.l1;lia)⟩;have e:=zQ ht;cases v:Br t
 ·rw[v] at e;have ne:(b0:Int) ∉ es0:=fun m=>by
   obtain⟨k,e1,u,q,he⟩:=s.E0.mem _ m;have:k=b0:=by lia
   subst this;rw[ht] at q;injection q with q;subst q;exact(DO v).2 he
  rw[a5 ne];have J:=s.J;rw[show cn (T0.take b0)=cn (T0.take (b0+1)) by simp_all] at J;exact⟨n0,J,s.m0,s.m1,s.A0,s.A1,s.E0,s.E1,s.l0,s.l1,x,s.k1⟩
 ·rw[v,bc rfl] at e;have y:cn (T0.take b0)<cn (T0.take g1):=by have:=IZ (T:=T0) (show b0+1<=g1 by lia);lia
  have J:=s.J.know (i:=0) (by lia) y;rw[nG,nG] at J;have w:=s.A0 b0 t ht v;refine⟨if cn (T0.take b0) % 2=1 then kD n0 else n0,?_,?_,s.m1,s.A0,s.A1,s.E0,s.E1,s.l0,s.l1,x,s.k1⟩
  ·rw[e];exact J
  ·by_cases c:cn (T0.take b0) % 2=1
   ·rw[bc c,bc (s.E0.all b0 t ht (w.trans (qD.mpr c)))];unfold Oc;rw[s.m0,E9 s.T2];rfl
   ·rw[a5 c,a5,s.m0];intro m;obtain⟨k,e1,u,q,he⟩:=s.E0.mem _ m;have:k=b0:=by lia
    subst this;rw[ht] at q;injection q with q;subst q;exact c (qD.mp (w.symm.trans he))
theorem Sj.knows (s:Sj T0 b0 g0 nm0 es0 T1 b1 g1 nm1 es1 n0 n1 h) (v:b0<=b') (hg:b'<=g1):∃i,Sj T0 b' g0 (pI b0 b' es0 nm0) es0 T1 b1 g1 nm1 es1 i n1 h:=by
 obtain⟨d,rfl⟩:∃d,b'=b0+d:=⟨b'-b0,by lia⟩
 induction d with
 |zero=>rw[Nat.add_zero,TL];exact⟨n0,s⟩
 |succ d u=>
  obtain⟨i,q⟩:=u (by lia) (by lia);have:=q.know (‹_›);rw[show((b0+(d+1):Nat))=((b0+d):Int)+1 by lia,Qw (by lia) s.E0.nd];exact this
noncomputable def TZ (T:List Th) (nm k:Str):List Th:=if k = "begin" then(if nm = "shut" then T++ [(Str.ofString "begin",Str.ofString "")] else T) else T
noncomputable def stN (nm k:Str):Str:=if k = "begin" then(bR nm "begun").getD nm else if k = "end" then(bR nm "ended").getD nm else nm
theorem Sj.take (s:Sj T0 b0 g0 nm0 es0 T1 b1 g1 nm1 es1 n0 n1 h) (ht:T1[g0]?=some t) (x:Br t=true->2*(cn (T1.take g0) / 2)<=cn (T0.take b0)):∃H G,Sj (TZ T0 nm0 t.1) b0 (g0+1) (stN nm0 t.1) es0 T1 b1 g1 nm1 es1 H n1 G:=by
 have hl:=(ek.mp ht).1;have e:=zQ ht;have y:=s.T2;cases u:Br t
 ·obtain⟨E,F⟩:=DO u;unfold TZ stN;rw[a5 E,a5 E,a5 F];have J:=s.J;rw[show cn (T1.take g0)=cn (T1.take (g0+1)) by simp_all] at J;exact⟨n0,h,J,s.m0,s.m1,s.A0,s.A1,s.E0,s.E1,hl,s.l1,s.k0,by have:=s.k1;lia⟩
 ·rw[u,bc rfl] at e;replace x:=x u;have C:cn (T1.take g0)<cn T1:=Q_ ht u;have w:=s.A1 g0 t ht u;by_cases c:cn (T1.take g0) % 2=0
  ·have v:t.1 = "begin" :=w.trans (ot.mpr c);unfold TZ stN;rw[bc v,bc v,s.m0,MK y];by_cases q:n0=0
   ·have J:=s.J.Ua (i:=0) (by lia) C x c q;rw[nG,nG,nG] at J;rw[bc ((Iw y).mpr q)];have hc:cn (T0++ [(Str.ofString "begin",Str.ofString "")])=cn T0+1:=by
     show List.countP Br (T0++ [_])=_;rw[List.countP_append];rfl
    obtain⟨tt,sd⟩:=s.sd;have pe:=sd.rb.1.mp q;refine⟨2,up h 0 (up (h 0) (cn T0) (cn (T1.take g0)+1)),?_,?_,s.m1,s.A0.app fun _=>?_,s.A1,s.E0.app (by trivial),s.E1,hl,by rw[ey];have:=s.l1;lia,s.k0,by have:=s.k1;lia⟩
    ·rw[hc,e,cA (by have:=s.k0;have:=s.l1;lia),cA s.l1];exact J
    ·rw[q];rfl
    ·exact(ot.mpr (by lia)).symm
   ·have J:=s.J.take1 (i:=0) (by lia) C x c q;rw[nG,nG] at J;rw[a5 (fun z=>q ((Iw y).mp z))];exact⟨_,h,by rw[e];exact J,rfl,s.m1,s.A0,s.A1,s.E0,s.E1,hl,s.l1,s.k0,by have:=s.k1;lia⟩
  ·have te:t.1 = "end" :=w.trans (qD.mpr (by lia));have v:t.1≠ "begin" :=by rw[te];decide+kernel
   unfold TZ stN;rw[a5 v,a5 v,bc te,s.m0,MJ y];have J:=s.J.take2 (i:=0) (by lia) C x (show cn (T1.take g0) % 2=1 by lia);rw[nG,nG] at J;exact⟨_,h,by rw[e];exact J,rfl,s.m1,s.A0,s.A1,s.E0,s.E1,hl,s.l1,s.k0,by have:=s.k1;lia⟩
theorem I0 (i:Br t=true):cn (T++ [t])=cn T+1:=by
 simp_all
theorem Sj.begin (s:Sj T0 b0 g0 nm0 es0 T1 b1 g1 nm1 es1 n0 n1 h) (e:bR nm0 "begin" = some nx):∃v q,Sj (T0++ [(Str.ofString "begin",Str.ofString "")]) b0 g0 nx es0 T1 b1 g1 nm1 es1 v n1 q:=by
 have u:=s.T2;rw[s.m0,ML u] at e;unfold MR at e;split at e
 ·rename_i c;have J:=s.J.begin (i:=0) (by lia) c;rw[nG,nG] at J;obtain⟨tt,sd⟩:=s.sd;have pe:=sd.rb.1.mp c;refine⟨1,up h 0 (up (h 0) (cn T0) (cn (T1.take g0))),?_,(by simp_all),s.m1,s.A0.app fun _=>(ot.mpr (by lia)).symm,s.A1,s.E0.app (by trivial),s.E1,s.l0,by rw[ey];have:=s.l1;lia,s.k0,s.k1⟩;rw[I0 (KL rfl),cA (by have:=s.k0;have:=s.l1;lia),cA s.l1];exact J
 ·cases e
theorem Sj.fin (s:Sj T0 b0 g0 nm0 es0 T1 b1 g1 nm1 es1 n0 n1 h) (e:bR nm0 "end" = some nx):∃x u,Sj (T0++ [(Str.ofString "end",Str.ofString "")]) b0 g0 nx (es0++ [(T0.length:Int)]) T1 b1 g1 nm1 es1 x n1 u:=by
 have v:=s.T2;rw[s.m0,Sb v] at e;cases q:Fc n0 with
 |none=>simp_all
 |some m=>
  have J:=s.J.fin (i:=0) (by lia) q;rw[nG,nG] at J;obtain⟨tt,sd⟩:=s.sd;have pe:=sd.rb.2.mp (MQ q);refine⟨m,up h 0 (up (h 0) (cn T0) (cn (T1.take g0))),?_,(by simp_all),s.m1,s.A0.app fun _=>(qD.mpr (by lia)).symm,s.A1,s.E0.WM rfl,s.E1,s.l0,by rw[ey];have:=s.l1;lia,s.k0,s.k1⟩;rw[I0 (P4 rfl),cA (by have:=s.k0;have:=s.l1;lia),cA s.l1];exact J
theorem Sj.signs {i:List Th} {b0 g0:Nat} {v:Str} {q:List Int} {T1:List Th} {b1 g1:Nat} {nm1:Str} {es1:List Int} {n0 n1:Nat} {h:Nat->Nat->Nat} {ts:List Th} (s:Sj i b0 g0 v q T1 b1 g1 nm1 es1 n0 n1 h) (hs:∀t∈ts,t.1 = "signs"):Sj (i++ts) b0 g0 v q T1 b1 g1 nm1 es1 n0 n1 h/\cn (i++ts)=cn i:=by
 induction ts generalizing i with
 |nil=>simp_all
 |cons t ts E=>
  have ht:=hs t sm;have y:Br t=false:=by unfold Br;rw[ht];decide+kernel
  have x:cn (i++ [t])=cn i:=by
   simp_all
  have s1:Sj (i++ [t]) b0 g0 v q T1 b1 g1 nm1 es1 n0 n1 h:=by
   refine⟨?_,s.m0,s.m1,s.A0.app (fun z=>by simp_all),s.A1,s.E0.app (DO y).2,s.E1,s.l0,by rw[ey];have:=s.l1;lia,s.k0,s.k1⟩;rw[x,cA (by have:=s.k0;have:=s.l1;lia),cA s.l1];exact s.J
  have:=E s1 fun u C=>hs u (hQ _ C);rw[XQ,x] at this;exact this
def Gr (M t X k e:Int):Prop:=(M=1/\2*(t-X-1)<=k+e)\/(2<=M/\t-X-M<=k)
def BM (M G R:Int):Prop:=(M=1/\2+G / 2<=R)\/(2<=M/\2*M+G-1<=R)
theorem Nn {R:Int} (i:BM M G R) (he:e=0\/e=1) (q:n+1-G<=j) (h:Gr M t X (n-j) e):t-X<=R-M:=by
 unfold Gr at h;unfold BM at i;lia
theorem II (h:Gr M t X (n-j) e) (he:e=0\/e=1) (ht:(t'=t/\e'=0)\/(t'=t+1/\e'=1/\(M=1->e=0))):Gr M t' X (n+1-j) e':=by
 unfold Gr at*
 lia
theorem HX {r:Int} (h0:g<=p) (h1:p-g<r):(p % r-g) % r=p-g:=by
 rw[Int.sub_emod,Int.emod_emod,<-Int.sub_emod];exact Int.emod_eq_of_lt (by lia) h1
theorem B7 {r:Int} (h0:p<g) (h1:g-p<r):(p % r-g) % r=p-g+r:=by
 rw[Int.sub_emod,Int.emod_emod,<-Int.sub_emod,<-Int.add_emod_right];exact Int.emod_eq_of_lt (by lia) (by lia)
theorem Qf {f:Int} (h:cB k n a r hs i=true) (e:f=(iy k n a r hs i:Nat)):sS f=true/\qu (gx f)=k/\Es (gx f)=n/\Kw (gx f)=a/\Ov (gx f)=r/\uI (gx f)=hs/\B9 (gx f)=i:=by
 subst e;obtain⟨h1,q⟩:=KZ h;have hp:=qX h;have hl:=hp.Ax;have u:gx ((iy k n a r hs i:Nat):Int)=fO k n a r hs i:=by
  unfold gx;rw[gk,q]
 rw[u];refine⟨?_,IA hp⟩;unfold sS;rw[gk,Ay,h1,Bool.and_true,eT (rfl:(0:Nat)=0),Bool.and_true,eu];lia
def Kd (T T':List Th) (p b:Int) (th:Th):Prop:=Br th=true->2*(cn (T.take p.toNat) / 2)<=cn (T'.take b.toNat)
structure Dr (x y:gF) (G e:Int):Prop where
 R:y.R=x.R
 g1:1<=G
 rg:BM y.M G x.R
 bg:x.s.b<=y.g
 gt:y.g<=x.s.t
 eo:x.s.e<=y.o+y.M
 eb:x.s.e<=x.s.b+y.M
 D:∀i th,y.D i=some th->i<x.s.t/\iN x.T i=some th/\Kd x.T y.T i y.s.b th
 e0:e=0\/e=1
 e1:y.M=1->e=1->x.s.b<x.s.t
structure Cy where
 wh:Int
 rk:Int
 j:Int
 k:Int
 f:Int
 sp:Bool
 w:Str
 p:Option Int
structure Fr (x:gF) (f:Int) (w:Str) (p:Option Int) (a c:Int):Prop where
 ok:sS f=true
 A:Kw (gx f)=a % x.R
 Rm:Ov (gx f)=c+x.M-a
 wd:p=none->Es (gx f)=0/\qu (gx f)=w/\(w="bare" \/w="ask")
 pl:∀i,p=some i->Es (gx f)=i % x.R/\qu (gx f)≠ "bare" /\qu (gx f)≠ "ask" /\0<=i/\i<x.s.t/\iN x.T i=some (qu (gx f),B9 (gx f))
structure Cp (x y:gF) (G n e e':Int) (q:Cy):Prop where
 tm:q.j<q.wh/\q.wh<=q.j+G
 sp:q.sp=true->sS q.f=false
 ok:q.sp=false->∃a c,Fr x q.f q.w q.p a c/\(0<=c/\c<=a/\a<=x.g/\c<=x.o)/\Gr x.M y.s.t a (n-q.j) e'/\(x.M=1->e'=1->a<y.s.t)/\∀i,q.p=some i->Gr y.M x.s.t i (n-q.j) e/\Kd x.T y.T i a (qu (gx q.f),B9 (gx q.f))
def Ss (x y:gF):Prop:= ∃n0 n1 h,Sj x.T x.s.b.toNat x.g.toNat x.nm x.ends y.T y.s.b.toNat y.g.toNat y.nm y.ends n0 n1 h
structure Bo (x y:gF) (cx cy:List Cy) (G n e e':Int) (m N:Nat):Prop where
 hx:HI x (n+1) m N
 hy:HI y (n+1) m N
 d:Dr x y G e
 d':Dr y x G e'
 s:Ss x y
 px:∀q∈cx,n<q.wh->Cp x y G n e e' q
 py:∀q∈cy,n<q.wh->Cp y x G n e' e q
theorem Bo.flip (h:Bo x y cx cy G n e e' m N):Bo y x cy cx G n e' e m N:=by
 obtain⟨n0,n1,hh,s⟩:=h.s;exact⟨h.hy,h.hx,h.d',h.d,⟨_,_,_,s.flip⟩,h.py,h.px⟩
theorem Eg {l:List α} (h:0<=i):iN l i=l[i.toNat]?:=by
 unfold iN Li;rw[bc h];split
 ·rfl
 ·exact(XT (by lia)).symm
theorem Jd {v:α} (h0:0<=i) (h:iN l i=some v):iN (l++ts) i=some v:=by
 rw[Eg h0] at h⊢;rw[mu (ek.mp h).1];exact h
theorem BM.lt {R:Int} (h:BM M G R) (g1:1<=G):M<R/\1<=M:=by unfold BM at h;lia
theorem SM (q:1<=M) (u:M<s.R) (bt:s.b<=s.t) (te:s.t<=s.e) (eb:s.e<=s.b+M) (eo:s.e<=o+M) (i:s.t-a<=s.R-M) (v:a<=s.t) (ca:c<=a) (co:c<=o):(cq s (a % s.R) (c+M-a) hs tn).b=(if s.b<=a then a else s.b)/\(cq s (a % s.R) (c+M-a) hs tn).t=s.t/\(cq s (a % s.R) (c+M-a) hs tn).e<=(cq s (a % s.R) (c+M-a) hs tn).b+M/\(cq s (a % s.R) (c+M-a) hs tn).e<=o+M:=by
 unfold cq;by_cases h:s.b<=a
 ·have e:far' s (a % s.R)=a-s.b:=HX h (by lia);rw[a5 (by lia),bc h];refine⟨?_,rfl,?_,?_⟩
  ·show s.b+far' s (a % s.R)=a;lia
  ·show(if s.e<s.b+far' s (a % s.R)+(c+M-a) then s.b+far' s (a % s.R)+(c+M-a) else s.e)<=s.b+far' s (a % s.R)+M;split<;>lia
  ·show(if s.e<s.b+far' s (a % s.R)+(c+M-a) then s.b+far' s (a % s.R)+(c+M-a) else s.e)<=o+M;split<;>lia
 ·have e:far' s (a % s.R)=a-s.b+s.R:=B7 (by lia) (by lia);rw[bc (by lia),a5 h];exact⟨rfl,rfl,eb,eo⟩
structure Gw (x x':gF):Prop where
 T:∃ts,x'.T=x.T++ts
 b:x'.s.b=x.s.b
 t:x'.s.t=x.s.t
 e:x'.s.e=x.s.e
 g:x'.g=x.g
 o:x'.o=x.o
 D:x'.D=x.D
 R:x'.R=x.R
 M:x'.M=x.M
theorem Gw.refl:Gw x x:=⟨⟨[],(hL _).symm⟩,rfl,rfl,rfl,rfl,rfl,rfl,rfl,rfl⟩
theorem Gw.trans (a:Gw x x1) (b:Gw x1 x2):Gw x x2:=by
 obtain⟨t1,e1⟩:=a.T;obtain⟨t2,e2⟩:=b.T;exact⟨⟨t1++t2,by rw[e2,e1,XQ]⟩,b.b.trans a.b,b.t.trans a.t,b.e.trans a.e,b.g.trans a.g,b.o.trans a.o,b.D.trans a.D,b.R.trans a.R,b.M.trans a.M⟩
theorem QO:Gw x (jn x k)/\(jn x k).T=TZ x.T x.nm k/\(jn x k).nm=stN x.nm k/\(jn x k).ends=x.ends:=by
 unfold jn TZ stN;split
 ·split
  ·exact⟨⟨⟨_,rfl⟩,rfl,rfl,rfl,rfl,rfl,rfl,rfl,rfl⟩,rfl,rfl,rfl⟩
  ·exact⟨⟨⟨[],(hL _).symm⟩,rfl,rfl,rfl,rfl,rfl,rfl,rfl,rfl⟩,rfl,rfl,rfl⟩
 ·split
  ·exact⟨⟨⟨[],(hL _).symm⟩,rfl,rfl,rfl,rfl,rfl,rfl,rfl,rfl⟩,rfl,rfl,rfl⟩
  ·exact⟨Gw.refl,rfl,rfl,rfl⟩
theorem Gz:∀(ts:List Th) (x:gF),Gw x (qH x ts)/\(qH x ts).ends=x.ends
 | [],_=>⟨Gw.refl,rfl⟩
 |t::ts,x=>by
  obtain⟨h1,i⟩:=Gz ts (jn x t.1);obtain⟨k1,_,_,k2⟩:=QO (x:=x) (k:=t.1);exact⟨k1.trans h1,i.trans k2⟩
theorem Kd.app (h:Kd T T' p b th) (hp:p.toNat<=T.length) (i:b.toNat<=T'.length):Kd (T++ts) (T'++ts') p b th:=fun q=>by
 rw[cA hp,cA i];exact h q
theorem Kd.more (h:Kd T T' p b th) (i:b<=b'):Kd T T' p b' th:=fun q=>
 fv (h q) (IZ (by lia))
theorem Dr.len (d:Dr x y G e) (h:HI x n m N):x.s.b.toNat<=x.T.length/\y.g.toNat<=x.T.length/\x.s.t.toNat<=x.T.length:=by
 have:=h.j.tm;have:=h.sl;have:=d.bg;have:=d.gt;simp;omega
theorem Dr.grow (d:Dr x y G e) (w:Gw x x') (hx:HI x (n+1) m N) (hy:HI y (n+1) m N):Dr x' y G e:=by
 obtain⟨ts,z⟩:=w.T;have l:=d.len hx;refine⟨by rw[w.R];exact d.R,d.g1,by rw[w.R];exact d.rg,by rw[w.b];exact d.bg,by rw[w.t];exact d.gt,by rw[w.e];exact d.eo,by rw[w.e,w.b];exact d.eb,fun i th q=>?_,d.e0,by rw[w.b,w.t];exact d.e1⟩;obtain⟨d1,u,v⟩:=d.D i th q;have C:=(hy.hd i (by rw[q];rfl)).1;have o0:=hy.o0;rw[w.t,z];refine⟨d1,Jd (by lia) u,?_⟩;have:=v.app (ts:=ts) (ts':=[]) (by lia) (by have:=hy.j.B.bt;have:=hy.j.tm;have:=hy.sl;lia);rwa [hL] at this
theorem Dr.grow' (d:Dr y x G e) (d':Dr x y G e') (w:Gw x x') (hx:HI x (n+1) m N):Dr y x' G e:=by
 obtain⟨ts,C⟩:=w.T;have l:=d'.len hx;refine⟨by rw[w.R];exact d.R,d.g1,by rw[w.M];exact d.rg,by rw[w.g];exact d.bg,by rw[w.g];exact d.gt,by rw[w.o,w.M];exact d.eo,by rw[w.M];exact d.eb,fun i th u=>?_,d.e0,by rw[w.M];exact d.e1⟩;rw[w.D] at u;obtain⟨d1,v,z⟩:=d.D i th u;refine⟨d1,v,?_⟩;rw[w.b,C];intro q;rw[cA l.1];exact z q
theorem Fr.grow {wd:Str} (h:Fr x f wd p a c) (w:Gw x x'):Fr x' f wd p a c:=by
 obtain⟨ts,E⟩:=w.T;refine⟨h.ok,by rw[w.R];exact h.A,by rw[w.M];exact h.Rm,h.wd,fun i z=>?_⟩;obtain⟨h1,y,u,q,C,v⟩:=h.pl i z;exact⟨by rw[w.R];exact h1,y,u,q,by rw[w.t];exact C,by rw[E];exact Jd q v⟩
theorem Cp.grow (h:Cp x y G n e e' q) (w:Gw x x') (d:Dr x y G e) (hx:HI x (n+1) m N):Cp x' y G n e e' q:=by
 obtain⟨ts,C⟩:=w.T;have l:=d.len hx;refine⟨h.tm,h.sp,fun hs=>?_⟩;obtain⟨a,c,h1,E,F,v,H⟩:=h.ok hs;refine⟨a,c,h1.grow w,by rw[w.g,w.o];exact E,by rw[w.M];exact F,by rw[w.M];exact v,fun i u=>?_⟩;obtain⟨k1,k2⟩:=H i u;obtain⟨_,_,_,p0,p1,_⟩:=h1.pl i u;refine⟨by rw[w.t];exact k1,fun z=>?_⟩;rw[C,cA (by lia)];exact k2 z
theorem Cp.grow' (h:Cp y x G n e' e q) (w:Gw x x') (d:Dr x y G e) (hx:HI x (n+1) m N):Cp y x' G n e' e q:=by
 obtain⟨ts,v⟩:=w.T;have l:=d.len hx;refine⟨h.tm,h.sp,fun hs=>?_⟩;obtain⟨a,c,h1,C,F,u,H⟩:=h.ok hs;refine⟨a,c,h1,C,by rw[w.t];exact F,by rw[w.t];exact u,fun i E=>?_⟩;obtain⟨k1,k2⟩:=H i E;refine⟨by rw[w.M];exact k1,fun z=>?_⟩;rw[v,cA (by lia)];exact k2 z
theorem Bo.grow (h:Bo x y cx cy G n e e' m N) (w:Gw x x') (u:N<=N') (hx:HI x' (n+1) m N') (s:Ss x' y):Bo x' y cx cy G n e e' m N':=
 ⟨hx,h.hy.more u,h.d.grow w h.hx h.hy,h.d'.grow' h.d w h.hx,s,fun q i hw=>(h.px q i hw).grow w h.d h.hx,fun q i hw=>(h.py q i hw).grow' w h.d h.hx⟩
theorem Bo.hear (h:Bo x y cx cy G n e e' m N) (h1:0<=c/\c<=a/\a<=y.g/\c<=y.o) (far:x.s.t-a<=x.R-y.M) (pc:y.M=1->e=1->a<x.s.t):Bo (Au x (a % x.R) (c+y.M-a) (uI b) (n+1)) y cx cy G n e e' m N/\a<=(Au x (a % x.R) (c+y.M-a) (uI b) (n+1)).s.b:=by
 have d:=h.d;have hx:=h.hx.hear (nu:=a % x.R) (rm:=c+y.M-a) (b:=b);have eR:=h.hx.j.R;obtain⟨l1,l2⟩:=d.rg.lt d.g1;have gt:=d.gt;have bt:=h.hx.j.B.bt;have b0:=h.hx.j.B.b0;obtain⟨k1,k2,k3,k4⟩:=SM (s:=x.s) (a:=a) (c:=c) (M:=y.M) (o:=y.o) (tn:=n+1) (hs:=uI b) l2 (by lia) bt h.hx.j.te d.eb d.eo (by lia) (by lia) (by lia) (by lia);rw[eR] at k1 k2 k3 k4;have kb:a<=(cq x.s (a % x.R) (c+y.M-a) (uI b) (n+1)).b:=by rw[k1];split<;>lia
 have kc:x.s.b<=(cq x.s (a % x.R) (c+y.M-a) (uI b) (n+1)).b:=by rw[k1];split<;>lia
 have kd:(cq x.s (a % x.R) (c+y.M-a) (uI b) (n+1)).b<=y.g:=by rw[k1];have:=d.bg;split<;>lia
 refine⟨⟨hx,h.hy,⟨d.R,d.g1,d.rg,kd,by show y.g<=(cq _ _ _ _ _).t;lia,k4,k3,fun i th u=>?_,d.e0,fun z1 Z=>?_⟩,⟨h.d'.R,h.d'.g1,h.d'.rg,h.d'.bg,h.d'.gt,h.d'.eo,h.d'.eb,fun i th u=>?_,h.d'.e0,h.d'.e1⟩,?_,fun q X hw=>?_,fun q X hw=>?_⟩,kb⟩
 ·obtain⟨p1,I,H⟩:=d.D i th u;exact⟨by show i<(cq _ _ _ _ _).t;lia,I,H⟩
 ·have:=d.e1 z1 Z;have:=pc z1 Z;show(cq _ _ _ _ _).b<(cq _ _ _ _ _).t;rw[k1,k2];split<;>lia
 ·obtain⟨p1,I,H⟩:=h.d'.D i th u;exact⟨p1,I,H.more kc⟩
 ·obtain⟨n0,n1,hh,s⟩:=h.s;have g0:=h.hy.o0;have g1:=h.hy.og;obtain⟨n2,s2⟩:=s.knows (b':=(cq x.s (a % x.R) (c+y.M-a) (uI b) (n+1)).b.toNat) (by lia) (by lia);rw[show((x.s.b.toNat:Nat):Int)=x.s.b by lia,show(((cq x.s (a % x.R) (c+y.M-a) (uI b) (n+1)).b.toNat:Nat):Int)=(cq x.s (a % x.R) (c+y.M-a) (uI b) (n+1)).b by lia] at s2;exact⟨n2,n1,hh,s2⟩
 ·obtain⟨U,Y,F⟩:=h.px q X hw;refine⟨U,Y,fun z=>?_⟩;obtain⟨C,O,v,W,P,Q,E⟩:=F z;exact⟨C,O,⟨v.ok,v.A,v.Rm,v.wd,fun i u=>by obtain⟨w1,w2,w3,w4,w5,w6⟩:=v.pl i u;exact⟨w1,w2,w3,w4,by show i<(cq _ _ _ _ _).t;lia,w6⟩⟩,W,P,Q,fun i u=>⟨by show Gr y.M (cq _ _ _ _ _).t i _ _;rw[k2];exact(E i u).1,(E i u).2⟩⟩
 ·obtain⟨U,Y,F⟩:=h.py q X hw;refine⟨U,Y,fun z=>?_⟩;obtain⟨C,O,v,W,P,Q,E⟩:=F z;exact⟨C,O,v,W,by show Gr y.M (cq _ _ _ _ _).t _ _ _;rw[k2];exact P,by show y.M=1->e=1->C<(cq _ _ _ _ _).t;rw[k2];exact Q,E⟩
theorem Bo.dued (h:Bo x y P H G n e I m N) (d:Bool):Bo {x with due:=d} y P H G n e I m N:=
 ⟨
  h.hx.dued d,h.hy,⟨h.d.R,h.d.g1,h.d.rg,h.d.bg,h.d.gt,h.d.eo,h.d.eb,h.d.D,h.d.e0,h.d.e1⟩,⟨h.d'.R,h.d'.g1,h.d'.rg,h.d'.bg,h.d'.gt,h.d'.eo,h.d'.eb,h.d'.D,h.d'.e0,h.d'.e1⟩,h.s,fun q C hw=>by
  obtain⟨v,E,u⟩:=h.px q C hw;refine⟨v,E,fun z=>?_⟩;obtain⟨F,O,i,Q⟩:=u z;exact⟨F,O,⟨i.ok,i.A,i.Rm,i.wd,i.pl⟩,Q⟩,fun q C hw=>by
  obtain⟨v,E,u⟩:=h.py q C hw;exact⟨v,E,u⟩⟩
theorem stds:∀(ts:List Th) (x:gF) (g:Nat),x.s.b.toNat<=x.T.length->(∀(k:Nat) th,ts[k]?=some th->T1[g+k]?=some th/\(Br th=true->2*(cn (T1.take (g+k)) / 2)<=cn (x.T.take x.s.b.toNat)))->(∃n0 n1 h,Sj x.T x.s.b.toNat g x.nm x.ends T1 b1 g1 nm1 es1 n0 n1 h)->∃n0 n1 h,Sj (qH x ts).T (qH x ts).s.b.toNat (g+ts.length) (qH x ts).nm (qH x ts).ends T1 b1 g1 nm1 es1 n0 n1 h
 | [],x,g,_,_,h=>h
 |t::ts,x,g,hb,hk,⟨n0,n1,hh,s⟩=>by
  obtain⟨k1,k2⟩:=hk 0 t rfl;obtain⟨v,C,s2⟩:=s.take (t:=t) k1 k2;obtain⟨w,e1,e2,e3⟩:=QO (x:=x) (k:=t.1);obtain⟨us,u⟩:=w.T;have q:(jn x t.1).s.b.toNat<=(jn x t.1).T.length:=by rw[w.b,u,ey];lia
  have:=stds ts (jn x t.1) (g+1) q (fun k th i=>by
   obtain⟨z,y⟩:=hk (k+1) th i;rw[show g+1+k=g+(k+1) by lia];refine⟨z,?_⟩;rw[w.b,u,cA hb];exact y) ⟨v,n1,C,by rw[e1,w.b,e2,e3];exact s2⟩
  rw[tH,show g+(ts.length+1)=g+1+ts.length by lia];exact this
theorem Bo.take (h:Bo x y cx cy G n e e' m N) (p0:0<=p) (pt:p<y.s.t) (ta:iN y.T p=some th) (far:y.s.t-p<=y.R-x.M) (kd:Kd y.T x.T p x.s.b th):
  Bo (EF x (p % x.R) th) y cx cy G n e e' m N/\Gs x (p % x.R)=if p<x.g then[.str "old",.non] else[.str "filed",.int p]:=by
 have d:=h.d';have eR:=d.R;obtain⟨l1,l2⟩:=d.rg.lt d.g1;have og:=h.hx.og;have gt:=d.gt;have eo:=d.eo;have te:=h.hy.j.te;by_cases c:p<x.g
 ·have e1:(p % x.R-x.g) % x.R=p-x.g+x.R:=B7 c (by lia);have H:x.o+x.M-x.g<=(p % x.R-x.g) % x.R:=by rw[e1];lia
  unfold EF Gs;rw[bc H,bc H,bc c];exact⟨h,rfl⟩
 have e1:(p % x.R-x.g) % x.R=p-x.g:=HX (by lia) (by lia);have H: ¬x.o+x.M-x.g<=(p % x.R-x.g) % x.R:=by rw[e1];lia
 have eI:qt x (p % x.R)=p:=by unfold qt;rw[e1];lia
 have C:=h.hx.take1 (t:=th) H;unfold EF Gs;rw[a5 H,a5 H,a5 c,eI];refine⟨?_,rfl⟩;have hD:∀i u,iO x (p % x.R) th i=some u->i<y.s.t/\iN y.T i=some u/\Kd y.T x.T i x.s.b u:=fun i u F=>by
  unfold iO at F;rw[eI] at F;split at F
  ·rename_i z;subst z;split at F
   ·exact d.D _ _ F
   ·injection F with F;subst F;exact⟨pt,ta,kd⟩
  ·exact d.D _ _ F
 have ra:=Ab (D:=iO x (p % x.R) th) x.M.toNat x.g;have gn:x.g+(gu x (p % x.R) th:Int)<=y.s.t:=by
  by_cases z:gu x (p % x.R) th=0
  ·rw[z];lia
  ·obtain⟨u,E⟩:=ro.mp (ra (gu x (p % x.R) th-1) (by unfold gu at z⊢;lia));have:=(hD _ _ E).1;lia
 obtain⟨w,_⟩:=Gz (sC x (p % x.R) th) {x with g:=x.g+(gu x (p % x.R) th:Int),D:=iO x (p % x.R) th};have IF:=HI.qH (sC x (p % x.R) th) C;have d1:Dr {x with g:=x.g+(gu x (p % x.R) th:Int),D:=iO x (p % x.R) th} y G e:=⟨h.d.R,h.d.g1,h.d.rg,h.d.bg,h.d.gt,h.d.eo,h.d.eb,h.d.D,h.d.e0,h.d.e1⟩;have d2:Dr y {x with g:=x.g+(gu x (p % x.R) th:Int),D:=iO x (p % x.R) th} G e':=⟨d.R,d.g1,d.rg,by have:=d.bg;show y.s.b<=x.g+_;lia,gn,d.eo,d.eb,hD,d.e0,d.e1⟩;refine⟨IF,h.hy,d1.grow w C h.hy,d2.grow' d1 w C,?_,fun q W hw=>?_,fun q W hw=>?_⟩
 ·have lb:=(h.d.len h.hx).1;have g0:=h.hx.o0;have tl:(sC x (p % x.R) th).length=gu x (p % x.R) th:=by unfold sC;rw[cF,p6]
  have:=stds (b1:=y.s.b.toNat) (g1:=y.g.toNat) (nm1:=y.nm) (es1:=y.ends) (T1:=y.T) (sC x (p % x.R) th) {x with g:=x.g+(gu x (p % x.R) th:Int),D:=iO x (p % x.R) th} x.g.toNat lb (fun k u E=>?_) h.s
  ·obtain⟨n0,n1,hh,s⟩:=this;refine⟨n0,n1,hh,?_⟩;rw[w.g];show Sj _ _ (x.g+(gu x (p % x.R) th:Int)).toNat _ _ _ _ _ _ _ _ _ _;rw[show(x.g+(gu x (p % x.R) th:Int)).toNat=x.g.toNat+(sC x (p % x.R) th).length by lia];exact s
  ·have hk:k<gu x (p % x.R) th:=by have:=(ek.mp E).1;lia
   unfold sC at E;rw[vr,XE hk] at E;obtain⟨v,Z⟩:=ro.mp (ra k hk);simp only[X9] at E;rw[Z,Option.getD_some] at E;injection E with E;subst E;obtain⟨z1,Y,Q⟩:=hD _ _ Z;rw[Eg (by lia),show(x.g+(k:Int)).toNat=x.g.toNat+k by lia] at Y;unfold Kd at Q;rw[show(x.g+(k:Int)).toNat=x.g.toNat+k by lia] at Q;exact⟨Y,Q⟩
 ·refine Cp.grow (m:=m) (N:=N) ?_ w d1 C;obtain⟨U,X,P⟩:=h.px q W hw;refine⟨U,X,fun z=>?_⟩;obtain⟨a',c',I,O,f3⟩:=P z;exact⟨a',c',⟨I.ok,I.A,I.Rm,I.wd,I.pl⟩,⟨O.1,O.2.1,by have:=O.2.2.1;show a'<=x.g+_;lia,O.2.2.2⟩,f3⟩
 ·refine Cp.grow' (m:=m) (N:=N) ?_ w d1 C;obtain⟨U,X,P⟩:=h.py q W hw;exact⟨U,X,P⟩
noncomputable def FI (x:gF) (q:Cy):List V:=if q.sp then[.str "spoilt",.non] else match q.p with
 |none=>[.str q.w,.non]
 |some p=>if p<x.g then[.str "old",.non] else[.str "filed",.int p]
theorem Bo.come (h:Bo x y cx cy G n e e' m N) (hq:q∈cy) (hw:q.wh=n+1):Bo (yO x q.f (n+1)) y cx cy G n e e' m N/\CB x q.f (n+1)=FI x q:=by
 obtain⟨⟨t1,t2⟩,q2,W⟩:=h.py q hq (by lia);have H:=h.d.R;have r2:=h.hx.r2;unfold yO CB FI;cases hs:q.sp
 ·obtain⟨a,c,fr,ac,gr,pc,Z⟩:=W hs;have A0:=nt a (show 0<y.R by lia);have Y:Es (gx q.f)<x.R:=by
   cases hp:q.p with
   |none=>rw[(fr.wd hp).1];lia
   |some i=>rw[(fr.pl i hp).1,H];exact nt _ (by lia)
  have ok:eB x q.f=true:=by
   unfold eB;rw[fr.ok,eT Y,eT (by rw[fr.A];lia)];rfl
  rw[bc ok,bc ok,a5 (show¬(false=true) by decide)];have Q:=Nn h.d.rg h.d.e0 (show n+1-G<=q.j by lia) gr;obtain⟨F,H2⟩:=h.hear (b:=gx q.f) ac Q pc;unfold qr;rw[fr.A,fr.Rm,H];generalize v:Au x (a % x.R) (c+y.M-a) (uI (gx q.f)) (n+1)=C at*
  have I:C.g=x.g:=by rw[<-v];rfl
  have O:C.R=x.R:=by rw[<-v];rfl
  have P:C.M=x.M:=by rw[<-v];rfl
  have E:C.T=x.T:=by rw[<-v];rfl
  cases hp:q.p with
  |none=>
   obtain⟨U,w2,u⟩:=fr.wd hp;dsimp only;rcases u with u|u
   ·rw[bc (w2.trans u),bc (w2.trans u),u];exact⟨F,rfl⟩
   ·have ne:qu (gx q.f)≠"bare" :=by rw[w2,u];decide+kernel
    rw[a5 ne,a5 ne,bc (w2.trans u),bc (w2.trans u),u];exact⟨F.dued true,rfl⟩
  |some i=>
   obtain⟨U,w2,u,w4,X,w6⟩:=fr.pl i hp;obtain⟨g1,k1⟩:=Z i hp;have z:=Nn h.d'.rg h.d'.e0 (show n+1-G<=q.j by lia) g1;rw[a5 w2,a5 w2,a5 u,a5 u,U,H];have:=(F.dued true).take (p:=i) (th:=(qu (gx q.f),B9 (gx q.f))) w4 X w6 (by rw[<-P] at z;exact z) (by show Kd y.T C.T i C.s.b _;rw[E];exact k1.more H2);rw[<-O];refine⟨this.1,this.2.trans ?_⟩;rw[<-I]
 ·have ok:eB x q.f=false:=by unfold eB;rw[q2 hs];rfl
  rw[a5 (show¬(eB x q.f=true) by rw[ok];decide),a5 (show¬(eB x q.f=true) by rw[ok];decide),bc rfl];exact⟨h,rfl⟩
theorem Bo.read (h:Bo x y cx cy G n e e' m N) (hm:0<=m'):Bo (l8 x m') y cx cy G n e e' m N/\y.T.take x.o.toNat++vk x m'=y.T.take (l8 x m').o.toNat:=by
 have r:=vm h.hx.og hm;have o0:=h.hx.o0;refine⟨⟨h.hx.read hm,h.hy,⟨h.d.R,h.d.g1,h.d.rg,h.d.bg,h.d.gt,h.d.eo,h.d.eb,h.d.D,h.d.e0,h.d.e1⟩,⟨h.d'.R,h.d'.g1,h.d'.rg,h.d'.bg,h.d'.gt,?_,h.d'.eb,fun i th X=>?_,h.d'.e0,h.d'.e1⟩,h.s,fun q I hw=>?_,fun q I hw=>?_⟩,?_⟩
 ·have:=h.d'.eo;show y.s.e<=x.o+(dR x m':Int)+x.M;lia
 ·have v:(if x.o<=i/\i<x.o+(dR x m':Int) then none else x.D i)=some th:=X;split at v
  ·cases v
  ·exact h.d'.D i th v
 ·obtain⟨H,O,F⟩:=h.px q I hw;refine⟨H,O,fun z=>?_⟩;obtain⟨W,Q,C,E,Y⟩:=F z;exact⟨W,Q,⟨C.ok,C.A,C.Rm,C.wd,C.pl⟩,⟨E.1,E.2.1,E.2.2.1,by have:=E.2.2.2;show Q<=x.o+_;lia⟩,Y⟩
 ·obtain⟨H,O,F⟩:=h.py q I hw;exact⟨H,O,F⟩
 ·show _=y.T.take (x.o+(dR x m':Int)).toNat;rw[show(x.o+(dR x m':Int)).toNat=x.o.toNat+dR x m' by lia,List.take_add];congr 1;apply List.ext_getElem?;intro j;unfold vk;rw[vr,List.getElem?_take,List.getElem?_drop];by_cases c:j<dR x m'
  ·rw[bc c,XE c];obtain⟨u,U⟩:=ro.mp (h.hx.hk (x.o+j) (by lia) (by lia));have P:=(h.d'.D _ _ U).2.1;rw[Eg (by lia),show(x.o+(j:Int)).toNat=x.o.toNat+j by lia] at P;rw[P];simp only[X9,U,Option.getD_some]
  ·rw[a5 c,XT (by rw[p6];lia)];rfl
theorem Ss.kd (h:Ss x y) (u:0<=i) (e:iN x.T i=some th):Kd x.T y.T i x.g th:=fun q=>by
 obtain⟨n0,n1,hh,s⟩:=h;rw[Eg u] at e;have l:=Q_ e q;have h0:=s.J.h0 0 (by lia) (cn (x.T.take i.toNat)) l;have h1:=s.J.h1 0 (by lia) (cn (x.T.take i.toNat)) l;exact fv h0 h1
def Nw (x:gF) (n G:Int) (cs:List Cy):Prop:= ∀q∈cs,∃w pl,yU x n=some (w,pl)/\q.j=n/\(n<q.wh/\q.wh<=n+G)/\q.w=w/\q.p=pl/\(q.sp=true->sS q.f=false)/\(q.sp=false->q.f=(Jw x w pl:Nat))
theorem QP (hc:x.s.clk = .non\/∃i,x.s.clk = .int i) (h:yU x n=some (w,pl)):(pl=none/\(w="bare" \/w="ask"))\/(pl=some x.s.b/\x.s.b<x.s.t)\/(pl=some x.s.t/\(b9 x n).s.t=x.s.t+1):=by
 obtain⟨_,o⟩:=tG (n:=n) hc;unfold yU at h;rcases o with⟨_,_,_,o|o⟩|⟨o,u,_⟩|⟨o,u,_,o2,_⟩
 ·rw[o] at h;dsimp only at h;split at h
  ·injection h with h;injection h with h1 q;exact .inl ⟨q.symm,.inl h1.symm⟩
  ·cases h
 ·rw[o] at h;injection h with h;injection h with h1 q;exact .inl ⟨q.symm,.inr h1.symm⟩
 ·rw[o] at h;injection h with h;injection h with h1 q;exact .inr (.inl ⟨q.symm,u⟩)
 ·rw[o] at h;injection h with h;injection h with h1 q;exact .inr (.inr ⟨q.symm,o2⟩)
end
section
mutual
variable {e2 e3:Int}
def HA (x y:gF) (n e e2:Int):Prop:=((b9 x n).s.t=x.s.t/\e2=0)\/((b9 x n).s.t=x.s.t+1/\e2=1/\(y.M=1->e=0))
theorem Dr.st (d:Dr x y G e) (h:HI x tn m N):∃e2,HA x y tn e e2:=by
 obtain⟨_,o⟩:=tG (n:=tn) h.j.ck;rcases o with⟨o,_⟩|⟨_,_,o,_⟩|⟨_,_,i,o,_⟩
 ·exact⟨0,.inl ⟨o,rfl⟩⟩
 ·exact⟨0,.inl ⟨o,rfl⟩⟩
 ·refine⟨1,.inr ⟨o,rfl,fun z=>?_⟩⟩;have:=d.e0;have:=d.e1 z;have:=d.eb;lia
theorem Dr.send (d:Dr x y G e) (h:HI x (n+1) m N) (z:HI y (n+1) m N) (st:HA x y (n+1) e e2):Dr (b9 x (n+1)) (b9 y (n+1)) G e2:=by
 obtain⟨g,_⟩:=tG (n:=n+1) h.j.ck;obtain⟨v,_⟩:=tG (n:=n+1) z.j.ck;have eb:(b9 x (n+1)).s.b=x.s.b:=g.b;have u:(b9 x (n+1)).s.e=x.s.e:=g.e;have q:(b9 y (n+1)).s.b=y.s.b:=v.b;have bt:=h.j.B.bt;have gt:=d.gt;have tt:x.s.t<=(b9 x (n+1)).s.t:=by unfold HA at st;lia
 refine⟨d.R,d.g1,d.rg,by rw[eb];exact d.bg,by show y.g<=_;lia,by rw[u];exact d.eo,by rw[u,eb];exact d.eb,fun i th E=>?_,by unfold HA at st;lia,fun I H=>?_⟩
 ·obtain⟨d1,C,F⟩:=d.D i th E;exact⟨by lia,C,by rw[q];exact F⟩
 ·rw[eb];unfold HA at st;lia
theorem Cp.send (p:Cp x y G n e e' q) (d:Dr x y G e) (d':Dr y x G e') (st:HA x y (n+1) e e2) (v:HA y x (n+1) e' e3):Cp (b9 x (n+1)) (b9 y (n+1)) G (n+1) e2 e3 q:=by
 obtain⟨W,Z,F⟩:=p;have tt:x.s.t<=(b9 x (n+1)).s.t:=by unfold HA at st;omega
 refine⟨W,Z,fun z=>?_⟩;obtain⟨O,P,u,X,U,f4,E⟩:=F z;refine⟨O,P,⟨u.ok,u.A,u.Rm,u.wd,fun i C=>?_⟩,X,II U d'.e0 v,fun z1 z2=>?_,fun i C=>⟨II (E i C).1 d.e0 st,(E i C).2⟩⟩
 ·obtain⟨I,w2,H,Q,w5,Y⟩:=u.pl i C;exact⟨I,w2,H,Q,by omega,Y⟩
 ·have:=d'.gt;unfold HA at v;omega
theorem Nw.cp (a:Nw x (n+1) G ns) (hq:q∈ns) (hm:m<420) (hx:HI x (n+1) m N) (hy:HI y (n+1) m N) (s:Ss x y) (d:Dr x y G e) (d':Dr y x G e') (st:HA x y (n+1) e e2) (H:HA y x (n+1) e' e3):Cp (b9 x (n+1)) (b9 y (n+1)) G (n+1) e2 e3 q:=by
 obtain⟨w,pl,sw,C,X,Q,w2,O,Z⟩:=a q hq;refine⟨by rw[C];exact X,O,fun z=>?_⟩;have W:=Z z;obtain⟨pb,_⟩:=(hx.GD (by lia)).pb w pl sw;obtain⟨k1,k2,k3,U,k5,_,P⟩:=Qf pb W;have tt:x.s.t<=(b9 x (n+1)).s.t:=by unfold HA at st;lia
 have te:=(hx.send (by lia)).j.te;have te':=(hy.send (by lia)).j.te;obtain⟨g,_⟩:=tG (n:=n+1) hx.j.ck;obtain⟨I,_⟩:=tG (n:=n+1) hy.j.ck;have ee:(b9 x (n+1)).s.e=x.s.e:=g.e;have Y:(b9 y (n+1)).s.e=y.s.e:=I.e;have og:=hx.og;have b0:=hx.j.B.b0;have bt:=hx.j.B.bt;have gt:=d'.gt;have eb:=d.eb;have eo:=d'.eo;obtain⟨_,M1⟩:=d.rg.lt d.g1;obtain⟨_,M2⟩:=d'.rg.lt d'.g1;have key:∀i,pl=some i->0<=i/\i<(b9 x (n+1)).s.t/\x.s.b<=i:=fun i u=>by
  rcases QP hx.j.ck sw with⟨c,_⟩|⟨c,E⟩|⟨c,E⟩
  ·rw[u] at c;cases c
  ·rw[u] at c;injection c with c;lia
  ·rw[u] at c;injection c with c;lia
 have thn:∀i,pl=some i->iN x.T i=some (qu (gx q.f),B9 (gx q.f))/\CN (qu (gx q.f),B9 (gx q.f)):=fun i u=>by
  obtain⟨v,F,_⟩:=key i u;have tm:=(hx.send (by lia)).j.tm;have sl:=(hx.send (by lia)).sl;obtain⟨th,e1,e2⟩:=F3 (l:=x.T) v (by have:(b9 x (n+1)).T.length=x.T.length:=rfl;lia);have et:GO x w (some i)=th:=by show(iN x.T i).getD _=th;rw[e1];rfl
  rw[k2,P,u,et,e1];exact⟨rfl,hx.gd th e2⟩
 refine⟨x.g,x.o,⟨k1,U,k5,fun hp=>?_,fun i u=>?_⟩,⟨hx.o0,og,t6 _,t6 _⟩,?_,fun z1 z2=>?_,fun i u=>⟨?_,?_⟩⟩
 ·rw[w2] at hp;rw[Q];rcases QP hx.j.ck sw with⟨_,c⟩|⟨c,E⟩|⟨c,E⟩
  ·rw[k3,k2,hp];exact⟨rfl,rfl,c⟩
  ·rw[hp] at c;cases c
  ·rw[hp] at c;cases c
 ·rw[w2] at u;obtain⟨t1,t2⟩:=thn i u;obtain⟨v,F,_⟩:=key i u;exact⟨by rw[k3,u];rfl,t2.1,t2.2.1,v,F,t1⟩
 ·show Gr x.M (b9 y (n+1)).s.t x.g _ _;rw[C];unfold Gr HA at*
  lia
 ·show x.g<(b9 y (n+1)).s.t;unfold HA at H;lia
 ·rw[w2] at u;obtain⟨v,F,i2⟩:=key i u;show Gr y.M (b9 x (n+1)).s.t i _ _;rw[C];unfold Gr HA at*
  lia
 ·rw[w2] at u;exact s.kd (key i u).1 (thn i u).1
theorem Bo.sends (h:Bo x y cx cy G n e e' m N) (hm:m<420) (hn:n+1<900000) (a:Nw x (n+1) G ns) (b:Nw y (n+1) G ns'):∃e2 e3,Bo (b9 x (n+1)) (b9 y (n+1)) (cx++ns) (cy++ns') G (n+1) e2 e3 (m+1) N:=by
 obtain⟨e2,st⟩:=h.d.st h.hx;obtain⟨e3,u⟩:=h.d'.st h.hy;have s:=h.s;obtain⟨n0,n1,hh,z⟩:=id s;have E:Ss y x:=⟨_,_,_,z.flip⟩;refine⟨e2,e3,(h.hx.send (by lia)).turn hn,(h.hy.send (by lia)).turn hn,h.d.send h.hx h.hy st,h.d'.send h.hy h.hx u,?_,fun q i hw=>?_,fun q i hw=>?_⟩
 ·obtain⟨g,_⟩:=tG (n:=n+1) h.hx.j.ck;obtain⟨C,_⟩:=tG (n:=n+1) h.hy.j.ck;have eb:(b9 x (n+1)).s.b=x.s.b:=g.b;have v:(b9 y (n+1)).s.b=y.s.b:=C.b;exact⟨n0,n1,hh,by rw[eb,v];exact z⟩
 ·rcases gs.mp i with i|i
  ·exact(h.px q i (by lia)).send h.d h.d' st u
  ·exact a.cp i hm h.hx h.hy s h.d h.d' st u
 ·rcases gs.mp i with i|i
  ·exact(h.py q i (by lia)).send h.d' h.d u st
  ·exact b.cp i hm h.hy h.hx E h.d' h.d u st
end
end
mutual
noncomputable def ck (k:Str) (l:List Th):Nat:=l.countP fun t=>decide (t.1=k)
theorem D_ {T:List Th} (h:T[i]?=some t):ck k (T.take (i+1))=ck k (T.take i)+(if t.1=k then 1 else 0):=by
 unfold ck;rw[ON,h];show List.countP _ (T.take i++ [t])=_;rw[List.countP_append,List.countP_singleton];by_cases c:t.1=k
 ·rw[bc c,eT c];rfl
 ·rw[a5 c,cz c];rfl
theorem Alt.cks (h:Alt T):∀i,ck "begin" (T.take i)=(cn (T.take i)+1) / 2/\ck "end" (T.take i)=cn (T.take i) / 2
 |0=>⟨by simp[ck],by simp[ck]⟩
 |i+1=>by
  obtain⟨h1,q⟩:=h.cks i;cases e:T[i]? with
  |none=>
   have:=List.getElem?_eq_none_iff.mp e;rw[Xj (by lia)] at h1 q⊢;exact⟨h1,q⟩
  |some t=>
   rw[D_ e,D_ e,zQ e];cases u:Br t
   ·obtain⟨x,y⟩:=DO u;rw[a5 x,a5 y];exact⟨h1,q⟩
   ·have w:=h i t e u;by_cases c:cn (T.take i) % 2=0
    ·have v:t.1 = "begin" :=w.trans (ot.mpr c);rw[bc v,a5 (show¬t.1 = "end" by rw[v];decide+kernel)];simp only[XH];lia
    ·have te:t.1 = "end" :=w.trans (qD.mpr (by lia));rw[bc te,a5 (show¬t.1 = "begin" by rw[te];decide+kernel)];simp only[XH];lia
noncomputable def tabS (a b c d e:Int):Str:=
 if a=0/\b=0/\c=0/\d=0/\e=0 then "shut" else if a=1/\b=0/\c=0/\d=0/\e=0 then "calling" else if a=1/\b=0/\c=0/\d=1/\e=0 then "open" else if a=1/\b=0/\c=0/\d=1/\e=1 then "left" else if(a=1/\b=1/\c=0/\d=0/\e=0)\/(a=1/\b=1/\c=0/\d=1/\e=0) then "leaving" else if(a=1/\b=1/\c=1/\d=0/\e=0)\/(a=1/\b=1/\c=1/\d=1/\e=0) then "waiting" else if a=1/\b=1/\c=0/\d=1/\e=1 then "closing" else ""
noncomputable def Kk (own:List Th) (b:Nat) (i:List Th):Str:=
 tabS (ck "begin" own-min (ck "end" (own.take b)) (ck "end" i):Int) (ck "end" own-min (ck "end" (own.take b)) (ck "end" i):Int) (ck "end" (own.take b)-min (ck "end" (own.take b)) (ck "end" i):Int) (ck "begin" i-min (ck "end" (own.take b)) (ck "end" i):Int) (ck "end" i-min (ck "end" (own.take b)) (ck "end" i):Int)
theorem Ss.name (h:Ss x y):Kk x.T x.s.b.toNat (y.T.take x.g.toNat)=x.nm:=by
 obtain⟨n0,n1,hh,s⟩:=h;obtain⟨t,sd⟩:=s.sd;have tk:=sd.talks;have a:=s.A0.cks x.T.length;rw[AB] at a;have b:=s.A0.cks x.s.b.toNat;have c:=s.A1.cks x.g.toNat;unfold Kk;rw[a.1,a.2,b.2,c.1,c.2,s.m0];have i:=LW sd rfl rfl rfl rfl rfl;rw[tk];rcases i with⟨e1,e2,e3,e4,e5,rfl⟩|⟨e1,e2,e3,e4,e5,rfl⟩|⟨e1,e2,e3,e4,e5,rfl⟩|⟨e1,e2,e3,e4,e5,rfl⟩|⟨e1,e2,e3,e4,e5,rfl⟩|⟨e1,e2,e3,e4,e5,rfl⟩|⟨e1,e2,e3,e4,e5,rfl⟩|⟨e1,e2,e3,e4,e5,rfl⟩|⟨e1,e2,e3,e4,e5,rfl⟩<;>(rw[e1,e2,e3,e4,e5];decide+kernel)
inductive Ow (x:gF):gF->Prop
 |no:Ow x x
 |beg {nx:Str} (h:bR x.nm "begin" = some nx):Ow x {x with nm:=nx,ends:=x.ends,T:=x.T++ [(Str.ofString "begin",Str.ofString "")],s:={x.s with T:=x.s.T++ [(Str.ofString "begin",Str.ofString "")].map fun _=>V.non}}
 |fin {nx:Str} (h:bR x.nm "end" = some nx):Ow x {x with nm:=nx,ends:=x.ends++ [(x.T.length:Int)],T:=x.T++ [(Str.ofString "end",Str.ofString "")],s:={x.s with T:=x.s.T++ [(Str.ofString "end",Str.ofString "")].map fun _=>V.non}}
 |put {ts:List Th} (h:∀t∈ts,CN t/\t.1 = "signs") (hl:ts.length<=15):Ow x {x with nm:=x.nm,ends:=x.ends,T:=x.T++ts,s:={x.s with T:=x.s.T++ts.map fun _=>V.non}}
theorem Q7 (nm:Str):fi nm<=1:=by unfold fi;split<;>lia
theorem Bo.wish (h:Bo x y cx cy G n e e' m N) (w:Ow x x'):Bo x' y cx cy G n e e' m (N+15):=by
 have tl:=h.hx.tl;have el:=h.hx.el;obtain⟨n0,n1,hh,s⟩:=h.s;cases w with
 |no=>exact h.grow Gw.refl (by lia) (h.hx.more (by lia)) h.s
 | @beg nx v=>
  have:=Q7 nx;obtain⟨i,u,s2⟩:=s.begin v;refine Bo.grow h ?_ (by lia) ?_ ?_
  ·exact⟨⟨_,rfl⟩,rfl,rfl,rfl,rfl,rfl,rfl,rfl,rfl⟩
  ·exact h.hx.wsh (fun t ht=>by rw[ec.mp ht];exact DS (.inl rfl)) (by rw[me];lia) (by lia)
  ·exact⟨i,n1,u,s2⟩
 | @fin nx v=>
  have:=Q7 nx;obtain⟨i,u,s2⟩:=s.fin v;refine Bo.grow h ?_ (by lia) ?_ ?_
  ·exact⟨⟨_,rfl⟩,rfl,rfl,rfl,rfl,rfl,rfl,rfl,rfl⟩
  ·exact h.hx.wsh (fun t ht=>by rw[ec.mp ht];exact DS (.inr rfl)) (by rw[me];lia) (by rw[ey,me];lia)
  ·exact⟨i,n1,u,s2⟩
 | @put ts ht hl=>
  obtain⟨s2,_⟩:=s.signs (ts:=ts) fun t q=>(ht t q).2;refine Bo.grow h ?_ (by lia) ?_ ?_
  ·exact⟨⟨_,rfl⟩,rfl,rfl,rfl,rfl,rfl,rfl,rfl,rfl⟩
  ·exact h.hx.wsh (fun t q=>(ht t q).1) (by lia) (by lia)
  ·exact⟨n0,n1,hh,s2⟩
noncomputable def Q3 (side R own other f l:Int):gF:=⟨side,R,own,0,0,fun _=>none,(vO side R own other f l).sd,[],"shut",false,[]⟩
theorem c8.new {s o:Int}:c8 K H (vO s r o t f l) (Q3 s r o t f l):=
 ⟨rfl,rfl,rfl,rfl,rfl,rfl,fun _ _=>rfl,fun _ _ e=>by trivial,Yt,fun _ h=>absurd h d3,⟨[],rfl,.nil,rfl⟩,rfl,rfl,rfl⟩
theorem HI.new (u:2<=r/\r<=64) (q:1<=o/\o<=16):HI (Q3 s r o t f l) 0 0 1:=by
 have r0:0<r:=by lia
 exact
 ⟨⟨rfl,r0,⟨t6 _,t6 _,by show(0:Int)<=900;lia⟩,by show(0:Int)<=1;lia,t6 _,t6 _,kv _,fun _ _=>rfl,.inl rfl,fun j a b=>by have:j<0:=b;lia,t6 _,by lia,kv _,kv _,kv _⟩,u.1,u.2,q.1,q.2,t6 _,t6 _,by show(0:Int)<=0+o;lia,fun i a b=>by have v:(0:Int)<=i:=a;have b':i<0:=b;lia,(fun i h=>by cases h),fun t h=>absurd h d3,by show 0+fi "shut" <=1;decide+kernel,rfl,kv _⟩
theorem Ur (i:1<=o) (ht:1<=t) (h: ¬r<pB o t g):BM o g r/\BM t g r:=by
 unfold pB j8 at h;unfold BM
 repeat' split at h
 all_goals (constructor<;>lia)
theorem Bo.start (h:good r o t g f l) (hl: ¬r<pB o t g):Bo (Q3 0 r o t f l) (Q3 1 r t o f l) [] [] g (-1) 0 0 0 1:=by
 obtain⟨C,⟨x,ht⟩,hg,_,_⟩:=h;obtain⟨F,r2⟩:=Ur x.1 ht.1 hl;have d:∀s E o t u t',1<=u->BM u g r->Dr (Q3 s r o t f l) (Q3 E r u t' f l) g 0:=fun s E o t u t' h1 G=>
  ⟨rfl,hg.1,G,t6 _,t6 _,by show(1:Int)<=0+u;lia,by show(1:Int)<=0+u;lia,fun i th H=>by (cases H),.inl rfl,fun _ z=>by lia⟩
 refine⟨HI.new C x,HI.new C ht,d _ _ _ _ _ _ ht.1 r2,d _ _ _ _ _ _ x.1 F,⟨0,0,fun _=>pr 0 0,?_⟩,fun q y=>absurd y d3,fun q y=>absurd y d3⟩;have J:=Jn.start;have e:∀v:Nat,(fun _=>v)=pr v v:=fun v=>by funext i;unfold pr;split<;>rfl
 rw[e] at J;exact⟨J,rfl,rfl,Alt.nil,Alt.nil,⟨fun p hp=>absurd hp d3,fun k t ht=>by have ht:([]:List Th)[k]?=some t:=ht;simp at ht,Yt⟩,⟨fun p hp=>absurd hp d3,fun k t ht=>by have ht:([]:List Th)[k]?=some t:=ht;simp at ht,Yt⟩,cm _,cm _,cm _,cm _⟩
def WW (f:Int):Prop:= ∃n:Nat,f=n/\n<2 ^ 74/\Rem.R n=0
def r_ (H:Hp) (v:V) (q:Cy):Prop:= ∃a r,v = .ref a/\H a=some (.tup [.int q.wh,.int q.rk,.int q.j,.int q.k,.int q.f,.ref r])/\H r=some (.tup [.bl q.sp,.str q.w,J8 q.p])
theorem r_.keep (h:r_ H v q) (k:jz H H'):r_ H' v q:=by
 obtain⟨a,r,h1,u,i⟩:=h;exact⟨a,r,h1,k _ _ u (.inl ⟨_,rfl⟩),k _ _ i (.inl ⟨_,rfl⟩)⟩
def Nc (n g f:Int) (w:Str) (p:Option Int) (i:Nat) (q:Cy):Prop:=q.k=i/\q.j=n/\(n<q.wh/\q.wh<=n+g)/\q.w=w/\q.p=p/\(q.sp=true->sS q.f=false)/\(q.sp=false->q.f=f)
def Apart (cs:List Cy):Prop:=(cs.map fun q=>(q.j,q.k)).Nodup
def oz (K:W.Frag):Sp|vs,H,Q,E=>zqr vs fun x vs=>zqi vs fun c vs=>zqn vs ( ∃A a,sZ K H x A a/\a.T.length<=940/\a.ends.length<=940/\∀i q v H',Kp (foot x A) H H'->sZ K H' x {A with st:=i} q->Ow a q->Q v H')
def kJ (K:W.Frag):Sp|vs,H,Q,E=>zqr vs fun x vs=>zqn vs ( ∃A a,sZ K H x A a/\a.T.length<=1000/\∀p vs H',aE H H'->H' p=some (.lst vs)->Paired (sA K H') vs a.T->Q (.ref p) H')
def kK:Sp|vs,H,Q,E=>zqr vs fun f vs=>zqi vs fun n vs=>zqi vs fun g vs=>zqi vs fun c vs=>zqi vs fun k vs=>zqn vs ( ∃fr w pl,H f=some (.tup [.int fr,.str w,J8 pl])/\WW fr/\(1<=g/\g<=32)/\(0<=n/\n<=1000)/\0<=k/\∀l vs cs H',aE H H'->H l=none->H' l=some (.lst vs)->Paired (r_ H') vs cs->cs.length<=3->(∀(i:Nat) q,cs[i]?=some q->Nc n g fr w pl i q)->Q (.ref l) H')
def oF (K:W.Frag):Sp|vs,H,Q,E=>zqr vs fun x vs=>zqi vs fun n vs=>zqr vs fun l vs=>zqn vs ( ∃A a vs cs,sZ K H x A a/\H l=some (.lst vs)/\Paired (r_ H) vs cs/\Apart cs/\∃I:gF->Prop,I a/\(∀a q,I a->q∈cs->(eB a q.f=true->A7 a.s (uI (gx q.f)) n)/\(0<a.R/\0<=a.M/\a.M<=16/\a.o<=a.g/\a.T.length<960)/\CB a q.f n=FI a q/\I (yO a q.f n))/\∀i u H',I u->Kp (foot x A) H H'->sZ K H' x {A with st:=i} u->Q (.bl true) H')
def oE (K:W.Frag):Sp|vs,H,Q,E=>zqr vs fun l vs=>zqs vs fun k vs=>zqn vs ( ∃vs ts,H l=some (.lst vs)/\Paired (sA K H) vs ts/\ts.length<=1000/\∀H',aE H H'->Q (.int (ck k ts:Nat)) H')
def mL:Sp|vs,H,Q,E=>zqr vs fun p vs=>zqn vs ( ∃a b c d e,H p=some (.tup [.int a,.int b,.int c,.int d,.int e])/\∀H',aE H H'->Q (.str (tabS a b c d e)) H')
def oC (K:W.Frag):Sp|vs,H,Q,E=>zqr vs fun p vs=>zqi vs fun b vs=>zqr vs fun q vs=>zqn vs ( ∃u i to tp,H p=some (.lst u)/\H q=some (.lst i)/\Paired (sA K H) u to/\Paired (sA K H) i tp/\(0<=b/\to.length<=1000/\tp.length<=1000)/\∀H',aE H H'->Q (.str (Kk to b.toNat tp)) H')
structure Rt (x y:gF) (M:Int):Prop where
 b0:0<=x.s.b
 bg:x.s.b<=y.g
 gt:y.g<=x.s.t
 te:x.s.t<=x.s.e
 eo:x.s.e<=y.o+M
 o0:0<=x.o
 oT:x.o<=y.T.length
 g0:0<=x.g
 nm:Kk x.T x.s.b.toNat (y.T.take x.g.toNat)=x.nm
 lT:x.T.length<=1000
def mM (K:W.Frag):Sp|vs,H,Q,E=>zqr vs fun ph vs=>zqr vs fun po vs=>zqr vs fun pr vs=>zqn vs ( ∃i v A0 A1 a0 a1 o0 q x u o t,H ph=some (.lst [.ref i,.ref v])/\sZ K H i A0 a0/\sZ K H v A1 a1/\H po=some (.lst [.ref o0,.ref q])/\H o0=some (.lst x)/\H q=some (.lst u)/\Paired (sA K H) x (a1.T.take a0.o.toNat)/\Paired (sA K H) u (a0.T.take a1.o.toNat)/\H pr=some (.tup [.int o,.int t])/\Rt a0 a1 t/\Rt a1 a0 o/\∀H',aE H H'->Q (.bl true) H')
theorem HM.kp (h:HM CH CT CS CW CM tb K H x A a) (k:Kp S H H') (d:∀b∈foot x A,b ∉ S) (im:∀b o,H b=some o->Ge o->b ∉ S):HM CH CT CS CW CM tb K H' x A a:=by
 obtain⟨z,h1,q⟩:=h;exact⟨z,h1.kp k d im,q.keep fun b o e i=>k b o e (im b o e i)⟩
structure Al (CH CT CS CW CM:Addr) (tb:List (Addr×Str)) (K:W.Frag) (ph pr po x0 x1 o0 o1:Addr) (H:Hp) (A0 A1:Wi) (a0 a1:gF) (r0 r1:Addr) (c0 c1:List Cy) (w0 w1:List Th):Prop where
 eh:H ph=some (.lst [.ref x0,.ref x1])
 er:H pr=some (.lst [.ref r0,.ref r1])
 eo:H po=some (.lst [.ref o0,.ref o1])
 h0:HM CH CT CS CW CM tb K H x0 A0 a0
 h1:HM CH CT CS CW CM tb K H x1 A1 a1
 t0:∃vs,H r0=some (.lst vs)/\Paired (r_ H) vs c0
 t1:∃vs,H r1=some (.lst vs)/\Paired (r_ H) vs c1
 u0:∃vs,H o0=some (.lst vs)/\Paired (sA K H) vs w0
 u1:∃vs,H o1=some (.lst vs)/\Paired (sA K H) vs w1
 nd:(foot x0 A0++(foot x1 A1++ [ph,pr,po,o0,o1,r0,r1])).Nodup
end
section
mutual
variable {pr st:Addr}
theorem Al.im (al:Al CH CT CS CW CM tb K ph pr po x0 x1 o0 o1 H A0 A1 a0 a1 r0 r1 c0 c1 w0 w1) (e:H b=some o) (i:Ge o):b ∉ foot x0 A0++(foot x1 A1++ [ph,pr,po,o0,o1,r0,r1]):=fun m=>by
 obtain⟨v,h0,_⟩:=al.h0;obtain⟨u,h1,_⟩:=al.h1;obtain⟨_,t0,_⟩:=al.t0;obtain⟨_,t1,_⟩:=al.t1;obtain⟨_,u0,_⟩:=al.u0;obtain⟨_,u1,_⟩:=al.u1;have key:∀{p:Addr} {l:List V},H p=some (.lst l)->b≠p:=fun{p l} q c=>by rw[c,q] at e;cases e;exact sk i
 rcases gs.mp m with m|m
 ·exact h0.imm e i m
 rcases gs.mp m with m|m
 ·exact h1.imm e i m
 simp only[cR,d3,lj] at m;rcases m with m|m|m|m|m|m|m
 ·exact key al.eh m
 ·exact key al.er m
 ·exact key al.eo m
 ·exact key u0 m
 ·exact key u1 m
 ·exact key t0 m
 ·exact key t1 m
theorem Al.same (al:Al CH CT CS CW CM tb K ph pr po x0 x1 o0 o1 H A0 A1 a0 a1 r0 r1 c0 c1 w0 w1) (s:aE H H'):Al CH CT CS CW CM tb K ph pr po x0 x1 o0 o1 H' A0 A1 a0 a1 r0 r1 c0 c1 w0 w1:=by
 obtain⟨_,t0,i⟩:=al.t0;obtain⟨_,t1,v⟩:=al.t1;obtain⟨_,u0,x⟩:=al.u0;obtain⟨_,u1,u⟩:=al.u1;exact⟨s _ _ al.eh,s _ _ al.er,s _ _ al.eo,al.h0.same s,al.h1.same s,⟨_,s _ _ t0,aP i fun _ _ q=>q.keep (jz.of s)⟩,⟨_,s _ _ t1,aP v fun _ _ q=>q.keep (jz.of s)⟩,⟨_,s _ _ u0,aP x fun _ _ q=>q.keep (jz.of s)⟩,⟨_,s _ _ u1,aP u fun _ _ q=>q.keep (jz.of s)⟩,al.nd⟩
theorem Al.vO (al:Al Y O U Q W P K I pr po u X o0 z H A0 A1 a0 a1 r0 C Z c1 w0 w1) (k:Kp (foot u A0) H H') (m:HM Y O U Q W P K H' u {A0 with st:=st} a'):Al Y O U Q W P K I pr po u X o0 z H' {A0 with st:=st} A1 a' a1 r0 C Z c1 w0 w1:=by
 obtain⟨_,t0,y⟩:=al.t0;obtain⟨_,t1,F⟩:=al.t1;obtain⟨_,u0,G⟩:=al.u0;obtain⟨_,u1,E⟩:=al.u1;obtain⟨_,_,d⟩:=ij.mp al.nd;have v:∀b o,H b=some o->Ge o->b ∉ foot u A0:=fun b o e i mm=>al.im e i (ez _ mm);have im:jz H H':=fun b o e i=>k b o e (v b o e i);have ne:∀b∈foot X A1++ [I,pr,po,o0,z,r0,C],b ∉ foot u A0:=fun b x hm=>d b hm b x rfl;have nl:∀b∈[I,pr,po,o0,z,r0,C],b ∉ foot u A0:=fun b x=>ne b (ej _ x);exact⟨k _ _ al.eh (nl _ (by simp)),k _ _ al.er (nl _ (by simp)),k _ _ al.eo (nl _ (by simp)),m,al.h1.kp k (fun b x=>ne b (ez _ x)) v,⟨_,k _ _ t0 (nl _ (by simp)),aP y fun _ _ q=>q.keep im⟩,⟨_,k _ _ t1 (nl _ (by simp)),aP F fun _ _ q=>q.keep im⟩,⟨_,k _ _ u0 (nl _ (by simp)),aP G fun _ _ q=>q.keep im⟩,⟨_,k _ _ u1 (nl _ (by simp)),aP E fun _ _ q=>q.keep im⟩,al.nd⟩
theorem Al.Fu (al:Al X G Q P U O K W pr po Y v o0 F H A0 A1 a0 a1 r0 I Z c1 w0 w1) (k:Kp (foot v A1) H H') (m:HM X G Q P U O K H' v {A1 with st:=st} a'):Al X G Q P U O K W pr po Y v o0 F H' A0 {A1 with st:=st} a0 a' r0 I Z c1 w0 w1:=by
 obtain⟨_,t0,x⟩:=al.t0;obtain⟨_,t1,C⟩:=al.t1;obtain⟨_,u0,E⟩:=al.u0;obtain⟨_,u1,y⟩:=al.u1;obtain⟨_,nd,d⟩:=ij.mp al.nd;obtain⟨_,_,d'⟩:=ij.mp nd;have u:∀b o,H b=some o->Ge o->b ∉ foot v A1:=fun b o e i mm=>al.im e i (ej _ (ez _ mm));have im:jz H H':=fun b o e i=>k b o e (u b o e i);have nl:∀b∈[W,pr,po,o0,F,r0,I],b ∉ foot v A1:=fun b z hm=>d' b hm b z rfl;exact⟨k _ _ al.eh (nl _ (by simp)),k _ _ al.er (nl _ (by simp)),k _ _ al.eo (nl _ (by simp)),al.h0.kp k (fun b z hm=>d b z b (ez _ hm) rfl) u,m,⟨_,k _ _ t0 (nl _ (by simp)),aP x fun _ _ q=>q.keep im⟩,⟨_,k _ _ t1 (nl _ (by simp)),aP C fun _ _ q=>q.keep im⟩,⟨_,k _ _ u0 (nl _ (by simp)),aP E fun _ _ q=>q.keep im⟩,⟨_,k _ _ u1 (nl _ (by simp)),aP y fun _ _ q=>q.keep im⟩,al.nd⟩
theorem Al.lists (al:Al CH CT CS CW CM tb K ph pr po x0 x1 o0 o1 H A0 A1 a0 a1 r0 r1 c0 c1 w0 w1) (k:Kp S H H') (sub:∀b∈S,b∈[pr,o0,o1]):Kp S H H'/\jz H H'/\H' ph=some (.lst [.ref x0,.ref x1])/\H' po=some (.lst [.ref o0,.ref o1])/\HM CH CT CS CW CM tb K H' x0 A0 a0/\HM CH CT CS CW CM tb K H' x1 A1 a1/\(∃vs,H' r0=some (.lst vs)/\Paired (r_ H') vs c0)/\∃vs,H' r1=some (.lst vs)/\Paired (r_ H') vs c1:=by
 obtain⟨_,t0,y⟩:=al.t0;obtain⟨_,t1,z⟩:=al.t1;obtain⟨_,nd,d⟩:=ij.mp al.nd;obtain⟨_,nl,d'⟩:=ij.mp nd;have u:∀b∈S,b∈[ph,pr,po,o0,o1,r0,r1]:=fun b x=>by
  have:=sub b x;simp only[cR,d3,lj] at this⊢;rcases this with h|h|h<;>simp[h]
 have v:∀b o,H b=some o->Ge o->b ∉ S:=fun b o e i E=>al.im e i (ej _ (ej _ (u b E)));have im:jz H H':=fun b o e i=>k b o e (v b o e i);have ne:∀b,b≠pr->b≠o0->b≠o1->b ∉ S:=fun b n1 C G x=>by
  have:=sub b x;simp only[cR,d3,lj] at this;rcases this with h|h|h
  ·exact n1 h
  ·exact C h
  ·exact G h
 have nn:∀{i j:Nat} {b c:Addr},[ph,pr,po,o0,o1,r0,r1][i]?=some b->[ph,pr,po,o0,o1,r0,r1][j]?=some c->i≠j->b≠c:=fun h1 F I=>gX nl h1 F I;exact⟨k,im,k _ _ al.eh (ne _ (nn (i:=0) (j:=1) rfl rfl (by lia)) (nn (i:=0) (j:=3) rfl rfl (by lia)) (nn (i:=0) (j:=4) rfl rfl (by lia))),k _ _ al.eo (ne _ (nn (i:=2) (j:=1) rfl rfl (by lia)) (nn (i:=2) (j:=3) rfl rfl (by lia)) (nn (i:=2) (j:=4) rfl rfl (by lia))),al.h0.kp k (fun b x hm=>d b x b (ej _ (u b hm)) rfl) v,al.h1.kp k (fun b x hm=>d' b x b (u b hm) rfl) v,⟨_,k _ _ t0 (ne _ (nn (i:=5) (j:=1) rfl rfl (by lia)) (nn (i:=5) (j:=3) rfl rfl (by lia)) (nn (i:=5) (j:=4) rfl rfl (by lia))),aP y fun _ _ q=>q.keep im⟩,⟨_,k _ _ t1 (ne _ (nn (i:=6) (j:=1) rfl rfl (by lia)) (nn (i:=6) (j:=3) rfl rfl (by lia)) (nn (i:=6) (j:=4) rfl rfl (by lia))),aP z fun _ _ q=>q.keep im⟩⟩
theorem Al.free (al:Al CH CT CS CW CM tb K ph pr po x0 x1 o0 o1 H A0 A1 a0 a1 r0 r1 c0 c1 w0 w1) (e:H b=none):b ∉ foot x0 A0++(foot x1 A1++ [ph,pr,po,o0,o1,r0,r1]):=fun m=>by
 obtain⟨u,h0,_⟩:=al.h0;obtain⟨i,h1,_⟩:=al.h1;obtain⟨_,t0,_⟩:=al.t0;obtain⟨_,t1,_⟩:=al.t1;obtain⟨_,u0,_⟩:=al.u0;obtain⟨_,u1,_⟩:=al.u1;have key:∀{p:Addr} {l:List V},H p=some (.lst l)->b≠p:=fun{p l} q c=>by rw[c,q] at e;cases e
 rcases gs.mp m with m|m
 ·exact h0.fresh e m
 rcases gs.mp m with m|m
 ·exact h1.fresh e m
 simp only[cR,d3,lj] at m;rcases m with m|m|m|m|m|m|m
 ·exact key al.eh m
 ·exact key al.er m
 ·exact key al.eo m
 ·exact key u0 m
 ·exact key u1 m
 ·exact key t0 m
 ·exact key t1 m
theorem V6 {g:Addr}:L++(M++ [a,b,c,d,e,f,g])=(L++M++ [a,b,c,d,e])++ [f,g]:=by simp
theorem MP {d:Addr} (h:(L++ [a,b]).Nodup) (n:c ∉ L\/c=a) (q:d ∉ L\/d=b) (ne:c≠d):(L++ [c,d]).Nodup:=by
 obtain⟨h1,u,i⟩:=ij.mp h;refine ij.mpr ⟨h1,by simp[ne],fun x hx y hy e=>?_⟩;subst e;simp only[cR,d3,lj] at hy;rcases hy with rfl|rfl
 ·rcases n with n|n
  ·exact n hx
  ·exact i x hx x (by simp[n]) rfl
 ·rcases q with n|n
  ·exact n hx
  ·exact i x hx x (by simp[n]) rfl
theorem Al.Uq (al:Al CH CT CS CW CM tb K ph pr po x0 x1 o0 o1 H A0 A1 a0 a1 r0 r1 c0 c1 w0 w1) (n:H r'=none) (k:Kp [pr] H H') (e:H' pr=some (.lst [.ref r',.ref r1])) (t:∃vs,H' r'=some (.lst vs)/\Paired (r_ H') vs c'):Al CH CT CS CW CM tb K ph pr po x0 x1 o0 o1 H' A0 A1 a0 a1 r' r1 c' c1 w0 w1:=by
 obtain⟨_,im,F,G,y,C,_,E⟩:=al.lists k (by simp);obtain⟨_,u0,x⟩:=al.u0;obtain⟨_,u1,u⟩:=al.u1;have nd:=al.nd;have f:=al.free n;obtain⟨_,v,_⟩:=ij.mp nd;rw[V6] at nd f;obtain⟨_,nl,_⟩:=ij.mp v;refine⟨F,e,G,y,C,t,E,⟨_,k _ _ u0 (fun m=>gX nl (i:=3) (j:=1) rfl rfl (by lia) (ec.mp m)),aP x fun _ _ q=>q.keep im⟩,⟨_,k _ _ u1 (fun m=>gX nl (i:=4) (j:=1) rfl rfl (by lia) (ec.mp m)),aP u fun _ _ q=>q.keep im⟩,?_⟩;have:=MP (L:=foot x0 A0++foot x1 A1++ [ph,pr,po,o0,o1]) (a:=r0) (b:=r1) (c:=r') (d:=r1) nd (.inl fun m=>f (ez _ m)) (.inr rfl) (fun z=>f (by simp[z]));rw[V6];exact this
theorem Al.Up (al:Al CH CT CS CW CM tb K ph pr po x0 x1 o0 o1 H A0 A1 a0 a1 r0 r1 c0 c1 w0 w1) (n:H r'=none) (k:Kp [pr] H H') (e:H' pr=some (.lst [.ref r0,.ref r'])) (t:∃vs,H' r'=some (.lst vs)/\Paired (r_ H') vs c'):Al CH CT CS CW CM tb K ph pr po x0 x1 o0 o1 H' A0 A1 a0 a1 r0 r' c0 c' w0 w1:=by
 obtain⟨_,im,E,G,y,C,F,_⟩:=al.lists k (by simp);obtain⟨_,u0,x⟩:=al.u0;obtain⟨_,u1,u⟩:=al.u1;have nd:=al.nd;have f:=al.free n;obtain⟨_,v,_⟩:=ij.mp nd;rw[V6] at nd f;obtain⟨_,nl,_⟩:=ij.mp v;refine⟨E,e,G,y,C,F,t,⟨_,k _ _ u0 (fun m=>gX nl (i:=3) (j:=1) rfl rfl (by lia) (ec.mp m)),aP x fun _ _ q=>q.keep im⟩,⟨_,k _ _ u1 (fun m=>gX nl (i:=4) (j:=1) rfl rfl (by lia) (ec.mp m)),aP u fun _ _ q=>q.keep im⟩,?_⟩;have:=MP (L:=foot x0 A0++foot x1 A1++ [ph,pr,po,o0,o1]) (a:=r0) (b:=r1) (c:=r0) (d:=r') nd (.inr rfl) (.inl fun m=>f (ez _ m)) (fun z=>f (by simp[z]));rw[V6];exact this
theorem Al.Wy (al:Al CH CT CS CW CM tb K ph pr po x0 x1 o0 o1 H A0 A1 a0 a1 r0 r1 c0 c1 w0 w1) (k:Kp [o0] H H') (t:∃vs,H' o0=some (.lst vs)/\Paired (sA K H') vs w'):Al CH CT CS CW CM tb K ph pr po x0 x1 o0 o1 H' A0 A1 a0 a1 r0 r1 c0 c1 w' w1:=by
 obtain⟨_,im,E,F,x,z,y,C⟩:=al.lists k (by simp);obtain⟨_,u1,v⟩:=al.u1;obtain⟨_,u,_⟩:=ij.mp al.nd;obtain⟨_,nl,_⟩:=ij.mp u;exact⟨E,k _ _ al.er (fun m=>gX nl (i:=1) (j:=3) rfl rfl (by lia) (ec.mp m)),F,x,z,y,C,t,⟨_,k _ _ u1 (fun m=>gX nl (i:=4) (j:=3) rfl rfl (by lia) (ec.mp m)),aP v fun _ _ q=>q.keep im⟩,al.nd⟩
theorem Al.Wx (al:Al CH CT CS CW CM tb K ph pr po x0 x1 o0 o1 H A0 A1 a0 a1 r0 r1 c0 c1 w0 w1) (k:Kp [o1] H H') (t:∃vs,H' o1=some (.lst vs)/\Paired (sA K H') vs w'):Al CH CT CS CW CM tb K ph pr po x0 x1 o0 o1 H' A0 A1 a0 a1 r0 r1 c0 c1 w0 w':=by
 obtain⟨_,im,E,F,x,z,y,C⟩:=al.lists k (by simp);obtain⟨_,u0,v⟩:=al.u0;obtain⟨_,u,_⟩:=ij.mp al.nd;obtain⟨_,nl,_⟩:=ij.mp u;exact⟨E,k _ _ al.er (fun m=>gX nl (i:=1) (j:=4) rfl rfl (by lia) (ec.mp m)),F,x,z,y,C,⟨_,k _ _ u0 (fun m=>gX nl (i:=3) (j:=4) rfl rfl (by lia) (ec.mp m)),aP v fun _ _ q=>q.keep im⟩,t,al.nd⟩
end
end
mutual
structure Rz (n:Int) (cs:List Cy):Prop where
 ap:Apart cs
 j:∀q∈cs,q.j<n
 l:(cs.length:Int)<=3*n
theorem Rz.next (h:Rz n cs) (l:ns.length<=3) (hn:∀(i:Nat) q,ns[i]?=some q->Nc n g f w p i q):Rz (n+1) (cs++ns):=by
 have z:∀q∈ns,q.j=n:=fun q u=>by
  obtain⟨i,v⟩:=List.getElem?_of_mem u;exact(hn i q v).2.1
 have hl:=h.l;refine⟨?_,fun q u=>?_,by rw[ey];lia⟩
 ·unfold Apart;rw[Xh];refine ij.mpr ⟨h.ap,?_,fun x hx y hy e=>?_⟩
  ·rw[List.nodup_iff_pairwise_ne,Yu,List.pairwise_iff_getElem];intro i j v C F e;have a:=(hn i _ (hI v)).1;have b:=(hn j _ (hI C)).1;simp only[Prod.mk.injEq] at e;lia
  ·subst e;obtain⟨a,ha,rfl⟩:=ke.mp hx;obtain⟨b,E,e⟩:=ke.mp hy;simp only[Prod.mk.injEq] at e;have:=h.j a ha;have:=z b E;lia
 ·rcases gs.mp u with u|u
  ·have:=h.j q u;lia
  ·have:=z q u;lia
theorem Rz.same (h:Rz n cs):Rz (n+1) cs:=⟨h.ap,fun q i=>by have:=h.j q i;lia,by have:=h.l;lia⟩
theorem F6.kp (h:F6 CT H x r o t g f l) (k:Kp S H H') (n:x ∉ S) (im:∀b o,H b=some o->Ge o->b ∉ S):F6 CT H' x r o t g f l:=by
 obtain⟨dx,p,h1,i⟩:=h;exact⟨dx,p,k _ _ h1 n,k _ _ i (im _ _ i (.inl ⟨_,rfl⟩))⟩
theorem VF {ns:List Int}:∃ms:List Int,AX (ns.map V.int) (some 2) (some 62)=ms.map V.int/\ms.length<=60:=by
 refine⟨_,NX,?_⟩;rw[n4];refine fv (Nat.min_le_left _ _) ?_;show min 62 ns.length-min 2 ns.length<=60;omega
theorem uE (o:HO) (h:L.Nodup/\∀b∈L,H b≠none) (n:H c=none):(L++ [c]).Nodup/\∀b∈L++ [c],upd H c o b≠none:=by
 refine⟨ij.mpr ⟨h.1,by simp,fun b i d hd e=>?_⟩,fun b i=>?_⟩
 ·rw[ec.mp hd] at e;rw[e] at i;exact h.2 c i n
 ·rcases gs.mp i with i|i
  ·rw[af (fun e:b=c=>h.2 b i (by rw[e];exact n))];exact h.2 b i
  ·rw[ec.mp i,ag];exact fun e=>by cases e
theorem Sf {g:Addr} (h:((((((((L++M)++ [a])++ [b])++ [c])++ [d])++ [e])++ [f])++ [g]).Nodup):(L++(M++ [a,d,g,e,f,b,c])).Nodup:=by
 have p:((((((((L++M)++ [a])++ [b])++ [c])++ [d])++ [e])++ [f])++ [g])=(L++M)++ [a,b,c,d,e,f,g]:=by simp
 rw[p] at h;rw[<-XQ];refine(List.Perm.append_left (L++M) ?_).nodup h;refine List.Perm.cons a ?_;exact((List.perm_append_comm (l₁:=[b,c]) (l₂:=[d,e,f,g])).trans (List.Perm.cons d (List.perm_append_comm (l₁:=[e,f]) (l₂:=[g])|>.append_right [b,c])))
theorem Al.start {pr:Addr} (h0:HM CH CT CS CW CM tb K H x0 A0 a0) (h1:HM CH CT CS CW CM tb K H x1 A1 a1) (nd:(foot x0 A0++foot x1 A1).Nodup) (n1:H ph=none) (e1:H1=upd H ph (.lst [.ref x0,.ref x1])) (P:H1 r0=none) (e2:H2=upd H1 r0 (.lst [])) (U:H2 r1=none) (e3:H3=upd H2 r1 (.lst [])) (F:H3 pr=none) (e4:H4=upd H3 pr (.lst [.ref r0,.ref r1])) (G:H4 o0=none) (e5:H5=upd H4 o0 (.lst [])) (I:H5 o1=none) (E:H6=upd H5 o1 (.lst [])) (n7:H6 po=none) (W:H7=upd H6 po (.lst [.ref o0,.ref o1])):
  aE H H7/\(∀b u,H b=some u->b≠ph/\b≠pr/\b≠o0/\b≠o1)/\Al CH CT CS CW CM tb K ph pr po x0 x1 o0 o1 H7 A0 A1 a0 a1 r0 r1 [] [] [] []:=by
 obtain⟨z0,g0,_⟩:=id h0;obtain⟨z1,g1,_⟩:=id h1;have l0:(foot x0 A0++foot x1 A1).Nodup/\∀b∈foot x0 A0++foot x1 A1,H b≠none:=⟨nd,fun b hb e=>by
  rcases gs.mp hb with m|m
  ·obtain⟨u,y⟩:=g0.live m;rw[e] at y;cases y
  ·obtain⟨u,y⟩:=g1.live m;rw[e] at y;cases y⟩
 have l1:=uE (.lst [.ref x0,.ref x1]) l0 n1;rw[<-e1] at l1;have l2:=uE (.lst []) l1 P;rw[<-e2] at l2;have X:=uE (.lst []) l2 U;rw[<-e3] at X;have Q:=uE (.lst [.ref r0,.ref r1]) X F;rw[<-e4] at Q;have Y:=uE (.lst []) Q G;rw[<-e5] at Y;have Z:=uE (.lst []) Y I;rw[<-E] at Z;have l7:=uE (.lst [.ref o0,.ref o1]) Z n7;have s1:aE H H1:=e1▸ao n1;have s2:aE H1 H2:=e2▸ao P;have s3:aE H2 H3:=e3▸ao U;have v:aE H3 H4:=e4▸ao F;have x:aE H4 H5:=e5▸ao G;have q:aE H5 H6:=E▸ao I;have i:aE H6 H7:=W▸ao n7;have C:=(s1.trans s2).trans s3;have O:=(C.trans v).trans x;have S:=(O.trans q).trans i;have nn:∀{b u c} {H':Hp},aE H H'->H b=some u->H' c=none->b≠c:=fun s e n z=>by rw[<-z,s _ _ e] at n;cases n
 refine⟨S,fun b u e=>⟨nn (aE.refl _) e n1,nn C e F,nn (C.trans v) e G,nn O e I⟩,?_,?_,?_,h0.same S,h1.same S,⟨[],?_,.nil⟩,⟨[],?_,.nil⟩,⟨[],?_,.nil⟩,⟨[],?_,.nil⟩,Sf l7.1⟩
 ·exact i _ _ (q _ _ (x _ _ (v _ _ (s3 _ _ (s2 _ _ (e1▸ag))))))
 ·exact i _ _ (q _ _ (x _ _ (e4▸ag)))
 ·exact W▸ag
 ·exact i _ _ (q _ _ (x _ _ (v _ _ (s3 _ _ (e2▸ag)))))
 ·exact i _ _ (q _ _ (x _ _ (v _ _ (e3▸ag))))
 ·exact i _ _ (q _ _ (e5▸ag))
 ·exact i _ _ (E▸ag)
def Lp (X C P I Q:Addr) (G:List (Addr×Str)) (K:W.Frag) (U pr po v y o0 u:Addr) (z x:List Addr) (g o t:Int) (E:Hp) (n M:Nat) (H:Hp):Prop:= ∃A0 A1 a0 a1 r0 F i q e O N,Al X C P I Q G K U pr po v y o0 u H A0 A1 a0 a1 r0 F i q (a1.T.take a0.o.toNat) (a0.T.take a1.o.toNat)/\Bo a0 a1 i q g ((n:Int)-1) e O n N/\Rz n i/\Rz n q/\N<=M/\(foot v A0=z/\foot y A1=x)/\(a0.M=o/\a1.M=t)/\Kp (z++(x++ [pr,o0,u])) E H
theorem Rz.nil:Rz 0 []:=⟨Yt,fun q i=>absurd i d3,t6 _⟩
structure Gm (a a':gF):Prop where
 M:a'.M=a.M
 o:a'.o=a.o
 T:∃ts,a'.T=a.T++ts
theorem Gm.refl:Gm a a:=⟨rfl,rfl,[],(hL _).symm⟩
theorem Gm.trans (x:Gm a b) (y:Gm b c):Gm a c:=by
 obtain⟨t1,e1⟩:=x.T;obtain⟨t2,e2⟩:=y.T;exact⟨y.M.trans x.M,y.o.trans x.o,t1++t2,by rw[e2,e1,XQ]⟩
theorem IX:Gm a (yO a f n):=by
 unfold yO;split
 ·split
  ·exact⟨rfl,rfl,[],(hL _).symm⟩
  ·split
   ·exact⟨rfl,rfl,[],(hL _).symm⟩
   ·unfold EF;split
    ·exact⟨rfl,rfl,[],(hL _).symm⟩
    ·obtain⟨w,_⟩:=Gz (sC {qr a f n with due:=true} (Es (gx f)) (qu (gx f),B9 (gx f))) {{qr a f n with due:=true} with g:=({qr a f n with due:=true}:gF).g+(gu {qr a f n with due:=true} (Es (gx f)) (qu (gx f),B9 (gx f)):Int),D:=iO {qr a f n with due:=true} (Es (gx f)) (qu (gx f),B9 (gx f))};exact⟨w.M,w.o,w.T⟩
 ·exact Gm.refl
theorem Gm.take (h:Gm a a') (hk:k<=a.T.length):a'.T.take k=a.T.take k:=by
 obtain⟨ts,e⟩:=h.T;rw[e];exact cA hk
theorem Lj (w:Ow a a'):Gm a a':=by
 cases w with
 |no=>exact Gm.refl
 |beg _=>exact⟨rfl,rfl,_,rfl⟩
 |fin _=>exact⟨rfl,rfl,_,rfl⟩
 |put _ _=>exact⟨rfl,rfl,_,rfl⟩
theorem Bo.oT (h:Bo x y cx cy G n e e' m N):x.o.toNat<=y.T.length/\y.o.toNat<=x.T.length:=by
 have:=(h.d.len h.hx).2.1;have:=(h.d'.len h.hy).2.1;have:=h.hx.og;have:=h.hy.og;lia
theorem Bo.eB (h:Bo x y cx cy G n e e' m N) (hm:m<=420) (i:N<960) (f:Int):A7 x.s (uI (gx f)) (n+1)/\(0<x.R/\0<=x.M/\x.M<=16/\x.o<=x.g/\x.T.length<960):=by
 have:=h.hx.r2;have:=h.hx.m1;have:=h.hx.tl;exact⟨h.hx.SN hm _,by lia,by lia,h.hx.m6,h.hx.og,by lia⟩
theorem Bo.rt (h:Bo x y cx cy G n e e' m N) (i:N<=1000):Rt x y y.M:=by
 have:=h.hx.tl;have:=h.oT.1;have o0:=h.hx.o0;exact⟨h.hx.j.B.b0,h.d.bg,h.d.gt,h.hx.j.te,h.d.eo,o0,by lia,by have:=h.hx.og;lia,h.s.name,by lia⟩
def oA (K:W.Frag):Sp|vs,H,Q,E=>zqr vs fun ph vs=>zqr vs fun pr vs=>zqr vs fun po vs=>zqi vs fun n vs=>zqi vs fun c vs=>zqi vs fun k vs=>zqi vs fun g vs=>zqn vs ( ∃x z o0 F A0 A1 a0 a1 r0 X G P e O m N,Al az bG ax aX aK tbl K ph pr po x z o0 F H A0 A1 a0 a1 r0 X G P (a1.T.take a0.o.toNat) (a0.T.take a1.o.toNat)/\Bo a0 a1 G P g (n-1) e O m N/\Rz n G/\Rz n P/\(0<=n/\n<=60/\0<=k/\m<=400/\N<=940/\1<=g/\g<=32)/\∀y C q i U I u v e O H',Kp (foot x A0++(foot z A1++ [pr,o0,F])) H H'->(foot x y=foot x A0/\foot z C=foot z A1)->(q.M=a0.M/\i.M=a1.M)->Al az bG ax aX aK tbl K ph pr po x z o0 F H' y C q i U I u v (i.T.take q.o.toNat) (q.T.take i.o.toNat)->Bo q i u v g n e O (m+1) N->Rz (n+1) u->Rz (n+1) v->Q (.bl true) H')
set_option backward.eqns.nonrecursive true
local macro_rules | `(tactic| exists $es,*) => do
  let l := ("zqr zqi zqs zqv zqn Rp QK Er WX zV tC Gy nQ Ro HL OP ve tB Uc Ui WZ BW vf Bc Ug Gx QN QM W0 Lz WY HK QL O4 RF RB Vz J0 JZ JP JO O1 O2 O0 JK JL RD RC OQ Uh OI OH EW LZ Mh Mi Lx Jq Jp Jo Jr Gv Gu JF JE JD Ht Mr LY ER C_ JI Rn Ue Wl Hh Nv SV GC Option.join_some V3 Ot Tt Td Lake.start List.map_cons List.map_nil List.length_cons List.length_nil List.replicate_zero List.replicate_succ List.append_nil List.nil_append List.cons_append List.getElem?_cons_zero List.getElem?_cons_succ List.set_cons_zero List.set_cons_succ decide_eq_true_eq Bool.not_eq_true' decide_eq_false_iff_not if_true if_false Bool.false_eq_true true_and and_true Bool.not_false Int.reduceLT Int.reduceLE Int.reducePow Int.reduceToNat Int.reduceAdd Int.reduceSub Int.reduceMul Int.reduceNeg Nat.reducePow Nat.reduceLT Nat.reduceLeDiff true_or or_true Int.reduceEq and_self Nat.reduceAdd Nat.reduceSub reduceCtorEq not_true_eq_false not_false_eq_true tX tW ox qJ ou fX gI fW jC iP tZ tS qK tT qI tU tY jB CU CV oy ow g_ hU hJ kN mU iS iT wL iQ fP fQ gG fw jE mT kM jH cU fS eN dS fc eO fT fV fU gJ dU iR dW oI jI gK zX hG gH dz mR jG mS gL wM oG jF mO t7 oH mQ tV iW oM mV qO qN oK iU jJ oN jA oO iV oJ jD mN mK oB oz kJ kK oF oE mL oC mM oA HN LS QQ Lv Lw Mm JH JY OZ Te ag OG Lake.Tb AJ AI AH D0 D1 DZ FD Bu Bt Bs Fy Fz Fx Hm zx zw zv zu zt zr zq zo zm zk zj zi xN xM xK xJ Bw Bv Bx uR vS uQ sT k_ vT AG AF AE DX DY DW FC BE BD BC BB BA By FF FE FG vU pG Ho AD AA Az DU DV LB Mo Tr Ts JX VD LU JV VC LA Mg SI JW Tn Ud Lu Wn W2 TJ TK LQ JS QJ JJ GH Kx C7 HP Ub W3 UY LC Rr CQ LR Mn L9 EV L8 K2 Qc EU GF ET JQ Mc Mb PZ PY lO om Oa Rb VP VO JN JM M7 M6 JT O3 Nh Tc".splitOn " ").toArray.map fun n => (⟨Lean.mkIdent n.toName⟩ : Lean.TSyntax `term)
  let l := l ++ es.getElems
  `(tactic| first|(refine (?f:(?a=?b)->?a) ?e;(case e=>(dsimp only[$[$l:term],*];try exact rfl));refine fun h=>(?_:?b);clear h;try simp only[$[$l:term],*])|simp only[$[$l:term],*])
local macro_rules | `(tactic| exists 9) => `(tactic| exists true_and)
end
section
mutual
variable {P:Program} {w:World} {K:W.Frag} {mg:Str->Option Value} {base:Heap}
variable (T:Txt K mg)
set_option hygiene false in
local macro_rules | `(tactic| exists 8) => `(tactic| ((repeat ((first|refine zqre h ?_|refine zqie h ?_|refine zqse h ?_|refine zqve h ?_);clear h vs;intro _ vs h));refine zqne h ?_;clear h vs;intro h))
set_option hygiene false in
local macro_rules
 | `(tactic| exists 3, $a, $b, $d:ident) => `(tactic| (refine $a ($b).1 ($b).2 (fun vs H Q E h=>?_) fun f cdv A outer s H vs Q E HR h=>?_;(unfold $d at h;exists 8;rfl);unfold $d at h;exists 8))
 | `(tactic| exists 0, $a, $b, $d:ident) => `(tactic| exists 3, ($a).fn, $b, $d:ident)
 | `(tactic| exists 1, $a, $b, $d:ident) => `(tactic| exists 3, ($a).fnX, $b, $d:ident)
set_option hygiene false in
local macro_rules
 | `(tactic| exists 6, $u:ident) => let h := Lean.mkIdent (.mkSimple ("h_" ++ u.getId.toString)); `(tactic| generalize $h:ident : jm _ = $u)
 | `(tactic| exists 7, $u:ident) => let h := Lean.mkIdent (.mkSimple ("h_" ++ u.getId.toString)); `(tactic| rw[<- $h:ident,jm])
 | `(tactic| exists 0, $a, $b, $d:ident, $t) => `(tactic| (exists 0, $a, $b, $d; refine⟨_, $t, ?_⟩))
 | `(tactic| exists 1, $a, $b, $d:ident, $t) => `(tactic| (exists 1, $a, $b, $d; refine⟨_, $t, ?_⟩))
 | `(tactic| exists 8, $u:ident, $v:ident) => `(tactic| (exists 7, $u; exists 6, $v))
theorem d8:OF P w base T.Cv ui 1 tX:=by
 exists 0,T.Cv,ui,tX,(ah (aq (eU (aD (kE K rfl) (by rfl) T.dr cQ (cb (pv 0) (yh rfl T.VM Tx))) (eU (MB (aD (kE K rfl) (by rfl) T.dr cQ (cb (pv 0) (yh rfl T.TF Qs)))) (o8 (E2 pW pW (pv 1) (pv 0) (pv 2)))))));rename_i v l i;exists 9;unfold fu at h;by_cases c:l<=v
 ·rw[bc c];simpa only[c,decide_true,pd] using h
 ·rw[a5 c];simpa only[c,decide_false,nS] using h
theorem GX:OF P w base T.Cu iX 2 tW:=by
 exists 0,T.Cu,iX,tW,(ae (aW (dE (jY (aD (kE K rfl) (by rfl) T.dr cQ (cb (pv 0) (yh rfl T.sv oj))))) (ah (aq dg)) aC)
 (ae (aw 1 iX.1.nd aa)
 (ae (eS j1 rfl (cL K rfl (pv 0)) (aJ 2 iX.1.nd) (ae (aW (dE (jY (aO (d8 T) HR (bq (pv 2) (cb (aF K (pv 1) aa) (bX rfl T.yQ)))))) (ah (aq dg)) aC)
 (ah (aw 1 iX.1.nd (pv 2)))))
 (ah (aq dg)))))
 rename_i hh;obtain⟨hs,u,hl,q⟩:=h;exists 9;refine DN u ⟨true,rfl,?_⟩;rw[a5 (by decide)];refine SX (du.of u) (fun i σ H'=>H'=H/\∃l v,Held.eX 0 hs=Held.eX l (hs.drop i)/\σ= [some (.ref hh),some (.int l),v]) ⟨rfl,0,none,by rw[List.drop_zero],rfl⟩ (fun i σ H' _ hp=>by rw[hp.1];exact du.of u) (fun i x σ H' hx hp=>?_) (fun σ H' hp=>?_)
 ·obtain⟨rfl,l,v,e,rfl⟩:=hp;obtain⟨c,rfl,hc⟩:=rf hx;have e2:Held.eX 0 hs=(fu c (l+1) 15&&Held.eX c (hs.drop (i+1))):=Held.Hf hc e;exists 9;refine LF (fun z=>?_) (fun z=>?_)
  ·rw[e2,z,nS] at q;exact q
  ·rw[z,pd] at e2;exact⟨c,_,e2,rfl⟩
 ·obtain⟨rfl,l,v,e,rfl⟩:=hp;rw[cF,List.drop_length] at e;exists 9;rw[e] at q;exact q
theorem Dm:OF P w base T.yw oR 1 ox:=by
 exists 0,T.yw,oR,ox,(ae (aW (qV K HR (pv 0) aU) (ah (aq (fE (zL K rfl HR.units) (pv 1) aU))) aC)
 (ae (aW (PW.pt (pw_or (dE (jY (aD (kE K rfl) (by rfl) T.dr cQ (cb (pv 1) (yh rfl T.Ra N7))))) (pw_or1 (dE (EY pW pW aa (aD (je K rfl) (by rfl) T.j_ gj (cJ (pv 1))) (bX rfl T.kB)))))) (ah (aq dg)) aC)
 (ah (aq (aD (x_ K rfl rfl) (by rfl) T.N_ Hy (cJ (gC (N:=(["sign"]:List Str)) (nv:=1) (ix:=[]) rfl (lJ (by kernel_rfl)) (cL K rfl (pv 1)) (fun _ _ _ _ _=>(aJ 0 (show((["sign"]:List Str)).Nodup by decide))) (fun _ _ _ _ _=>o6) (fun _ _ _ _ _=>(zK (Dk K rfl) (pv 0) (bX rfl T.wx) (ji rfl))))))))))
 rename_i k i;obtain⟨hl,q⟩:=h;exists 9;unfold qP at q;split
 ·rename_i c;rw[a5 c] at q;exact q _ (aE.refl _)
 ·rename_i c;rw[bc (Decidable.not_not.mp c)] at q;refine⟨aR hl,?_⟩;split
  ·rename_i y;split
   ·rename_i v;have:decide (i.length<=4)=false:=cz (by lia);simp only[this,ri,nS] at q;exact q _ (aE.refl _)
   ·rename_i v;have e1:decide (1<=i.length)=true:=eT (by lia);have e2:decide (i.length<=4)=true:=eT (by lia);simp only[e1,e2,pd] at q;refine NZ (p:=fun _=>true) (f:=fun x=> .bl (Nk x)) (aR hl) (fun x _ Q h=>h) (fun x hx _ Q h=>?_) ?_
    ·obtain⟨n,_,rfl⟩:=ke.mp hx;exists 9;exact h
    ·have e3:((eP i).filter fun _=>true)=eP i:=XF.mpr fun _ _=>rfl;have e4:(eP i).length=i.length:=by simp[eP,Str.length]
     rw[e3];refine⟨aR (by rw[cF,e4];exact hl),fun l u=>⟨(eP i).map Nk,cI.of ?_,?_⟩⟩
     ·rw[ag,sx];rfl
     ·rw[List.all_map];exact q _ (ao u)
  ·rename_i y;have e1:decide (1<=i.length)=false:=cz (by lia);simp only[e1,nS] at q;exact q _ (aE.refl _)
theorem yj:OF P w base T.AQ lY 3 qJ:=by
 exists 0,T.AQ,lY,qJ,(ae (aW (PW.pt (pw_or (dE (jY (aD (kE K rfl) (by rfl) T.dr cQ (cb (pv 0) (yh rfl T.sv oj))))) (pw_or1 (qV K HR (aD (je K rfl) (by rfl) T.j_ gj (cJ (pv 0))) aa)))) (ah (aq dg)) aC)
 (ae (aw 1 lY.1.nd (cG K (pv 0) aa))
 (ah (aq (eU (zK (Dk K rfl) (pv 1) (jo K rfl rfl T.zR) (ji rfl)) (eU (aO (d8 T) HR (bq (cG K (pv 0) aa) (cb aa (jq (zG (Dk K rfl) (pv 1) (jo K rfl rfl T.Ee) (ji rfl)) aa (bX rfl T.tP))))) (eU (aO (d8 T) HR (bq (cG K (pv 0) aa) (cb aa (bX rfl T.tP)))) (eU (aO (d8 T) HR (bq (cG K (pv 0) aa) (cb aa (bX rfl T.u_)))) (eU (aO (GX T) HR (cJ (cG K (pv 0) aa))) (o8 (aO (Dm T) HR (cb (pv 1) (cG K (pv 0) aa)))))))))))))
 rename_i t;obtain⟨k,n,a,r,hs,U,⟨hh,i,O,hl,W⟩,q⟩:=h;have y:cB k n a r hs U=false->Q (V.bl false) H:=fun e=>by
  have:=q _ (aE.refl _);rwa [e] at this
 exists 9;refine DN i ⟨true,rfl,?_⟩;rw[a5 (by decide)];refine⟨_,.inr (du.of i),?_⟩;rw[a5 (fun z=>z rfl)];refine eA (du.of i) rfl ?_;intro a1 F _;refine⟨_,.inr (F _),rfl,rfl,?_⟩;have e0:Cd (.str k) pL=Cd (.str k) [.str "bare",.str "signs",.str "begin",.str "end",.str "ask"]:=rfl;refine qG (fun u=>y ?_) (fun u=>?_)
 ·simp only[cB,e0,u,nS]
 refine eA (du.of i) rfl ?_;intro X G _;refine⟨_,.inr (G _),rfl,rfl,?_⟩;split<;>rename_i c<;>(
  refine qG (fun v=>y ?_) (fun v=>?_)
  ·simp only[cB,e0,u,c,v,XH,Xs,ite_true,ite_false,pd,nS,qF]
  refine eA (du.of i) rfl ?_;refine qG (fun x=>y ?_) (fun x=>?_)
  ·simp only[cB,e0,u,c,v,x,XH,Xs,ite_true,ite_false,pd,nS,qF]
  refine eA (du.of i) rfl ?_;refine qG (fun C=>y ?_) (fun C=>?_)
  ·simp only[cB,e0,u,c,v,x,C,XH,Xs,ite_true,ite_false,pd,nS,qF]
  refine eA (du.of i) rfl ?_;refine⟨hs,O,hl,?_⟩;refine qG (fun E=>y ?_) (fun E=>?_)
  ·simp only[cB,e0,u,c,v,x,C,E,XH,Xs,ite_true,ite_false,pd,nS,qF]
  refine eA (du.of i) rfl ?_;refine⟨W,fun H' I=>?_⟩;have:=q H' I;simp only[cB,e0,u,c,v,x,C,E,XH,Xs,ite_true,ite_false,pd,qF] at this;exact this)
theorem vE:OF P w base T.yt hV 1 ou:=by
 exists 0,T.yt,hV,ou,(ae (aw 1 hV.1.nd (pv 0))
 (ae (EZ j1 (a_ qY (pv 1) (bX rfl T.ya)) (ah (aw 1 hV.1.nd (au MH (pv 1) (au gD (bX rfl T.Lf) (au cM (GP K rfl (pv 1)) (bX rfl T.A2)))))))
 (ah (aq (pv 1)))))
 rename_i n;exists 9;obtain⟨⟨h0,h1⟩,q⟩:=h;refine⟨fun m σ H'=>H'=H/\∃x:Nat,m=x/\(x:Int)<=n/\Rem.R x=Rem.R n.toNat/\σ= [some (.int n),some (.int x)],⟨n.toNat,rfl,n.toNat,rfl,by lia,rfl,by rw[Int.toNat_of_nonneg h0]⟩,?_⟩;rintro x σ H' ⟨rfl,G,rfl,hx,C,rfl⟩;exists 9;split
 ·rename_i c;obtain⟨k,hk,z,E,hl⟩:=BitI.LX (n:=x) (by lia);have F:x.log2<400:=(Nat.log2_lt (by lia)).mpr (by lia);refine⟨fun u i=>i=H'/\∃y:Nat,y<x/\Rem.R y=Rem.R n.toNat/\u= [some (.int n),some (.int y)],fun u i ⟨e,y,hy,v,es⟩=>⟨y,hy,e,y,rfl,by lia,v,es⟩,?_⟩;exists 9;rw[hk];refine⟨cshl (by lia) (by lia) (by lia) (by decide),x ^^^ (263*2 ^ k),z,by rw[E,C],?_⟩;have e:(263:Int)*2 ^ ((k:Int)).toNat=((263*2 ^ k:Nat):Int):=by simp
  rw[e,BitI.CO]
 ·rename_i c;rw[<-C,Rem.zS (by lia)] at q;exact q
theorem sM:OM P w mg base T.lE gb 1 fX:=by
 exists 0,T.lE,gb,fX,(ah (vy T.BN T.m_ (pv 0) (pv 1)));rename_i e l;obtain⟨he,q⟩:=h;exists he;exact⟨e,rfl,he,q⟩
theorem uz:OM P w mg base T.mE gN 1 gI:=by
 exists 0,T.mE,gN,gI,(ah (vy T.Ew T.pM (pv 0) (pv 1)));rename_i e l;obtain⟨he,q⟩:=h;exists he;exact⟨e,rfl,he,q⟩
theorem j7:OM P w mg base T.lD f_ 1 fW:=by
 exists 0,T.lD,f_,fW,(ah (vy T.wH T.pO (pv 0) (pv 1)));rename_i e l;obtain⟨he,q⟩:=h;exists he;exact⟨e,rfl,he,q⟩
theorem y3:OF P w base T.rK jO 1 jC:=by
 exists 0,T.rK,jO,jC,(ah (aq (aD (K9 K rfl rfl) (by rfl) T.VL Tw (cJ (gC (N:=(["step"]:List Str)) (nv:=1) (ix:=[]) rfl (lJ (by kernel_rfl)) (cL K rfl (pv 0)) (fun _ _ _ _ _=>(aJ 0 (show((["step"]:List Str)).Nodup by decide))) (fun _ _ _ _ _=>o6) (fun _ _ _ _ _=>(au gD aa (au cM (pv 0) aa))))))));rename_i hh;obtain⟨hs,y,z,hl,q⟩:=h;exists 9;have hm:=(Held.nP.mp z).2;refine x8 (p:=fun _=>true) (f:=fun v=>match v with | .int i=> .int (1*2 ^ (i-1).toNat)|_=> .non) (du.of y) (aR (by rw[cF];exact hl)) (fun x _ Q h=>h) (fun x hx _ Q h=>?_) ?_
 ·obtain⟨i,C,rfl⟩:=ke.mp hx;have:=hm i C;exists 9;exact⟨cshl (by lia) (by lia) (by decide) (by decide),h⟩
 ·have e:(((hs.map V.int).filter fun _=>true).map fun v=>match v with | .int i=>V.int (1*2 ^ (i-1).toNat)|_=> .non)=(hs.map fun i=>(1:Int)*2 ^ (i-1).toNat).map V.int:=by
   rw[XF.mpr (by simp),sx,sx];rfl
  rw[e];refine⟨aR (by rw[cF,cF];exact hl),fun l u=>⟨_,cI.of ag,?_⟩⟩;rw[Cg];exact q _ (ao u)
theorem xa:OF P w base T.qb cS 1 iP:=by
 exists 0,T.qb,cS,iP,(ae (aw 1 cS.1.nd aa)
 (ae (eS j1 rfl (cL K rfl (Di K rfl PySem.F.plainAttrs_str PySem.F.slot_str_ljust PySem.F.type_str_ljust MT (pv 0) (cJ (bX rfl T.kB)))) (aJ 2 cS.1.nd) (ah (aw 1 cS.1.nd (au tw (au gD (pv 1) aa) (Di K rfl PySem.F.plainAttrs_str PySem.F.slot_str_index PySem.F.type_str_index Km (bX rfl T.wx) (cJ (pv 2)))))))
 (ah (aq (pv 1)))))
 rename_i u;obtain⟨⟨hl,hm⟩,q⟩:=h;exists 9;obtain⟨y,x⟩:=UQ hl;refine⟨by rw[x];exact aR (by decide),?_⟩;have pm:∀c∈sF u,c∈sgl:=fun c hc=>by
  unfold sF at hc;rcases gs.mp hc with h|h
  ·exact hm c h
  ·rw[(List.mem_replicate.mp h).2];exact LK
 have sz:(PR u 4).cps.size=4:=x;refine S8 (fun i σ H'=>H'=H/\∃z,σ= [some (.str u),some (.int (Bf 0 ((sF u).take i):Nat)),z]) ⟨rfl,none,by simp[Bf]⟩ (fun i c σ H' hc hp=>?_) (fun σ H' hp=>?_)
 ·obtain⟨rfl,z,rfl⟩:=hp;have v:(sF u)[i]?=some c:=by rw[<-y,<-hc];simp
  have E:=pm c (XB v);obtain⟨C,o2,_⟩:=ml E;have G:i<4:=by have:=(Array.getElem?_eq_some_iff.mp hc).1;lia
  have b1:=HU (cs:=(sF u).take i) fun c hc=>pm c (List.mem_of_mem_take hc);have I:(128:Nat) ^ ((sF u).take i).length<=128 ^ 4:=XX (by decide) (by rw[n4];lia);exists 9;have O:(128:Nat) ^ 4=268435456:=by decide
  refine⟨cshl (by decide) (by decide) (by lia) (by lia),sgn c,[],C,some (.str ⟨#[c]⟩),?_⟩;rw[UH (by lia),ON,v];show[some (V.str u),some (V.int _),some (V.str ⟨#[c]⟩)]= [some (V.str u),some (V.int ((Bf 0 ((sF u).take i++ [c]):Nat):Int)),some (V.str ⟨#[c]⟩)];rw[JA]
 ·obtain⟨rfl,z,rfl⟩:=hp;exists 9;rw[sz,Xj (by rw[<-y];simp;lia)];exact q
theorem GZ:OF P w base T.Cz dX 2 tZ:=by
 exists 0,T.Cz,dX,tZ,(ae (aw 1 dX.1.nd (Di K rfl PySem.F.plainAttrs_tuple PySem.F.slot_tuple_index PySem.F.type_tuple_index (G7 K rfl) (jo K rfl rfl T.zR) (cJ (cG K (pv 0) aa))))
 (aj (ae (aw 1 dX.1.nd (au tw (au gD (pv 1) aa) (cG K (pv 0) aa)))
 (aj (ae (aw 1 dX.1.nd (au tw (au gD (pv 1) aa) (cG K (pv 0) aa)))
 (aj (ae (aw 1 dX.1.nd (au tw (au gD (pv 1) aa) (cG K (pv 0) aa)))
 (aj (ae (aw 1 dX.1.nd (au tw (au gD (pv 1) aa) (aO (y3 T) HR (cJ (cG K (pv 0) aa)))))
 (aj (ae (aw 1 dX.1.nd (au tw (au gD (pv 1) aa) (aD (je K rfl) (by rfl) T.j_ gj (cJ (cG K (pv 0) aa)))))
 (aj (ah (aq (au tw (au gD (pv 1) aa) (aO (xa T) HR (cJ (cG K (pv 0) aa))))))))))))))))))
 rename_i t;obtain⟨k,n,a,r,hs,C,⟨hh,i,I,hl,Q⟩,p,q⟩:=h;have pb:=p.parts;have pk:=DM p.hk;obtain⟨x,rfl⟩:∃x:Nat,n=x:=⟨n.toNat,by have:=p.n0;lia⟩;obtain⟨v,rfl⟩:∃v:Nat,a=v:=⟨a.toNat,by have:=p.a0;lia⟩;obtain⟨r',rfl⟩:∃r':Nat,r=r':=⟨r.toNat,by have:=p.r0;lia⟩;have p1:=pb.n;have U:=pb.a;have O:=pb.r;rw[gk] at p1 U O;unfold fO Jb at q;rw[gk,gk,gk] at q;simp only[Nat.reducePow] at q;have X:=pb.h;have Y:=pb.len;have Z:=pb.s;have b1:=pk.2;generalize kidx k=ki at*
 exists 6,u1;exists 9;intro tk htk y;refine⟨y _,eA (du.of i) rfl ?_⟩;exists 9;refine⟨kinds,htk _,ki,pk.1,?_⟩;exists 8,u1,u2;exists 9;refine⟨cshl (by decide) (by decide) (by lia) (by lia),eA (du.of i) rfl ?_⟩;exists 9;rw[UG (by lia)];have c1:ki*64+x<512:=by lia
 generalize ki*64+x=B1 at*
 exists 8,u2,u3;exists 9;refine⟨cshl (by decide) (by decide) (by lia) (by lia),eA (du.of i) rfl ?_⟩;exists 9;rw[UG (by lia)];have c2:B1*64+v<32768:=by lia
 generalize B1*64+v=H at*
 exists 8,u3,u4;exists 9;refine⟨cshl (by decide) (by decide) (by lia) (by lia),eA (du.of i) rfl ?_⟩;exists 9;rw[Wz (by lia)];have W:H*32+r'<1048576:=by lia
 generalize H*32+r'=E at*
 exists 8,u4,u5;exists 9;refine⟨cshl (by decide) (by decide) (by lia) (by lia),eA (du.of i) rfl ?_⟩;exists 9;refine⟨hs,I,p.hh,hl,fun H2 z=>?_⟩;rw[Pq (by lia)];have c4:E*32768+fM hs<34359738368:=by lia
 generalize E*32768+fM hs=G at*
 have u:=z _ _ i;exists 8,u5,u6;exists 9;refine⟨cshl (by decide) (by decide) (by lia) (by lia),eA (du.of u) rfl ?_⟩;exists 9;refine⟨aR Q,?_⟩;rw[Xd (by lia)];have c5:G*8+C.length<274877906944:=by lia
 generalize G*8+C.length=B5 at*
 exists 7,u6;exists 9;refine⟨cshl (by decide) (by decide) (by lia) (by lia),eA (du.of u) rfl ?_⟩;exists 9;refine⟨⟨p.hl,p.hs⟩,?_⟩;rw[WA (by lia)];exact q _ z
theorem Aj:OF P w base T.Co oP 4 tS:=by
 exists 1,T.Co,oP,tS,(ae (aW (PT.nox (dE (jY (aO (yj T) HR (cJ (pv 0)))))) (ah (gT T.wH (j7 T) T.Ar HR (by decide) tu rfl rfl rfl (cJ (pv 0)))) aC)
 (aj (ae (PS.nox (aw 1 oP.1.nd (au gD (aO (GZ T) HR (cJ (pv 0))) (bX rfl T.wz))))
 (ah (PS.nox (aq (au tw (pv 1) (aO (vE T) HR (cJ (pv 1))))))))))
 rename_i t;obtain⟨k,n,a,r,hs,i,u,z,F⟩:=h;exists 6,u1;exists 9;refine⟨k,n,a,r,hs,i,u,fun G q=>?_⟩;cases c:cB k n a r hs i
 ·rw[bc rfl];intro e he
  first|refine⟨ag,fun d hd=>⟨_,ag,?_⟩⟩|refine fun d hd=>⟨_,rfl,?_⟩
  obtain⟨s1,s2⟩:=dropx (C:=aG) (f:="what") (v:= .ref t) q he hd;exact F c _ d s1 s2
 rw[a5 (by decide)];have p:=qX c;have pl:=p.parts.lt;have y:fO k n a r hs i<2 ^ 66:=pl;exists 7,u1;exists 9;refine⟨k,n,a,r,hs,i,u.same q,p,fun E x=>?_⟩;have fin:=z c E (q.trans x);unfold iy at fin;generalize fO k n a r hs i=B at*
 refine⟨cshl (by decide) (by decide) (by lia) (by lia),⟨by lia,by lia⟩,?_⟩;rw[show((B:Int)*256).toNat=B*256 by lia,show(B:Int)*256=((B*256:Nat):Int) by lia,BitI.Dj];exact fin
theorem E5:OF P w base T.AR qR 1 qK:=by
 exists 0,T.AR,qR,qK,(ah (aq (eU (fE Ah (pv 0) aa) (o8 (fE (zL K rfl HR.units) (au j2 (pv 0) (bX rfl T.Ef)) aa)))));rename_i f;exists 9;by_cases c:0<=f
 ·rw[bc c];have e:decide (f / 18889465931478580854784=0)=decide (0<=f/\f<18889465931478580854784):=by
   rw[decide_eq_decide];lia
  rw[e];exact h
 ·rw[a5 c];rw[cz (by lia)] at h;exact h
theorem GU:OF P w base T.Cq t8 1 tT:=by
 exists 0,T.Cq,t8,tT,(ah (aq (jq (a_ jr (pv 0) (aD (je K rfl) (by rfl) T.j_ gj (cJ (bX rfl T.wx)))) (cG K (bX rfl T.wx) (pv 0)) (bX rfl T.Ld))));rename_i c;obtain⟨h0,q⟩:=h;exists 9;have i:jK.length=94:=by decide+kernel
 refine⟨by decide+kernel,?_⟩;unfold sgc at q;by_cases u:c<(94:Int)
 ·rw[bc (by show c<((jK.length:Nat):Int);rw[i];exact u)];rw[bc (by lia)] at q;obtain⟨j,rfl⟩:∃j:Nat,c=(j:Int):=⟨c.toNat,by lia⟩;rw[gk] at q;have v:j<sgl.length:=by rw[HV];lia
  refine⟨sgl.getD j 0,by decide+kernel,?_,q⟩;have e:sgl[j]?=some (sgl.getD j 0):=by rw[Xl,hI v];rfl
  exact rY e
 ·rw[a5 (by show¬c<((jK.length:Nat):Int);rw[i];exact u)];rw[a5 (by simp;omega)] at q;exact q
theorem E4:OF P w base T.AO qQ 2 qI:=by
 exists 0,T.AO,qQ,qI,(ah (aq (Di K rfl PySem.F.plainAttrs_str PySem.F.slot_str_join PySem.F.type_str_join (MU K rfl) aU (cJ (gC (N:=(["shift","bits"]:List Str)) (nv:=1) (ix:=[0]) rfl (lJ (by kernel_rfl)) (cL K rfl (bw (bq aa (bq aa (cb aa aa))))) (fun _ _ _ _ _=>(aJ 0 (show((["shift","bits"]:List Str)).Nodup by decide))) (fun _ _ _ _ _=>o6) (fun _ _ _ _ _=>(aO (GU T) HR (cJ (au ux (au j2 (pv 1) (pv 0)) aa)))))))));rename_i b;obtain⟨h0,q⟩:=h;obtain⟨b,rfl⟩:∃b':Nat,b=(b':Int):=⟨b.toNat,by lia⟩;rw[gk] at q;exists 9;intro p hp;have ht:=ag (H:=H) (a:=p) (o:= .tup [.int 21,.int 14,.int 7,.int 0]);have s1:=ao (o:= .tup [.int 21,.int 14,.int 7,.int 0]) hp;generalize upd H p (.tup [.int 21,.int 14,.int 7,.int 0])=u at*
 refine x8 (p:=fun _=>true) (f:=fun v=>match v with | .int i=> .str (sgc (b / 2 ^ i.toNat % 128))|_=> .non) (du.of ht) (aR (by simp)) (fun x _ Q h=>h) (fun x hx _ Q h=>?_) ?_
 ·obtain⟨i,y,rfl⟩:∃i:Nat,i<=21/\x = .int (i:Int):=by
   simp only[cR,d3,lj] at hx;rcases hx with rfl|rfl|rfl|rfl
   ·exact⟨21,by decide,rfl⟩
   ·exact⟨14,by decide,rfl⟩
   ·exact⟨7,by decide,rfl⟩
   ·exact⟨0,by decide,rfl⟩
  exists 9;refine⟨by lia,?_⟩;have e:(b:Int) / 2 ^ (i:Int).toNat=((b / 2 ^ i:Nat):Int):=by simp
  rw[e,TN];refine⟨by lia,?_⟩;rw[gk];replace h:Q (.str (sgc (b / 2 ^ (i:Int).toNat % 128))) u:=h;rw[gk] at h;exact h
 ·have e:((([.int 21,.int 14,.int 7,.int 0]:List V).filter fun _=>true).map fun v=>match v with | .int i=>V.str (sgc (b / 2 ^ i.toNat % 128))|_=> .non)=(lK b).map V.str:=by
   show[V.str (sgc (b / 2 ^ 21 % 128)),V.str (sgc (b / 2 ^ 14 % 128)),V.str (sgc (b / 2 ^ 7 % 128)),V.str (sgc (b / 2 ^ 0 % 128))]=_;unfold lK;simp
  rw[e];refine⟨aR (by show 4<=1000;decide),fun l hl=>⟨lK b,cI.of ag,?_,q _ (s1.trans (ao hl))⟩⟩;rw[K8];show 4+4*0<=1000000;decide
theorem GV:OF P w base T.Cr t9 1 tU:=by
 exists 0,T.Cr,t9,tU,(ah (aq (jq (a_ jr (pv 0) (aD (je K rfl) (by rfl) T.j_ gj (cJ (jo K rfl rfl T.zR)))) (cG K (jo K rfl rfl T.zR) (pv 0)) (bX rfl T.Le))));rename_i c;obtain⟨h0,q⟩:=h;exists 9;intro tk htk z;refine⟨_,.inr (htk _),?_⟩;by_cases x:c<(5:Int)
 ·rw[bc (show c<(([V.str "bare",V.str "signs",V.str "begin",V.str "end",V.str "ask"]:List V).length:Int) from x)];rw[bc (by lia)] at q;intro y i _;obtain⟨j,rfl⟩:∃j:Nat,c=(j:Int):=⟨c.toNat,by lia⟩;rw[gk] at q;have u:j<5:=by lia
  refine eA (i _) (v:= .str (kinds.getD j "")) ?_ q;have d:∀j:_root_.Fin 5,([V.str "bare",V.str "signs",V.str "begin",V.str "end",V.str "ask"]:List V)[j.val]?=some (.str (kinds.getD j.val "")):=fun j=>by
   obtain⟨j,u⟩:=j
   match j,u with
   |0,_=>rfl
   |1,_=>rfl
   |2,_=>rfl
   |3,_=>rfl
   |4,_=>rfl
  exact rY (d ⟨j,u⟩)
 ·rw[a5 (show¬c<(([V.str "bare",V.str "signs",V.str "begin",V.str "end",V.str "ask"]:List V).length:Int) from x)];rw[a5 (by simp;omega)] at q;exact q
theorem GY:OF P w base T.Cw uj 1 tY:=by
 exists 0,T.Cw,uj,tY,(ah (aq (uv (yP K rfl) (by rfl) T.sv oj (cJ (gC (N:=(["step","bits"]:List Str)) (nv:=1) (ix:=[0]) rfl (lJ (by kernel_rfl)) (si rfl T.eC (cb aa (aF K (bX rfl T.yQ) aa))) (fun _ _ _ _ _=>(aJ 0 (show((["step","bits"]:List Str)).Nodup by decide))) (fun _ _ _ _ _=>(md (cu K HR (au ux (au j2 (pv 1) (au cM (pv 0) aa)) aa) aa))) (fun _ _ _ _ _=>(pv 0)))))));rename_i b;obtain⟨h0,q⟩:=h;obtain⟨b,rfl⟩:∃b':Nat,b=(b':Int):=⟨b.toNat,by lia⟩;rw[gk] at q;exists 9;refine D9 (p:=fun v=>match v with | .int s=>decide (b / 2 ^ (s-1).toNat % 2=1)|_=>false) (f:=fun v=>v) (aR (by decide)) (fun i u Q h=>?_) (fun i u _ Q h=>?_) ?_
 ·exists 9;refine⟨by lia,?_⟩;have e:(b:Int) / 2 ^ ((1:Int)+(i:Int)-1).toNat=((b / 2 ^ i:Nat):Int):=by
   rw[show((1:Int)+(i:Int)-1).toNat=i by lia];simp
  rw[e,WO];replace h:Q (decide (b / 2 ^ ((1:Int)+(i:Int)-1).toNat % 2=1)) H:=h;rw[show((1:Int)+(i:Int)-1).toNat=i by lia] at h;have e2:decide (((b / 2 ^ i % 2:Nat):Int)=1)=decide (b / 2 ^ i % 2=1):=by rw[decide_eq_decide];lia
  rw[e2];exact h
 ·exists 9;exact h
 ·rw[JC,FH];have lf:(Held.ones.filter fun s=>decide (b / 2 ^ (s-1).toNat % 2=1)).length<=15:=fv (j0 _ _) (by decide);refine⟨aR (by rw[cF];exact fv lf (by decide)),fun l hl=>⟨_,.inl ⟨cI.of ag,fun t ht=>q t _ ((ao hl).trans (ao ht)) ag⟩⟩⟩
theorem y2:OF P w base T.rJ jM 3 jB:=by
 exists 0,T.rJ,jM,jB,(Ox.h (km (RG (RH (J3 ⟨(aO (GV T) HR (cJ (au j2 (pv 0) aa)))⟩ (J3 ⟨(au ux (au j2 (pv 0) aa) aa)⟩ (J3 ⟨(au ux (au j2 (pv 0) aa) aa)⟩ (J3 ⟨(au ux (au j2 (pv 0) aa) aa)⟩ (J3 ⟨(aO (GY T) HR (cJ (au j2 (pv 0) aa)))⟩ (J3 ⟨(nI (Jy K rfl) (aO (E4 T) HR (cJ (pv 0))) zI (mf (au ux (au j2 (pv 0) aa) aa)))⟩ RI))))))))));rename_i b;obtain⟨h0,q⟩:=h;obtain⟨b,rfl⟩:∃b':Nat,b=(b':Int):=⟨b.toNat,by lia⟩;rw[gk] at q;exists 9;refine⟨by lia,by lia,fun hh y I u=>⟨by lia,fun O v=>⟨by rw[gk,Fm];exact aR (by decide),fun t ht=>?_⟩⟩⟩;have e:∀k:Nat,((b:Int) / (k:Int)).toNat=b / k:=fun k=>by rw[show(b:Int) / (k:Int)=((b / k:Nat):Int) by simp,gk]
 have i:∀k:Nat,(b:Int) / (k:Int)=((b / k:Nat):Int):=fun k=>by simp
 refine q t _ ((I.trans v).trans (ao ht)) ⟨hh,?_,?_,fv (IB b) (by decide),?_⟩
 ·rw[ag];have a1:((b:Int) / 9223372036854775808).toNat=b / 9223372036854775808:=e 9223372036854775808;have z:(b:Int) / 144115188075855872=((b / 144115188075855872:Nat):Int):=i 144115188075855872;have H:(b:Int) / 2251799813685248=((b / 2251799813685248:Nat):Int):=i 2251799813685248;have F:(b:Int) / 70368744177664=((b / 70368744177664:Nat):Int):=i 70368744177664;have C:(b:Int) / 268435456=((b / 268435456:Nat):Int):=i 268435456;rw[a1,z,H,F,C,Rc,Rc,VR,WN,gk];rfl
 ·have E:((b:Int) / 2147483648).toNat=b / 2147483648:=e 2147483648;have G:∀x,x=b / 2147483648->(Held.ones.filter fun s=>decide (x / 2 ^ (s-1).toNat % 2=1))=uI b:=by rintro _ rfl;rfl
  replace u:y hh=some (.tup ((uI b).map V.int)):=u.trans (Xm (fun l=>some (HO.tup (List.map V.int l))) (G _ E));exact aM (v _ _ u) ht
 ·unfold B9;have:=Txt.slice_le (Txt.join "" (lK b)) none (some ((b / 268435456 % 8:Nat):Int));rw[Fm] at this;lia
theorem Pz:OF P w base T.NV zD 5 CU:=by
 exists 1,T.NV,zD,CU,(ae (aW (PT.nox (dE (jY (aO (E5 T) HR (cJ (pv 0)))))) (ah (gT T.BN (sM T) T.Hb HR (by decide) tu rfl rfl rfl (cJ (pv 0)))) aC)
 (aj (ae (aW (PT.nox (qV K HR (aO (vE T) HR (cJ (pv 0))) aa)) (ah (gT T.Ew (uz T) T.Kz HR (by decide) tu rfl rfl rfl (cJ (pv 0)))) aC)
 (aj (ae (PS.nox (aw 1 zD.1.nd (aO (y2 T) HR (cJ (au j2 (pv 0) (bX rfl T.wz))))))
 (aj (ae (aW (PT.nox (PW.pt (pw_or (dE (jY (aO (yj T) HR (cJ (pv 1))))) (pw_or1 (qV K HR (aO (Aj T) HR (cJ (pv 1))) (pv 0)))))) (ah (gT T.wH (j7 T) T.Ar HR (by decide) tu rfl rfl rfl (cJ (pv 0)))) aC)
 (aj (ah (PS.nox (aq (pv 1))))))))))))
 rename_i G;obtain⟨q1,U,x,y⟩:=h;exists 6,u1;exists 9;by_cases F:0<=G/\G<18889465931478580854784;rotate_left
 ·rw[bc F];intro e he
  first|refine⟨ag,fun d hd=>⟨_,ag,?_⟩⟩|refine fun d hd=>⟨_,rfl,?_⟩
  obtain⟨s1,s2⟩:=dropx (C:=aS) (f:="frame") (v:= .int G) (aE.refl _) he hd;exact q1 F _ d s1 s2
 rw[a5 (not_not_intro F)];obtain⟨fr,rfl⟩:∃fr:Nat,G=(fr:Int):=⟨G.toNat,by lia⟩;rw[gk] at U x y;have U:=U F;have x:=x F;have y:=y F;exists 8,u1,u2;exists 9;refine⟨⟨by lia,by lia⟩,?_⟩;rw[gk];by_cases X:Rem.R fr=0;rotate_left
 ·rw[bc (by lia)];intro e he
  first|refine⟨ag,fun d hd=>⟨_,ag,?_⟩⟩|refine fun d hd=>⟨_,rfl,?_⟩
  obtain⟨s1,s2⟩:=dropx (C:=ba) (f:="frame") (v:= .int (fr:Int)) (aE.refl _) he hd;exact U X _ d s1 s2
 rw[a5 (by lia)];have x:=x X;have y:=y X;exists 8,u2,u3;exists 9;have e8:((fr:Int) / 256).toNat=fr / 256:=by lia
 refine⟨by lia,fun t H1 S1 I=>?_⟩;rw[e8] at I;exists 8,u3,u4;exists 9;refine⟨_,_,_,_,_,_,I,fun Z W=>?_⟩;have fail:rl fr=false->∀i,aE H i->∀e,i e=none->upd i e (.ext (tI e aG none)) e=some (.ext (tI e aG none))/\∀d,upd i e (.ext (tI e aG none)) d=none->∃dx,upd (upd (upd i e (.ext (tI e aG none))) d (.xd [("what",.int (fr:Int))])) e (.ext (tI e aG (some d))) e=some (.ext (tI e aG dx))/\E (.ref aG) dx (mz (upd (upd (upd i e (.ext (tI e aG none))) d (.xd [("what",.int (fr:Int))])) e (.ext (tI e aG (some d)))) e):=fun g i O e he=>by
  first|refine⟨ag,fun d hd=>⟨_,ag,?_⟩⟩|refine fun d hd=>⟨_,rfl,?_⟩
  obtain⟨s1,s2⟩:=dropx (C:=aG) (f:="what") (v:= .int (fr:Int)) O he hd;exact x g _ d s1 s2
 have u:=S1.trans W;cases Q:cB (qu (fr / 256)) (Es (fr / 256)) (Kw (fr / 256)) (Ov (fr / 256)) (uI (fr / 256)) (B9 (fr / 256))
 ·rw[bc rfl]
  first|exact fail (by unfold rl;rw[Q,nS]) Z u|exact fun e he d hd=>by have z:=(fail (by unfold rl;rw[Q,nS]) Z u e he).2 d hd;rw[ag] at z;exact z
 ·rw[a5 (by decide)];refine⟨_,_,_,_,_,_,I.same W,fun _ i O=>?_,fun hh=>by rw[Q] at hh;cases hh⟩;have q:=u.trans O;by_cases Y:iy (qu (fr / 256)) (Es (fr / 256)) (Kw (fr / 256)) (Ov (fr / 256)) (uI (fr / 256)) (B9 (fr / 256))=fr
  ·rw[a5 (by lia)];exists 7,u4;exists 9;exact y (by unfold rl;rw[Q,pd,eT Y]) t i q ((I.same W).same O)
  ·rw[bc (by lia)]
   first|exact fail (by unfold rl;rw[cz Y,ri]) i q|exact fun e he d hd=>by have z:=(fail (by unfold rl;rw[cz Y,ri]) i q e he).2 d hd;rw[ag] at z;exact z
theorem PB:OF P w base T.NW C0 1 CV:=by
 exists 0,T.NW,C0,CV,(ah (aq (jq (cu K HR (pv 0) aa) (aF K aa (au bJ (pv 1) aa)) (au cM (aF K (au gV aa (pv 0)) (pv 1)) aa))));rename_i r l;exists 9;unfold j8 at h;split
 ·rename_i c;rw[bc c] at h;exact h
 ·rename_i c;rw[a5 c] at h;exact h
theorem Dl:OF P w base T.yu oQ 2 ow:=by
 exists 0,T.yu,oQ,ow,(ah (aq (eU (aO (d8 T) HR (bq (pv 1) (cb (bX rfl T.lL) (bX rfl T.FW)))) (o8 (aO (d8 T) HR (bq (pv 0) (cb (bX rfl T.lL) (pv 1))))))));rename_i f l;exists 9;by_cases c:2<=l/\l<=64
 ·rw[bc (DT c)];have e:fu f 2 l=decide ((2<=l/\l<=64)/\2<=f/\f<=l):=by rw[yl,nR,eu];exact⟨fun k=>⟨c,k⟩,fun k=>k.2⟩
  rw[e];exact h
 ·rw[a5 (by rw[Qe c];decide)];rw[cz (fun k=>c k.1)] at h;exact h
theorem Dp:OF P w base T.yx oS 2 oy:=by
 exists 0,T.yx,oS,oy,(ah (aq (eU (aD (x9 K rfl) (by rfl) T.dr cQ (cb (pv 0) (yh rfl T.sv oj))) (eU (fE (zL K rfl HR.units) (aD (eL K rfl) (by rfl) T.j_ gj (cJ (pv 0))) aa) (o8 (aD (x_ K rfl rfl) (by rfl) T.N_ Hy (cJ (gC (N:=(["room"]:List Str)) (nv:=1) (ix:=[]) rfl (lJ (by kernel_rfl)) (cL K rfl (pv 0)) (fun _ _ _ _ _=>(aJ 0 (show((["room"]:List Str)).Nodup by decide))) (fun _ _ _ _ _=>o6) (fun _ _ _ _ _=>(aO (d8 T) HR (bq (pv 0) (cb aa (bX rfl T.wy)))))))))))));rename_i p;obtain⟨o,t,hp,q⟩:=h;exists hp;refine x8 (p:=fun _=>true) (f:=fun x=>match x with | .int i=> .bl (fu i 1 16)|_=> .non) (du.of hp) (aR (by simp)) (fun x _ Q h=>h) (fun x hx _ Q h=>?_) ?_
 ·simp only[cR,d3,lj] at hx;rcases hx with rfl|rfl<;>(exists 9;exact h)
 ·refine⟨aR (by simp),fun l hl=>⟨[fu o 1 16,fu t 1 16],cI.of ag,?_⟩⟩;have:=q _ (ao (o:= .lst [.bl (fu o 1 16),.bl (fu t 1 16)]) hl);have e:([fu o 1 16,fu t 1 16].all id)=decide ((1<=o/\o<=16)/\1<=t/\t<=16):=by
   rw[yl,eu,<-nR,<-nR];simp
  rw[e];exact this
theorem vF:OM P w mg base T.nW eV 3 g_:=by
 exists 0,T.nW,eV,g_,(ae (aW (dE (PW.pt (pw_and (jY (aO (d8 T) HR (bq (pv 1) (cb aa (bX rfl T.FY))))) (pw_and (jY (aO (Dp T) HR (cJ (pv 2)))) (pw_and1 (jY (aO (d8 T) HR (bq (pv 3) (cb aa (bX rfl T.Hx)))))))))) (ah vx) aC)
 (aj (ae (aW (dE (jY (aO (Dl T) HR (cb (pv 4) (pv 5))))) (ah vx) aC)
 (aj (ae (aw 6 eV.1.nd (aD (CC K rfl rfl) (by rfl) T.CJ yc (cJ (gC (N:=(["room","lag"]:List Str)) (nv:=1) (ix:=[3]) rfl (lJ (by kernel_rfl)) (cL K rfl (pv 2)) (fun _ _ _ _ _=>(aJ 0 (show((["room","lag"]:List Str)).Nodup by decide))) (fun _ _ _ _ _=>o6) (fun _ _ _ _ _=>(aO (PB T) HR (cb (pv 0) (pv 1))))))))
 (aj (ae (aW (a_ jr (pv 1) (pv 6)) (ah vx) aC)
 (aj (ae (aB (pv 0) (pv 1) T.d_ T.ky)
 (ae (aB (pv 0) (pv 2) T.d_ T.jk)
 (ae (aB (pv 0) (pv 3) T.d_ T.yk)
 (ae (aB (pv 0) (pv 4) T.d_ T.tE)
 (ah (aB (pv 0) (pv 5) T.d_ T.p7))))))))))))))
 rename_i x r p g f l;obtain⟨o,t,dx,hp,hx,hg,X,q⟩:=h;obtain⟨Z,Y,F,O⟩:=hg;exists 6,u1;exists 9;rw[bc (DT Z)];refine⟨o,t,hp,fun G E=>?_⟩;rw[bc Y];rw[a5 (by rw[DT F];decide)];exists 8,u1,u2;exists 9;rw[a5 (not_not_intro O)];have y:=E _ _ hp;have C:=E _ _ hx;exists 8,u2,u3;exists 9;refine x8 (p:=fun _=>true) (f:=fun x=>match x with | .int i=> .int (j8 i g)|_=> .non) (du.of y) (aR (by simp)) (fun x _ Q h=>h) (fun x hx _ Q h=>?_) ?_
 ·simp only[cR,d3,lj] at hx;rcases hx with rfl|rfl<;>(exists 9;exact h)
 refine⟨aR (by simp),fun l1 v=>⟨[j8 o g,j8 t g],cI.of ag,by simp,fun M hM hle=>?_⟩⟩;have W:M=pB o t g:=by
  have h1:=hle (j8 o g) (by simp);have h2:=hle (j8 t g) (by simp);simp only[cR,d3,lj] at hM;unfold pB;split<;>lia
 subst W;have I:aE H _:=fun b u e=>ao (o:= .lst ((([V.int o,V.int t]:List V).filter fun _=>true).map fun x=>match x with | .int i=> .int (j8 i g)|_=> .non)) v b u (E b u e)
 have IF:=aM (o:= .lst ((([V.int o,V.int t]:List V).filter fun _=>true).map fun x=>match x with | .int i=> .int (j8 i g)|_=> .non)) C v
 generalize upd G l1 (.lst ((([V.int o,V.int t]:List V).filter fun _=>true).map fun x=>match x with | .int i=> .int (j8 i g)|_=> .non))=H2 at*
 exists 8,u3,u4;exists 9;rw[a5 X];exists 7,u4;exists IF;refine q _ ?_ ag;exact fun b o U z=>by rw[af z];exact I _ _ U
theorem vI:OM P w mg base T.nZ h_ 1 hU:=by
 exists 0,T.nZ,h_,hU,(ae (aB (pv 0) (pv 1) T.bF T.vK)
 (ae (aB (pv 0) (aD (oh rfl) (by rfl) T.FZ A3 (cb aa (pv 1))) T.bF T.bU)
 (ae (aB (pv 0) (pv 1) T.bF T.iu)
 (ah (aB (pv 0) aa T.bF T.c_)))))
 rename_i p m;obtain⟨dx,hp,q⟩:=h;exists hp;exact q
theorem vH:OM P w mg base T.nY h9 1 hJ:=by
 exists 0,T.nY,h9,hJ,(ae (aW (cu K HR (ai (pv 0) T.bF T.bU) (ai (pv 0) T.bF T.vK)) (ah Ig) aC)
 (ae (aW (a_ jr (ai (pv 0) T.bF T.bU) (ai (pv 0) T.bF T.iu)) (ae (o7 (pv 0) aa T.bF T.bU pD)
 (ah Ig)) aC)
 (ae (o7 (pv 0) aa T.bF T.c_ pD)
 (ah (aW (cu K HR (ai (pv 0) T.bF T.c_) (ai (pv 0) T.bF T.bU)) (ae (o7 (pv 0) aa T.bF T.bU pD)
 (ah (aB (pv 0) aa T.bF T.c_))) aC)))))
 rename_i p;obtain⟨dx,m,w,k,c,hp,q⟩:=h;exists hp;unfold MeterM.k1 at q;split
 ·rename_i v;rw[bc v] at q;rw[Ln hp] at q;exact q
 ·rename_i v;rw[a5 v] at q;split
  ·rename_i u;rw[bc u] at q;exact q
  ·rename_i u;rw[a5 u] at q;split
   ·rename_i i;rw[bc i] at q;exact q
   ·rename_i i;rw[a5 i] at q;exact q
theorem Am:OM P w mg base T.tO hZ 2 kN:=by
 exists 0,T.tO,hZ,kN,(ah (eS j1 rfl (fB rfl T.eC (cJ (pv 1))) (aJ 2 hZ.1.nd) (ah (bh (bI (pv 0) T.bF (vH T) HR)))));rename_i p n;obtain⟨hn,dx,m,w,k,c,hp,q⟩:=h;exists 9;refine⟨by lia,?_⟩;refine pE (fun i σ H'=>H'=upd H p (.ins aK dx (aV (.int m) (.int (MeterM.kn m k i (w,c)).1) (.int k) (.int (MeterM.kn m k i (w,c)).2)))/\∃v,σ= [some (.ref p),some (.int n),v]) ⟨by rw[MeterM.kn];exact(Ln hp).symm,none,rfl⟩ (fun i σ H' x u=>?_) (fun σ H' u=>?_)
 ·obtain⟨rfl,v,rfl⟩:=u;exists 9;refine⟨dx,m,_,k,_,rfl,?_,_,rfl⟩;rfl
 ·obtain⟨rfl,v,rfl⟩:=u;exact q
theorem tD:OM P w mg base T.wk m7 1 mU:=by
 exists 0,T.wk,m7,mU,(ah (aq (aD (oi rfl) (by rfl) T.CJ yc (cb aa (au bJ (ai (pv 0) T.bF T.bU) aa)))));rename_i p;obtain⟨dx,m,w,k,c,hp,q⟩:=h;exists hp;exact q
theorem xj:OM P w mg base T.qh i7 2 iS:=by
 exists 0,T.qh,i7,iS,(ae (aB (pv 0) (bI (pv 0) T.bF (tD T) HR) T.bF T.iu)
 (ae (aB (pv 0) aa T.bF T.bU)
 (ah (aB (pv 0) aa T.bF T.c_))))
 rename_i p;obtain⟨dx,m,w,k,c,hp,q⟩:=h;exists hp;exact⟨dx,m,w,k,c,rfl,q⟩
theorem xk:OM P w mg base T.qi i8 2 iT:=by
 exists 0,T.qi,i8,iT,(ae (aB (pv 0) (bI (pv 0) T.bF (tD T) HR) T.bF T.iu)
 (ae (aB (pv 0) (ai (pv 0) T.bF T.iu) T.bF T.bU)
 (ah (aB (pv 0) aa T.bF T.c_))))
 rename_i p;obtain⟨dx,m,w,k,c,hp,q⟩:=h;exists hp;exact⟨dx,m,w,k,c,rfl,q⟩
theorem w_:OF P w base T.FQ se 1 wL:=by
 exists 0,T.FQ,se,wL,(ae (aw 2 se.1.nd (au ux (au tw (pv 0) (pv 1)) (Mz Gi (au tw (pv 0) (pv 1)))))
 (ah (aq (bw (cb (au Ai (pv 0) (pv 2)) (au Ai (pv 1) (pv 2)))))))
 rename_i t b;obtain⟨⟨h0,h1,u⟩,q⟩:=h;exists 9;rw[WaysI.lowbit h0 h1];have hl:=WaysI.Sm h0 h1;have hd:∀i,Ou i (WaysM.lb (t.toNat |||b.toNat):Nat):=fun i=>⟨hl.1,u.le (ko hl.1) hl.2⟩;exact⟨hd _,hd _,q⟩
theorem xc:OM P w mg base T.qd iZ 1 iQ:=by
 exists 0,T.qd,iZ,iQ,(ae (aB (pv 0) (pv 2) T.bC T.kY)
 (ae (aB (pv 0) bW T.bC T.br)
 (ae (aB (pv 0) bW T.bC T.cv)
 (ah (aB (pv 0) (pv 1) T.bC T.gY)))))
 rename_i p f l;obtain⟨dx,hp,q⟩:=h;exists hp;exact q
theorem sG:OM P w mg base T.lq cH 2 fP:=by
 exists 0,T.lq,cH,fP,(ae (aw 2 cH.1.nd (au mh (aA K (ai (pv 0) T.bC T.br) aa) (aA K (ai (pv 0) T.bC T.cv) aa)))
 (aj (ae (aw 3 cH.1.nd (aD N6 (by rfl) T.VN Tz (cJ (au cM (aA K (ai (pv 0) T.bC T.br) aa) (au mh (pv 1) (aA K (ai (pv 0) T.bC T.br) aa))))))
 (aj (ah (aq (aO (w_ T) HR (cb (aF K (au mh (au gV aa (aA K (ai (pv 0) T.bC T.cv) aa)) (aA K (ai (pv 0) T.bC T.br) aa)) (au mh (pv 3) (aA K (ai (pv 0) T.bC T.cv) aa))) (au gV aa (pv 2))))))))))
 rename_i p m;obtain⟨dx,L,w,a,A,b,B,W,⟨z,y,hp,hs,u⟩,q⟩:=h;exists 6,u1;exists hp,hs,u;have v:=W.mB;have x:Bd 1002 (3*b):=Bd.mul (a:=2) (Bd.c (k:=3) (by decide)) W.b1;have i:=W.A1.mul W.B1;have d:=((W.a1.up (show 1000<=1020 by decide)).sub (v.mul W.A1)).abs;have p1:=Int.mul_pos W.A0 W.B0;refine⟨uF W.A1 W.B1 (by decide) (by decide),?_⟩;exists 8,u1,u2;exists hp,hs,u;refine⟨uF v W.A1 (by decide) (by decide),_,rfl,?_⟩;rw[WR];exists 7,u2;exists hp,hs,u;refine⟨uF x W.A1 (by decide) (by decide),uF d W.B1 (by decide) (by decide),⟨?_,by lia,((Bd.c (n:=3) (k:=4) (by decide)).mul i).up (by decide)⟩,q⟩;have:=xB (xB (show(0:Int)<=3 by decide) W.b0) (ko W.A0);have:=xB (Ye (a-m*A).natAbs) (ko W.B0);lia
theorem sH:OM P w mg base T.lu fY 2 fQ:=by
 exists 0,T.lu,fY,fQ,(ah (aq (aO (w_ T) HR (cb (aF K (au gV aa (aA K (ai (pv 0) T.bC T.br) aa)) (au mh (pv 1) (aA K (ai (pv 0) T.bC T.br) aa))) (au gV aa (aA K (ai (pv 0) T.bC T.br) aa))))));rename_i p m;obtain⟨dx,L,s,i,w,a,A,⟨m0,m1,a0,A0,A1⟩,hp,hs,q⟩:=h;exists hp,hs;have:=xB m0 (ko A0);exact⟨Sg (by lia),⟨by lia,by lia,((Bd.c (n:=3) (k:=4) (by decide)).mul A1).up (by decide)⟩,q⟩
theorem uy:OM P w mg base T.mC d4 1 gG:=by
 exists 0,T.mC,d4,gG,(ae (aw 1 d4.1.nd (aF K (au mh (aA K (ai (pv 0) T.bC T.br) aa) (aA K (ai (pv 0) T.bC T.cv) aa)) (au mh (au gV aa (aA K (ai (pv 0) T.bC T.cv) aa)) (aA K (ai (pv 0) T.bC T.br) aa))))
 (aj (ah (aq (Mz Gi (au Ai (Mz Gi (pv 1)) (au mh (aA K (ai (pv 0) T.bC T.br) aa) (aA K (ai (pv 0) T.bC T.cv) aa))))))))
 rename_i p;obtain⟨dx,L,w,a,A,b,B,⟨A0,B0,a1,A1,b1,B1⟩,⟨v,u,hp,hs,i⟩,q⟩:=h;exists 6,u1;exists hp,hs,i;refine⟨uF a1 B1 (by decide) (by decide),uF ((Bd.c (n:=3) (k:=4) (by decide)).mul b1) A1 (by decide) (by decide),?_⟩;exists 7,u1;exists hp,hs,i;exact⟨uF A1 B1 (by decide) (by decide),Tp (Int.mul_pos A0 B0) (A1.mul B1) (by decide),q⟩
theorem xb:OM P w mg base T.qc iY 3 (fw aX):=by
 exists 0,T.qc,iY,fw,(ae (aW (a_ mi (ai (pv 0) T.bC T.br) bW) (ae (aB (pv 0) (bw (cb (pv 1) aa)) T.bC T.br)
 (aj (ah (aB (pv 0) (aO (w_ T) HR (cb (pv 1) aa)) T.bC T.cv)))) (ae (aB (pv 0) (bK (pv 0) T.bC (sG T) HR (cJ (pv 1))) T.bC T.cv)
 (aj (ah (aB (pv 0) (bK (pv 0) T.bC (sH T) HR (cJ (pv 1))) T.bC T.br)))))
 (aj (ah (aB (pv 0) (aD (oi rfl) (by rfl) T.CJ yc (cb (bX rfl T.wu) (aD (oh rfl) (by rfl) T.FZ A3 (cb (ai (pv 0) T.bC T.kY) (bI (pv 0) T.bC (uy T) HR))))) T.bC T.gY))))
 rename_i p m;obtain⟨hm,⟨dx,L,w,hp,q⟩|⟨dx,L,w,a,A,b,B,W,⟨G,pp,hp,hs,X⟩,q⟩⟩:=h
 ·exists 6,u1;exists 6,u2;exists 6,u3;exists hp;intro p1 E;have n1:p≠p1:=ar hp E;have e1:=aM (o:= .tup [V.int m,V.int 1]) hp E;exists e1;exists 7,u1;exists 9;refine⟨⟨hm.1,Bd.up (a:=2) (Bd.c (k:=2) (by decide)) (by decide)⟩,fun I u=>?_⟩;have C:I≠p:=fresh_ne u;have F:p1≠I:=fun e=>by rw[<-e,af n1.symm,ag] at u;cases u
  have e2:=aM (o:= .tup [V.int (WaysM.low m 2).1,V.int (WaysM.low m 2).2]) (ag (H:=upd H p1 (.tup [V.int m,V.int 1])) (a:=p) (o:= .ins aX dx (bO (.int L) (.ref p1) .non (.int w)))) u;exists e2;exists 7,u3;exists 9;obtain⟨s,Lo⟩:=WaysM.nN (t:=m) (b:=2) hm.1 (by decide);have l1:=Lo.t0;have l2:=Lo.b0;have l3:=Lo.tl;have Y:=Lo.bl;have U:Bd 20 m:=Bd.of hm.1 (by lia);refine⟨dx,L,w,m,1,(WaysM.low m 2).1,(WaysM.low m 2).2,⟨by decide,l2,U.up (by decide),Bd.up (a:=1) (Bd.c (k:=1) (by decide)) (by decide),(U.le l1 l3).up (by decide),(Bd.le (Bd.c (n:=2) (k:=2) (by decide)) (ko l2) Y).up (by decide)⟩,⟨p1,I,ag,?_,?_⟩,?_⟩
  ·rw[af n1.symm,af F,af n1.symm,ag]
  ·rw[af C,ag]
  ·refine q _ ?_ ⟨p1,I,ag,?_,?_⟩
   ·intro b o y v;rw[af v,af,af v,af (ar y E)]
    ·exact y
    ·intro e;rw[e] at y;rw[af C,af F.symm] at u;rw[y] at u;cases u
   ·rw[af n1.symm,af F,af n1.symm,ag]
   ·rw[af C,ag]
 ·exists 6,u1;exists 6,u2;exists 6,u3;exists hp,hs,X;have n0:G≠p:=bL hs hp (by simp);refine⟨dx,L,w,a,A,b,B,W,⟨G,pp,hp,hs,X⟩,fun z x=>?_⟩;have n1:p≠z:=ar hp x;have Z:G≠z:=ar hs x;have e1:=aM (o:= .tup [V.int (nsp a A b B m).1,V.int (nsp a A b B m).2]) hp x;exists e1;exists 7,u2;exists 9;refine⟨dx,L,.ref z,G,w,a,A,⟨hm.1,hm.2,W.a0,W.A0,W.A1⟩,rfl,by rw[af n0,af Z];exact hs,fun O i=>?_⟩;have C:O≠p:=fresh_ne i;have F:z≠O:=fun e=>by rw[<-e,af n1.symm,ag] at i;cases i
  have e2:=aM (o:= .tup [V.int (nsm a A m).1,V.int (nsm a A m).2]) (ag (H:=upd H z (.tup [V.int (nsp a A b B m).1,V.int (nsp a A b B m).2])) (a:=p) (o:= .ins aX dx (bO (.int L) (.ref G) (.ref z) (.int w)))) i;exists e2;exists 7,u3;exists 9;have B1:=W.WC;have Q:=W.WB;refine⟨dx,L,w,_,_,_,_,⟨B1.2.1,Q.2.1,B1.2.2.1,B1.2.2.2,Q.2.2.1,Q.2.2.2⟩,⟨O,z,ag,?_,?_⟩,?_⟩
  ·rw[af C,ag]
  ·rw[af n1.symm,af F,af n1.symm,ag]
  ·refine q _ ?_ ⟨O,z,ag,?_,?_⟩
   ·intro b o y v;rw[af v,af,af v,af (ar y x)]
    ·exact y
    ·intro e;rw[e] at y;rw[af C,af F.symm] at i;rw[y] at i;cases i
   ·rw[af C,ag]
   ·rw[af n1.symm,af F,af n1.symm,ag]
theorem pY:OM P w mg base T.rM jQ 1 jE:=by
 exists 0,T.rM,jQ,jE,(ah (aB (pv 0) (aD (oh rfl) (by rfl) T.FZ A3 (cb (au gV aa (ai (pv 0) T.bC T.gY)) (ai (pv 0) T.bC T.kY))) T.bC T.gY));rename_i p;obtain⟨dx,L,s,sp,w,hp,q⟩:=h;exists hp;exact q
theorem E6:OF P w base T.IV Aa 1 zX:=by
 exists 0,T.IV,Aa,zX,(ah (aq (au bp (au cM (pv 2) (pv 1)) (pv 0))));rename_i r a b;exists 9;exact h
theorem jh:OM P w mg base T.wg mY 1 mT:=by
 exists 0,T.wg,mY,mT,(ah (bh (kU K rfl (ai (pv 0) T.ak T.gE) (pv 1))));rename_i x th;obtain⟨A,z,i,hl,q⟩:=h;exists i.hx,i.ht;refine⟨kG (cI.of i.ht),by rw[fR];lia,q _ jf.upd ?_⟩;exact i.row i.ht _ z.Kn z.Fi (by simp) (by simp) ag (by rw[af (bL i.hk i.ht (by simp))];exact i.hk) (by rw[af (bL i.hf i.ht (by simp))];exact i.hf) (bL i.ht i.ha (by simp))
theorem kW:OM P w mg base T.tL kQ 1 kM:=by
 exists 0,T.tL,kQ,kM,(ah (aq (aD (eL K rfl) (by rfl) T.j_ gj (cJ (ai (pv 0) T.ak T.gE)))));rename_i x;obtain⟨A,z,i,q⟩:=h;exists i.hx,i.ht;exact q
theorem pZ:OM P w mg base T.rP jS 1 jH:=by
 exists 0,T.rP,jS,jH,(ah (aq (aA K (ai (pv 0) T.ak T.gE) (pv 1))));rename_i x p;obtain⟨A,z,v,i,u,q⟩:=h;exists i.hx,i.ht;exact⟨v,u,q⟩
theorem fm:OM P w mg base T.fN cV 1 cU:=by
 exists 0,T.fN,cV,cU,(ah (aq (aD (eL K rfl) (by rfl) T.j_ gj (cJ (gC (N:=(["place","self"]:List Str)) (nv:=1) (ix:=[0]) rfl (lJ (by kernel_rfl)) (si rfl T.eC (cb (aF K (ai (pv 0) T.ak T.aI) aa) (ai (pv 0) T.ak T.bB))) (fun _ _ _ _ _=>(aJ 0 (show((["place","self"]:List Str)).Nodup by decide))) (fun _ _ _ _ _=>(md (wY (MF HR.units (pv 0) (ai (pv 1) T.ak T.cZ)) (ji rfl)))) (fun _ _ _ _ _=>(pv 0)))))));rename_i x;obtain⟨A,z,u,⟨b0,b1,F⟩,q⟩:=h;exists u.hx;refine⟨by lia,?_⟩;refine D9 (p:=fun v=>match v with | .int i=>knw z.Kn i|_=>false) (f:=fun v=>v) (aR (by lia)) ?_ ?_ ?_
 ·intro j E C y;exists u.hx,u.hk;exact y
 ·intro j E _ C y;exists 9;exact y
 have e:=PV (z:=z) rfl;have kl:=SD (z:=z);refine⟨aR (by rw[e];lia),fun l hl=>?_⟩;rw[e];exact q _ (ao hl)
theorem sI:OM P w mg base T.lx fZ 2 fS:=by
 exists 0,T.lx,fZ,fS,(ah (aq (au cM (au cM (ai (pv 0) T.ak T.bB) (ai (pv 0) T.ak T.aI)) (bI (pv 0) T.ak (fm T) HR))));rename_i x;obtain⟨A,z,i,u,q⟩:=h;exists i.hx;exact⟨A,z,i,u,fun H' v=>q H' v⟩
theorem iI:OM P w mg base T.jx eQ 2 eN:=by
 exists 0,T.jx,eQ,eN,(ah (aq (fE jr (ai (pv 0) T.ak T.bB) (bI (pv 0) T.ak (kW T) HR))));rename_i x;obtain⟨A,z,i,q⟩:=h;exists i.hx;exact⟨A,z,i,q⟩
theorem o9:OM P w mg base T.iK d5 2 dS:=by
 exists 0,T.iK,d5,dS,(ah (aq (eU (fE jr (ai (pv 0) T.ak T.aI) (ai (pv 0) T.ak T.bB)) (eU (MB (ai (pv 0) T.ak T.c6)) (o8 (fE Ah (bI (pv 0) T.ak (fm T) HR) (bX rfl T.yb)))))));rename_i x;obtain⟨A,z,v,y,q⟩:=h;exists v.hx;by_cases i:z.b<z.t
 ·rw[bc i];cases u:z.hur
  ·rw[u] at q;refine⟨A,z,v,y,fun H' C=>?_⟩;have:=q H' C;simp only[eT i,pd,Bool.not_false] at this;simpa using this
  ·rw[u] at q;have:=q H (aE.refl _);simpa [i] using this
 ·rw[a5 i];have:=q H (aE.refl _);simpa [i] using this
theorem q_:OM P w mg base T.j9 fg 3 fc:=by
 exists 0,T.j9,fg,fc,(ah (aq (eU (bI (pv 0) T.ak (iI T) HR) (eU (fE jr (ai (pv 0) T.ak T.bB) (ai (pv 0) T.ak T.gy)) (o8 (fE jr (bI (pv 0) T.ak (sI T) HR) (ai (ai (pv 0) T.ak T.fq) T.bF T.bU)))))));rename_i x;obtain⟨A,z,v,E,q⟩:=h;exists v.hx;refine⟨A,z,v,?_⟩;by_cases i:z.t<z.T.length
 ·rw[bc i];by_cases u:z.t<z.e
  ·rw[bc u];refine⟨A,z,v,E,fun H' C=>?_⟩;have y:=v.same C;obtain⟨em,F⟩:=y.ms;exists y.hx,em;have:=q H' C;simpa [i,u] using this
  ·rw[a5 u];have:=q H (aE.refl _);simpa [i,u] using this
 ·rw[a5 i];have:=q H (aE.refl _);simpa [i] using this
theorem iJ:OM P w mg base T.jy cg 1 eO:=by
 exists 0,T.jy,cg,eO,(ae (Dc (i:=2) (N:=(["place","self"]:List Str)) (nv:=1) (ix:=[0]) rfl cg.1.nd rfl rfl (lJ (by kernel_rfl)) (cL K rfl (pv 1)) (fun _ _ _ _ _=>(aJ 0 (show((["place","self"]:List Str)).Nodup by decide))) (fun _ _ _ _ _=>(md (wY (GQ HR.units (pv 0) (ai (pv 1) T.ak T.cZ)) (ji rfl)))) (fun _ _ _ _ _=>(pv 0)))
 (ae (eS j1 rfl (cL K rfl (pv 2)) (aJ 3 cg.1.nd) (ah (Dd HR.units (ai (pv 0) T.ak T.cZ) (pv 3) dg)))
 (ah (aq (pv 2)))))
 rename_i x l;obtain⟨A,z,F,O,hl,hk,Z,q⟩:=h;exists 9;refine Qp (xs:=F.map V.int) (p:=fun v=>match v with | .int i=>!knw z.Kn i|_=>false) (f:=fun v=>v) (cI.of hl) (aR (by rw[cF];lia)) ?_ ?_ ?_
 ·intro y hy W Q;obtain⟨i,_,rfl⟩:=ke.mp hy;exists O.hx,O.hk;exact Q
 ·intro y hy _ W Q;exists 9;exact Q
 rw[SW];have hfl:(frs z.Kn F).length<=F.length:=j0 _ _;refine⟨aR (by rw[cF];lia),fun l1 E=>?_⟩;generalize frs z.Kn F=fs at*
 have S1:=O.same (ao (o:= .lst (fs.map V.int)) E);have s1:=ao (o:= .lst (fs.map V.int)) E;have k1:=ag (H:=H) (a:=l1) (o:= .lst (fs.map V.int));generalize upd H l1 (.lst (fs.map V.int))=H1 at*
 refine pF (xs:=fs.map V.int) (cI.of k1) (fun i σ H'=>H' l1=some (.lst (fs.map V.int))/\ye x A H H'/\qz H' x A {z with Kn:=putAll z.Kn (fs.take i)}/\∃v,σ= [some (.ref x),some (.ref l),some (.ref l1),v]) ⟨k1,ye.of s1,S1,none,rfl⟩ (fun i σ H' _ hp=>cI.of hp.1) (fun i y σ H' hy hp=>?_) (fun σ H' hp=>?_)
 ·obtain⟨h1,I,C,v,rfl⟩:=hp;obtain⟨c,rfl,hc⟩:=rf hy;have G:l1≠A.pk:=bL h1 C.hk (by simp);have X:(putAll z.Kn (fs.take i)).length<=z.Kn.length+(fs.take i).length:=o5;have htl:(fs.take i).length<=fs.length:=by rw[n4];exact Nat.min_le_right _ _
  exists C.hx,C.hk;refine⟨by rw[fR];lia,by rw[af G];exact h1,fun b u e a1 Y a3 a4 U a6=>by rw[af U];exact I b u e a1 Y a3 a4 U a6,?_,_,rfl⟩;have et:putK (putAll z.Kn (fs.take i)) (ik c) (.bl true)=putAll z.Kn (fs.take (i+1)):=by
   rw[ON,hc];exact putAll_snoc.symm
  rw[et];exact C.row C.hk z.T (putAll z.Kn (fs.take (i+1))) z.Fi (by simp) (by simp) (by rw[af (bL C.ht C.hk (by simp))];exact C.ht) ag (by rw[af C.kf.symm];exact C.hf) C.ka
 ·obtain⟨h1,I,C,v,rfl⟩:=hp;rw[cF,AB] at C;exists 9;exact q l1 _ E I C h1
theorem dy:OM P w mg base T.lA f7 1 fT:=by
 exists 0,T.lA,f7,fT,(ah (aB (pv 0) (aF K (pv 1) (ai (ai (pv 0) T.ak T.eG) T.bC T.gY)) T.ak T.dF));rename_i x n;obtain⟨A,z,i,q⟩:=h;obtain⟨s0,u,hw⟩:=i.ws.ins;exists i.hx,hw;exact q _ jf.upd (i.put _ _ _ _ _)
theorem sL:OM P w mg base T.lC dv 2 fV:=by
 exists 0,T.lC,dv,fV,(ae (aw 2 dv.1.nd (ai (pv 0) T.ak T.aI))
 (ae (o7 (pv 0) (pv 1) T.ak T.aI pD)
 (ah (aq (bK (pv 0) T.ak (iJ T) HR (cJ (uv (Hv K rfl rfl) (by rfl) T.TC Qr (cJ (Pj rfl T.eC (cb (pv 2) (ai (pv 0) T.ak T.aI)))))))))))
 rename_i x st;obtain⟨A,z,F,⟨b0,b1,y⟩,hst,hk,q⟩:=h;exists F.hx;refine⟨by lia,fun p hp=>⟨by lia,by lia,fun l hl=>?_⟩⟩;have Z:=F.put (z.b+st) z.t z.e z.clk z.hur;have b1:jf x H (upd H x (HO.ins ax A.dx (aZ (V.int z.R) (V.ref A.pw) (V.ref A.pm) (V.ref A.pt) (V.int (z.b+st)) (V.int z.t) (V.int z.e) z.clk (V.bl z.hur) (V.ref A.pk) (V.ref A.pf) (V.ref A.pa)))):=jf.upd;generalize upd H x (HO.ins ax A.dx (aZ (V.int z.R) (V.ref A.pw) (V.ref A.pm) (V.ref A.pt) (V.int (z.b+st)) (V.int z.t) (V.int z.e) z.clk (V.bl z.hur) (V.ref A.pk) (V.ref A.pf) (V.ref A.pa)))=C at*
 have E:=(Z.same (ao (o:= .rng z.b (z.b+st)) hp)).same (ao (o:= .lst (lU z.b (z.b+st-z.b).toNat)) hl);have y:jf x H (upd (upd C p (.rng z.b (z.b+st))) l (.lst (lU z.b (z.b+st-z.b).toNat))):=(b1.new hp).new hl;generalize upd (upd C p (.rng z.b (z.b+st))) l (.lst (lU z.b (z.b+st-z.b).toNat))=H2 at*
 have Q:(irg z.b st.toNat).length<=1000:=by unfold irg;rw[cF,p6];lia
 refine⟨A,_,irg z.b st.toNat,E,by rw[show z.b+st-z.b=st by lia,SJ],hk,Q,fun p1 O i fr U v=>?_⟩;refine q _ p1 O rfl ?_ (fun b u e a1 G Y X I W=>fr b u (y b u e a1) a1 G Y X I W) U v;cases e:H p1 with
 |none=>rfl
 |some u=>
  exfalso;by_cases c:p1=x
  ·rw[c,E.hx] at i;cases i
  ·rw[y p1 u e c] at i;cases i
theorem sJ:OM P w mg base T.lB f9 2 fU:=by
 exists 0,T.lB,f9,fU,(ah (aq (bK (pv 0) T.ak (iJ T) HR (cJ (gC (N:=(["step","self"]:List Str)) (nv:=1) (ix:=[0]) rfl (lJ (by kernel_rfl)) (cL K rfl (pv 1)) (fun _ _ _ _ _=>(aJ 0 (show((["step","self"]:List Str)).Nodup by decide))) (fun _ _ _ _ _=>(md (a_ jr (aF K (ai (pv 1) T.ak T.aI) (pv 0)) (ai (pv 1) T.ak T.bB)))) (fun _ _ _ _ _=>(aF K (ai (pv 1) T.ak T.aI) (pv 0))))))));rename_i x t;obtain⟨A,z,hs,E,ht,hl,hk,q⟩:=h;exists E.hx;refine x8 (xs:=hs.map V.int) (p:=fun v=>match v with | .int i=>decide (z.b+i<z.t)|_=>false) (f:=fun v=>match v with | .int i=> .int (z.b+i)|v=>v) (du.of ht) (aR (by rw[cF];lia)) ?_ ?_ ?_
 ·intro y hy H G;obtain⟨i,_,rfl⟩:=ke.mp hy;exists E.hx;exact G
 ·intro y hy _ H G;obtain⟨i,_,rfl⟩:=ke.mp hy;exists E.hx;exact G
 rw[SK];have W:=DP (z:=z) (hs:=hs);refine⟨aR (by rw[cF];lia),fun l C=>?_⟩;have S1:=E.same (ao (o:= .lst ((hld z hs).map V.int)) C);have s1:=ao (o:= .lst ((hld z hs).map V.int)) C;refine⟨A,z,_,S1,rfl,hk,by lia,fun p Q hp fr U F=>q _ p Q rfl ?_ (fun b u e a1 I Z Y O X=>fr b u (s1 b u e) a1 I Z Y O X) U F⟩;exact zO s1 hp
theorem kX:OM P w mg base T.mG gP 2 gJ:=by
 exists 0,T.mG,gP,gJ,(ae (bh (bK (pv 0) T.ak (dy T) HR (cJ (pv 1))))
 (ae (aB (pv 0) dg T.ak T.c6)
 (ae (Dd HR.units (ai (pv 0) T.ak T.gi) (ai (pv 0) T.ak T.aI) dg)
 (ah (aq (bw (cb aU (ai (pv 0) T.ak T.aI))))))))
 rename_i x n;obtain⟨A,z,U,hl,q⟩:=h;exists U.hx;refine⟨A,z,U,fun W X v=>?_⟩;have i:A.pa≠x:=bL v.ha v.hx (by simp);exists v.hx,v.ha,af i,af i.symm;refine⟨by rw[fR];lia,fun p hp=>?_⟩;have Y:=v.put z.b z.t z.e (.int (n+z.w)) true;have F:=Y.Wt (putK z.Ag (ik z.b) (.bl true));have I:A_ x A H (upd (upd W x (.ins ax A.dx (aZ (.int z.R) (.ref A.pw) (.ref A.pm) (.ref A.pt) (.int z.b) (.int z.t) (.int z.e) (.int (n+z.w)) (.bl true) (.ref A.pk) (.ref A.pf) (.ref A.pa)))) A.pa (.dK (putK z.Ag (ik z.b) (.bl true)))):=fun b u e a1 C Q O E G y=>by rw[af y,af a1];exact X b u e a1
 exact q p _ (I.none F hp) (fun b u e a1 C Q O E G y=>aM (I b u e a1 C Q O E G y) hp) (F.same (ao hp)) ag
theorem ir:OM P w mg base T.iL d6 1 dU:=by
 exists 0,T.iL,d6,dU,(ah (aq (eU (fE vD (ai (pv 0) T.ak T.dF) bW) (o8 (fE Ah (pv 1) (ai (pv 0) T.ak T.dF))))));rename_i x n;obtain⟨A,z,r,i,hc,q⟩:=h;have hx:=i.hx;rcases hc with⟨hc,rfl⟩|⟨c,hc,rfl⟩
 ·rw[hc] at hx;exists hx;exact q
 ·rw[hc] at hx;exists hx;exact q
theorem xh:OM P w mg base T.qf fz 2 iR:=by
 exists 0,T.qf,fz,iR,(ae (aw 2 fz.1.nd (ai (pv 0) T.ak T.bB))
 (kr (aW (cu K HR (ai (pv 0) T.ak T.aI) (ai (pv 0) T.ak T.bB)) (ah (bh (bK (pv 0) T.ak (dy T) HR (cJ (pv 1))))) aC)
 (ae (Dd HR.units (ai (pv 0) T.ak T.ft) (pv 2) (pv 1))
 (ae (o7 (pv 0) aa T.ak T.bB pD)
 (ah (aq (bw (cb aU (pv 2)))))))))
 rename_i x n;obtain⟨A,z,v,hl,q⟩:=h;exists v.hx;refine⟨fun y H'=>jf x H H'/\qz H' x A {z with clk:=if z.b=z.t then .int (n+z.w) else z.clk}/\y= [some (.ref x),some (.int n),some (.int z.t)],?_,?_⟩
 ·exists v.hx;by_cases c:z.b=z.t
  ·rw[bc c,bc c];exact⟨A,z,v,fun H' E Y=>⟨E,Y⟩⟩
  ·rw[a5 c,a5 c];exact⟨jf.refl,v⟩
 rintro y W ⟨E,i,rfl⟩;generalize(if z.b=z.t then V.int (n+z.w) else z.clk)=ck at*
 have C:A.pf≠x:=bL v.hf v.hx (by simp);exists i.hx,i.hf,af C.symm;refine⟨by rw[fR];lia,fun p hp=>?_⟩;have X:=i.row (u:= .dK (putK z.Fi (ik z.t) (.int n))) i.hf z.T z.Kn (putK z.Fi (ik z.t) (.int n)) (by simp) (by simp) (by rw[af (bL i.ht i.hf (by simp))];exact i.ht) (by rw[af i.kf];exact i.hk) ag i.fa;have O:=X.put z.b (z.t+1) z.e ck z.hur;have fr:ye x A H (upd (upd W A.pf (.dK (putK z.Fi (ik z.t) (.int n)))) x (.ins ax A.dx (aZ (.int z.R) (.ref A.pw) (.ref A.pm) (.ref A.pt) (.int z.b) (.int (z.t+1)) (.int z.e) ck (.bl z.hur) (.ref A.pk) (.ref A.pf) (.ref A.pa)))):=fun b u e a1 G U Q I F=>by rw[af a1,af F];exact E b u e a1
 exact q p _ (fr.none O hp) (fun b u e a1 G U Q I F=>aM (fr b u e a1 G U Q I F) hp) (O.same (ao hp)) ag
theorem o_:OM P w mg base T.iM d7 3 dW:=by
 exists 0,T.iM,d7,dW,(ae (aW (a_ mi (ai (pv 0) T.ak T.dF) bW) (ae (bh (bK (pv 0) T.ak (dy T) HR (cJ (pv 1))))
 (aj (ah (aq bW)))) aC)
 (aj (ae (aW (dE (jY (bK (pv 0) T.ak (ir T) HR (cJ (pv 1))))) (ah (aq bW)) aC)
 (aj (ae (bh (bI (ai (pv 0) T.ak T.eG) T.bC (pY T) HR))
 (aj (ae (bh (bK (pv 0) T.ak (dy T) HR (cJ (pv 1))))
 (aj (ah (aq (bw (cb aU bW))))))))))))
 rename_i x n;obtain⟨A,z,v,hc,q⟩:=h;exists 6,u1;exists 6,u2;exists v.hx;by_cases C:z.clk = .non
 ·rw[bc C];refine⟨A,z,v,fun Q F E=>?_⟩;exists 7,u1;exists 9;exact q .non Q _ (fun b u e a1 _ _ _ _ _ _=>F b u e a1) E (.inl ⟨C,rfl,rfl⟩)
 rw[a5 C];obtain⟨i,I⟩:∃i,z.clk = .int i:=hc.resolve_left C;exists 8,u2,u3;exists v.hx;refine⟨A,z,_,v,.inr ⟨i,I,rfl⟩,?_⟩;by_cases O:i<=n
 ·rw[a5 (by simpa using O)];exists 8,u3,u4;obtain⟨s0,y,Y,hw⟩:=v.ws.ran;exists v.hx,Y;refine⟨A.dw,z.L,s0,y,z.w,rfl,?_⟩;have E:=v.ways jf.upd hw;have b1:jf A.pw H (upd H A.pw (.ins aX A.dw (bO (V.int z.L) s0 y (V.int (if z.L<2*z.w then z.L else 2*z.w))))):=jf.upd;generalize upd H A.pw (.ins aX A.dw (bO (V.int z.L) s0 y (V.int (if z.L<2*z.w then z.L else 2*z.w))))=Q at*
  exists 8,u4,u5;exists E.hx;refine⟨A,_,E,fun H2 F U=>?_⟩;exists 7,u5;exists 9;intro p hp;have W:A_ x A H H2:=fun b u e a1 G _ _ _ _ _=>F b u (b1 b u e G) a1;exact q (.ref p) _ _ (fun b u e a1 G a3 a4 X Z a7=>aM (W b u e a1 G a3 a4 X Z a7) hp) (U.same (ao hp)) (.inr (.inr ⟨i,I,O,rfl,p,rfl,W.none U hp,ag⟩))
 ·rw[bc (by simpa using O)];exact q .non H z (fun b u e _ _ _ _ _ _ _=>e) v (.inr (.inl ⟨i,I,by lia,rfl,rfl⟩))
theorem Dz:OM P w mg base T.yF oW 4 oI:=by
 exists 0,T.yF,oW,oI,(ae (aW (PW.pt (pw_and (a_ jr (ai (pv 0) T.ak T.aI) (ai (pv 0) T.ak T.bB)) (pw_and1 (jY (bK (pv 0) T.ak (ir T) HR (cJ (pv 1))))))) (ae (bh (bI (ai (pv 0) T.ak T.eG) T.bC (pY T) HR))
 (aj (ae (bh (bI (ai (pv 0) T.ak T.fq) T.bF (xj T) HR))
 (aj (ah (aq (bK (pv 0) T.ak (kX T) HR (cJ (pv 1))))))))) aC)
 (aj (ae (aW (jY (bI (pv 0) T.ak (o9 T) HR)) (ae (bh (bI (ai (pv 0) T.ak T.fq) T.bF (xk T) HR))
 (aj (ah (aq (bK (pv 0) T.ak (kX T) HR (cJ (pv 1))))))) aC)
 (aj (ae (aW (jY (bI (pv 0) T.ak (q_ T) HR)) (ah (aq (bK (pv 0) T.ak (xh T) HR (cJ (pv 1))))) aC)
 (aj (ae (aW (PW.pt (pw_and (jY (bI (pv 0) T.ak (iI T) HR)) (pw_and1 (cu K HR (ai (pv 0) T.ak T.aI) (ai (pv 0) T.ak T.bB))))) (ah (aq (bK (pv 0) T.ak (o_ T) HR (cJ (pv 1))))) aC)
 (ah (aq bW)))))))))
 rename_i x n;obtain⟨A,z,Z,hb,hc,hAg,hFi,q⟩:=h;exists 6,ua;exists 6,u1;obtain⟨s0,Y,ew,hw⟩:=Z.ws.ran;exists Z.hx,ew;have C:(z.b<z.t->GR z.clk n=false)->u1 {nx:=fun _ H'=>Q .non H',rt:=Q} [some (.ref x),some (.int n)] H:=by
  intro G;exists 8,u1,ub;exists 6,u2;exists Z.hx;refine⟨A,z,Z,hb,fun W I=>?_⟩;have F:=Z.same I;obtain⟨em,hi⟩:=F.ms;have ehd:He z=(decide (z.b<z.t) && !z.hur&&decide ((2:Int)<=kab z)):=rfl;rw[<-ehd];cases hh:He z
  ·rw[a5 (by decide)];exists 8,u2,u3;exists F.hx;refine⟨A,z,F,hb,fun H2 X=>?_⟩;have y:=F.same X;have O:A_ x A H H2:=fun b u e _ _ _ _ _ _ _=>X _ _ (I _ _ e);have U:∀p,H2 p=none->H p=none:=fun p hp=>by
    cases e:H p with
    |none=>rfl
    |some u=>rw[X _ _ (I _ _ e)] at hp;cases hp
   have enm:pq z=(decide (z.t<z.T.length)&&decide (z.t<z.e)&&decide (z.t-z.b-kab z<z.wi)):=rfl;rw[<-enm];cases hn:pq z
   ·rw[a5 (by decide)];exists 7,u3;exists y.hx;refine⟨A,z,y,?_⟩;have qn: ¬(z.t<z.T.length/\z.b=z.t)->Q .non H2:=fun hno2=>q .non H2 z O y (.inr ⟨G,.inr ⟨hh,.inr ⟨hn,.inr ⟨hno2,rfl,rfl⟩⟩⟩⟩);by_cases c1:z.t<z.T.length
    ·by_cases c2:z.b=z.t
     ·rw[bc c1,bc c2];exact⟨A,z,y,hc,fun v H' z' fr S' g=>q v H' z' (O.trans fr) S' (.inr ⟨G,.inr ⟨hh,.inr ⟨hn,.inl ⟨c1,c2,g.fr U⟩⟩⟩⟩)⟩
     ·rw[bc c1,a5 c2];exact qn fun c=>c2 c.2
    ·rw[a5 c1];exact qn fun c=>c1 c.1
   ·rw[bc rfl];exists y.hx;refine⟨A,z,y,hFi,fun p H3 hp fr S3 E=>?_⟩;exact q (.ref p) H3 _ (O.trans fr.seven) S3 (.inr ⟨G,.inr ⟨hh,.inl ⟨hn,rfl,p,rfl,U p hp,E⟩⟩⟩)
  ·rw[bc rfl];exists F.hx,em;refine⟨A.dm,z.mo,z.wi,z.kn,z.co,rfl,?_⟩;have hh1:1<=MeterM.hf z.wi/\MeterM.hf z.wi<=z.mo:=MeterM.U1 hi.1 hi.2.1;have y:=F.meter (H':=upd W A.pm (.ins aK A.dm (aV (.int z.mo) (.int (MeterM.hf z.wi)) (.int (MeterM.hf z.wi)) (.int 0)))) jf.upd ⟨ag,⟨hh1.1,hh1.2,t6 _,by show(0:Int)<MeterM.hf z.wi;lia⟩⟩;have O:A_ x A H (upd W A.pm (.ins aK A.dm (aV (.int z.mo) (.int (MeterM.hf z.wi)) (.int (MeterM.hf z.wi)) (.int 0)))):=fun b u e _ _ a3 _ _ _ _=>by rw[af a3];exact I b u e
   generalize upd W A.pm (.ins aK A.dm (aV (.int z.mo) (.int (MeterM.hf z.wi)) (.int (MeterM.hf z.wi)) (.int 0)))=H2 at*
   exists 7,ub;exists y.hx;refine⟨A,_,y,hAg,fun p H3 hp fr S3 E=>?_⟩;exact q (.ref p) H3 _ (O.trans fr) S3 (.inr ⟨G,.inl ⟨hh,rfl,p,rfl,O.none y hp,E⟩⟩)
 by_cases c0:z.b<z.t
 ·rw[bc c0];have hr:W_ z.clk n (GR z.clk n):=by
   rcases hc with h|⟨i,h⟩
   ·exact .inl ⟨h,by rw[h];rfl⟩
   ·exact .inr ⟨i,h,by rw[h];rfl⟩
  refine⟨A,z,_,Z,hr,?_⟩;cases ho:GR z.clk n
  ·rw[a5 (by decide)];exact C fun _=>ho
  ·rw[bc rfl];refine⟨A.dw,z.L,s0,Y,z.w,rfl,?_⟩;have F:=Z.ways jf.upd hw;have b1:jf A.pw H (upd H A.pw (.ins aX A.dw (bO (V.int z.L) s0 Y (V.int (if z.L<2*z.w then z.L else 2*z.w))))):=jf.upd;generalize upd H A.pw (.ins aX A.dw (bO (V.int z.L) s0 Y (V.int (if z.L<2*z.w then z.L else 2*z.w))))=W at*
   obtain⟨em,hi⟩:=F.ms;exists 8,ua,ud;exists F.hx,em;refine⟨A.dm,z.mo,z.wi,z.kn,z.co,rfl,?_⟩;have y:=F.meter (H':=upd W A.pm (.ins aK A.dm (aV (.int z.mo) (.int 1) (.int (MeterM.hf z.wi)) (.int 0)))) jf.upd ⟨ag,⟨t6 _,Int.le_trans hi.1 hi.2.1,t6 _,by show(0:Int)<1;lia⟩⟩;have O:A_ x A H (upd W A.pm (.ins aK A.dm (aV (.int z.mo) (.int 1) (.int (MeterM.hf z.wi)) (.int 0)))):=fun b u e _ a2 a3 _ _ _ _=>by rw[af a3];exact b1 b u e a2
   generalize upd W A.pm (.ins aK A.dm (aV (.int z.mo) (.int 1) (.int (MeterM.hf z.wi)) (.int 0)))=H2 at*
   exists 7,ud;exists y.hx;refine⟨A,_,y,hAg,fun p H3 hp fr S3 E=>?_⟩;exact q (.ref p) H3 _ (O.trans fr) S3 (.inl ⟨c0,ho,rfl,p,rfl,O.none y hp,E⟩)
 ·rw[a5 c0];exact C fun c=>absurd c c0
theorem y8:OM P w mg base T.rQ c9 4 jI:=by
 exists 0,T.rQ,c9,jI,(ae (aw 5 c9.1.nd (aO (E6 T) HR (bq (ai (pv 0) T.ak T.tF) (cb (ai (pv 0) T.ak T.aI) (pv 1)))))
 (aj (ae (aW (a_ qY (pv 5) (au cM (ai (pv 0) T.ak T.bB) (ai (pv 0) T.ak T.aI))) (ah (aq (fh gU))) aC)
 (aj (ae (aw 6 c9.1.nd (aF K (bK (pv 0) T.ak (sL T) HR (cJ (pv 5))) (bK (pv 0) T.ak (sJ T) HR (cJ (pv 3)))))
 (aj (ae (aB (pv 0) (aD (oi rfl) (by rfl) T.CJ yc (cb (ai (pv 0) T.ak T.gy) (aF K (ai (pv 0) T.ak T.aI) (pv 2)))) T.ak T.gy)
 (aj (ae (eS j1 rfl (cL K rfl (pv 6)) (aJ 7 c9.1.nd) (ah (aW (wY (GQ HR.units (pv 7) (ai (pv 0) T.ak T.gi)) (ji rfl)) (ah (bh (bK (ai (pv 0) T.ak T.eG) T.bC (xb T) HR (cJ (au cM (pv 4) (MC HR.units (ai (pv 0) T.ak T.ft) (pv 7) (fun _ _=>rfl))))))) aC)))
 (aj (ae (bh (bK (ai (pv 0) T.ak T.fq) T.bF (Am T) HR (cJ (aD (eL K rfl) (by rfl) T.j_ gj (cJ (pv 6))))))
 (aj (ae (aW (a_ qY (pv 5) aa) (ae (aB (pv 0) (jq (a_ jr (ai (pv 0) T.ak T.aI) (ai (pv 0) T.ak T.bB)) (aF K (pv 4) (ai (ai (pv 0) T.ak T.eG) T.bC T.gY)) bW) T.ak T.dF)
 (ah (aB (pv 0) dg T.ak T.c6))) aC)
 (ah (aq (pv 6))))))))))))))))
 rename_i x nu rm hd tn;obtain⟨A,z,hs,hS,hb,hR,hhd,hsl,hnd,Q3,hT,hkl,ht,hk,q⟩:=h;exists 6,u0;exists hS.hx;refine⟨hR,?_⟩;exists 8,u0,u1;exists hS.hx;have ef:(nu-z.b) % z.R=far' z nu:=rfl;rw[ef];have far0:0<=far' z nu:=ny _ (by lia);by_cases c0:z.t-z.b<far' z nu
 ·rw[bc c0];intro p hp;exact q p _ hp (fun b u e _ _ _ _ _ _ _=>aM e hp) (.inl ⟨c0,ao hp,ag⟩)
 rw[a5 c0];have b0:=hb.b0;have bt:=hb.bt;exists 8,u1,u2;exists hS.hx;refine⟨A,z,hS,hb,⟨far0,by lia⟩,by lia,fun fs p H1 efs hp fr S1 l1=>?_⟩;obtain rfl:fs=wF z nu:=efs;replace S1:qz H1 x A (kC z nu):=S1;have hd1:=fr.tup hS hhd;have npt:p≠A.pt:=fun c=>by rw[c,hS.ht] at hp;cases hp
 have fl1:(wF z nu).length<=430:=by
  have h1:(wF z nu).length<=(irg z.b (far' z nu).toNat).length:=j0 _ _;have h2:(irg z.b (far' z nu).toNat).length=(far' z nu).toNat:=by unfold irg;rw[cF,p6]
  lia
 have kl1:(kC z nu).Kn.length<=z.Kn.length+(wF z nu).length:=o5;exists S1.hx;refine⟨A,_,hs,S1,hd1,by lia,by lia,fun fs2 p2 H2 efs2 hp2 fr2 S2 l2=>?_⟩;obtain rfl:fs2=vb z nu hs:=efs2;have l12:=fr2.lst S1 l1 npt;have fl2:(vb z nu hs).length<=100:=by
  have h1:(vb z nu hs).length<=(hld (kC z nu) hs).length:=j0 _ _;have h2:=DP (z:=kC z nu) (hs:=hs);lia
 refine A4 l12 l2 (aR (by rw[cF,cF];lia)) fun F hp3=>?_;have fr3:ye x A H H2:=fr.trans fr2;have hp30:=fr3.none S2 hp3;have S3:=S2.same (ao (o:= .lst ((wF z nu).map V.int++(vb z nu hs).map V.int)) hp3);have f3:ye x A H (upd H2 F (.lst ((wF z nu).map V.int++(vb z nu hs).map V.int))):=fun b u e a1 I O W U Z=>aM (fr3 b u e a1 I O W U Z) hp3;have l3:upd H2 F (.lst ((wF z nu).map V.int++(vb z nu hs).map V.int)) F=some (.lst ((wF z nu++vb z nu hs).map V.int)):=by rw[ag,Xh]
 generalize upd H2 F (.lst ((wF z nu).map V.int++(vb z nu hs).map V.int))=H3 at*
 exists 8,u2,u3;exists S3.hx;have tN:((z.t.toNat:Nat):Int)=z.t:=by lia
 have i1:∀a∈wF z nu,knw z.Kn a=false/\0<=a/\a<((z.t.toNat:Nat):Int):=fun a ha=>by
  obtain⟨m1,m2⟩:=zN ha;have:=IE m1;exact⟨m2,by lia,by lia⟩
 have i2:∀a∈vb z nu hs,knw (kC z nu).Kn a=false/\0<=a/\a<((z.t.toNat:Nat):Int):=fun a ha=>by
  obtain⟨m1,m2⟩:=zN ha;obtain⟨h1,k,hk1,rfl⟩:=IG m1;have h2:=Q3 k hk1;have h3:(kC z nu).b=z.b+far' z nu:=rfl;have h4:(kC z nu).t=z.t:=rfl;exact⟨m2,by lia,by lia⟩
 have n1:(wF z nu).Nodup:=X0 _ Cc;have n2:(vb z nu hs).Nodup:=X0 _ (Ce hnd);have c1:=wq n1 i1;have c2:=wq n2 i2;have c3:=N2 (D:=putAll (kC z nu).Kn (vb z nu hs)) (t:=z.t.toNat);have tot:z.k+((wF z nu).length+(vb z nu hs).length)<=430:=by
  have e1:cnt (kC z nu).Kn z.t.toNat=cnt (putAll z.Kn (wF z nu)) z.t.toNat:=rfl;lia
 have hpl:∀a∈wF z nu++vb z nu hs,0<=a/\a<z.t:=fun a ha=>by
  rcases gs.mp ha with h|h
  ·have:=i1 a h;lia
  ·have:=i2 a h;lia
 have efl:(wF z nu++vb z nu hs).length=(wF z nu).length+(vb z nu hs).length:=ey;clear c1 c2 c3 i1 i2 n1 n2;have S4:=S3.put (kC z nu).b (kC z nu).t (if(kC z nu).e<(kC z nu).b+rm then(kC z nu).b+rm else(kC z nu).e) (kC z nu).clk (kC z nu).hur;have n3x:F≠x:=bL l3 S3.hx (by simp);generalize hE:(if(kC z nu).e<(kC z nu).b+rm then(kC z nu).b+rm else(kC z nu).e)=e' at*
 have l4:upd H3 x (HO.ins ax A.dx (aZ (V.int (kC z nu).R) (V.ref A.pw) (V.ref A.pm) (V.ref A.pt) (V.int (kC z nu).b) (V.int (kC z nu).t) (V.int e') (kC z nu).clk (V.bl (kC z nu).hur) (V.ref A.pk) (V.ref A.pf) (V.ref A.pa))) F=some (.lst ((wF z nu++vb z nu hs).map V.int)):=by rw[af n3x];exact l3
 have f4:ye x A H (upd H3 x (HO.ins ax A.dx (aZ (V.int (kC z nu).R) (V.ref A.pw) (V.ref A.pm) (V.ref A.pt) (V.int (kC z nu).b) (V.int (kC z nu).t) (V.int e') (kC z nu).clk (V.bl (kC z nu).hur) (V.ref A.pk) (V.ref A.pf) (V.ref A.pa)))):=fun b u e a1 I O W U Z=>by rw[af a1];exact f3 b u e a1 I O W U Z
 generalize upd H3 x (HO.ins ax A.dx (aZ (V.int (kC z nu).R) (V.ref A.pw) (V.ref A.pm) (V.ref A.pt) (V.int (kC z nu).b) (V.int (kC z nu).t) (V.int e') (kC z nu).clk (V.bl (kC z nu).hur) (V.ref A.pk) (V.ref A.pf) (V.ref A.pa)))=H4 at*
 obtain⟨v,C⟩:∃v:Sd,v=⟨z.R,z.b+far' z nu,z.t,e',z.clk,z.hur,z.T,putAll (kC z nu).Kn (vb z nu hs),z.Fi,z.Ag,z.L,z.w,z.k,z.wi,z.g,z.mo,z.kn,z.co⟩:=⟨_,rfl⟩;replace S4:qz H4 x A v:=by rw[C];exact S4
 have e4F:v.Fi=z.Fi:=by rw[C]
 have e4k:v.k=z.k:=by rw[C]
 have e4A:v.Ag=z.Ag:=by rw[C]
 have e4L:v.L=z.L:=by rw[C]
 have e4w:v.w=z.w:=by rw[C]
 have e4g:v.g=z.g:=by rw[C]
 have Y:v.mo=z.mo/\v.wi=z.wi/\v.kn=z.kn/\v.co=z.co:=by rw[C];exact⟨rfl,rfl,rfl,rfl⟩
 clear S3 S2 S1 l3 f3 l1 l12 l2;exists 8,u3,u4;exists 9;generalize hfs:wF z nu++vb z nu hs=fs at*
 have kk:∀{i:Nat} {c:Int},fs[i]?=some c->mall z tn (fs.take (i+1))=Lh z tn (mall z tn (fs.take i)) c:=fun{i c} hc=>by
  rw[ON,hc];exact Kt
 have S40:qz H4 x A {v with w:=z.w,g:=z.g,k:=z.k}:=by
  have e:({v with w:=z.w,g:=z.g,k:=z.k}:Sd)=v:=by rw[C]
  rw[e];exact S4
 refine pF (xs:=fs.map V.int) (cI.of l4) (fun i σ H'=> ∃v7,(mall z tn (fs.take i)).2.2<=z.k+i/\ye x A H H'/\H' F=some (.lst (fs.map V.int))/\qz H' x A {v with w:=(mall z tn (fs.take i)).1,g:=(mall z tn (fs.take i)).2.1,k:=(mall z tn (fs.take i)).2.2}/\σ= [some (.ref x),some (.int nu),some (.int rm),some (.ref hd),some (.int tn),some (.int (far' z nu)),some (.ref F),v7]) ⟨none,by show z.k<=z.k+0;lia,f4,l4,S40,rfl⟩ (fun i σ H' _ hp=>by obtain⟨_,_,_,hh,_⟩:=hp;exact cI.of hh) (fun i y σ H5 hy hp=>?_) (fun σ H5 hp=>?_)
 ·obtain⟨v7,kle,f5,l5,G,rfl⟩:=hp;obtain⟨c,rfl,hci⟩:=rf hy;have il:i<fs.length:=(ek.mp hci).1;obtain⟨c0',c1'⟩:=hpl c (XB hci);obtain⟨f,hf,g0,g1⟩:=hT c c0' c1';obtain⟨s0,sp0,ew⟩:=G.ws.ins;have hf5:=G.hf;have ha5:=G.ha;have ff:Qd z c=f:=by unfold Qd;rw[hf]
  rw[kk hci];generalize mall z tn (fs.take i)=s at*
  exists G.hx,ha5,hf5,ew;cases ea:(bj v.Ag (ik c)).isSome
  ·have e1:Lh z tn s c=(mws z.L (mgs s.2.1 (tn-f)),mgs s.2.1 (tn-f),s.2.2+1):=by
    unfold Lh knw;rw[<-e4A,ea,ff];rfl
   rw[bc rfl,e1];refine⟨_,by rw[e4F];exact hf,?_⟩;exists 9;exact WS.meas (E:=E0) (Q:=fun _ H'=> ∃v7,s.2.2+1<=z.k+(i+1)/\ye x A H H'/\H' F=some (.lst (fs.map V.int))/\qz H' x A {v with w:=mws z.L (mgs s.2.1 (tn-f)),g:=mgs s.2.1 (tn-f),k:=s.2.2+1}/\([some (.ref x),some (.int nu),some (.int rm),some (.ref hd),some (.int tn),some (.int (far' z nu)),some (.ref F),some (.int c)]:St)= [some (.ref x),some (.int nu),some (.int rm),some (.ref hd),some (.int tn),some (.int (far' z nu)),some (.ref F),v7]) G.ws (by show s.2.2<=440;lia) g0 g1 (fun H6 hB hw=>⟨_,by lia,fun b u e a1 I O W U Z=>hB _ _ (f5 b u e a1 I O W U Z) I,hB _ _ l5 (G.nw l5 (by simp)).2.1,by rw[<-e4L];exact G.ways hB hw,rfl⟩)
  ·have e1:Lh z tn s c=s:=by
    unfold Lh knw;rw[<-e4A,ea];rfl
   rw[a5 (by decide),e1];exact⟨_,by lia,f5,l5,G,rfl⟩
 obtain⟨v7,kle,f5,l5,G,rfl⟩:=hp;rw[cF,AB] at G;obtain⟨em,hi⟩:=G.ms;exists 8,u4,u5;exists G.hx,l5,em;refine⟨by rw[cF];lia,A.dm,v.mo,v.wi,v.kn,v.co,rfl,?_⟩;have elen:((fs.map V.int).length:Int).toNat=fs.length:=by rw[cF];lia
 rw[elen];have hst0:MeterM.kn v.mo v.kn fs.length (v.wi,v.co)=MeterM.kn z.mo z.kn fs.length (z.wi,z.co):=by rw[Y.1,Y.2.1,Y.2.2.1,Y.2.2.2]
 rw[hst0];generalize hst:MeterM.kn z.mo z.kn fs.length (z.wi,z.co)=st at*
 have hin:MeterM.TX v.mo st:=by rw[<-hst0];exact MeterM.inb _ _ hi
 have S6:=G.meter (H':=upd H5 A.pm (.ins aK A.dm (aV (.int v.mo) (.int st.1) (.int v.kn) (.int st.2)))) jf.upd ⟨ag,hin⟩;have l6:upd H5 A.pm (.ins aK A.dm (aV (.int v.mo) (.int st.1) (.int v.kn) (.int st.2))) F=some (.lst (fs.map V.int)):=by rw[af (G.nw l5 (by simp)).2.2];exact l5
 have f6:ye x A H (upd H5 A.pm (.ins aK A.dm (aV (.int v.mo) (.int st.1) (.int v.kn) (.int st.2)))):=fun b u e a1 I O W U Z=>by rw[af O];exact f5 b u e a1 I O W U Z
 generalize upd H5 A.pm (.ins aK A.dm (aV (.int v.mo) (.int st.1) (.int v.kn) (.int st.2)))=H6 at*
 clear G S4 l5 f5 em;obtain⟨s0,sp0,ew⟩:=S6.ws.ins;have hE':e'=if z.e<z.b+far' z nu+rm then z.b+far' z nu+rm else z.e:=hE.symm;exists 7,u5;exists S6.hx,ew;subst C;have X:fsh z nu hs=fs:=hfs;by_cases d0:0<far' z nu
 ·rw[bc d0];have fin:∀c:V,c=(if z.b+far' z nu<z.t then .int (tn+(mall z tn fs).1) else .non)->Q (.ref F) (upd H6 x (HO.ins ax A.dx (aZ (V.int z.R) (V.ref A.pw) (V.ref A.pm) (V.ref A.pt) (V.int (z.b+far' z nu)) (V.int z.t) (V.int e') c (V.bl false) (V.ref A.pk) (V.ref A.pf) (V.ref A.pa)))):=fun c hcu=>by
   have S7:=S6.put (z.b+far' z nu) z.t e' c false;refine q F _ hp30 (fun b u e a1 I O W U Z _=>by rw[af a1];exact f6 b u e a1 I O W U Z) (.inr ⟨by lia,?_,by rw[af n3x,X];exact l6⟩);unfold hrd;rw[X,bc d0,bc d0,hst,<-hcu,<-hE'];exact S7
  by_cases d1:z.b+far' z nu<z.t
  ·rw[bc d1] at fin⊢;exact fin _ rfl
  ·rw[a5 d1] at fin⊢;exact fin _ rfl
 ·rw[a5 d0];refine q F _ hp30 f6.seven (.inr ⟨by lia,?_,by rw[X];exact l6⟩);unfold hrd;rw[X,a5 d0,a5 d0,hst,<-hE'];exact S6
theorem uB:OM P w mg base T.mH gQ 3 gK:=by
 exists 0,T.mH,gQ,gK,(ae (aB (pv 0) (pv 1) T.ak T.tF)
 (ae (aB (pv 0) (uu T.bC (xc T) HR (by decide) rfl (cb (pv 2) (pv 3))) T.ak T.eG)
 (aj (ae (aB (pv 0) (uu T.bF (vI T) HR (by decide) rfl (cJ (pv 4))) T.ak T.fq)
 (aj (ae (aB (pv 0) (fh gU) T.ak T.gE)
 (ae (aB (pv 0) aa T.ak T.aI)
 (ae (aB (pv 0) aa T.ak T.bB)
 (ae (aB (pv 0) aa T.ak T.gy)
 (ae (aB (pv 0) bW T.ak T.dF)
 (ae (aB (pv 0) dg T.ak T.c6)
 (aj (ae (aB (pv 0) vA T.ak T.cZ)
 (aj (ae (aB (pv 0) vA T.ak T.ft)
 (aj (ah (aB (pv 0) vA T.ak T.gi))))))))))))))))))
 rename_i x r f l m;obtain⟨hf,dx,hx,q⟩:=h;exists 6,u1;exists hx;intro pw dw F ndw new;refine⟨dw,rfl,?_⟩;have i:x≠pw:=(fresh_ne F).symm;have ndx:x≠dw:=(fresh_ne ndw).symm;exists af i,af ndx;obtain⟨W,e1⟩:∃W,W=upd (upd (upd (upd H x (.ins ax dx (g8 (.int r)))) dw (.own pw)) pw (.ins aX dw (bO (.int l) .non .non (.int f)))) x (.ins ax dx (jv (.int r) (.ref pw))):=⟨_,rfl⟩;rw[<-e1];rw[af i.symm] at F;rw[af ndx.symm] at ndw;have Z:W x=some (.ins ax dx (jv (.int r) (.ref pw))):=by rw[e1];exact ag
 have w1:W pw=some (.ins aX dw (bO (.int l) .non .non (.int f))):=by rw[e1,af i.symm];exact ag
 have b1:jf x H W:=fun b o e n=>by rw[e1,af n,af (ar e F),af (ar e ndw),af n];exact e
 clear e1;exists 8,u1,u2;exists 9;intro pm dm G ndm nem;refine⟨dm,rfl,?_⟩;have u:x≠pm:=ar Z G;have ndx2:x≠dm:=ar Z ndm;exists af u,af ndx2,Z;obtain⟨O,e2⟩:∃O,O=upd (upd (upd W dm (.own pm)) pm (.ins aK dm (aV (.int m) (.int (MeterM.mn 2 m)) (.int m) (.int 0)))) x (.ins ax dx (ju (.int r) (.ref pw) (.ref pm))):=⟨_,rfl⟩;rw[<-e2];have IF:O x=some (.ins ax dx (ju (.int r) (.ref pw) (.ref pm))):=by rw[e2];exact ag
 have m2:O pm=some (.ins aK dm (aV (.int m) (.int (MeterM.mn 2 m)) (.int m) (.int 0))):=by rw[e2,af u.symm];exact ag
 have b2:jf x W O:=fun b o e n=>by rw[e2,af n,af (ar e G),af (ar e ndm)];exact e
 have nwm:pw≠pm:=ar w1 G;have w2:=b2 _ _ w1 i.symm;clear e2;exists 8,u2,u3;exists 9;intro pt Y;have v:x≠pt:=ar IF Y;exists af v,IF;obtain⟨I,e3⟩:∃I,I=upd (upd O pt (.lst [])) x (.ins ax dx (jt (.int r) (.ref pw) (.ref pm) (.ref pt) (.int 0) (.int 0) (.int 1) .non (.bl false))):=⟨_,rfl⟩;rw[<-e3];have hx3:I x=some (.ins ax dx (jt (.int r) (.ref pw) (.ref pm) (.ref pt) (.int 0) (.int 0) (.int 1) .non (.bl false))):=by rw[e3];exact ag
 have t3:I pt=some (.lst []):=by rw[e3,af v.symm];exact ag
 have b3:jf x O I:=fun b o e n=>by rw[e3,af n,af (ar e Y)];exact e
 clear e3;exists 8,u3,u4;exists 9;intro pk npk;have z:x≠pk:=ar hx3 npk;exists af z,hx3;obtain⟨Q,e4⟩:∃Q,Q=upd (upd I pk (.dK [])) x (.ins ax dx (iA (.int r) (.ref pw) (.ref pm) (.ref pt) (.int 0) (.int 0) (.int 1) .non (.bl false) (.ref pk))):=⟨_,rfl⟩;rw[<-e4];have hx4:Q x=some (.ins ax dx (iA (.int r) (.ref pw) (.ref pm) (.ref pt) (.int 0) (.int 0) (.int 1) .non (.bl false) (.ref pk))):=by rw[e4];exact ag
 have k4:Q pk=some (.dK []):=by rw[e4,af z.symm];exact ag
 have b4:jf x I Q:=fun b o e n=>by rw[e4,af n,af (ar e npk)];exact e
 clear e4;exists 8,u4,u5;exists 9;intro pf E;have C:x≠pf:=ar hx4 E;exists af C,hx4;obtain⟨U,e5⟩:∃U,U=upd (upd Q pf (.dK [])) x (.ins ax dx (iz (.int r) (.ref pw) (.ref pm) (.ref pt) (.int 0) (.int 0) (.int 1) .non (.bl false) (.ref pk) (.ref pf))):=⟨_,rfl⟩;rw[<-e5];have hx5:U x=some (.ins ax dx (iz (.int r) (.ref pw) (.ref pm) (.ref pt) (.int 0) (.int 0) (.int 1) .non (.bl false) (.ref pk) (.ref pf))):=by rw[e5];exact ag
 have f5:U pf=some (.dK []):=by rw[e5,af C.symm];exact ag
 have b5:jf x Q U:=fun b o e n=>by rw[e5,af n,af (ar e E)];exact e
 clear e5;exists 7,u5;exists 9;intro pa y;have X:x≠pa:=ar hx5 y;exists af X,hx5;have b6:jf x U (upd (upd U pa (.dK [])) x (.ins ax dx (aZ (.int r) (.ref pw) (.ref pm) (.ref pt) (.int 0) (.int 0) (.int 1) .non (.bl false) (.ref pk) (.ref pf) (.ref pa)))):=fun b o e n=>by rw[af n,af (ar e y)];exact e
 have k5:=b5 _ _ k4 z.symm;have fr:∀b,b∈[pw,pm,pt,pk,pf,pa]->H b=none:=fun b hb=>by
  simp only[cR,d3,lj] at hb;have B2:jf x H O:=fun b o e n=>b2 _ _ (b1 b o e n) n;have B3:jf x H I:=fun b o e n=>b3 _ _ (B2 b o e n) n;have B4:jf x H Q:=fun b o e n=>b4 _ _ (B3 b o e n) n;have B5:jf x H U:=fun b o e n=>b5 _ _ (B4 b o e n) n;rcases hb with rfl|rfl|rfl|rfl|rfl|rfl
  ·exact F
  ·exact dG b1 u G
  ·exact dG B2 v Y
  ·exact dG B3 z npk
  ·exact dG B4 C E
  ·exact dG B5 X y
 refine q ⟨dx,pw,pm,pt,pk,pf,pa,dw,dm⟩ _ (fun b o e n=>b6 _ _ (b5 _ _ (b4 _ _ (b3 _ _ (b2 _ _ (b1 b o e n) n) n) n) n) n) fr ⟨ag,b6 _ _ (b5 _ _ (b4 _ _ t3 v.symm) v.symm) v.symm,b6 _ _ k5 z.symm,b6 _ _ f5 C.symm,by rw[af X.symm];exact ag,⟨by show 2<=l;lia,by show 2<=f/\f<=l;lia,.inl ⟨rfl,rfl,b6 _ _ (b5 _ _ (b4 _ _ (b3 _ _ w2 i.symm) i.symm) i.symm) i.symm⟩⟩,⟨b6 _ _ (b5 _ _ (b4 _ _ (b3 _ _ m2 u.symm) u.symm) u.symm) u.symm,?_⟩,ar k4 E,ar k5 y,ar f5 y,i,u,nwm⟩;show 1<=MeterM.mn 2 m/\MeterM.mn 2 m<=m/\(0:Int)<=0/\(0:Int)<MeterM.mn 2 m;unfold MeterM.mn;split<;>lia
theorem vG:OM P w mg base T.nX hX 1 hG:=by
 exists 0,T.nX,hX,hG,(ae (aB (pv 0) (pv 1) T.aQ T.pz)
 (ae (aB (pv 0) (pv 2) T.aQ T.vJ)
 (ae (aB (pv 0) aa T.aQ T.bY)
 (ae (aB (pv 0) aa T.aQ T.fo)
 (ah (aB (pv 0) vA T.aQ T.d9))))))
 rename_i x r m;obtain⟨dx,hx,q⟩:=h;exists hx;intro p1 h1;have n1:x≠p1:=(fresh_ne h1).symm;exists af n1;have k1:H p1=none:=by rw[af n1.symm] at h1;exact h1
 refine q p1 _ k1 ?_ ⟨ag,?_⟩
 ·intro b o u i;rw[af i,af (ar u k1),af i];exact u
 ·rw[af n1.symm,ag]
theorem cX:OM P w mg base T.mD gM 1 gH:=by
 exists 0,T.mD,gM,gH,(ah (aq (au cM (aF K (ai (pv 0) T.aQ T.fo) (ai (pv 0) T.aQ T.vJ)) (ai (pv 0) T.aQ T.bY))));rename_i x;obtain⟨dx,pk,z,i,q⟩:=h;exists i.hx;exact q
theorem nJ:OM P w mg base T.iD cD 1 dz:=by
 exists 0,T.iD,cD,dz,(ae (aw 1 cD.1.nd (fh gU))
 (ae (EZ j1 (wY (MF HR.units (ai (pv 0) T.aQ T.bY) (ai (pv 0) T.aQ T.d9)) (ji rfl)) (ae (bh (kU K rfl (pv 1) (MC HR.units (ai (pv 0) T.aQ T.d9) (ai (pv 0) T.aQ T.bY) (fun _ _=>rfl))))
 (ah (o7 (pv 0) aa T.aQ T.bY pD))))
 (ah (aq (pv 1)))))
 rename_i x;obtain⟨dx,pk,z,B,F,Q,U,q⟩:=h;exists 9;intro p hp;have y:p≠x:=(ar F.hx hp).symm;have I:p≠pk:=(ar F.hD hp).symm;have T1:=F.same (ao (o:= .lst []) hp);have l1:=ag (H:=H) (a:=p) (o:= .lst []);have X:Ji x pk H (upd H p (.lst [])):=fun b u e _ _=>aM e hp;generalize upd H p (.lst [])=Y at*
 refine⟨fun m σ H'=> ∃n:Nat,m=(B-(z.g+n)).toNat/\(∀j:Nat,j<n->(bj z.D (ik (z.g+j))).isSome=true)/\Ji x pk H H'/\Gd H' x dx pk {z with g:=z.g+n}/\H' p=some (.lst (vals z.D z.g n))/\σ= [some (.ref x),some (.ref p)],⟨_,0,rfl,fun j W=>by lia,X,by simpa using T1,by simpa [vals] using l1,rfl⟩,?_⟩;rintro m σ H' ⟨n,rfl,hn,O,i,hl,rfl⟩;exists i.hx,i.hD,hl,af y.symm;have hlen:(vals z.D z.g n).length=n:=by simp[vals]
 cases G:bj z.D (ik (z.g+n)) with
 |none=>
  rw[a5 (by simp)];exact q n p H' ⟨hn,G⟩ hp O i hl
 |some v=>
  rw[bc (by simp)];have Z:=Q _ (by rw[G];rfl);refine⟨fun E C=>C=upd (upd H' p (.lst (vals z.D z.g n++ [v]))) x (.ins bG dx (dH (.int z.R) (.int z.M) (.int (z.g+n+1)) (.int z.o) (.ref pk)))/\E= [some (.ref x),some (.ref p)],?_,?_⟩
  ·rintro E C ⟨rfl,rfl⟩;refine⟨(B-(z.g+(n+1:Nat))).toNat,by lia,n+1,rfl,?_,?_,⟨?_,?_⟩,?_,rfl⟩
   ·intro j W;by_cases c:j<n
    ·exact hn j c
    ·have:j=n:=by lia
     subst this;rw[G];rfl
   ·intro b u e k1 k2;rw[af k1,af (ar e hp)];exact O b u e k1 k2
   ·rw[ag];show some (HO.ins bG dx (dH _ _ (.int (z.g+n+1)) _ _))=some (HO.ins bG dx (dH _ _ (.int (z.g+((n+1:Nat):Int))) _ _));rw[show z.g+((n+1:Nat):Int)=z.g+n+1 by lia]
   ·rw[af F.n1,af I.symm];exact i.hD
   ·rw[af y,ag,wI G]
  ·refine⟨kG (cI.of hl),v,rfl,?_⟩;exists i.hx,af y.symm;rw[hlen,fR];lia
theorem Bl:OM P w mg base T.wb gv 2 mR:=by
 exists 0,T.wb,gv,mR,(ae (aw 3 gv.1.nd (aO (E6 T) HR (bq (ai (pv 0) T.aQ T.pz) (cb (ai (pv 0) T.aQ T.bY) (pv 1)))))
 (ae (aW (a_ Ah (pv 3) (bI (pv 0) T.aQ (cX T) HR)) (ah (aq (bw (cb bW (fh gU))))) aC)
 (ae (aw 4 gv.1.nd (aF K (ai (pv 0) T.aQ T.bY) (pv 3)))
 (ae (aW (wY (GQ HR.units (pv 4) (ai (pv 0) T.aQ T.d9)) (ji rfl)) (ah (Dd HR.units (ai (pv 0) T.aQ T.d9) (pv 4) (pv 2))) aC)
 (ah (aq (bw (cb (pv 4) (bI (pv 0) T.aQ (nJ T) HR)))))))))
 rename_i x m th;obtain⟨dx,pk,z,B,E,hR,W,G,Z,hlen,q⟩:=h;exists E.hx;refine⟨hR,dx,pk,z,E,?_⟩;rcases q with⟨c,q⟩|⟨c,q⟩
 ·rw[bc c];intro l hl p hp;exact q p l _ (fun b o e=>aM (aM e hl) hp) (zO (ao hl) hp) hl ag (aM ag hp)
 ·rw[a5 (by lia)];exists E.hD,E.hx;have y:∀{H':Hp} {p:Addr} {Y:Tk},Ji x pk H H'->Gd H' x dx pk Y->H' p=none->H p=none:=fun{H' p Y} fr T' hp=>by
   cases e:H p with
   |none=>rfl
   |some u=>
    have:=fr p u e (fun c=>by rw[c,T'.hx] at hp;cases hp) (fun c=>by rw[c,T'.hD] at hp;cases hp);rw[this] at hp;cases hp
  cases X:bj z.D (ik (z.g+(m-z.g) % z.R)) with
  |some v=>
   rw[a5 (by simp)];refine⟨dx,pk,z,B,E,W,G,fun n l H' I hl fr T' C p hp=>?_⟩;refine q z.D (by rw[X];rfl) n p l _ I (y fr T' hp) hl (fun c=>by rw[c,C] at hp;cases hp) (fun b u e k1 k2=>aM (fr b u e k1 k2) hp) (T'.same (ao hp)) (aM C hp) ag
  |none=>
   rw[bc (by simp)];exists E.hD,af E.n1.symm,E.hx;refine⟨by rw[fR];lia,?_⟩;have T1:Gd (upd H pk (.dK (putK z.D (ik (z.g+(m-z.g) % z.R)) (.ref th)))) x dx pk {z with D:=putK z.D (ik (z.g+(m-z.g) % z.R)) (.ref th)}:=⟨by rw[af E.n1.symm];exact E.hx,ag⟩;have O:∀i,(bj (putK z.D (ik (z.g+(m-z.g) % z.R)) (.ref th)) (ik i)).isSome=true->i<B:=fun i Q=>by
    rw[vd] at Q;split at Q
    ·rename_i ce;have:=Sum.inl.inj ce;lia
    ·exact W i Q
   refine⟨dx,pk,_,B,T1,O,G,fun n l H' I hl fr T' C p hp=>?_⟩;have F:Ji x pk H H':=fun b u e k1 k2=>fr b u (by rw[af k2];exact e) k1 k2;have U:H l=none:=by
    rw[af (fun c=>by rw[c,ag] at hl;cases hl)] at hl;exact hl
   exact q _ (by rw[X];rfl) n p l _ I (y F T' hp) U (fun c=>by rw[c,C] at hp;cases hp) (fun b u e k1 k2=>aM (F b u e k1 k2) hp) (T'.same (ao hp)) (aM C hp) ag
theorem y7:OM P w mg base T.rO gB 2 jG:=by
 exists 0,T.rO,gB,jG,(ae (Dc (i:=1) (N:=(["step","self"]:List Str)) (nv:=1) (ix:=[0]) rfl gB.1.nd rfl rfl (lJ (by kernel_rfl)) (si rfl T.eC (cb aa (bI (pv 0) T.aQ (cX T) HR))) (fun _ _ _ _ _=>(aJ 0 (show((["step","self"]:List Str)).Nodup by decide))) (fun _ _ _ _ _=>(md (wY (MF HR.units (aF K (ai (pv 1) T.aQ T.bY) (pv 0)) (ai (pv 1) T.aQ T.d9)) (ji rfl)))) (fun _ _ _ _ _=>(pv 0)))
 (ah (aq (bw (bq (au bp (ai (pv 0) T.aQ T.bY) (ai (pv 0) T.aQ T.pz)) (cb (bI (pv 0) T.aQ (cX T) HR) (uv (yP K rfl) (by rfl) T.sv oj (cJ (pv 1)))))))))
 rename_i x;obtain⟨dx,pk,z,u,G,Q,q⟩:=h;exists u.hx;refine⟨dx,pk,z,u,by lia,?_⟩;refine D9 (p:=fun v=>match v with | .int i=>(bj z.D (ik (z.g+i))).isSome|_=>false) (f:=fun v=>v) (aR (by lia)) ?_ ?_ ?_
 ·intro i I F C;exists u.hx,u.hD;exact C
 ·intro i I _ F C;exists 9;exact C
 rw[held_eq];have hlen:(yo z.D z.g (z.o+z.M-z.g-1).toNat).length<=1000:=by
  unfold yo;rw[cF];refine fv (j0 _ _) ?_;rw[p6];lia
 refine⟨aR (by rw[cF];exact hlen),fun l hl=>?_⟩;generalize E:yo z.D z.g (z.o+z.M-z.g-1).toNat=hs at*
 have T1:=u.same (ao (o:= .lst (hs.map V.int)) hl);have l1:=ag (H:=H) (a:=l) (o:= .lst (hs.map V.int));have y:=ao (o:= .lst (hs.map V.int)) hl;generalize upd H l (.lst (hs.map V.int))=O at*
 exists T1.hx;refine⟨G,dx,pk,z,T1,_,.inl ⟨cI.of l1,fun t ht p hp=>?_⟩⟩;exact q p t hs _ (fun b o e=>aM (aM (y b o e) ht) hp) rfl (zO (fun b o e=>aM (y b o e) ht) hp) (zO y ht) (aM ag hp) ag
theorem Bm:OM P w mg base T.wc gw 1 mS:=by
 exists 0,T.wc,gw,mS,(ae (aw 2 gw.1.nd (fh gU))
 (ae (eS j1 rfl (si rfl T.eC (cb (ai (pv 0) T.aQ T.fo) (aD (oh rfl) (by rfl) T.FZ A3 (cb (aF K (ai (pv 0) T.aQ T.fo) (pv 1)) (ai (pv 0) T.aQ T.bY))))) (aJ 3 gw.1.nd) (ah (bh (kU K rfl (pv 2) (Po (ai (pv 0) T.aQ T.d9) (pv 3))))))
 (ae (o7 (pv 0) (aD (eL K rfl) (by rfl) T.j_ gj (cJ (pv 2))) T.aQ T.fo pD)
 (ah (aq (pv 2))))))
 rename_i x m;obtain⟨dx,pk,z,O,hb,X,q⟩:=h;exists O.hx;intro p hp;have I:p≠x:=(ar O.hx hp).symm;have Q:p≠pk:=(ar O.hD hp).symm;have T1:=O.same (ao (o:= .lst []) hp);have l1:=ag (H:=H) (a:=p) (o:= .lst []);have F1:Ji x pk H (upd H p (.lst [])):=fun b u e _ _=>aM e hp;generalize upd H p (.lst [])=H1 at*
 exists T1.hx;refine⟨by constructor<;>(try constructor)<;>(try constructor)<;>(try split)<;>lia,?_⟩
 generalize hN:((if z.g<z.o+m then z.g else z.o+m)-z.o).toNat=N at*
 have hN2:z.o+N<=z.g:=by split at hN<;>lia
 refine pE (fun i σ H'=>i<=N/\∃(E:List (Key×V)) (W:Option V),(∀k:Int,bj E (ik k)=if z.o<=k/\k<z.o+i then none else bj z.D (ik k))/\E.Sublist z.D/\Ji x pk H H'/\Gd H' x dx pk {z with D:=E}/\H' p=some (.lst (vals z.D z.o i))/\σ= [some (.ref x),some (.int m),some (.ref p),W])
  ⟨kv _,z.D,none,fun k=>by rw[a5 (by lia)],List.Sublist.refl _,F1,T1,by simpa [vals] using l1,rfl⟩ (fun i σ H' hi F=>?_) (fun σ H' F=>?_)
 ·obtain⟨Y,E,W,C,G,U,y,hl,rfl⟩:=F;exists y.hx,y.hD,hl,af Q;obtain⟨v,Z⟩:=ro.mp (X (z.o+i) (by lia) (by lia));refine⟨kG (cI.of hl),v,by rw[C,a5 (by lia)];exact Z,?_⟩;refine⟨by simp[vals];rw[fR];lia,by lia,rG E (ik (z.o+i)),_,fun k=>?_,(show(rG E (ik (z.o+i))).Sublist E from X7).trans G,?_,⟨?_,?_⟩,by rw[wI Z],rfl⟩
  ·rw[Jl,C];by_cases c:k=z.o+i
   ·rw[bc (by rw[c]),bc (by lia)]
   ·rw[a5 (by intro q;exact c (Sum.inl.inj q))];by_cases c2:z.o<=k/\k<z.o+i
    ·rw[bc c2,bc (by lia)]
    ·rw[a5 c2,a5 (by lia)]
  ·intro b u e k1 k2;rw[af (ar e hp),af k2];exact U b u e k1 k2
  ·rw[af I.symm,af O.n1.symm];exact y.hx
  ·rw[af Q.symm,ag]
 ·obtain⟨Y,E,W,C,G,U,y,hl,rfl⟩:=F;exists y.hx,hl;have hlen:(vals z.D z.o N).length=N:=by simp[vals]
  rw[hlen];refine q N p E _ rfl hp C G ?_ (y.put z.R z.M z.g (z.o+N)) ?_
  ·intro b u e k1 k2;rw[af k1];exact U b u e k1 k2
  ·rw[af I];exact hl
theorem gW:OM P w mg base T.mI gR 1 gL:=by
 exists 0,T.mI,gR,gL,(ae (vy T.qC T.pN (pv 0) (pv 1))
 (ah (Mu T.qC T.qB (pv 0) (pv 2))))
 rename_i e v u;obtain⟨he,q⟩:=h;exists he;refine⟨e,rfl,he,fun d hd=>?_⟩;have nd:d≠e:=fun z=>by rw[z,he] at hd;cases hd
 refine⟨e,rfl,d,[(("state":Str),v)],ag,by rw[af nd];exact ag,rfl,(show 1<1000 by decide),?_⟩;have e2:upd (upd (upd H d (.xd [("state",v)])) e (.ext (tI e aL (some d)))) d (.xd ([(("state":Str),v)]++ [(("wish":Str),u)]))=upd (upd H d (.xd [("state",v),("wish",u)])) e (.ext (tI e aL (some d))):=by
  funext z;by_cases i:z=d
  ·subst i;rw[ag,af nd,ag];rfl
  ·rw[af i];by_cases x:z=e
   ·subst x;rw[ag,ag]
   ·rw[af x,af i,af x,af i]
 rw[e2];exact q d hd
theorem Dy:OM P w mg base T.yE oV 1 vg:=by
 exists 0,T.yE,oV,vg,(ah (aq aU));rename_i x;exists 9;exact h
theorem zd:OM P w mg base T.rX jX 1 pU:=by
 exists 0,T.rX,jX,pU,(ah (aq aU));rename_i x;exists 9;exact h
theorem DA:OM P w mg base T.yG oX 1 vh:=by
 exists 0,T.yG,oX,vh,(ah (aq aU));rename_i x;exists 9;exact h
theorem DB:OM P w mg base T.yH oY 1 vi:=by
 exists 0,T.yH,oY,vi,(ah (aq aU));rename_i x;exists 9;exact h
theorem za:OM P w mg base T.rT jV 1 pS:=by
 exists 0,T.rT,jV,pS,(ah (aq aU));rename_i x;exists 9;exact h
theorem y4:OM P w mg base T.rN jR 1 pP:=by
 exists 0,T.rN,jR,pP,(ah (aq aU));rename_i x;exists 9;exact h
theorem zc:OM P w mg base T.rW jW 1 pT:=by
 exists 0,T.rW,jW,pT,(ah (aq aU));rename_i x;exists 9;exact h
theorem uA:OM P w mg base T.mF gO 1 kL:=by
 exists 0,T.mF,gO,kL,(ah (aq (jZ T.g7 T.G6 rfl)));rename_i x;exists 9;exact fun y dx i nd _=>h y _ (cW i nd) ⟨_,dx,ag,.tail _ (.head _)⟩
theorem sP:OM P w mg base T.lI gg 1 j6:=by
 exists 0,T.lI,gg,j6,(ah (aq (jZ T.fH T.An rfl)));rename_i x;exists 9;exact fun y dx i nd _=>h y _ (cW i nd) ⟨_,dx,ag,.tail _ (.tail _ (.tail _ (.tail _ (.head _))))⟩
theorem xi:OM P w mg base T.qg i6 1 nq:=by
 exists 0,T.qg,i6,nq,(ah (aq (jZ T.fH T.An rfl)));rename_i x;exists 9;exact fun y dx i nd _=>h y _ (cW i nd) ⟨_,dx,ag,.tail _ (.tail _ (.tail _ (.tail _ (.head _))))⟩
theorem xl:OM P w mg base T.qj i9 1 nz:=by
 exists 0,T.qj,i9,nz,(ah (aq (jZ T.fJ T.Ao rfl)));rename_i x;exists 9;exact fun y dx i nd _=>h y _ (cW i nd) ⟨_,dx,ag,.tail _ (.tail _ (.tail _ (.tail _ (.tail _ (.tail _ (.head _))))))⟩
theorem Bn:OM P w mg base T.we mX 1 s_:=by
 exists 0,T.we,mX,s_,(ah (aq (jZ T.pC T.Iy rfl)));rename_i x;exists 9;exact fun y dx i nd _=>h y _ (cW i nd) ⟨_,dx,ag,.tail _ (.tail _ (.head _))⟩
theorem xq:OM P w mg base T.qp jc 1 nC:=by
 exists 0,T.qp,jc,nC,(ah (aq (jZ T.pC T.Iy rfl)));rename_i x;exists 9;exact fun y dx i nd _=>h y _ (cW i nd) ⟨_,dx,ag,.tail _ (.tail _ (.head _))⟩
theorem Bp:OM P w mg base T.wj mZ 1 tj:=by
 exists 0,T.wj,mZ,tj,(ah (aq (jZ T.rj T.PJ rfl)));rename_i x;exists 9;exact fun y dx i nd _=>h y _ (cW i nd) ⟨_,dx,ag,.tail _ (.tail _ (.tail _ (.head _)))⟩
theorem xn:OM P w mg base T.qk i_ 1 nB:=by
 exists 0,T.qk,i_,nB,(ah (aq (jZ T.fJ T.Ao rfl)));rename_i x;exists 9;exact fun y dx i nd _=>h y _ (cW i nd) ⟨_,dx,ag,.tail _ (.tail _ (.tail _ (.tail _ (.tail _ (.tail _ (.head _))))))⟩
theorem xf:OM P w mg base T.qe i5 1 nh:=by
 exists 0,T.qe,i5,nh,(ah (aq (jZ T.m9 T.DI rfl)));rename_i x;exists 9;exact fun y dx i nd _=>h y _ (cW i nd) ⟨_,dx,ag,.head _⟩
theorem sN:OM P w mg base T.lF gc 1 j4:=by
 exists 0,T.lF,gc,j4,(ah (aq (jZ T.gZ T.G5 rfl)));rename_i x;exists 9;exact fun y dx i nd _=>h y _ (cW i nd) ⟨_,dx,ag,.tail _ (.tail _ (.tail _ (.tail _ (.tail _ (.head _)))))⟩
theorem sO:OM P w mg base T.lG gf 1 j5:=by
 exists 0,T.lG,gf,j5,(ah (aq (jZ T.m9 T.DI rfl)));rename_i x;exists 9;exact fun y dx i nd _=>h y _ (cW i nd) ⟨_,dx,ag,.head _⟩
include T in theorem fj {C:Addr} (F:MethAt K C "begun" "State.begun" (ic 54 4)):MA P w K mg base C "begun" 1 ["self"] qM:=by
 exists 0,F,dB,qM,(ah (aq (pv 0)));rename_i x;exists 9;exact h
include T in theorem iq {C:Addr} (F:MethAt K C "ended" "State.ended" (ic 54 5)):MA P w K mg base C "ended" 1 ["self"] qL:=by
 exists 0,F,fe,qL,(ah (aq (pv 0)));rename_i x;exists 9;exact h
include T in theorem dh {C:Addr} (F:MethAt K C "answered" "State.answered" (ic 54 6)):MA P w K mg base C "answered" 1 ["self"] lX:=by
 exists 0,F,cE,lX,(ah (aq (pv 0)));rename_i x;exists 9;exact h
theorem uC:OM P w mg base T.mJ gS 1 kO:=by
 exists 0,T.mJ,gS,kO,(ah (aq dg));rename_i x;exists 9;exact h
theorem y9:OM P w mg base T.rR jT 1 pQ:=by
 exists 0,T.rR,jT,pQ,(ah (aq dg));rename_i x;exists 9;exact h
theorem y_:OM P w mg base T.rS jU 1 pR:=by
 exists 0,T.rS,jU,pR,(ah (aq dg));rename_i x;exists 9;exact h
include T in theorem fF {C:Addr} (F:MethAt K C "may_put" "State.may_put" (ic 54 3)):MA P w K mg base C "may_put" 1 ["self"] nj:=by
 exists 0,F,dA,nj,(ah (aq dg));rename_i x;exists 9;exact h
theorem kI {C:Addr} {nm:Str} (h:(C,nm)∈tbl):(C=iH/\nm = "shut")\/(C=dQ/\nm = "calling")\/(C=lQ/\nm = "open")\/(C=lR/\nm = "left")\/(C=dO/\nm = "leaving")\/(C=dN/\nm = "waiting")\/(C=dP/\nm = "closing"):=by
 simpa [tbl] using h
theorem xg (T:Txt K mg):BL P w K mg base (Eu P w) "name" 1 wM:=by
 intro x H Q E h;unfold wM at h;split at h;rotate_left
 ·exact h.elim
 rename_i x e;obtain⟨nm,i,q⟩:=h;have u:=i;obtain⟨C,dx,hx,hm⟩:=i;injection e with e1 _;rcases kI hm with⟨rfl,rfl⟩|⟨rfl,rfl⟩|⟨rfl,rfl⟩|⟨rfl,rfl⟩|⟨rfl,rfl⟩|⟨rfl,rfl⟩|⟨rfl,rfl⟩
 ·exact⟨x,_,dx,_,_,_,_,e1,hx,rfl,by decide,T.m9.cl,Dy T,q⟩
 ·exact⟨x,_,dx,_,_,_,_,e1,hx,rfl,by decide,T.g7.cl,zd T,q⟩
 ·exact⟨x,_,dx,_,_,_,_,e1,hx,rfl,by decide,T.pC.cl,DA T,q⟩
 ·exact⟨x,_,dx,_,_,_,_,e1,hx,rfl,by decide,T.rj.cl,DB T,q⟩
 ·exact⟨x,_,dx,_,_,_,_,e1,hx,rfl,by decide,T.fH.cl,za T,q⟩
 ·exact⟨x,_,dx,_,_,_,_,e1,hx,rfl,by decide,T.gZ.cl,y4 T,q⟩
 ·exact⟨x,_,dx,_,_,_,_,e1,hx,rfl,by decide,T.fJ.cl,zc T,q⟩
include T in theorem b_ {C:Addr} (F:MethAt K C "wish_begin" "State.wish_begin" (ic 54 1)):MA P w K mg base C "wish_begin" 3 ["self"] j3:=by
 exists 1,F,bP,j3,(ah (gT T.qC (gW T) T.xD HR (by decide) tu rfl rfl rfl (cb (ur (pv 0) (xg T) HR (by decide)) aU)));rename_i x;obtain⟨nm,i,q⟩:=h;exists 9;refine⟨nm,i,fun e he d hd=>?_⟩;obtain⟨s1,s2⟩:=dropxl (C:=aL) (l:=[("state",.str nm),("wish",.str "begin")]) (aE.refl H) he hd;exact⟨_,rfl,q _ d s1 s2⟩
include T in theorem eW {C:Addr} (F:MethAt K C "wish_end" "State.wish_end" (ic 54 2)):MA P w K mg base C "wish_end" 3 ["self"] lW:=by
 exists 1,F,df,lW,(ah (gT T.qC (gW T) T.xD HR (by decide) tu rfl rfl rfl (cb (ur (pv 0) (xg T) HR (by decide)) aU)));rename_i x;obtain⟨nm,i,q⟩:=h;exists 9;refine⟨nm,i,fun e he d hd=>?_⟩;obtain⟨s1,s2⟩:=dropxl (C:=aL) (l:=[("state",.str nm),("wish",.str "end")]) (aE.refl H) he hd;exact⟨_,rfl,q _ d s1 s2⟩
theorem y6 (T:Txt K mg):BL P w K mg base (Eu P w) "wish_begin" 3 jF:=by
 intro x H Q E h;unfold jF at h;split at h;rotate_left
 ·exact h.elim
 rename_i x e;obtain⟨nm,u,q⟩:=h;have i:=u;obtain⟨C,dx,hx,hm⟩:=u;injection e with e1 _;rcases kI hm with⟨rfl,rfl⟩|⟨rfl,rfl⟩|⟨rfl,rfl⟩|⟨rfl,rfl⟩|⟨rfl,rfl⟩|⟨rfl,rfl⟩|⟨rfl,rfl⟩
 ·exact⟨x,_,dx,_,_,_,_,e1,hx,rfl,by decide,T.m9.cl,uA T,q.1 _ (by decide+kernel)⟩
 ·exact⟨x,_,dx,_,_,_,_,e1,hx,rfl,by decide,T.g7.cl,b_ T T.qy,⟨_,i,q.2 (by decide+kernel)⟩⟩
 ·exact⟨x,_,dx,_,_,_,_,e1,hx,rfl,by decide,T.pC.cl,b_ T T.uW,⟨_,i,q.2 (by decide+kernel)⟩⟩
 ·exact⟨x,_,dx,_,_,_,_,e1,hx,rfl,by decide,T.rj.cl,b_ T T.uX,⟨_,i,q.2 (by decide+kernel)⟩⟩
 ·exact⟨x,_,dx,_,_,_,_,e1,hx,rfl,by decide,T.fH.cl,b_ T T.qw,⟨_,i,q.2 (by decide+kernel)⟩⟩
 ·exact⟨x,_,dx,_,_,_,_,e1,hx,rfl,by decide,T.gZ.cl,b_ T T.qv,⟨_,i,q.2 (by decide+kernel)⟩⟩
 ·exact⟨x,_,dx,_,_,_,_,e1,hx,rfl,by decide,T.fJ.cl,b_ T T.qx,⟨_,i,q.2 (by decide+kernel)⟩⟩
theorem Bj (T:Txt K mg):BL P w K mg base (Eu P w) "wish_end" 3 mO:=by
 intro x H Q E h;unfold mO at h;split at h;rotate_left
 ·exact h.elim
 rename_i x e;obtain⟨nm,u,q⟩:=h;have i:=u;obtain⟨C,dx,hx,hm⟩:=u;injection e with e1 _;rcases kI hm with⟨rfl,rfl⟩|⟨rfl,rfl⟩|⟨rfl,rfl⟩|⟨rfl,rfl⟩|⟨rfl,rfl⟩|⟨rfl,rfl⟩|⟨rfl,rfl⟩
 ·exact⟨x,_,dx,_,_,_,_,e1,hx,rfl,by decide,T.m9.cl,eW T T.xR,⟨_,i,q.2 (by decide+kernel)⟩⟩
 ·exact⟨x,_,dx,_,_,_,_,e1,hx,rfl,by decide,T.g7.cl,sP T,q.1 _ (by decide+kernel)⟩
 ·exact⟨x,_,dx,_,_,_,_,e1,hx,rfl,by decide,T.pC.cl,xi T,q.1 _ (by decide+kernel)⟩
 ·exact⟨x,_,dx,_,_,_,_,e1,hx,rfl,by decide,T.rj.cl,xl T,q.1 _ (by decide+kernel)⟩
 ·exact⟨x,_,dx,_,_,_,_,e1,hx,rfl,by decide,T.fH.cl,eW T T.sW,⟨_,i,q.2 (by decide+kernel)⟩⟩
 ·exact⟨x,_,dx,_,_,_,_,e1,hx,rfl,by decide,T.gZ.cl,eW T T.sU,⟨_,i,q.2 (by decide+kernel)⟩⟩
 ·exact⟨x,_,dx,_,_,_,_,e1,hx,rfl,by decide,T.fJ.cl,eW T T.sX,⟨_,i,q.2 (by decide+kernel)⟩⟩
theorem G4 (T:Txt K mg):BL P w K mg base (Eu P w) "begun" 1 t7:=by
 intro x H Q E h;unfold t7 at h;split at h;rotate_left
 ·exact h.elim
 rename_i x e;obtain⟨nm,u,q⟩:=h;have i:=u;obtain⟨C,dx,hx,hm⟩:=u;injection e with e1 _;rcases kI hm with⟨rfl,rfl⟩|⟨rfl,rfl⟩|⟨rfl,rfl⟩|⟨rfl,rfl⟩|⟨rfl,rfl⟩|⟨rfl,rfl⟩|⟨rfl,rfl⟩
 ·exact⟨x,_,dx,_,_,_,_,e1,hx,rfl,by decide,T.m9.cl,Bn T,q _ (by decide+kernel)⟩
 ·exact⟨x,_,dx,_,_,_,_,e1,hx,rfl,by decide,T.g7.cl,xq T,q _ (by decide+kernel)⟩
 ·exact⟨x,_,dx,_,_,_,_,e1,hx,rfl,by decide,T.pC.cl,fj T T.BG,q _ (by decide+kernel) _ _ (aE.refl _) i⟩
 ·exact⟨x,_,dx,_,_,_,_,e1,hx,rfl,by decide,T.rj.cl,fj T T.BI,q _ (by decide+kernel) _ _ (aE.refl _) i⟩
 ·exact⟨x,_,dx,_,_,_,_,e1,hx,rfl,by decide,T.fH.cl,fj T T.xW,q _ (by decide+kernel) _ _ (aE.refl _) i⟩
 ·exact⟨x,_,dx,_,_,_,_,e1,hx,rfl,by decide,T.gZ.cl,fj T T.xQ,q _ (by decide+kernel) _ _ (aE.refl _) i⟩
 ·exact⟨x,_,dx,_,_,_,_,e1,hx,rfl,by decide,T.fJ.cl,fj T T.xY,q _ (by decide+kernel) _ _ (aE.refl _) i⟩
theorem G3 (T:Txt K mg):BL P w K mg base (Eu P w) "ended" 1 oH:=by
 intro x H Q E h;unfold oH at h;split at h;rotate_left
 ·exact h.elim
 rename_i x e;obtain⟨nm,u,q⟩:=h;have i:=u;obtain⟨C,dx,hx,hm⟩:=u;injection e with e1 _;rcases kI hm with⟨rfl,rfl⟩|⟨rfl,rfl⟩|⟨rfl,rfl⟩|⟨rfl,rfl⟩|⟨rfl,rfl⟩|⟨rfl,rfl⟩|⟨rfl,rfl⟩
 ·exact⟨x,_,dx,_,_,_,_,e1,hx,rfl,by decide,T.m9.cl,iq T T.BF,q _ (by decide+kernel) _ _ (aE.refl _) i⟩
 ·exact⟨x,_,dx,_,_,_,_,e1,hx,rfl,by decide,T.g7.cl,iq T T.xZ,q _ (by decide+kernel) _ _ (aE.refl _) i⟩
 ·exact⟨x,_,dx,_,_,_,_,e1,hx,rfl,by decide,T.pC.cl,Bp T,q _ (by decide+kernel)⟩
 ·exact⟨x,_,dx,_,_,_,_,e1,hx,rfl,by decide,T.rj.cl,iq T T.BH,q _ (by decide+kernel) _ _ (aE.refl _) i⟩
 ·exact⟨x,_,dx,_,_,_,_,e1,hx,rfl,by decide,T.fH.cl,xn T,q _ (by decide+kernel)⟩
 ·exact⟨x,_,dx,_,_,_,_,e1,hx,rfl,by decide,T.gZ.cl,xf T,q _ (by decide+kernel)⟩
 ·exact⟨x,_,dx,_,_,_,_,e1,hx,rfl,by decide,T.fJ.cl,iq T T.xX,q _ (by decide+kernel) _ _ (aE.refl _) i⟩
theorem Bk (T:Txt K mg):BL P w K mg base (Eu P w) "answered" 1 mQ:=by
 intro x H Q E h;unfold mQ at h;split at h;rotate_left
 ·exact h.elim
 rename_i x e;obtain⟨nm,u,q⟩:=h;have i:=u;obtain⟨C,dx,hx,hm⟩:=u;injection e with e1 _;rcases kI hm with⟨rfl,rfl⟩|⟨rfl,rfl⟩|⟨rfl,rfl⟩|⟨rfl,rfl⟩|⟨rfl,rfl⟩|⟨rfl,rfl⟩|⟨rfl,rfl⟩
 ·exact⟨x,_,dx,_,_,_,_,e1,hx,rfl,by decide,T.m9.cl,dh T T.xT,q _ (by decide+kernel) _ _ (aE.refl _) i⟩
 ·exact⟨x,_,dx,_,_,_,_,e1,hx,rfl,by decide,T.g7.cl,dh T T.sY,q _ (by decide+kernel) _ _ (aE.refl _) i⟩
 ·exact⟨x,_,dx,_,_,_,_,e1,hx,rfl,by decide,T.pC.cl,dh T T.xU,q _ (by decide+kernel) _ _ (aE.refl _) i⟩
 ·exact⟨x,_,dx,_,_,_,_,e1,hx,rfl,by decide,T.rj.cl,dh T T.xV,q _ (by decide+kernel) _ _ (aE.refl _) i⟩
 ·exact⟨x,_,dx,_,_,_,_,e1,hx,rfl,by decide,T.fH.cl,sN T,q _ (by decide+kernel)⟩
 ·exact⟨x,_,dx,_,_,_,_,e1,hx,rfl,by decide,T.gZ.cl,dh T T.sV,q _ (by decide+kernel) _ _ (aE.refl _) i⟩
 ·exact⟨x,_,dx,_,_,_,_,e1,hx,rfl,by decide,T.fJ.cl,sO T,q _ (by decide+kernel)⟩
theorem Dx (T:Txt K mg):BL P w K mg base (Eu P w) "may_put" 1 oG:=by
 intro x H Q E h;unfold oG at h;split at h;rotate_left
 ·exact h.elim
 rename_i x e;obtain⟨nm,i,q⟩:=h;have u:=i;obtain⟨C,dx,hx,hm⟩:=i;injection e with e1 _;rcases kI hm with⟨rfl,rfl⟩|⟨rfl,rfl⟩|⟨rfl,rfl⟩|⟨rfl,rfl⟩|⟨rfl,rfl⟩|⟨rfl,rfl⟩|⟨rfl,rfl⟩
 ·exact⟨x,_,dx,_,_,_,_,e1,hx,rfl,by decide,T.m9.cl,fF T T.zy,q⟩
 ·exact⟨x,_,dx,_,_,_,_,e1,hx,rfl,by decide,T.g7.cl,uC T,q⟩
 ·exact⟨x,_,dx,_,_,_,_,e1,hx,rfl,by decide,T.pC.cl,y9 T,q⟩
 ·exact⟨x,_,dx,_,_,_,_,e1,hx,rfl,by decide,T.rj.cl,y_ T,q⟩
 ·exact⟨x,_,dx,_,_,_,_,e1,hx,rfl,by decide,T.fH.cl,fF T T.uY,q⟩
 ·exact⟨x,_,dx,_,_,_,_,e1,hx,rfl,by decide,T.gZ.cl,fF T T.uV,q⟩
 ·exact⟨x,_,dx,_,_,_,_,e1,hx,rfl,by decide,T.fJ.cl,fF T T.uZ,q⟩
theorem GW:OF P w base T.Ct t_ 1 tV:=by
 exists 0,T.Ct,t_,tV,(ah (aq (eU (aD (x9 K rfl) (by rfl) T.dr cQ (cb (pv 0) (yh rfl T.Ra N7))) (eU (E2 pW pW aa (aD (eL K rfl) (by rfl) T.j_ gj (cJ (pv 0))) (bX rfl T.FX)) (o8 (aD (x_ K rfl rfl) (by rfl) T.N_ Hy (cJ (gC (N:=(["sign"]:List Str)) (nv:=1) (ix:=[]) rfl (lJ (by kernel_rfl)) (cL K rfl (pv 0)) (fun _ _ _ _ _=>(aJ 0 (show((["sign"]:List Str)).Nodup by decide))) (fun _ _ _ _ _=>o6) (fun _ _ _ _ _=>(zK (Dk K rfl) (pv 0) (bX rfl T.wx) (ji rfl)))))))))));rename_i z;obtain⟨v,q⟩:=h;exists 9;refine⟨aR v,?_⟩;by_cases u:1<=(z.length:Int);rotate_left
 ·rw[a5 u];have e:qE z=false:=by unfold qE;rw[cz (by lia)];rfl
  rw[<-e];exact q H (aE.refl _)
 rw[bc u];by_cases i:(z.length:Int)<=60;rotate_left
 ·rw[a5 i];have e:qE z=false:=by unfold qE;rw[cz (show¬z.length<=60 by lia),ri];rfl
  rw[<-e];exact q H (aE.refl _)
 rw[bc i];refine NZ (p:=fun _=>true) (f:=fun x=> .bl (Nk x)) (by rw[fR];lia) (fun _ _ Q h=>h) (fun x hx _ Q y=>?_) ?_
 ·obtain⟨n,_,rfl⟩:=ke.mp hx;exists 9;exact y
 have e4:(eP z).length=z.length:=by simp[eP,Str.length]
 have e1:((eP z).filter fun _=>true).map (fun x=>V.bl (Nk x))=((eP z).map Nk).map V.bl:=by
  rw[XF.mpr (fun _ _=>rfl),sx];rfl
 rw[e1];refine⟨by rw[cF,cF,e4,fR];lia,fun p hp=>⟨(eP z).map Nk,cI.of ag,?_⟩⟩;have e2:((eP z).map Nk).all id=qE z:=by
  unfold qE;rw[eT (show 1<=z.length by lia),eT (show z.length<=60 by lia),List.all_map];rfl
 rw[e2];exact q _ (ao hp)
theorem nK:OM P w mg base T.qo jb 5 iW:=by
 exists 0,T.qo,jb,iW,(ae (aB (pv 0) (pv 1) T.aH T.Fb)
 (ae (aB (pv 0) (ai (pv 2) T.d_ T.ky) T.aH T.mr)
 (ae (aB (pv 0) (uu T.aQ (vG T) HR (by decide) rfl (cb (ai (pv 2) T.d_ T.ky) (aA K (ai (pv 2) T.d_ T.jk) (pv 1)))) T.aH T.cw)
 (aj (ae (aB (pv 0) (uu T.ak (uB T) HR (by decide) rfl (bq (ai (pv 2) T.d_ T.ky) (bq (ai (pv 2) T.d_ T.tE) (cb (ai (pv 2) T.d_ T.p7) (aA K (ai (pv 2) T.d_ T.jk) (au cM aa (pv 1))))))) T.aH T.bu)
 (aj (ae (aB (pv 0) (jZ T.m9 T.DI rfl) T.aH T.bN)
 (ae (aB (pv 0) dg T.aH T.di)
 (ah (aB (pv 0) (fh gU) T.aH T.iw))))))))))
 rename_i x side tm;obtain⟨dx,r,o,t,g,f,l,hx,⟨dt,p,htm,hp⟩,hg,hs,q⟩:=h;have n1:tm≠x:=bL htm hx (by simp[nT,rp]);have n2:p≠x:=bL hp hx (by simp);obtain⟨g1,⟨g2,g3⟩,g4,g5,g6⟩:=hg;have own:iN [V.int o,V.int t] side=some (.int (if side=0 then o else t))/\iN [V.int o,V.int t] (1-side)=some (.int (if side=0 then t else o)):=by
  rcases hs with rfl|rfl
  ·exact⟨by rw[bc rfl];exact lO,by rw[bc rfl];exact om⟩
  ·exact⟨by rw[a5 (by decide)];exact om,by rw[a5 (by decide)];exact lO⟩
 have ob:(1<=(if side=0 then o else t)/\(if side=0 then o else t)<=16)/\1<=(if side=0 then t else o):=by split<;>lia
 generalize(if side=0 then o else t)=mo at*
 generalize(if side=0 then t else o)=mt at*
 exists 6,u1;exists hx,htm,af n1,af n2,hp,own.1;intro tk dk W ndk nek;refine⟨dk,rfl,fun kd H1 E b1 t1=>?_⟩;have z:x≠tk:=fresh_ne W |>.symm;have xdk:x≠dk:=fresh_ne ndk |>.symm;have x1:H1 x=some (.ins az dx (nU (.int side) (.int r))):=b1 _ _ (by rw[af z,af xdk,ag]) z;have B1:∀b u,H b=some u->b≠x->H1 b=some u:=fun b u e n=>by
  have e1:upd H x (.ins az dx (nU (.int side) (.int r))) b=some u:=by rw[af n];exact e
  exact b1 _ _ (by rw[af (ar e1 W),af (ar e1 ndk)];exact e1) (ar e1 W)
 have ftk:H tk=none:=by rw[af z.symm] at W;exact W
 have Q:H kd=none/\kd≠x:=by
  have k1:kd≠tk:=fresh_ne E;rw[af k1] at E;have k2:kd≠dk:=fresh_ne E;rw[af k2] at E;have k3:kd≠x:=fresh_ne E;rw[af k3] at E;exact⟨E,k3⟩
 clear b1 E;have htm1:=B1 _ _ htm n1;have hp1:=B1 _ _ hp n2;exists x1;have Z:jf x H (upd H1 x (.ins az dx (eJ (.int side) (.int r) (.ref tk)))):=fun b u e n=>by rw[af n];exact B1 b u e n
 have x2:upd H1 x (.ins az dx (eJ (.int side) (.int r) (.ref tk))) x=some (.ins az dx (eJ (.int side) (.int r) (.ref tk))):=ag;have t2:Gd (upd H1 x (.ins az dx (eJ (.int side) (.int r) (.ref tk)))) tk dk kd ⟨r,mo,0,0,[]⟩:=⟨by rw[af z.symm];exact t1.hx,by rw[af Q.2];exact t1.hD⟩;have htm2:upd H1 x (.ins az dx (eJ (.int side) (.int r) (.ref tk))) tm=some (.ins fK dt (nT (.int r) (.ref p) (.int g) (.int f) (.int l))):=by rw[af n1];exact htm1
 have hp2:upd H1 x (.ins az dx (eJ (.int side) (.int r) (.ref tk))) p=some (.tup [.int o,.int t]):=by rw[af n2];exact hp1
 generalize upd H1 x (.ins az dx (eJ (.int side) (.int r) (.ref tk)))=H2 at*
 clear x1 t1 B1 htm1 hp1;exists 8,u1,u2;exists htm2,hp2,own.2;intro sd ds O nds nes;refine⟨⟨by lia,by lia,by lia⟩,ds,rfl,fun S X b3 fr3 s3=>?_⟩;have Y:x≠sd:=ar x2 O;have B3:∀b u,H2 b=some u->X b=some u:=fun b u e=>b3 _ _ (by rw[af (ar e O),af (ar e nds)];exact e) (ar e O);have y:∀b,b∈[S.pw,S.pm,S.pt,S.pk,S.pf,S.pa]->H2 b=none/\b≠sd:=fun b G=>by
  have k0:=fr3 b G;have k1:b≠sd:=fresh_ne k0;rw[af k1] at k0;have k2:b≠ds:=fresh_ne k0;rw[af k2] at k0;exact⟨k0,k1⟩
 clear b3 fr3;have x3:=B3 _ _ x2;have t3:Gd X tk dk kd ⟨r,mo,0,0,[]⟩:=⟨B3 _ _ t2.hx,B3 _ _ t2.hD⟩;exists x3;have X3:jf x H (upd X x (.ins az dx (dI (.int side) (.int r) (.ref tk) (.ref sd)))):=fun b u e n=>by rw[af n];exact B3 _ _ (Z b u e n)
 have x4:upd X x (.ins az dx (dI (.int side) (.int r) (.ref tk) (.ref sd))) x=some (.ins az dx (dI (.int side) (.int r) (.ref tk) (.ref sd))):=ag;have xS:∀b,b∈[S.pw,S.pm,S.pt,S.pk,S.pf,S.pa]->b≠x:=fun b G e=>by have:=(y b G).1;rw[e,x2] at this;cases this
 have k4:Kp [x] X (upd X x (.ins az dx (dI (.int side) (.int r) (.ref tk) (.ref sd)))):=Kp.one;have s4:qz (upd X x (.ins az dx (dI (.int side) (.int r) (.ref tk) (.ref sd)))) sd S _:=s3.kp k4 (fun b G m=>by
  rw[ec] at m;rcases cR.mp G with e|G
  ·exact Y (m.symm.trans e)
  ·exact xS b G m) (fun t l e m=>by rw[ec.mp m,x3] at e;cases e)
 have t4:Gd (upd X x (.ins az dx (dI (.int side) (.int r) (.ref tk) (.ref sd)))) tk dk kd ⟨r,mo,0,0,[]⟩:=⟨by rw[af z.symm];exact t3.hx,by rw[af Q.2];exact t3.hD⟩;generalize upd X x (.ins az dx (dI (.int side) (.int r) (.ref tk) (.ref sd)))=H4 at*
 exists 7,u2;exists 9;intro st dst nst ndst nest;have S5:aE H4 _:=cW (C:=iH) (fs:=[]) nst ndst;have st5:yR (upd (upd H4 dst (.own st)) st (.ins iH dst [])) st "shut" :=⟨_,_,ag,.head _⟩;have x5:=S5 _ _ x4;have v:=s4.same S5;have t5:=t4.same S5;have X5:jf x H _:=fun b u e n=>S5 _ _ (X3 b u e n);generalize upd (upd H4 dst (.own st)) st (.ins iH dst [])=H5 at*
 exists x5;intro pe npe;have U:x≠pe:=(fresh_ne npe).symm;exists af U;have I:H5 pe=none:=by rw[af U.symm] at npe;exact npe
 have nod:(foot x ⟨dx,tk,dk,kd,sd,S,st,pe⟩).Nodup:=by
  have n_tk:tk≠x:=z.symm;have in2:∀{b:Addr} {u:HO},H2 b=some u->b ∉ [S.pw,S.pm,S.pt,S.pk,S.pf,S.pa]/\b≠sd:=fun{b u} e=>⟨(fun m=>by have:=(y b m).1;rw[e] at this;cases this),ar e O⟩;have i:∀{b:Addr} {u:HO},H5 b=some u->b≠pe:=fun e=>ar e I;obtain⟨em,_⟩:=v.ms;obtain⟨_,_,ew⟩:=v.ws.ins;have kx:=in2 x2;have kt:=in2 t2.hx;have kk:=in2 t2.hD;have F:sd ∉ [S.pw,S.pm,S.pt,S.pk,S.pf,S.pa]:=fun m=>(y sd m).2 rfl;have m1:S.pm≠S.pt:=bL em v.ht (by simp);have m2:S.pm≠S.pk:=bL em v.hk (by simp);have m3:S.pm≠S.pf:=bL em v.hf (by simp);have m4:S.pm≠S.pa:=bL em v.ha (by simp);have w1:S.pw≠S.pt:=bL ew v.ht (by simp);have w2:S.pw≠S.pk:=bL ew v.hk (by simp);have w3:S.pw≠S.pf:=bL ew v.hf (by simp);have w4:S.pw≠S.pa:=bL ew v.ha (by simp);have v1:S.pt≠S.pk:=bL v.ht v.hk (by simp);have v2:S.pt≠S.pf:=bL v.ht v.hf (by simp);have v3:S.pt≠S.pa:=bL v.ht v.ha (by simp);simp only[cR,d3,lj,not_or] at kx kt kk F;simp only[foot,Sk,cR,d3,lj,not_or,Yt,and_true,not_false_eq_true];have tkd:tk≠kd:=t2.n1.symm;exact⟨⟨z,Q.2.symm,Y,kx.1.1,kx.1.2.1,kx.1.2.2.1,kx.1.2.2.2.1,kx.1.2.2.2.2.1,kx.1.2.2.2.2.2,U⟩,
   ⟨tkd,kt.2,kt.1.1,kt.1.2.1,kt.1.2.2.1,kt.1.2.2.2.1,kt.1.2.2.2.2.1,kt.1.2.2.2.2.2,i t5.hx⟩,
   ⟨kk.2,kk.1.1,kk.1.2.1,kk.1.2.2.1,kk.1.2.2.2.1,kk.1.2.2.2.2.1,kk.1.2.2.2.2.2,i t5.hD⟩,
   ⟨F.1,F.2.1,F.2.2.1,F.2.2.2.1,F.2.2.2.2.1,F.2.2.2.2.2,i v.hx⟩,
   ⟨v.wm,w1,w2,w3,w4,i ew⟩,⟨m1,m2,m3,m4,i em⟩,⟨v1,v2,v3,i v.ht⟩,⟨v.kf,v.ka,i v.hk⟩,⟨v.fa,i v.hf⟩,i v.ha⟩
 have kF:Kp [x] H5 (upd (upd (upd H5 x (.ins az dx (so (.int side) (.int r) (.ref tk) (.ref sd) (.ref st) (.bl false)))) pe (.lst [])) x (.ins az dx (aT (.int side) (.int r) (.ref tk) (.ref sd) (.ref st) (.bl false) (.ref pe)))):=fun b u e n=>by
  rw[ec] at n;rw[af n,af (ar e I),af n];exact e
 refine q ⟨dx,tk,dk,kd,sd,S,st,pe⟩ _ (fun b u e n=>kF b u (X5 b u e n) (fun m=>n (ec.mp m))) (fun b G=>?_) ⟨ag,⟨kF _ _ t5.hx (fun m=>z (ec.mp m).symm),kF _ _ t5.hD (fun m=>Q.2 (ec.mp m))⟩,v.kp kF (fun b G m=>?_) (fun t l e m=>?_),?_,?_,nod⟩
 ·simp only[foot,List.tail_cons,cR,d3,lj] at G;rcases G with e|e|e|e|e|e|e|e|e|e
  ·rw[e];exact ftk
  ·rw[e];exact Q.1
  ·rw[e];exact dG Z Y O
  ·rw[e];exact dG Z (xS _ (by simp)).symm (y _ (by simp)).1
  ·rw[e];exact dG Z (xS _ (by simp)).symm (y _ (by simp)).1
  ·rw[e];exact dG Z (xS _ (by simp)).symm (y _ (by simp)).1
  ·rw[e];exact dG Z (xS _ (by simp)).symm (y _ (by simp)).1
  ·rw[e];exact dG Z (xS _ (by simp)).symm (y _ (by simp)).1
  ·rw[e];exact dG Z (xS _ (by simp)).symm (y _ (by simp)).1
  ·rw[e];exact dG X5 U I
 ·rw[ec] at m;rcases cR.mp G with e|G
  ·exact Y (m.symm.trans e)
  ·exact xS b G m
 ·rw[ec.mp m,x5] at e;cases e
 ·obtain⟨C,d,e,hm⟩:=st5;exact⟨C,d,kF _ _ e (fun m=>by have m':st=x:=ec.mp m;rw[m',x5] at e;injection e with e;injection e with _ _ e;simp[dI,kA] at e),hm⟩
 ·rw[af U.symm,ag];rfl
theorem pj:OM P w mg base T.yK oZ 2 oM:=by
 exists 0,T.yK,oZ,oM,(ah (aq (ur (ai (pv 0) T.aH T.bN) (xg T) HR (by decide))));rename_i x;obtain⟨A,z,i,q⟩:=h;exists i.hx;exact⟨_,i.st,q⟩
theorem Bq:OM P w mg base T.wo m8 4 (mV K):=by
 exists 1,T.wo,m8,mV,(ae (aB (pv 0) (Iq (ai (pv 0) T.aH T.bN) (y6 T) HR (by decide) tu rfl) T.aH T.bN)
 (ah (PS.nox (bh (bK (ai (pv 0) T.aH T.bu) T.ak (jh T) HR (cJ (jo K rfl rfl T.Ja)))))))
 rename_i x;obtain⟨A,z,i,E,G,I⟩:=h;exists i.hx;refine⟨_,i.st,fun nx hn y u C s1=>?_,I⟩;have h1:=i.same C;exists h1.hx;have q:=h1.own s1 z.due;have k2:Kp (foot x A) H (upd u x (.ins az A.dx (aT (.int z.side) (.int z.R) (.ref A.tk) (.ref A.sd) (.ref y) (.bl z.due) (.ref A.pe)))):=(Kp.of C).trans (Kp.upd (by simp[foot]));generalize upd u x (.ins az A.dx (aT (.int z.side) (.int z.R) (.ref A.tk) (.ref A.sd) (.ref y) (.bl z.due) (.ref A.pe)))=O at*
 exists q.sd.hx;exact fun a ha _=>⟨_,_,q.sd,E,fun F v s3=>G nx hn a y F ha (k2.trans (Kp.but v (by simp[foot]))) (q.sender (jf.V_ v) s3)⟩
theorem E8:OM P w mg base T.AU qS 4 (qO K):=by
 exists 1,T.AU,qS,qO,(ae (aB (pv 0) (Iq (ai (pv 0) T.aH T.bN) (Bj T) HR (by decide) tu rfl) T.aH T.bN)
 (aj (ae (PS.nox (bh (kU K rfl (ai (pv 0) T.aH T.iw) (bI (ai (pv 0) T.aH T.bu) T.ak (kW T) HR))))
 (ah (PS.nox (bh (bK (ai (pv 0) T.aH T.bu) T.ak (jh T) HR (cJ (jo K rfl rfl T.VI)))))))))
 rename_i x;obtain⟨A,z,v,I,he,O,U⟩:=h;exists 6,u1;exists v.hx;refine⟨_,v.st,fun nx hn y C F s1=>?_,U⟩;have h1:=v.same F;exists h1.hx;have q:=h1.own s1 z.due;have k2:Kp (foot x A) H (upd C x (.ins az A.dx (aT (.int z.side) (.int z.R) (.ref A.tk) (.ref A.sd) (.ref y) (.bl z.due) (.ref A.pe)))):=(Kp.of F).trans (Kp.upd (by simp[foot]));generalize upd C x (.ins az A.dx (aT (.int z.side) (.int z.R) (.ref A.tk) (.ref A.sd) (.ref y) (.bl z.due) (.ref A.pe)))=u at*
 exists 7,u1;exists q.hx,q.sd.hx;refine⟨kG (cI.of q.he),_,_,q.sd,_,q.he,by rw[cF,fR];show z.ends.length<_;lia,?_⟩;have i:=q.ends (l:=z.ends++ [(z.sd.T.length:Int)]);rw[Xh] at i;show∃dx fs,upd u A.pe (.lst (z.ends.map V.int++ [V.int z.sd.T.length])) x=some (HO.ins az dx fs)/\_;have k3:Kp (foot x A) H (upd u A.pe (.lst (z.ends.map V.int++ [V.int z.sd.T.length]))):=k2.trans (Kp.upd (by simp[foot]));replace i:Jh (upd u A.pe (.lst (z.ends.map V.int++ [V.int z.sd.T.length]))) x {A with st:=y} {z with nm:=nx,ends:=z.ends++ [(z.sd.T.length:Int)]}:=i;generalize upd u A.pe (.lst (z.ends.map V.int++ [V.int z.sd.T.length]))=W at*
 exists i.hx,i.sd.hx;exact fun a ha _=>⟨_,_,i.sd,I,fun Q E G=>O nx hn a y Q ha (k3.trans (Kp.but E (by simp[foot]))) (i.sender (jf.V_ E) G)⟩
theorem E7:OM P w mg base T.AS lZ 3 qN:=by
 exists 1,T.AS,lZ,qN,(ae (PS.nox (aW (dE (jY (aO (GW T) HR (cJ (pv 1))))) (ah vx) aC))
 (aj (ae (aW (PT.nox (dE (jY (ur (ai (pv 0) T.aH T.bN) (Dx T) HR (by decide))))) (ah (gT T.qC (gW T) T.xD HR (by decide) tu rfl rfl rfl (cb (bI (pv 0) T.aH (pj T) HR) aU))) aC)
 (aj (ah (PS.nox (eS j1 rfl (J9 rfl T.eC (bq aa (cb (aD (eL K rfl) (by rfl) T.j_ gj (cJ (pv 1))) (bX rfl T.kB)))) (aJ 2 lZ.1.nd) (ah (bh (bK (ai (pv 0) T.aH T.bu) T.ak (jh T) HR (cJ (bw (cb aU (nI (Jy K rfl) (pv 1) (mf (pv 2)) (mf (aF K (pv 2) (bX rfl T.kB)))))))))))))))))
 rename_i x t;obtain⟨A,z,W,hT,ht,e1,q2,Q⟩:=h;exists 6,u1;exists 9;refine⟨ht,fun H1 I=>?_⟩;rw[e1,a5 (by decide)];have h1:=W.same I;exists 8,u1,u2;exists h1.hx;refine⟨_,h1.st,?_⟩;cases e2:PN z.nm
 ·rw[bc rfl];refine⟨A,z,h1,fun e he d hd=>⟨_,rfl,?_⟩⟩;obtain⟨s1,s2⟩:=dropxl (C:=aL) (l:=[("state",.str z.nm),("wish",.str "put")]) I he hd;exact q2 e2 _ d s1 s2
 rw[a5 (by decide)];have Z:t.length<=60:=by
  unfold qE at e1;simp only[h8,eu] at e1;exact e1.1.2
 exists 7,u2;exists 9;refine⟨aR ht,⟨by lia,by lia⟩,?_⟩;rw[show rcount 0 (t.length:Int) 4=(t.length+3) / 4 by unfold rcount Builtin.Range.rangeSize;rw[bc (by decide)];split<;>lia]
 refine Qh (fun k σ H'=>(∃G,σ= [some (.ref x),some (.str t),G])/\Kp (foot x A) H H'/\∃vs,Jh H' x A {z with sd:={z.sd with T:=z.sd.T++vs}}/\Paired (fun v s=>W5 H' v "signs" s) vs ((List.range k).map (chunk t))) ⟨⟨_,rfl⟩,Kp.of I,[],by rw[hL];exact h1,.nil⟩ (fun k σ H' hk hp=>?_) (fun σ H' hp=>?_)
 ·obtain⟨⟨G,rfl⟩,u,vs,hh,i⟩:=hp;exists hh.hx,hh.sd.hx;refine⟨aR ht,fun p hp=>?_⟩;rw[show Txt.slice t (some (0+(k:Int)*4)) (some (0+(k:Int)*4+4))=chunk t k by unfold chunk;rw[show(0:Int)+(k:Int)*4=((4*k:Nat):Int) by lia];rfl];have F:=hh.same (ao (o:= .tup [.str "signs",.str (chunk t k)]) hp);have s2:=ao (o:= .tup [.str "signs",.str (chunk t k)]) hp;have y:=ag (H:=H') (a:=p) (o:= .tup [.str "signs",.str (chunk t k)]);generalize upd H' p (.tup [.str "signs",.str (chunk t k)])=Y at*
  have lv:vs.length<=15:=by rw[cK i,cF,p6];lia
  refine⟨_,_,F.sd,by show(z.sd.T++vs).length<1000;rw[ey];lia,fun H4 E O=>⟨⟨_,rfl⟩,(u.trans (Kp.of s2)).trans (Kp.but E (by simp[foot])),vs++ [.ref p],?_,?_⟩⟩
  ·have X:=F.sender (jf.V_ E) O;rw[<-XQ];exact X
  ·rw[List.range_succ,Xh];have tup:∀{q:Addr} {l:List V},Y q=some (.tup l)->H4 q=some (.tup l):=fun e=>E _ _ e (bL e F.sd.ht (by simp));refine kT (aP i fun v s U=>?_) (.cons ⟨p,rfl,tup y⟩ .nil);obtain⟨q,rfl,hq⟩:=U;exact⟨q,rfl,tup (s2 _ _ hq)⟩
 ·obtain⟨⟨G,rfl⟩,u,vs,hh,i⟩:=hp;exact Q e2 vs H' u hh i
theorem DD:OM P w mg base T.yJ ie 2 (oK K):=by
 exists 0,T.yJ,ie,oK,(ae (aw 2 ie.1.nd (fE qY (bI (ai (pv 0) T.aH T.cw) T.aQ (cX T) HR) aa))
 (aj (ae (aw 3 ie.1.nd (bK (ai (pv 0) T.aH T.cw) T.aQ (Bm T) HR (cJ (pv 1))))
 (aj (ae (aW (PW.pt (pw_and (dE (jY (pv 2))) (pw_and1 (a_ qY (bI (ai (pv 0) T.aH T.cw) T.aQ (cX T) HR) aa)))) (ah (aB (pv 0) dg T.aH T.di)) aC)
 (aj (ah (aq (pv 3)))))))))
 rename_i x m;obtain⟨A,a,⟨z,F,y⟩,⟨m0,m1,o0,og,g1⟩,hD,q⟩:=h;exists 6,u1;exists F.hx,F.tk.hx;refine⟨_,_,_,F.tk,?_⟩;exists 8,u1,u2;exists F.hx,F.tk.hx;have Z:∀i,z.tk.o<=i->i<z.tk.g->(bj z.tk.D (ik i)).isSome=true:=fun i h1 O=>by
  rw[y.o] at h1;rw[y.g] at O;cases e:bj z.tk.D (ik i) with
  |none=>have:=hD i h1 O;rw[y.dn i e] at this;cases this
  |some v=>rfl
 refine⟨_,_,_,F.tk,by rw[y.o,y.g];lia,Z,fun n p D' E en np Y X f1 t1 e1=>?_⟩;have C:n=dR a m:=by rw[en,y.o,y.g];rfl
 have nle:a.o+n<=a.g:=by rw[C];unfold dR;split<;>lia
 have h1:=F.taker f1 t1;have k1:Kp (foot x A) H E:=(Ji.kp f1).more (fun b hb=>by simp only[cR,d3,lj] at hb;rcases hb with e|e<;>subst e<;>simp[foot])
 have U:jz H E:=fun b u e i=>k1 _ _ e (F.imm e i);have I:∀i:Int,bj D' (ik i)=if a.o<=i/\i<a.o+n then none else bj z.tk.D (ik i):=fun i=>by rw[Y i,y.o]
 have pv:Paired (sA K E) (vals z.tk.D z.tk.o n) (vk a m):=by
  have:=y.vals n a.o (fun i h1 O=>hD i h1 (by lia));rw[y.o];unfold vk;rw[<-C];exact aP this fun _ _ q=>q.keep U
 have G:=y.keep U;exists 8,u2,u3;by_cases c:0<a.o+a.M-a.g
 ·have e0:(l8 a m).due=z.due:=by
   show(a.due||(decide (a.o+a.M-a.g<=0)&&_))=_;rw[cz (by lia),nS,Bool.or_false,y.due]
  have fin:sZ K E x A (l8 a m):=⟨_,h1,G.read C I X e0.symm⟩;rw[eT (by rw[y.o,y.tM,y.g];exact c)];exists 9;exists 7,u3;exists 9;exact q p _ E np k1 fin e1 pv
 ·rw[cz (by rw[y.o,y.tM,y.g];exact c)];exists h1.hx,h1.tk.hx;refine⟨_,_,_,h1.tk,?_⟩;show if 0<z.tk.o+n+z.tk.M-z.tk.g then _ else _;rw[y.o,y.tM,y.g];by_cases W:0<a.o+n+a.M-a.g
  ·rw[bc W];have e0:(l8 a m).due=true:=by
    show(a.due||(decide (a.o+a.M-a.g<=0)&&decide (0<a.o+(dR a m:Int)+a.M-a.g)))=_;rw[eT (by lia),<-C,eT W,pd,Bool.or_true]
   have O:=h1.own h1.st true;have k2:Kp (foot x A) H (upd E x (.ins az A.dx (aT (.int z.side) (.int z.R) (.ref A.tk) (.ref A.sd) (.ref A.st) (.bl true) (.ref A.pe)))):=k1.trans (Kp.upd (by simp[foot]));have Q:jz E (upd E x (.ins az A.dx (aT (.int z.side) (.int z.R) (.ref A.tk) (.ref A.sd) (.ref A.st) (.bl true) (.ref A.pe)))):=fun b u e i=>Kp.upd (S:=foot x A) (by simp[foot]) _ _ e (h1.imm e i);have e2:upd E x (.ins az A.dx (aT (.int z.side) (.int z.R) (.ref A.tk) (.ref A.sd) (.ref A.st) (.bl true) (.ref A.pe))) p=some (.lst (vals z.tk.D z.tk.o n)):=by rw[af (bL e1 h1.hx (by simp))];exact e1
   have fin:sZ K (upd E x (.ins az A.dx (aT (.int z.side) (.int z.R) (.ref A.tk) (.ref A.sd) (.ref A.st) (.bl true) (.ref A.pe)))) x A (l8 a m):=⟨_,O,(G.keep Q).read C I X e0.symm⟩;exists 7,u3;exists 9;exact q p _ _ np k2 fin e2 (aP pv fun _ _ w=>w.keep Q)
  ·rw[a5 W];have e0:(l8 a m).due=z.due:=by
    show(a.due||(decide (a.o+a.M-a.g<=0)&&decide (0<a.o+(dR a m:Int)+a.M-a.g)))=_;rw[<-C,cz W,ri,Bool.or_false,y.due]
   have fin:sZ K E x A (l8 a m):=⟨_,h1,G.read C I X e0.symm⟩;exists 7,u3;exists 9;exact q p _ E np k1 fin e1 pv
theorem xo:OM P w mg base T.ql ja 4 (iU K):=by
 exists 0,T.ql,ja,iU,(ae (aW (cu K HR (pv 1) aU) (ae (aW (cu K HR (bI (pv 0) T.aH (pj T) HR) aU) (ah (bh (bK (ai (pv 0) T.aH T.bu) T.ak (jh T) HR (cJ (jo K rfl rfl T.Ja))))) aC)
 (aj (ah (aB (pv 0) (ur (ai (pv 0) T.aH T.bN) (G4 T) HR (by decide)) T.aH T.bN)))) aC)
 (aj (ah (aW (cu K HR (pv 1) aU) (ah (aB (pv 0) (ur (ai (pv 0) T.aH T.bN) (G3 T) HR (by decide)) T.aH T.bN)) aC))))
 rename_i x k;obtain⟨A,a,⟨z,E,G⟩,hT,q⟩:=h;obtain⟨X,es1,W,es3⟩:=G.s;have lT:z.sd.T.length<990:=by
  rw[es1];show X.length<990;rw[cK W];exact hT
 exists 6,u1;exists E.hx;by_cases ck:k="begin"
 ·rw[bc ck];have nk:k≠"end" :=by rw[ck];decide+kernel
  refine⟨A,z,E,?_⟩;have go:∀(v:Hn) (a1:gF) (C:Hp),Jh C x A v->c8 K C v a1->a1.nm=a.nm->Kp (foot x A) H C->jn a k={a1 with nm:=(bR a.nm "begun").getD a.nm}->u1 {nx:=jm (OP (ve (Er (uk K false) (zV 1) (tC (V.str "end")))) (LS az "state" (zV 0) (Lu oH E0 (HN az "state" (zV 0)))) HL) {nx:=fun x H'=>Q V.non H',rt:=Q},rt:=Q} [some (V.ref x),some (V.str k)] C:=fun v a1 C hh hr en kk es=>by
   exists 7,u1;exists hh.hx;refine⟨_,hh.st,fun nx hn y I F s2=>?_⟩;have U:=hh.same F;exists U.hx;have Z:=U.own s2 v.due;have k3:Kp (foot x A) I (upd I x (.ins az A.dx (aT (.int v.side) (.int v.R) (.ref A.tk) (.ref A.sd) (.ref y) (.bl v.due) (.ref A.pe)))):=Kp.upd (by simp[foot]);have Y:jz C (upd I x (.ins az A.dx (aT (.int v.side) (.int v.R) (.ref A.tk) (.ref A.sd) (.ref y) (.bl v.due) (.ref A.pe)))):=fun b u e i=>k3 _ _ (F _ _ e) (U.imm (F _ _ e) i);generalize upd I x (.ins az A.dx (aT (.int v.side) (.int v.R) (.ref A.tk) (.ref A.sd) (.ref y) (.bl v.due) (.ref A.pe)))=H3 at*
   rw[jm];exists 9;rw[a5 nk];refine q y H3 ((kk.trans (Kp.of F)).trans k3) ⟨_,Z,?_⟩;have O:nx=(bR a.nm "begun").getD a.nm:=by
    rw[hr.nm,en,uD (by decide+kernel) (by decide+kernel)] at hn;injection hn with hn;exact hn.symm
   rw[es,O];exact(hr.keep Y).name
  by_cases cs:z.nm="shut"
  ·rw[bc cs];refine⟨_,_,E.sd.hx,?_⟩;rw[vT.1];refine⟨rfl,fun b hb _=>⟨_,_,E.sd,by lia,fun C b1 s1=>?_⟩⟩;have h1:=E.sender (jf.V_ b1) s1;have k1:Kp (foot x A) H C:=Kp.but b1 (by simp[foot]);have i1:jz H C:=fun c u e i=>k1 _ _ e (E.imm e i);refine go _ (bH a [(Str.ofString "begin",Str.ofString "")]) C h1 ((G.keep i1).Ww ⟨b,rfl,hb C⟩) rfl k1 ?_;unfold jn;rw[bc ck,bc (by rw[<-G.nm];exact cs)]
  ·rw[a5 cs];refine go z a H E G rfl Kp.refl ?_;unfold jn;rw[bc ck,a5 (by rw[<-G.nm];exact cs)]
 ·rw[a5 ck,jm];exists E.hx;by_cases ce:k="end"
  ·rw[bc ce];refine⟨_,E.st,fun nx hn y I F s2=>?_⟩;have U:=E.same F;exists U.hx;have Z:=U.own s2 z.due;have k3:Kp (foot x A) I (upd I x (.ins az A.dx (aT (.int z.side) (.int z.R) (.ref A.tk) (.ref A.sd) (.ref y) (.bl z.due) (.ref A.pe)))):=Kp.upd (by simp[foot]);have Y:jz H (upd I x (.ins az A.dx (aT (.int z.side) (.int z.R) (.ref A.tk) (.ref A.sd) (.ref y) (.bl z.due) (.ref A.pe)))):=fun b u e i=>k3 _ _ (F _ _ e) (U.imm (F _ _ e) i);refine q y _ ((Kp.of F).trans k3) ⟨_,Z,?_⟩;have O:nx=(bR a.nm "ended").getD a.nm:=by
    rw[G.nm,uD (by decide+kernel) (by decide+kernel)] at hn;injection hn with hn;exact hn.symm
   rw[show jn a k={a with nm:=(bR a.nm "ended").getD a.nm} by unfold jn;rw[a5 ck,bc ce],O];exact(G.keep Y).name
  ·rw[a5 ce];refine q A.st H Kp.refl ⟨z,E,?_⟩;rw[show jn a k=a by unfold jn;rw[a5 ck,a5 ce]];exact G
theorem zb:OM P w mg base T.rV eE 5 (jJ K):=by
 exists 0,T.rV,eE,jJ,(ae (aw 3 eE.1.nd (bK (ai (pv 0) T.aH T.cw) T.aQ (Bl T) HR (cb (pv 1) (pv 2))))
 (aj (ae (eS j1 rfl (cL K rfl (aA K (pv 3) aa)) (aJ 4 eE.1.nd) (ah (bh (bK (pv 0) T.aH (xo T) HR (cJ (cG K (pv 4) aa))))))
 (aj (ah (aq (jq (a_ mi (aA K (pv 3) aa) bW) (bw (cb aU bW)) (bw (cb aU (aA K (pv 3) aa))))))))))
 rename_i x m th;obtain⟨A,a,t,⟨z,F,C⟩,Y,⟨r0,m0,m1,og,hT⟩,q⟩:=h;exists 6,u1;exists F.hx,F.tk.hx;have hB:∀i:Int,(bj z.tk.D (ik i)).isSome=true->i<a.o+a.M:=fun i hi=>by
  obtain⟨j,e,_,h2⟩:=C.db _ (Ey hi);rw[Hd e];exact h2
 have hl:=C.len m0;refine⟨_,_,_,a.o+a.M,F.tk,by rw[C.tR];exact r0,hB,by rw[C.g];lia,by rw[C.o,C.tM];lia,by lia,?_⟩;rw[C.o,C.tM,C.g,C.tR];by_cases c:a.o+a.M-a.g<=(m-a.g) % a.R
 ·refine .inl ⟨c,fun p l X S1 np nl hp v=>?_⟩;exists 8,u1,u2;exists hp,v;refine pF (xs:=[]) (cI.of v) (fun i σ H'=>H'=X/\σ= [some (.ref x),some (.int m),some (.ref th),some (.ref p),none]) ⟨rfl,rfl⟩ (fun i σ H' _ hp=>by rw[hp.1];exact cI.of v) (fun i y σ H' hy hp=>by simp at hy) (fun σ H' Z=>?_);obtain⟨rfl,rfl⟩:=Z;exists 7,u2;exists hp,v;intro r nr;have G:=S1.trans (EK (o:= .tup [.str "old",.non]) nr);refine q A.st r _ (Kp.of G) ?_ ?_
  ·unfold EF;rw[bc c];exact HM.same ⟨z,F,C⟩ G
  ·unfold Gs;rw[bc c];exact du.of ag
 ·refine .inr ⟨by lia,fun D' eD n p l X rn np nl pl f1 t1 v hp=>?_⟩;have h1:=F.taker f1 t1;have k1:Kp (foot x A) H X:=(Ji.kp f1).more (fun b hb=>by simp only[cR,d3,lj] at hb;rcases hb with e|e<;>subst e<;>simp[foot])
  have Q:jz H X:=fun b u e i=>k1 _ _ e (F.imm e i);obtain⟨O,en,pv⟩:=KP (C.keep Q) (Y.keep Q) m0 og r0 (by lia) eD rn;rw[C.tR,C.tM,C.g,C.o] at O;have lN:(sC a m t).length<=16:=by
   unfold sC gu;rw[cF,p6];have:=C6 (D:=iO a m t) a.M.toNat a.g;lia
  have fl:l ∉ foot x A:=F.fresh nl;have fp:p ∉ foot x A:=F.fresh np;exists 8,u1,u2;exists hp,v;refine pF (xs:=vals D' a.g n) (cI.of v) (fun i σ H'=>(∃v4,σ= [some (.ref x),some (.int m),some (.ref th),some (.ref p),v4])/\Kp (foot x A) H H'/\H' l=some (.lst (vals D' a.g n))/\H' p=some (.tup [.int (qt a m),.ref l])/\Paired (sA K H') (vals D' a.g n) (sC a m t)/\∃E,sZ K H' x {A with st:=E} (qH {a with g:=a.g+(gu a m t:Int),D:=iO a m t} ((sC a m t).take i))) ⟨⟨_,rfl⟩,k1,v,hp,pv,A.st,_,h1,O⟩ (fun i σ H' _ hp=>cI.of hp.2.2.1) (fun i y σ H' hy hq=>?_) (fun σ H' hq=>?_)
  ·obtain⟨⟨v4,rfl⟩,kk,el,ep,W,E,hh⟩:=hq;obtain⟨tt,et,q0,rfl,hs⟩:=Dg W hy;have hh':=hh;obtain⟨zz,hz,_⟩:=hh';exists hz.hx;refine⟨_,_,.inr hs,lO,?_⟩;refine⟨_,_,hh,?_,fun I H2 k2 hm=>?_⟩
   ·have:=EI ((sC a m t).take i) {a with g:=a.g+(gu a m t:Int),D:=iO a m t};rw[n4] at this;have e:({a with g:=a.g+(gu a m t:Int),D:=iO a m t}:gF).T=a.T:=rfl;rw[e] at this;lia
   ·have i2:jz H' H2:=fun b u e j=>k2 _ _ e (hz.imm e j);refine⟨⟨_,rfl⟩,kk.trans k2,k2 _ _ el fl,k2 _ _ ep fp,aP W fun _ _ w=>w.keep i2,I,?_⟩;rw[Jt et];exact hm
  ·obtain⟨⟨v4,rfl⟩,kk,el,ep,W,E,hh⟩:=hq;exists 7,u2;exists ep;intro r nr;have G:aE H' _:=EK (o:= .tup [.str "filed",.int (qt a m)]) nr;refine q E r _ (kk.trans (Kp.of G)) ?_ ?_
   ·unfold EF;rw[a5 c];have U:=hh.same G;rw[cK W,AB] at U;exact U
   ·unfold Gs;rw[a5 c];exact du.of ag
theorem DE:OM P w mg base T.yL ig 5 (oN K):=by
 exists 0,T.yL,ig,oN,(ae (aw 3 ig.1.nd (ai (ai (pv 0) T.aH T.bu) T.ak T.aI))
 (aj (ae (bh (bK (ai (pv 0) T.aH T.bu) T.ak (y8 T) HR (bq (aA K (pv 1) aa) (bq (aA K (pv 1) aa) (cb (aA K (pv 1) aa) (pv 2))))))
 (aj (ah (eS j1 rfl (cL K rfl (ai (pv 0) T.aH T.iw)) (aJ 4 ig.1.nd) (ah (aW (EY pW jr (pv 3) (pv 4) (ai (ai (pv 0) T.aH T.bu) T.ak T.aI)) (ah (aB (pv 0) (ur (ai (pv 0) T.aH T.bN) (Bk T) HR (by decide)) T.aH T.bN)) aC))))))))
 rename_i x pc tn;obtain⟨A,a,kd,n,nu,rm,hd,sg,hs,⟨z,G,hR⟩,hp,hhd,ok,q⟩:=h;obtain⟨vs,es1,es2,es3⟩:=hR.s;have hS:=G.sd;rw[es1] at hS;exists 6,u1;exists G.hx,hS.hx;exists 8,u1,u2;exists G.hx,hS.hx,hp;refine⟨_,_,hs,hS,⟨ok.bz.b0,ok.bz.bt,ok.bz.t1⟩,ok.r0,hhd,ok.hl,ok.hn,ok.hp,ok.tq,ok.kl,ok.tm,ok.kc,fun p O np f1 alt=>?_⟩;have h1:Jh O x A {z with sd:={cq a.s nu rm hs tn with T:=vs}}:=by
  rw[<-P7];rcases alt with⟨c,S1,_⟩|⟨c,s1,_⟩
  ·have e:cq {a.s with T:=vs} nu rm hs tn={a.s with T:=vs}:=by unfold cq;rw[bc c]
   rw[e,<-es1];exact G.same S1
  ·have e:cq {a.s with T:=vs} nu rm hs tn=hrd {a.s with T:=vs} nu rm hs tn:=by unfold cq;rw[a5 (by lia)]
   rw[e];exact G.sender f1 s1
 have k1:Kp (foot x A) H O:=(A_.kp f1).more (fun b hb=>by simp only[cR,d3,lj] at hb;rcases hb with e|e|e|e|e|e|e<;>subst e<;>simp[foot])
 have Y:jz H O:=fun b u e i=>k1 _ _ e (G.imm e i);have F:=hR.keep Y;have U:Paired (sA K O) vs a.T:=aP es2 fun _ _ w=>w.keep Y;have Z:(cq a.s nu rm hs tn).T.length=vs.length:=by rw[Fs];exact es3
 unfold Au at q;clear alt;generalize cq a.s nu rm hs tn=s2 at*
 exists 7,u2;exists h1.hx,h1.sd.hx;refine pF (xs:=z.ends.map V.int) (cI.of h1.he) (fun i σ H'=>(∃v4,σ= [some (.ref x),some (.ref pc),some (.int tn),some (.int a.s.b),v4])/\Kp (foot x A) H H'/\∃C v,v.sd.b=s2.b/\v.ends=z.ends/\v.nm=pI a.s.b s2.b (a.ends.take i) a.nm/\Jh H' x {A with st:=C} v/\c8 K H' v {a with s:=s2,nm:=pI a.s.b s2.b (a.ends.take i) a.nm}) ⟨⟨_,rfl⟩,k1,A.st,_,rfl,rfl,F.nm,h1,?_⟩ (fun i σ H' _ hq=>?_) (fun i y σ H' hy hq=>?_) (fun σ H' hq=>?_)
 ·show c8 K O _ {a with s:=s2,nm:=a.nm};rw[F.nm];exact c8.snd F U Z
 ·obtain⟨_,_,C,v,_,ee,_,hh,_⟩:=hq;have:=hh.he;rw[ee] at this;exact cI.of this
 ·obtain⟨⟨v4,rfl⟩,kk,C,v,e1,e2,e3,hh,I⟩:=hq;obtain⟨pl,E,rfl⟩:∃pl,a.ends[i]?=some pl/\y = .int pl:=by
   rw[vr,hR.ends] at hy;cases e:a.ends[i]? with
   |none=>rw[e] at hy;cases hy
   |some pl=>rw[e] at hy;cases hy;exact⟨pl,rfl,rfl⟩
  exists hh.hx,hh.sd.hx;rw[e1];by_cases Q:a.s.b<=pl
  ·rw[bc Q];by_cases X:pl<s2.b
   ·rw[bc X];refine⟨_,hh.st,fun nx hn y H2 S2 t2=>?_⟩;have h2:=hh.same S2;exists h2.hx;have h3:=h2.own t2 v.due;have k3:Kp (foot x A) H2 (upd H2 x (.ins az A.dx (aT (.int v.side) (.int v.R) (.ref A.tk) (.ref A.sd) (.ref y) (.bl v.due) (.ref A.pe)))):=Kp.upd (by simp[foot]);have i3:jz H' (upd H2 x (.ins az A.dx (aT (.int v.side) (.int v.R) (.ref A.tk) (.ref A.sd) (.ref y) (.bl v.due) (.ref A.pe)))):=fun b u e i=>k3 _ _ (S2 _ _ e) (h2.imm (S2 _ _ e) i);have W:nx=pI a.s.b s2.b (a.ends.take (i+1)) a.nm:=by
     rw[oo E,bc ⟨Q,X⟩];rw[e3,uD (by decide+kernel) (by decide+kernel)] at hn;injection hn with hn;exact hn.symm
    refine⟨⟨_,rfl⟩,(kk.trans (Kp.of S2)).trans k3,y,{v with nm:=nx},e1,e2,W,h3,?_⟩;rw[W];exact(I.keep i3).name
   ·rw[a5 X];refine⟨⟨_,rfl⟩,kk,C,v,e1,e2,?_,hh,?_⟩
    ·rw[oo E,a5 (fun c=>X c.2)];exact e3
    ·rw[oo E,a5 (fun c=>X c.2)];exact I
  ·rw[a5 Q];refine⟨⟨_,rfl⟩,kk,C,v,e1,e2,?_,hh,?_⟩
   ·rw[oo E,a5 (fun c=>Q c.1)];exact e3
   ·rw[oo E,a5 (fun c=>Q c.1)];exact I
 ·obtain⟨⟨v4,rfl⟩,kk,C,v,e1,e2,e3,hh,I⟩:=hq;rw[cF,hR.ends,AB] at I;exact q C H' kk ⟨v,hh,I⟩
theorem yZ:OF P w base T.rH jL 6 jA:=by
 exists 0,T.rH,jL,jA,(ah (Mt (fun _ _ _=>(ah (aq (RW (Pz T) HR (by decide) rfl (vB rfl) (cJ (pv 0)))))) (RP rfl (DG T.Gh rfl (DG T.Jj rfl (DG T.Gg rfl Se))) (by simp) (fun _=>(ah (aq bW))) Mw)));rename_i f;obtain⟨x,z⟩:=h;exists T.ma,T.nE,T.pV,T.l_,T.nF,T.l9,T.my,T.nL,T.p8,T.mw,T.nM,T.mv;refine⟨fun c H' d i _ t q y ne=>x ?_ _ ((i.trans (ao q)).trans (ao ne)),fun c u H' d i _ t q y ne=>x ?_ _ ((i.trans (ao q)).trans (ao ne)),fun c u v H' d i _ t q y ne=>x ?_ _ ((i.trans (ao q)).trans (ao ne)),fun c u v t H' i rt=>z ?_ t H' i rt⟩
 ·unfold sS;rw[cz c];rfl
 ·unfold sS;rw[cz u,nS,ri]
 ·unfold sS;rw[v,ri,ri]
 ·unfold sS;rw[eT c,eT u,v];rfl
theorem DF:OM P w mg base T.yM kj 7 (oO K):=by
 exists 0,T.yM,kj,oO,(ae (aw 3 kj.1.nd (aO (yZ T) HR (cJ (pv 1))))
 (aj (ae (aW (PW.pt (pw_or (a_ mi (pv 3) bW) (pw_or (a_ Ah (aA K (pv 3) aa) (ai (pv 0) T.aH T.mr)) (pw_or1 (a_ Ah (aA K (pv 3) aa) (ai (pv 0) T.aH T.mr)))))) (ah (aq (bw (cb aU bW)))) aC)
 (aj (ae (bh (bK (pv 0) T.aH (DE T) HR (cb (pv 3) (pv 2))))
 (aj (ae (aW (cu K HR (aA K (pv 3) aa) aU) (ah (aq (bw (cb aU bW)))) aC)
 (aj (ae (aB (pv 0) dg T.aH T.di)
 (aj (ae (aW (cu K HR (aA K (pv 3) aa) aU) (ah (aq (bw (cb aU bW)))) aC)
 (aj (ah (aq (bK (pv 0) T.aH (zb T) HR (cb (aA K (pv 3) aa) (bw (cb (aA K (pv 3) aa) (aA K (pv 3) aa)))))))))))))))))))
 rename_i x f tn;obtain⟨A,a,⟨z,hH,hR⟩,ok,⟨r0,m0,m1,og,hT⟩,q⟩:=h;have I:∀C,aE H C->eB a f=false->∀p,C p=none->Q (.ref p) (upd C p (.tup [.str "spoilt",.non])):=fun C y c p U=>by
  have S2:=y.trans (ao (o:= .tup [.str "spoilt",.non]) U);refine q A.st p _ (Kp.of S2) ?_ ?_
  ·unfold yO;rw[a5 (by rw[c];decide)];exact HM.same ⟨z,hH,hR⟩ S2
  ·unfold CB;rw[a5 (by rw[c];decide)];exact du.of ag
 exists 6,u1;exists hH.hx;refine⟨fun c C y=>?_,fun c pc C y rt=>?_⟩
 ·exists 8,u1,u2;exists (hH.same y).hx;exact I C y (by unfold eB;rw[c];rfl)
 have h1:=hH.same y;have hR1:=hR.keep (jz.of y);obtain⟨hd,hp,hhd⟩:=rt;exists 8,u1,u2;exists h1.hx,hp;rw[hR.R];by_cases c1:a.R<=Es (f.toNat / 256)
 ·rw[bc c1];exact I C y (by unfold eB gx;rw[cz (by lia),nS,ri])
 rw[a5 c1];by_cases c2:a.R<=Kw (f.toNat / 256)
 ·rw[bc c2];exact I C y (by unfold eB gx;rw[cz (show¬Kw (f.toNat / 256)<a.R by lia),ri,ri])
 rw[a5 c2];have O:eB a f=true:=by unfold eB gx;rw[c,eT (by lia),eT (by lia)];rfl
 unfold yO CB at q;rw[bc O,bc O] at q;exists 8,u2,u3;exists h1.hx;refine⟨A,a,_,_,_,_,_,_,_,⟨z,h1,hR1⟩,hp,hhd.1,ok O,fun v G k2 m2=>?_⟩;have fpc:pc ∉ foot x A:=h1.imm hp (.inl ⟨_,rfl⟩);have Z:=k2 _ _ hp fpc;have kk:Kp (foot x A) H G:=(Kp.of y).trans k2;have m2':sZ K G x {A with st:=v} (qr a f tn):=m2;obtain⟨F,E,hr2⟩:=m2';exists 8,u3,u4;exists Z;by_cases W:qu (f.toNat / 256)="bare"
 ·rw[bc W];intro p U;have Y:=ao (o:= .tup [.str "bare",.non]) U;refine q v p _ (kk.trans (Kp.of Y)) ?_ ?_
  ·rw[bc (show qu (gx f) = "bare" from W)];exact HM.same m2 Y
  ·rw[bc (show qu (gx f) = "bare" from W)];exact du.of ag
 rw[a5 W];rw[a5 (show¬qu (gx f) = "bare" from W),a5 (show¬qu (gx f) = "bare" from W)] at q;exists 8,u4,u5;exists E.hx;have h3:=E.own E.st true;have k3:Kp (foot x A) G (upd G x (.ins az A.dx (aT (.int F.side) (.int F.R) (.ref A.tk) (.ref A.sd) (.ref v) (.bl true) (.ref A.pe)))):=Kp.upd (by simp[foot]);have i3:jz G (upd G x (.ins az A.dx (aT (.int F.side) (.int F.R) (.ref A.tk) (.ref A.sd) (.ref v) (.bl true) (.ref A.pe)))):=fun b u e i=>k3 _ _ e (E.imm e i);have m3:sZ K (upd G x (.ins az A.dx (aT (.int F.side) (.int F.R) (.ref A.tk) (.ref A.sd) (.ref v) (.bl true) (.ref A.pe)))) x {A with st:=v} {qr a f tn with due:=true}:=⟨_,h3,(hr2.keep i3).dued⟩;generalize upd G x (.ins az A.dx (aT (.int F.side) (.int F.R) (.ref A.tk) (.ref A.sd) (.ref v) (.bl true) (.ref A.pe)))=H3 at*
 have hp3:=k3 _ _ Z fpc;exists 8,u5,u6;exists hp3;by_cases X:qu (f.toNat / 256)="ask"
 ·rw[bc X];intro p U;have Y:=ao (o:= .tup [.str "ask",.non]) U;refine q v p _ ((kk.trans k3).trans (Kp.of Y)) ?_ ?_
  ·rw[bc (show qu (gx f) = "ask" from X)];exact HM.same m3 Y
  ·rw[bc (show qu (gx f) = "ask" from X)];exact du.of ag
 rw[a5 X];rw[a5 (show¬qu (gx f) = "ask" from X),a5 (show¬qu (gx f) = "ask" from X)] at q;exists 7,u6;exists h3.hx,hp3;intro p U;have S4:=ao (o:= .tup [.str (qu (f.toNat / 256)),.str (B9 (f.toNat / 256))]) U;exact⟨_,_,(qu (f.toNat / 256),B9 (f.toNat / 256)),HM.same m3 S4,⟨p,rfl,du.of ag⟩,⟨r0,m0,m1,og,hT⟩,fun st' r H' k4 m4 s4=>q st' r H' (((kk.trans k3).trans (Kp.of S4)).trans k4) m4 s4⟩
theorem xp:OM P w mg base T.qm dC 3 (iV K):=by
 exists 0,T.qm,dC,iV,(ae (aw 3 dC.1.nd (bI (ai (pv 0) T.aH T.cw) T.aQ (y7 T) HR))
 (aj (ae (aW (a_ mi (pv 2) bW) (ah (aq (bw (bq (pv 1) (bq aa (bq (aA K (pv 3) aa) (bq (aA K (pv 3) aa) (cb (aA K (pv 3) aa) aU)))))))) aC)
 (aj (ae (aw 4 dC.1.nd (bK (ai (pv 0) T.aH T.bu) T.ak (pZ T) HR (cJ (pv 2))))
 (ah (aq (bw (bq (cG K (pv 4) aa) (bq (au bp (pv 2) (ai (pv 0) T.aH T.mr)) (bq (aA K (pv 3) aa) (bq (aA K (pv 3) aa) (cb (aA K (pv 3) aa) (cG K (pv 4) aa))))))))))))))
 rename_i x w pl;obtain⟨A,a,⟨z,C,i⟩,⟨r0,m0,m1⟩,q⟩:=h;exists 6,u1;exists C.hx,C.tk.hx;refine⟨_,_,_,C.tk,by rw[i.tR];exact r0,by rw[i.o,i.tM,i.g];exact⟨m0,m1⟩,fun p t hs W E y Z X ht hp=>?_⟩;rw[i.held] at y;rw[i.o,i.tM,i.g,i.tR] at hp;subst y;have hl:(yd a).length<=1000:=by
  unfold yd;rw[cF];refine fv (j0 _ _) ?_;rw[p6];lia
 have h1:=C.same E;have H:=i.keep (jz.of E);exists 8,u1,u2;rcases q with⟨rfl,q⟩|⟨Y,th,rfl,G,I,q⟩
 ·exists hp;intro F u;exact q F _ (E.trans (ao u)) ⟨t,ag,by rw[af (fun z=>by rw[z,u] at ht;cases ht)];exact ht,hl,by decide+kernel⟩
 ·exists hp;exists 8,u2,u3;exists h1.hx,h1.sd.hx;obtain⟨vs,es1,O,Q⟩:=H.s;obtain⟨v,U,tp,rfl,hs⟩:=RM O G;refine⟨_,_,.ref tp,h1.sd,by rw[es1];exact U,?_⟩;refine⟨_,_,.inr hs,lO,?_⟩;exists h1.hx,hp;rw[i.R];refine⟨r0,?_⟩;refine⟨_,_,.inr hs,om,fun F u=>?_⟩;exact q F _ (E.trans (ao u)) ⟨t,ag,by rw[af (fun z=>by rw[z,u] at ht;cases ht)];exact ht,hl,I⟩
theorem DC:OM P w mg base T.yI fA 5 (oJ K):=by
 exists 1,T.yI,fA,oJ,(ae (PS.nox (aw 2 fA.1.nd (bK (ai (pv 0) T.aH T.bu) T.ak (Dz T) HR (cJ (pv 1)))))
 (aj (ae (PS.nox (aW (PW.pt (pw_and (a_ mi (pv 2) bW) (pw_and1 (dE (jY (ai (pv 0) T.aH T.di)))))) (ah (aq bW)) aC))
 (aj (ae (PS.nox (aw 3 fA.1.nd (jq (a_ mi (pv 2) bW) aU (aA K (pv 2) aa))))
 (aj (ae (PS.nox (aw 4 fA.1.nd (jq (a_ mi (pv 2) bW) bW (aA K (pv 2) aa))))
 (aj (ae (PS.nox (aB (pv 0) dg T.aH T.di))
 (aj (ah (aq (bw (bq (RY (Aj T) HR (by decide) rfl tu rfl (cJ (bK (pv 0) T.aH (xp T) HR (cb (pv 3) (pv 4))))) (cb (pv 3) (pv 4))))))))))))))))
 rename_i x n;obtain⟨A,a,⟨z,Z,hR⟩,ok,q1,q2⟩:=h;obtain⟨vs,es1,es2,Q⟩:=hR.s;have hS:=Z.sd;rw[es1] at hS;exists 6,u1;exists Z.hx,hS.hx;refine⟨_,_,hS,⟨ok.bz.b0,ok.bz.bt,ok.bz.t1⟩,ok.ck,ok.la,ok.lf,fun v q z' f1 s1 g1=>?_⟩;obtain⟨e1,alt⟩:=Vw g1;rw[Vx Q] at e1 alt;subst e1;have h1:Jh q x A {z with sd:={(xF a.s n).1 with T:=vs}}:=Z.sender f1 s1;have k1:Kp (foot x A) H q:=(A_.kp f1).more (fun b hb=>by simp only[cR,d3,lj] at hb;rcases hb with e|e|e|e|e|e|e<;>subst e<;>simp[foot])
 have X:jz H q:=fun b u e i=>k1 _ _ e (Z.imm e i);have I:=hR.keep X;have C:Paired (sA K q) vs a.T:=aP es2 fun _ _ w=>w.keep X;have el:(xF a.s n).1.T.length=vs.length:=by rw[Np];exact Q
 exists 8,u1,u2;rcases alt with⟨e2,rfl⟩|⟨w,pl,p,e2,rfl,np,hp⟩
 ·exists h1.hx;cases ed:z.due
  ·rw[bc rfl];have ea:a.due=false:=by rw[<-hR.due];exact ed
   refine q1 (by unfold yU;rw[show(xF a.s n).2=none from e2];show(if a.due then _ else _)=_;rw[ea];rfl) q k1 ⟨_,h1,?_⟩;have m:=c8.sent (d:=z.due) I C el;rw[show b9 a n={a with s:=(xF a.s n).1,due:=z.due} by unfold b9;rw[ed]];exact m
  rw[a5 (by decide)];have ea:a.due=true:=by rw[<-hR.due];exact ed
  have sw:yU a n=some (Str.ofString "bare",none):=by unfold yU;rw[show(xF a.s n).2=none from e2];show(if a.due then _ else _)=_;rw[ea];rfl
  have pb:=ok.pb _ _ sw;exists 8,u2,u3;exists 9;exists 8,u3,u4;exists 9;exists 8,u4,u5;exists h1.hx;have W:=h1.own h1.st false;have k3:Kp (foot x A) q (upd q x (.ins az A.dx (aT (.int z.side) (.int z.R) (.ref A.tk) (.ref A.sd) (.ref A.st) (.bl false) (.ref A.pe)))):=Kp.upd (by simp[foot]);have U:jz q (upd q x (.ins az A.dx (aT (.int z.side) (.int z.R) (.ref A.tk) (.ref A.sd) (.ref A.st) (.bl false) (.ref A.pe)))):=fun b u e i=>k3 _ _ e (h1.imm e i);have O:sZ K (upd q x (.ins az A.dx (aT (.int z.side) (.int z.R) (.ref A.tk) (.ref A.sd) (.ref A.st) (.bl false) (.ref A.pe)))) x A (b9 a n):=⟨{z with sd:={(xF a.s n).1 with T:=vs},due:=false},W,c8.sent (I.keep U) (aP C fun _ _ w=>w.keep U) el⟩;generalize upd q x (.ins az A.dx (aT (.int z.side) (.int z.R) (.ref A.tk) (.ref A.sd) (.ref A.st) (.bl false) (.ref A.pe)))=H3 at*
  exists 7,u5;exists W.hx;refine⟨A,b9 a n,O,⟨ok.r0,ok.m0,ok.m1⟩,?_⟩;refine .inl fun t H4 F tt=>?_;refine⟨_,_,_,_,_,_,tt,fun _ H5 E Y y=>?_,fun c=>absurd (pb.1.symm.trans c) (by decide)⟩;exact q2 _ _ sw Y _ (((k1.trans k3).trans (Kp.of F)).trans (Kp.of (E.trans (ao y)))) (HM.same O ((F.trans E).trans (ao y))) ag
 ·exists h1.hx;have sw:yU a n=some (w,pl):=by unfold yU;rw[show(xF a.s n).2=some (w,pl) from e2]
  have pb:=ok.pb _ _ sw;exists 8,u2,u3;exists hp;exists 8,u3,u4;exists hp;exists 8,u4,u5;exists h1.hx;have W:=h1.own h1.st false;have k3:Kp (foot x A) q (upd q x (.ins az A.dx (aT (.int z.side) (.int z.R) (.ref A.tk) (.ref A.sd) (.ref A.st) (.bl false) (.ref A.pe)))):=Kp.upd (by simp[foot]);have U:jz q (upd q x (.ins az A.dx (aT (.int z.side) (.int z.R) (.ref A.tk) (.ref A.sd) (.ref A.st) (.bl false) (.ref A.pe)))):=fun b u e i=>k3 _ _ e (h1.imm e i);have O:sZ K (upd q x (.ins az A.dx (aT (.int z.side) (.int z.R) (.ref A.tk) (.ref A.sd) (.ref A.st) (.bl false) (.ref A.pe)))) x A (b9 a n):=⟨{z with sd:={(xF a.s n).1 with T:=vs},due:=false},W,c8.sent (I.keep U) (aP C fun _ _ w=>w.keep U) el⟩;generalize upd q x (.ins az A.dx (aT (.int z.side) (.int z.R) (.ref A.tk) (.ref A.sd) (.ref A.st) (.bl false) (.ref A.pe)))=H3 at*
  exists 7,u5;exists W.hx;refine⟨A,b9 a n,O,⟨ok.r0,ok.m0,ok.m1⟩,?_⟩;cases pl with
  |none=>
   refine .inl ⟨rfl,fun t H4 F tt=>?_⟩;refine⟨_,_,_,_,_,_,tt,fun _ H5 E Y y=>?_,fun c=>absurd (pb.1.symm.trans c) (by decide)⟩;exact q2 _ _ sw Y _ (((k1.trans k3).trans (Kp.of F)).trans (Kp.of (E.trans (ao y)))) (HM.same O ((F.trans E).trans (ao y))) ag
  |some G=>
   obtain⟨th,t1,t2⟩:=pb.2 G rfl;have et:GO a w (some G)=th:=by
    show(iN a.T G).getD _=th;rw[t1];rfl
   have sb:cB th.1 (G % a.R) (a.g % a.R) (a.o+a.M-a.g) (yd a) th.2=true:=by
    have:=pb.1;unfold LL at this;rw[et] at this;exact this
   have en:Jw a w (some G)=iy th.1 (G % a.R) (a.g % a.R) (a.o+a.M-a.g) (yd a) th.2:=by
    unfold Jw;rw[et];rfl
   refine .inr ⟨G,th,rfl,t1,t2,fun t H4 F tt=>?_⟩;refine⟨_,_,_,_,_,_,tt,fun _ H5 E Y y=>?_,fun c=>absurd (sb.symm.trans c) (by decide)⟩;exact q2 _ _ sw Y _ (((k1.trans k3).trans (Kp.of F)).trans (Kp.of (E.trans (ao y)))) (HM.same O ((F.trans E).trans (ao y))) (by rw[en];exact ag)
theorem pX:OF P w base T.rL jP 1 (jD K):=by
 exists 0,T.rL,jP,jD,(ae (aW (a_ jr (pv 1) (aD (je K rfl) (by rfl) T.j_ gj (cJ (pv 0)))) (ah (aq (cG K (pv 0) (pv 1)))) aC)
 (ah (aq aa)))
 rename_i a k;obtain⟨ns,i,h0,q⟩:=h;exists 9;refine⟨_,.inl i,?_⟩;rw[cF];split
 ·rename_i c;exact Nf i h0 c (q _)
 ·exact q _
theorem jg:OF P w base T.wa eF 1 mN:=by
 exists 0,T.wa,eF,mN,(ae (aW (PW.pt (pw_and (a_ Ah (pv 0) (au gD aa aa)) (pw_and1 (a_ qY (au j2 (pv 0) (aF K aa (au gV aa (pv 1)))) aa)))) (ah (aq (au bp (au j2 (pv 0) (aF K aa (au gV aa (pv 1)))) aa))) aC)
 (aj (ae (aw 2 eF.1.nd (aF K (au bp (pv 0) aa) aa))
 (ae (eS j1 rfl (fB rfl T.eC (cJ aa)) (aJ 3 eF.1.nd) (ah (aw 2 eF.1.nd (au bp (aF K (aF K (au gV (pv 2) (pv 2)) (au gV aa (pv 2))) (pv 1)) aa))))
 (ah (aq (pv 2)))))))
 rename_i c k;obtain⟨h0,q⟩:=h;exists 6,u1;exists 9;have sh:Oo 1 90:=⟨⟨by decide,by decide⟩,by decide+kernel,by decide+kernel⟩;have tail:u1 {nx:=fun _ H'=>Q .non H',rt:=Q} [some (.int c),some (.int k),none,none] H:=by
  exists 7,u1;exists 9;refine pE (lo:=0) (n:=3) (fun i σ H'=>H'=H/\∃v u,σ= [some (.int c),some (.int k),some (.int v),u]/\0<=v/\v<2147483647+(if i=0 then 48271 else 0)) ⟨rfl,_,none,rfl,by lia,by rw[bc rfl];lia⟩ (fun i σ H' _ hp=>?_) (fun σ H' hp=>?_)
  ·obtain⟨rfl,v,u,rfl,h0,h1⟩:=hp;exists 9;have x:v<3000000000:=by split at h1<;>lia
   exact⟨.inl ⟨by lia,by lia⟩,_,_,rfl,ny _ (by decide),nt _ (by decide)⟩
  ·obtain⟨rfl,v,u,rfl,h0,h1⟩:=hp;exists 9;exact q v h0 (by rw[a5 (by decide)] at h1;lia)
 refine⟨sh,?_⟩;split
 ·refine⟨by lia,?_⟩;split
  ·exact⟨by lia,q _ (ny _ (by decide)) (nt _ (by decide))⟩
  ·exact tail
 ·exact tail
theorem Bg:OF P w base T.vY bT 5 mK:=by
 exists 0,T.vY,bT,mK,(ae (aw 2 bT.1.nd (bw (cb (aF K aa (au bp (pv 0) aa)) (aF K aa (au bp (au bJ (pv 0) aa) aa)))))
 (ae (aw 3 bT.1.nd (aF K aa (au bp (au bJ (pv 0) aa) aa)))
 (aj (kr (aW (a_ qY (au bp (au bJ (pv 0) aa) aa) aa) (ae (aw 2 bT.1.nd (bw (cb (aF K aa (au bp (pv 0) aa)) (aF K aa (au bp (au bJ (pv 0) aa) aa)))))
 (ah (aw 3 bT.1.nd (aF K aa (au bp (au bJ (pv 0) aa) aa))))) aC)
 (aj (ae (aw 4 bT.1.nd (aD (CC K rfl rfl) (by rfl) T.CJ yc (cJ (aF K (fh (cJ (aF K aa (au bJ (pv 3) aa)))) (gC (N:=(["_law_room","_law_lag"]:List Str)) (nv:=1) (ix:=[3]) rfl (lJ (by kernel_rfl)) (cL K rfl (pv 2)) (fun _ _ _ _ _=>(aJ 0 (show((["_law_room","_law_lag"]:List Str)).Nodup by decide))) (fun _ _ _ _ _=>(md (a_ qY (pv 0) aa))) (fun _ _ _ _ _=>(au cM (aF K (au gV aa (pv 0)) (pv 1)) aa)))))))
 (aj (ae (aw 5 bT.1.nd (aF K aa (au bp (pv 1) aa)))
 (aj (kr (aW (a_ qY (au bp (au bJ (pv 1) aa) aa) aa) (ah (aw 5 bT.1.nd (aF K aa (au bp (pv 1) aa)))) aC)
 (aj (ae (aw 6 bT.1.nd (aF K (pv 4) (au bp (au bJ (pv 1) aa) (au cM aa (pv 4)))))
 (aj (ah (aq (uu T.d_ (vF T) HR (by decide) rfl (bq (pv 6) (bq (pv 2) (bq (pv 3) (cb (pv 5) (aF K (pv 5) (au bp (au bJ (pv 1) aa) (au cM aa (pv 5))))))))))))))))))))))))
 rename_i c n;exists 6,u1;exists 9;have S0:aE H H:=aE.refl H;intro p0 W;have U:=ag (H:=H) (a:=p0) (o:=(.tup [.int (1+c % 16),.int (1+c / 16 % 16)]));have s_p0:=ao (H:=H) (o:=(.tup [.int (1+c % 16),.int (1+c / 16 % 16)])) W;replace S0:=S0.trans s_p0;generalize upd H p0 ((.tup [.int (1+c % 16),.int (1+c / 16 % 16)]))=H1 at*
 exists 8,u1,u2;refine⟨fun v H'=> ∃p o t g,v= [some (.int c),some (.int n),some (.ref p),some (.int g),none,none,none]/\aE H H'/\H' p=some (.tup [.int o,.int t])/\(1<=o/\o<=16)/\(1<=t/\t<=16)/\(1<=g/\g<=32),?_,?_⟩
 ·exists 9;split
  ·intro p1 hp1;exact⟨p1,_,_,_,rfl,S0.trans (ao hp1),ag,by lia,by lia,by lia⟩
  ·exact⟨p0,_,_,_,rfl,S0,U,by lia,by lia,by lia⟩
 rintro v H2 ⟨p,o,t,g,rfl,O,hp,bo,bt,bg⟩;exists 8,u2,u3;exists 9;intro p3 X;have z:=ag (H:=H2) (a:=p3) (o:=(.lst [.int (2+g / 2)]));have E:=ao (H:=H2) (o:=(.lst [.int (2+g / 2)])) X;replace hp:=E _ _ hp;replace O:=O.trans E;generalize upd H2 p3 ((.lst [.int (2+g / 2)]))=H3 at*
 refine x8 (p:=fun x=>match x with | .int i=>decide (1<i)|_=>false) (f:=fun x=>match x with | .int i=> .int (2*i+g-1)|_=> .non) (du.of hp) (aR (by simp)) (fun x hx Q h=>?_) (fun x hx _ Q h=>?_) ?_
 ·simp only[cR,d3,lj] at hx;rcases hx with rfl|rfl<;>(exists 9;exact h)
 ·simp only[cR,d3,lj] at hx;rcases hx with rfl|rfl<;>(exists 9;exact h)
 obtain⟨ns,en,ln,n1,n2,n3⟩:∃ns:List Int,List.map (fun x=>match x with|V.int i=>V.int (2*i+g-1)|_=>V.non) (List.filter (fun x=>match x with|V.int i=>decide (1<i)|_=>false) [V.int o,V.int t])=ns.map V.int/\ns.length<=2/\(1<o->2*o+g-1∈ns)/\(1<t->2*t+g-1∈ns)/\∀m∈ns,m<=63:=by
  by_cases G:1<o<;>by_cases I:1<t
  ·exact⟨[2*o+g-1,2*t+g-1],by simp[G,I],by simp,fun _=>by simp,fun _=>by simp,fun m hm=>by simp at hm;lia⟩
  ·exact⟨[2*o+g-1],by simp[G,I],by simp,fun _=>by simp,fun h=>absurd h I,fun m hm=>by simp at hm;lia⟩
  ·exact⟨[2*t+g-1],by simp[G,I],by simp,fun h=>absurd h G,fun _=>by simp,fun m hm=>by simp at hm;lia⟩
  ·exact⟨[],by simp[G,I],by simp,fun h=>absurd h G,fun h=>absurd h I,fun m hm=>by cases hm⟩
 rw[en];refine⟨aR (by rw[cF];lia),?_⟩;intro p4 Z;have Y:=ag (H:=H3) (a:=p4) (o:=(.lst (ns.map V.int)));have y:=ao (H:=H3) (o:=(.lst (ns.map V.int))) Z;replace hp:=y _ _ hp;replace z:=y _ _ z;replace O:=O.trans y;generalize upd H3 p4 ((.lst (ns.map V.int)))=H4 at*
 refine A4 z Y (by rw[cF,fR];simp;lia) ?_;intro p5 hp5;have S5:=O.trans (ao (o:= .lst ([V.int (2+g / 2)]++ns.map V.int)) hp5);have F:=aM (o:= .lst ([V.int (2+g / 2)]++ns.map V.int)) hp hp5;refine⟨(2+g / 2)::ns,cI.of ag,by simp,fun M hM hle=>?_⟩;generalize upd H4 p5 (.lst ([V.int (2+g / 2)]++ns.map V.int))=H5 at*
 have M1:=hle _ (sm ..);have M2:1<o->2*o+g-1<=M:=fun q=>hle _ (hQ _ (n1 q));have M3:1<t->2*t+g-1<=M:=fun q=>hle _ (hQ _ (n2 q));have M4:M<=63:=by
  rcases cR.mp hM with q|q
  ·lia
  ·exact n3 _ q
 exists 8,u3,u4;exists 9;exists 8,u4,u5;refine⟨fun v H'=> ∃f,v= [some (.int c),some (.int n),some (.ref p),some (.int g),some (.int M),some (.int f),none]/\H'=H5/\(2<=f/\f<=64),?_,?_⟩
 ·exists 9;split
  ·exact⟨_,rfl,by lia,by lia⟩
  ·exact⟨_,rfl,by lia,by lia⟩
 rintro v H' ⟨f,rfl,rfl,bf⟩;exists 8,u5,u6;exists 9;have r0:=ny (n / 252) (show 65-M≠0 by lia);have r1:=nt (n / 252) (show 0<65-M by lia);generalize n / 252 % (65-M)=rr at*
 refine⟨by lia,?_⟩;exists 7,u6;exists 9;have l0:=ny (n / 16128) (show 65-f≠0 by lia);have l1:=nt (n / 16128) (show 0<65-f by lia);generalize n / 16128 % (65-f)=ll at*
 refine⟨by lia,fun x dx hx hdx ne=>?_⟩;have S6:=cW (C:=fK) (fs:=[]) hx hdx;have hg:good (M+rr) o t g f (f+ll):=⟨by lia,⟨bo,bt⟩,bg,by lia,by lia⟩;have hw: ¬M+rr<pB o t g:=by
  unfold pB j8;split<;>split<;>lia
 refine⟨o,t,dx,S6 _ _ F,rfl,hg,hw,fun H7 b7 h7=>?_⟩;refine h x _ o t g f _ H7 (fun b u e=>b7 _ _ (S6 _ _ (S5 _ _ e)) (ar (S5 _ _ e) hx)) ⟨dx,p,h7,b7 _ _ (S6 _ _ F) (ar F hx)⟩ ⟨hg,hw⟩
theorem Du:OF P w base T.yA dc 2 oB:=by
 exists 0,T.yA,dc,oB,(ae (aw 2 dc.1.nd aU)
 (ae (aw 2 dc.1.nd (aF K (pv 2) aU))
 (aj (ae (aw 3 dc.1.nd aU)
 (aj (ae (eS j1 rfl (fB rfl T.eC (cJ (pv 1))) (aJ 4 dc.1.nd) (ah (aw 3 dc.1.nd (aF K (pv 3) (aA K (pv 2) (au bp (au bJ (aO (jg T) HR (cb (pv 0) (aF K aa (au bJ (pv 4) aa)))) (aA K (fh (bq aa (bq aa (cb aa aa)))) (au bp (pv 4) aa))) aa))))))
 (aj (ah (aq (pv 3))))))))))
 rename_i c n;obtain⟨hn,q⟩:=h;exists 6,u1;exists 9;refine⟨by rw[fR];decide+kernel,?_⟩;rw[show(Str.ofString " !\"#$&'()*+,-./0123456789:;<=>?@ABCDEFGHIJKLMNOPQRSTUVWXYZ[\\]^_`" ++Str.ofString "abcdefghijklmnopqrstuvwxyz{|}~")=jK by decide+kernel];exists 8,u1,u2;exists 9;exists 8,u2,u3;exists 9;refine⟨by lia,?_⟩;refine pE (lo:=0) (n:=n.toNat) (fun k σ H'=>aE H H'/\∃z u,σ= [some (.int c),some (.int n),some (.str jK),some (.str z),u]/\z.length=k/\∀c∈z.cps.toList,c∈sgl) ⟨aE.refl _,_,_,rfl,rfl,fun c hc=>by cases hc⟩ (fun k σ H' hk hp=>?_) (fun σ H' hp=>?_)
 ·obtain⟨y,z,u,rfl,C,E⟩:=hp;exists 9;refine⟨by lia,fun v W U p hp=>?_⟩;obtain⟨d,I,bd⟩:∃d,iN [V.int 1,V.int 94,V.int 8836,V.int 830584] ((0+(k:Int)) % 4)=some (.int d)/\(0<d/\d<1000000):=by
   obtain e|e|e|e:(0+(k:Int)) % 4=0\/(0+(k:Int)) % 4=1\/(0+(k:Int)) % 4=2\/(0+(k:Int)) % 4=3:=by lia
   ·rw[e];exact⟨_,lO,by decide⟩
   ·rw[e];exact⟨_,om,by decide⟩
   ·rw[e];exact⟨_,Oa,by decide⟩
   ·rw[e];exact⟨_,Rb,by decide⟩
  refine⟨_,I,?_⟩;exists 9;refine⟨⟨bd.1,by lia⟩,?_⟩;rw[Md];have Q:=ny (v / d) (show(94:Int)≠0 by decide);have O:=nt (v / d) (show(0:Int)<94 by decide);obtain⟨j,G⟩:∃j:Nat,v / d % 94=(j:Int):=⟨(v / d % 94).toNat,by lia⟩;rw[G] at O⊢;have F:j<sgl.length:=by rw[HV];lia
  refine⟨sgl[j],by rw[fR];decide+kernel,rY (hI F),?_⟩;exists 9;refine⟨by rw[fR];simp[Str.length];rw[show z.cps.size=z.length from rfl,C];lia,y.trans (ao hp),_,_,rfl,?_,fun x hc=>?_⟩
  ·show(z.cps ++ #[sgl[j]]).size=k+1;rw[Array.size_append,show z.cps.size=z.length from rfl,C];rfl
  ·have i:x∈(z.cps ++ #[sgl[j]]).toList:=hc;rw[lp,gs] at i;rcases i with i|i
   ·exact E x i
   ·have e:x=sgl[j]:=by simpa using i
    rw[e];exact List.getElem_mem F
 ·obtain⟨y,z,u,rfl,C,E⟩:=hp;exists 7,u3;exists 9;exact q z H' y (by lia) E
theorem qZ:OF P w base T.tJ kP 2 (kJ K):=by
 exists 0,T.tJ,kP,kJ,(ah (aq (gC (N:=(["_law_place","_law_hand"]:List Str)) (nv:=1) (ix:=[0]) rfl (lJ (by kernel_rfl)) (fB rfl T.eC (cJ (bI (ai (pv 0) T.aH T.bu) T.ak (kW T) HR))) (fun _ _ _ _ _=>(aJ 0 (show((["_law_place","_law_hand"]:List Str)).Nodup by decide))) (fun _ _ _ _ _=>o6) (fun _ _ _ _ _=>(bK (ai (pv 1) T.aH T.bu) T.ak (pZ T) HR (cJ (pv 0)))))));rename_i x;obtain⟨A,a,U,hl,q⟩:=h;obtain⟨z,u,I⟩:=U;obtain⟨vs,e1,e2,e3⟩:=I.s;exists u.hx,u.sd.hx;refine⟨A.S,z.sd,u.sd,?_⟩;have F:z.sd.T=vs:=by rw[e1]
 have lv:=cK e2;rw[F];refine⟨⟨by lia,by lia⟩,?_⟩;refine D9 (p:=fun _=>true) (f:=fun v=>match v with | .int i=>(vs[i.toNat]?).getD .non|v=>v) (aR (by lia)) (fun i Q E C=>C) (fun i Q _ E C=>?_) ?_
 ·have y:i<vs.length:=by lia
  exists u.hx,u.sd.hx;refine⟨A.S,z.sd,vs[i],u.sd,by rw[F];rw[show(0+(i:Int))=(i:Int) by lia];exact rY (hI y),?_⟩;have G:E ((vs[(0+(i:Int)).toNat]?).getD .non) H:=C;rw[show(0+(i:Int)).toNat=i by lia,hI y,Option.getD_some] at G;exact G
 ·have O:(List.filter (fun x=>true) (lU 0 ((vs.length:Int)).toNat)).map (fun v=>match v with|V.int i=>(vs[i.toNat]?).getD .non|v=>v)=vs:=by
   rw[XF.mpr (fun _ _=>rfl),lU,sx];apply List.ext_getElem?;intro i;rw[vr];by_cases c:i<vs.length
   ·rw[XE (by lia)];show some ((vs[(0+(i:Int)).toNat]?).getD .non)=vs[i]?;rw[show(0+(i:Int)).toNat=i by lia,hI c];rfl
   ·rw[XT (by simp;lia),XT (by lia)];rfl
  rw[O];exact⟨aR (by lia),fun l nl=>q l vs _ (ao nl) ag (aP e2 fun _ _ t=>t.keep (jz.of (ao nl)))⟩
theorem c8.putn {K:W.Frag} {H:Hp} {z:Hn} {a:gF} {us:List V} {ts:List Th} {nm:Str} {es:List Int} (h:c8 K H z a) (i:Paired (sA K H) us ts):c8 K H {z with nm:=nm,ends:=es,sd:={z.sd with T:=z.sd.T++us}} {a with nm:=nm,ends:=es,T:=a.T++ts,s:={a.s with T:=a.s.T++ts.map fun _=>V.non}}:=by
 obtain⟨vs,e1,e2,e3⟩:=h.s;refine{h with s:=⟨_,?_,kT e2 i,?_⟩,nm:=rfl,ends:=rfl}
 ·simp_all
 ·rw[ey,ey,e3,cF,cK i]
theorem LO {c:Nat} (h:c∈sgl):Nk (.str ⟨#[c]⟩)=true:=by
 show(!(Builtin.Str.occurrences _ _ 0 _ 1).isEmpty)=true;rw[(ml h).1];rfl
theorem OK {z:Str} (h1:1<=z.length) (i:z.length<=60) (hc:∀c∈z.cps.toList,c∈sgl):qE z=true:=by
 unfold qE;rw[eT h1,eT i,pd,pd,Xu];intro v q;obtain⟨c,hm,rfl⟩:=ke.mp q;exact LO (hc c hm)
theorem LN {z:Str} {a b:Nat} (h:z.length<=b):Txt.slice z (some (a:Int)) (some (b:Int))=Txt.slice z (some (a:Int)) (some (z.length:Int)):=by
 have u:Builtin.Str.strSliceIndices (some (a)) (some (b)) 1 z.length=Builtin.Str.strSliceIndices (some (a)) (some (z.length)) 1 z.length:=by
  have a1: ¬((b:Int)<0):=by lia
  have i: ¬((z.length:Int)<0):=by lia
  have q:max (0) (min (b:Int) (z.length))=max (0) (min (z.length:Int) (z.length)):=by lia
  simp only[Builtin.Str.strSliceIndices,a1,i,Xs,q,show((1:Int) > 0)=True from by simp,XH]
 show StrLaws.sliceText z _ _=StrLaws.sliceText z _ _;unfold StrLaws.sliceText;rw[u]
theorem Hg {t:Str} (hc:∀c∈t.cps.toList,c∈sgl):∀s∈chunks t,CN (Str.ofString "signs",s):=by
 intro s hs;unfold chunks at hs;obtain⟨i,z,rfl⟩:=ke.mp hs;rw[r4] at z;have hl:t.cps.toList.length=t.length:=by simp[Str.length]
 obtain⟨b,x,q,e⟩:∃b,4*i<b/\(b<=t.length/\b<=4*i+4)/\chunk t i=⟨((t.cps.toList.drop (4*i)).take (b-4*i)).toArray⟩:=by
  unfold chunk;by_cases c:4*i+4<=t.length
  ·exact⟨4*i+4,by lia,⟨c,by lia⟩,StrLaws.sliceText_nat t (by lia) c⟩
  ·rw[LN (by lia)];exact⟨t.length,by lia,⟨by lia,by lia⟩,StrLaws.sliceText_nat t (by lia) (by lia)⟩
 rw[e];have ln:(⟨((t.cps.toList.drop (4*i)).take (b-4*i)).toArray⟩:Str).length=b-4*i:=by
  show((t.cps.toList.drop (4*i)).take (b-4*i)).toArray.size=_;rw[h6,n4,List.length_drop,hl];lia
 refine⟨by show Str.ofString "signs" ≠"bare";decide+kernel,by show Str.ofString "signs" ≠"ask";decide+kernel,by show Str.length _<=4;rw[ln];lia,fun n a r hs n0 n1 a0 a1 r0 C hh=>?_⟩;unfold cB;rw[show Cd (.str "signs") pL=true by decide+kernel,show Cd (.str "signs") [.str "bare",.str "ask"]=false by decide+kernel,hh];have y:qP "signs" ⟨((t.cps.toList.drop (4*i)).take (b-4*i)).toArray⟩=true:=by
  unfold qP;rw[bc rfl,ln,eT (show 1<=b-4*i by lia),eT (show b-4*i<=4 by lia),pd,pd,Xu];intro v u;obtain⟨c,hm,rfl⟩:=ke.mp u;exact LO (hc c (List.mem_of_mem_drop (List.mem_of_mem_take hm)))
 rw[y];simp[fu];lia
theorem Dq:OF P w base T.yy dY 5 (oz K):=by
 exists 0,T.yy,dY,oz,(ae (aw 2 dY.1.nd (aF K aa (au bp (au bJ (pv 1) aa) aa)))
 (aj (kr (aW (cu K HR (au bp (au bJ (pv 1) aa) aa) aa) (ah (aw 2 dY.1.nd (aF K aa (au bp (au bJ (pv 1) aa) aa)))) aC)
 (aj (ae (aw 3 dY.1.nd aU)
 (ae (Mt (fun _ _ _=>(ah (aW (a_ jr (au bp (pv 1) aa) aa) (ah (bh (Ir (pv 0) T.aH (Bq T) HR (by decide) (vB rfl)))) (ah (aW (cu K HR (au bp (pv 1) aa) aa) (ah (bh (Ir (pv 0) T.aH (E8 T) HR (by decide) (vB rfl)))) (ah (aW (a_ jr (au bp (pv 1) aa) aa) (ah (bh (RU (pv 0) T.aH (E7 T) HR (by decide) (vB rfl) (cJ (aO (Du T) HR (cb (au bJ (pv 1) aa) (pv 2))))))) aC))))))) (Mx rfl T.Jk rfl (fun _=>(ah (aw 3 dY.1.nd aU))) Mw))
 (aj (ah (aq (pv 3))))))))))
 rename_i x c;obtain⟨A,a,hM,hT,hE,q⟩:=h;have Z:=hM;obtain⟨z,I,E⟩:=Z;exists 6,u1;exists 9;exists 8,u1,u2;refine⟨fun O H'=> ∃m,O= [some (V.ref x),some (V.int c),some (V.int m),none]/\H'=H/\1<=m/\m<=60,?_,?_⟩
 ·exists 9;split
  ·exact⟨_,rfl,by lia,by lia⟩
  ·exact⟨_,rfl,by lia,by lia⟩
 rintro O H' ⟨m,rfl,rfl,m1,m2⟩;exists 8,u2,Y;have fin:∀C U v u,Kp (foot x A) H' u->sZ K u x {A with st:=C} U->Ow a U->Y {nx:=fun x H'=>Q V.non H',rt:=Q} [some (V.ref x),some (V.int c),some (V.int m),some v] u:=fun C U v u k m w=>by
  exists 7,Y;exists 9;exact q C U v u k m w
 have no:∀v u F o,aE H' u->u F=none->Y {nx:=fun x H'=>Q V.non H',rt:=Q} [some (V.ref x),some (V.int c),some (V.int m),some v] (upd u F o):=fun v u F o s2 y=>fin A.st a v _ (Kp.of (s2.trans (ao y))) (hM.same (s2.trans (ao y))) Ow.no;have ik:∀u,Kp (foot x A) H' u->jz H' u:=fun u k p o e i=>k p o e (I.imm e i);have lz:z.sd.T.length=a.T.length:=by obtain⟨vs,e1,e2,_⟩:=E.s;rw[e1];exact cK e2
 have le:z.ends.length=a.ends.length:=by rw[E.ends]
 exists I.hx,T.K1,T.m_,T.GL,T.sE,T.sR,T.ma,T.my,T.wW,T.xx,T.vt,T.vL,T.wX,T.xy,T.Nr,T.pM,T.J1,T.um,T.uG,T.nE,T.nL,T.pV,T.p8,T.wQ,T.xr,T.yW,T.ze,T.K0,T.pO,T.GK,T.sD,T.sQ,T.l_,T.mw,T.nF,T.nM,T.l9,T.mv,T.wV,T.xv,T.Nt,T.pN,T.qB,T.J2,T.uo,T.uH,T.wU,T.xu,T.yX,T.zf,T.wR,T.xt,T.yY,T.zg;split
 ·exact⟨A,z,I,by lia,fun nx hn p C u hp kp hh=>fin C _ _ u kp ⟨_,hh,(E.keep (ik u kp)).putn (us:=[.ref p]) (ts:=[(Str.ofString "begin",Str.ofString "")]) (.cons ⟨p,rfl,hp u⟩ .nil)⟩ (by rw[E.ends];exact .beg (E.nm▸hn)),fun hn u d W hd F y=>no _ u F _ W y⟩
 split
 ·exact⟨A,z,I,by lia,by lia,fun nx hn p C u hp kp hh=>fin C _ _ u kp ⟨_,hh,(E.keep (ik u kp)).putn (us:=[.ref p]) (ts:=[(Str.ofString "end",Str.ofString "")]) (.cons ⟨p,rfl,hp u⟩ .nil)⟩ (by rw[E.ends,lz];exact .fin (E.nm▸hn)),fun hn u d W hd F y=>no _ u F _ W y⟩
 split
 ·refine⟨⟨by lia,by lia⟩,fun tx u s2 ltx ctx=>?_⟩;have tb:=OK (by lia) (by lia) ctx;have G:=I.same s2;refine⟨A,z,G,by lia,by lia,tb,fun _ X d S3 hd F y=>no _ X F _ (s2.trans S3) y,fun _ vs X k3 hh pp=>fin A.st _ _ X ((Kp.of s2).trans k3) ⟨_,hh,(E.keep ((jz.of s2).trans fun p o e i=>k3 p o e (G.imm e i))).putn (us:=vs) (ts:=(chunks tx).map fun s=>(Str.ofString "signs",s)) (De (aP pp fun v s hv=>?_))⟩ ?_⟩
  ·obtain⟨p,rfl,hp⟩:=hv;exact⟨p,rfl,du.of hp⟩
  ·rw[E.nm,E.ends];refine .put (fun t ht=>?_) ?_
   ·obtain⟨s,hs,rfl⟩:=ke.mp ht;exact⟨Hg ctx s hs,rfl⟩
   ·rw[cF];unfold chunks;rw[cF,p6];lia
 ·exact fin A.st a _ H' Kp.refl hM Ow.no
theorem D2 {K:W.Frag} {H:Hp} {Q:VK} {p q:Addr} {a1 i C z u b1 y E v x:Int} (hp:H p=some (.tup [.int a1,.int i,.int C,.int z,.int u])) (F:H q=some (.tup [.int b1,.int y,.int E,.int v,.int x]))
  (h:if a1=b1/\i=y/\C=E/\z=v/\u=x then Q (.bl true) H else Q (.bl false) H):uk K false (.ref p) (.ref q) H Q:=by
 refine⟨1,_,_,by decide,NJ hp (.cons lg (.cons lg (.cons lg (.cons lg (.cons lg .nil))))),NJ F (.cons lg (.cons lg (.cons lg (.cons lg (.cons lg .nil))))),?_⟩;split at h
 ·rename_i c;obtain⟨rfl,rfl,rfl,rfl,rfl⟩:=c;exact .inl ⟨rfl,h⟩
 ·rename_i c;refine .inr ⟨fun e=>c ?_,h⟩;injection e with e;simpa using e
theorem Bh:OF P w base T.vZ mW 1 mL:=by
 exists 0,T.vZ,mW,mL,(Ox.h (kS (Af (cu K HR (pv 0) (bw (bq aa (bq aa (bq aa (cb aa aa)))))) (km ⟨(aq aU)⟩) o4)
 (kR (kS (Af (cu K HR (pv 0) (bw (bq aa (bq aa (bq aa (cb aa aa)))))) (km ⟨(aq aU)⟩) o4)
 (kR (kS (Af (cu K HR (pv 0) (bw (bq aa (bq aa (bq aa (cb aa aa)))))) (km ⟨(aq aU)⟩) o4)
 (kR (kS (Af (cu K HR (pv 0) (bw (bq aa (bq aa (bq aa (cb aa aa)))))) (km ⟨(aq aU)⟩) o4)
 (kR (kS (Af (PW.pt (pw_or (cu K HR (pv 0) (bw (bq aa (bq aa (bq aa (cb aa aa)))))) (pw_or1 (cu K HR (pv 0) (bw (bq aa (bq aa (bq aa (cb aa aa))))))))) (km ⟨(aq aU)⟩) o4)
 (kR (kS (Af (PW.pt (pw_or (cu K HR (pv 0) (bw (bq aa (bq aa (bq aa (cb aa aa)))))) (pw_or1 (cu K HR (pv 0) (bw (bq aa (bq aa (bq aa (cb aa aa))))))))) (km ⟨(aq aU)⟩) o4)
 (kR (kS (Af (cu K HR (pv 0) (bw (bq aa (bq aa (bq aa (cb aa aa)))))) (km ⟨(aq aU)⟩) o4)
 (kR (km ⟨(aq aU)⟩))))))))))))))))
 rename_i p;obtain⟨a,b,c,d,e,hp,q⟩:=h;have i:aE H H:=aE.refl _;exists 6,u1;exists 9;intro pc00 G;refine D2 (aM hp G) ag ?_;replace hp:=aM (o:= .tup [.int 0,.int 0,.int 0,.int 0,.int 0]) hp G;replace i:=i.trans (ao (o:= .tup [.int 0,.int 0,.int 0,.int 0,.int 0]) G);generalize upd _ pc00 (.tup [.int 0,.int 0,.int 0,.int 0,.int 0])=J00 at*
 by_cases u:a=0/\b=0/\c=0/\d=0/\e=0
 ·rw[bc u];have C:tabS a b c d e="shut" :=by unfold tabS;rw[bc u]
  rw[C] at q
  first|exact q _ i|(exists 9;exact q _ i)
 rw[a5 u];exists 8,u1,u2;exists 9;intro pc10 O;refine D2 (aM hp O) ag ?_;replace hp:=aM (o:= .tup [.int 1,.int 0,.int 0,.int 0,.int 0]) hp O;replace i:=i.trans (ao (o:= .tup [.int 1,.int 0,.int 0,.int 0,.int 0]) O);generalize upd _ pc10 (.tup [.int 1,.int 0,.int 0,.int 0,.int 0])=J10 at*
 by_cases v:a=1/\b=0/\c=0/\d=0/\e=0
 ·rw[bc v];have C:tabS a b c d e="calling" :=by unfold tabS;rw[a5 u,bc v]
  rw[C] at q
  first|exact q _ i|(exists 9;exact q _ i)
 rw[a5 v];exists 8,u2,u3;exists 9;intro pc20 I;refine D2 (aM hp I) ag ?_;replace hp:=aM (o:= .tup [.int 1,.int 0,.int 0,.int 1,.int 0]) hp I;replace i:=i.trans (ao (o:= .tup [.int 1,.int 0,.int 0,.int 1,.int 0]) I);generalize upd _ pc20 (.tup [.int 1,.int 0,.int 0,.int 1,.int 0])=J20 at*
 by_cases x:a=1/\b=0/\c=0/\d=1/\e=0
 ·rw[bc x];have C:tabS a b c d e="open" :=by unfold tabS;rw[a5 u,a5 v,bc x]
  rw[C] at q
  first|exact q _ i|(exists 9;exact q _ i)
 rw[a5 x];exists 8,u3,u4;exists 9;intro pc30 Z;refine D2 (aM hp Z) ag ?_;replace hp:=aM (o:= .tup [.int 1,.int 0,.int 0,.int 1,.int 1]) hp Z;replace i:=i.trans (ao (o:= .tup [.int 1,.int 0,.int 0,.int 1,.int 1]) Z);generalize upd _ pc30 (.tup [.int 1,.int 0,.int 0,.int 1,.int 1])=J30 at*
 by_cases y:a=1/\b=0/\c=0/\d=1/\e=1
 ·rw[bc y];have C:tabS a b c d e="left" :=by unfold tabS;rw[a5 u,a5 v,a5 x,bc y]
  rw[C] at q
  first|exact q _ i|(exists 9;exact q _ i)
 rw[a5 y];exists 8,u4,u5;exists 9;intro pc40 X;refine D2 (aM hp X) ag ?_;replace hp:=aM (o:= .tup [.int 1,.int 1,.int 0,.int 0,.int 0]) hp X;replace i:=i.trans (ao (o:= .tup [.int 1,.int 1,.int 0,.int 0,.int 0]) X);generalize upd _ pc40 (.tup [.int 1,.int 1,.int 0,.int 0,.int 0])=J40 at*
 by_cases F:a=1/\b=1/\c=0/\d=0/\e=0
 ·rw[bc F];have C:tabS a b c d e="leaving" :=by unfold tabS;rw[a5 u,a5 v,a5 x,a5 y,bc (.inl F)]
  rw[C] at q
  first|exact q _ i|(exists 9;exact q _ i)
 rw[a5 F]
 try exists 9
 intro pc41 U;refine D2 (aM hp U) ag ?_;replace hp:=aM (o:= .tup [.int 1,.int 1,.int 0,.int 1,.int 0]) hp U;replace i:=i.trans (ao (o:= .tup [.int 1,.int 1,.int 0,.int 1,.int 0]) U);generalize upd _ pc41 (.tup [.int 1,.int 1,.int 0,.int 1,.int 0])=J41 at*
 by_cases E:a=1/\b=1/\c=0/\d=1/\e=0
 ·rw[bc E];have C:tabS a b c d e="leaving" :=by unfold tabS;rw[a5 u,a5 v,a5 x,a5 y,bc (.inr E)]
  rw[C] at q
  first|exact q _ i|(exists 9;exact q _ i)
 rw[a5 E];exists 8,u5,u6;exists 9;intro pc50 nc50;refine D2 (aM hp nc50) ag ?_;replace hp:=aM (o:= .tup [.int 1,.int 1,.int 1,.int 0,.int 0]) hp nc50;replace i:=i.trans (ao (o:= .tup [.int 1,.int 1,.int 1,.int 0,.int 0]) nc50);generalize upd _ pc50 (.tup [.int 1,.int 1,.int 1,.int 0,.int 0])=J50 at*
 by_cases Y:a=1/\b=1/\c=1/\d=0/\e=0
 ·rw[bc Y];have C:tabS a b c d e="waiting" :=by unfold tabS;rw[a5 u,a5 v,a5 x,a5 y,a5 (show¬(_\/_) from fun z=>z.elim F E),bc (.inl Y)]
  rw[C] at q
  first|exact q _ i|(exists 9;exact q _ i)
 rw[a5 Y]
 try exists 9
 intro pc51 W;refine D2 (aM hp W) ag ?_;replace hp:=aM (o:= .tup [.int 1,.int 1,.int 1,.int 1,.int 0]) hp W;replace i:=i.trans (ao (o:= .tup [.int 1,.int 1,.int 1,.int 1,.int 0]) W);generalize upd _ pc51 (.tup [.int 1,.int 1,.int 1,.int 1,.int 0])=J51 at*
 by_cases c51:a=1/\b=1/\c=1/\d=1/\e=0
 ·rw[bc c51];have C:tabS a b c d e="waiting" :=by unfold tabS;rw[a5 u,a5 v,a5 x,a5 y,a5 (show¬(_\/_) from fun z=>z.elim F E),bc (.inr c51)]
  rw[C] at q
  first|exact q _ i|(exists 9;exact q _ i)
 rw[a5 c51];exists 8,u6,u7;exists 9;intro pc60 Q;refine D2 (aM hp Q) ag ?_;replace hp:=aM (o:= .tup [.int 1,.int 1,.int 0,.int 1,.int 1]) hp Q;replace i:=i.trans (ao (o:= .tup [.int 1,.int 1,.int 0,.int 1,.int 1]) Q);generalize upd _ pc60 (.tup [.int 1,.int 1,.int 0,.int 1,.int 1])=J60 at*
 by_cases c60:a=1/\b=1/\c=0/\d=1/\e=1
 ·rw[bc c60];have C:tabS a b c d e="closing" :=by unfold tabS;rw[a5 u,a5 v,a5 x,a5 y,a5 (show¬(_\/_) from fun z=>z.elim F E),a5 (show¬(_\/_) from fun z=>z.elim Y c51),bc c60]
  rw[C] at q
  first|exact q _ i|(exists 9;exact q _ i)
 rw[a5 c60];exists 7,u7;have C:tabS a b c d e="" :=by unfold tabS;rw[a5 u,a5 v,a5 x,a5 y,a5 (show¬(_\/_) from fun z=>z.elim F E),a5 (show¬(_\/_) from fun z=>z.elim Y c51),a5 c60]
 rw[C] at q
 first|exact q _ i|(exists 9;exact q _ i)
theorem ip:OF P w base T.yC oU 1 (oE K):=by
 exists 0,T.yC,oU,oE,(ah (aq (aD (eL K rfl) (by rfl) T.j_ gj (cJ (gC (N:=(["_law_thing","_law_kind"]:List Str)) (nv:=1) (ix:=[1]) rfl (lJ (by kernel_rfl)) (cL K rfl (pv 0)) (fun _ _ _ _ _=>(aJ 0 (show((["_law_thing","_law_kind"]:List Str)).Nodup by decide))) (fun _ _ _ _ _=>(md (cu K HR (cG K (pv 0) aa) (pv 1)))) (fun _ _ _ _ _=>(pv 0)))))));rename_i l k;obtain⟨vs,ts,hl,hp,hn,q⟩:=h;have lv:=cK hp;exists 9;refine FR (xs:=vs) (cI.of hl) (aR (by lia)) (fun i v σ H'=>H'=H/\v.length=ck k (ts.take i)/\∃x,σ= [x,some (V.str k)]) ⟨rfl,by simp[ck],none,rfl⟩ (fun i v σ H' hh=>?_) (fun i v σ H' hh=>by rw[hh.1];exact cI.of hl) (fun i y v σ H' hy hh=>?_) (fun v σ H' hh=>?_)
 ·rw[hh.2.1];unfold ck;exact fv List.countP_le_length (List.length_take_le _ _)
 ·obtain⟨rfl,u,x,rfl⟩:=hh;obtain⟨t,z,p,rfl,ht⟩:=Dg hp hy;have e1:=D_ (k:=k) z;exists ht;refine⟨_,_,.inr ht,lO,?_⟩;dsimp only;rw[EV];refine⟨_,rfl,?_⟩;by_cases c:t.1=k
  ·rw[bc c] at e1;rw[bc (eT c)];exact⟨rfl,by rw[ey,u,e1];rfl,_,rfl⟩
  ·rw[a5 c] at e1;rw[a5 (by rw[cz c];decide)];exact⟨rfl,by rw[u,e1];rfl,_,rfl⟩
 ·obtain⟨rfl,u,x,rfl⟩:=hh;rw[lv,AB] at u;refine⟨aR (by rw[u];unfold ck;exact fv List.countP_le_length hn),fun p C=>?_⟩;rw[u];exact q _ (ao C)
theorem LJ {fr:Nat} {pl run:Int} (u:fr<2 ^ 74) (i:Rem.R fr=0) (q:0<run/\run<=255):sS (Builtin.bitXor (fr:Int) (run*2 ^ pl.toNat))=false:=by
 obtain⟨run,rfl⟩:∃r:Nat,run=(r:Int):=⟨run.toNat,by lia⟩;have e2:(run:Int)*2 ^ pl.toNat=((run*2 ^ pl.toNat:Nat):Int):=by simp
 rw[e2,BitI.CO];have:=RemM.Oh (n:=fr) (a:=run) (p:=pl.toNat) (by lia) (by lia);rw[i] at this;unfold sS;rw[gk,cz this,nS,ri]
theorem T8 {a:Nat}:Builtin.bitXor (a:Int) 0=a:=(BitI.CO a 0).trans (by rw[Nat.xor_zero])
theorem Ak:OF P w base T.tK bE 2 kK:=by
 exists 0,T.tK,bE,kK,(ae (aw 5 bE.1.nd (fh gU))
 (aj (ae (eS j1 rfl (fB rfl T.eC (cJ (au bp (aO (jg T) HR (cb (pv 3) (pv 4))) aa))) (aJ 6 bE.1.nd) (ae (aw 7 bE.1.nd (aO (jg T) HR (cb (pv 3) (aF K (aF K (pv 4) aa) (pv 6)))))
 (ae (aw 8 bE.1.nd aa)
 (aj (kr (aW (cu K HR (au bp (pv 7) aa) aa) (ah (aw 8 bE.1.nd (aF K aa (au bp (au bJ (pv 7) aa) aa)))) aC)
 (aj (ae (aw 9 bE.1.nd (aF K (aF K (pv 1) aa) (au bp (au bJ (pv 7) aa) (pv 2))))
 (ae (aw 10 bE.1.nd (pv 1))
 (aj (kr (aW (cu K HR (au bp (au bJ (pv 7) aa) aa) aa) (ah (aw 10 bE.1.nd (au bp (au bJ (pv 7) aa) aa))) aC)
 (aj (ae (aw 11 bE.1.nd (au MH (aA K (pv 0) aa) (au gD (pv 8) (au bp (au bJ (pv 7) aa) aa))))
 (aj (ah (bh (kU K rfl (pv 5) (bw (bq (pv 9) (bq (pv 10) (bq (pv 1) (bq (pv 6) (cb (pv 11) (bw (bq (fE qY (pv 8) aa) (cb (aA K (pv 0) aa) (aA K (pv 0) aa))))))))))))))))))))))))))
 (aj (ah (aq (pv 5)))))))
 rename_i f n g c k;obtain⟨fr,w,pl,hf,⟨m,rfl,e2,e3⟩,hg,hn,hk,q⟩:=h;exists 6,u1;exists 9;intro l nl;exists 8,u1,u2;exists 9;refine⟨hk,fun v v0 v1=>⟨⟨by lia,by lia⟩,?_⟩⟩;refine pE (lo:=0) (n:=(v % 4).toNat) (fun i σ H'=> ∃vs cs Z W I G v10 v11,σ= [some (V.ref f),some (V.int n),some (V.int g),some (V.int c),some (V.int k),some (V.ref l),Z,W,I,G,v10,v11]/\aE H H'/\H' l=some (.lst vs)/\Paired (r_ H') vs cs/\cs.length=i/\∀(j:Nat) q,cs[j]?=some q->Nc n g m w pl j q) ⟨[],[],_,_,_,_,_,_,rfl,ao nl,ag,.nil,rfl,fun j q e=>by simp at e⟩ (fun i σ H' hi hp=>?_) (fun σ H' hp=>?_)
 ·obtain⟨vs,cs,Z,W,I,G,v10,v11,rfl,S,hl,pr,lc,U⟩:=hp;exists 9;refine⟨by lia,fun pt p0 p1=>?_⟩;exists 8,u2,u3;refine⟨fun u X=>X=H'/\∃run,(run=0\/(1<=run/\run<=255))/\u= [some (V.ref f),some (V.int n),some (V.int g),some (V.int c),some (V.int k),some (V.ref l),some (V.int (0+i)),some (V.int pt),some (V.int run),G,v10,v11],?_,?_⟩
  ·exists 9;split
   ·exact⟨_,.inr ⟨by lia,by lia⟩,rfl⟩
   ·exact⟨_,.inl rfl,rfl⟩
  rintro u X ⟨rfl,run,hr,rfl⟩;exists 8,u3,u4;exists 9;refine⟨by lia,?_⟩;obtain⟨wh,O⟩:∃wh,wh=n+1+pt / 68340 % g:=⟨_,rfl⟩;have w0:=ny (pt / 68340) (show g≠0 by lia);have w1:=nt (pt / 68340) (show 0<g by lia);rw[<-O];exists 8,u4,u5;refine⟨fun u E=>E=X/\∃rk,u= [some (V.ref f),some (V.int n),some (V.int g),some (V.int c),some (V.int k),some (V.ref l),some (V.int (0+i)),some (V.int pt),some (V.int run),some (V.int wh),some (V.int rk),v11],?_,?_⟩
  ·exists 9;split
   ·exact⟨_,rfl⟩
   ·exact⟨_,rfl⟩
  rintro u E ⟨rfl,rk,rfl⟩;exists 8,u5,u6;have y:=S _ _ hf;exists y;refine⟨⟨⟨by lia,by lia⟩,by lia,by lia⟩,?_⟩;obtain⟨x,sp,z1,z2,Q,er⟩:∃x sp,(sp=true->sS x=false)/\(sp=false->x=(m:Int))/\x=Builtin.bitXor (m:Int) (run*2 ^ (pt / 1020 % 67).toNat)/\sp=decide (0<run):=by
   refine⟨_,_,fun z=>?_,fun z=>?_,rfl,rfl⟩
   ·rw[eu] at z;exact LJ e2 e3 (by lia)
   ·rw[decide_eq_false_iff_not] at z;rw[show run=0 by lia,Int.zero_mul];exact T8
  rw[<-Q];exists 7,u6;exists y,hl;rw[<-er];have lv:=cK pr;refine⟨kG (cI.of hl),fun r C p F=>?_⟩;have hl':=aM (o:= .tup [V.int wh,V.int rk,V.int n,V.int (0+i),V.int x,V.ref r]) (aM (o:= .tup [V.bl sp,V.str w,J8 pl]) hl C) F;have pl0:p≠l:=fun z=>by rw[z,aM hl C] at F;cases F
  have Y:r≠l:=fun z=>by rw[z,hl] at C;cases C
  have S3:aE E (upd (upd E r (.tup [V.bl sp,V.str w,J8 pl])) p (.tup [V.int wh,V.int rk,V.int n,V.int (0+i),V.int x,V.ref r])):=(ao C).trans (ao F);have e1:upd (upd E r (.tup [V.bl sp,V.str w,J8 pl])) p (.tup [V.int wh,V.int rk,V.int n,V.int (0+i),V.int x,V.ref r]) r=some (.tup [V.bl sp,V.str w,J8 pl]):=aM ag F;refine⟨vs,hl',by rw[fR];lia,vs++ [.ref p],cs++ [⟨wh,rk,n,i,x,sp,w,pl⟩],_,_,_,_,_,_,rfl,fun b o e=>?_,rfl,?_,by rw[ey,lc];rfl,fun j q e=>?_⟩
  ·rw[af (ar e nl)];exact S3 _ _ (S _ _ e)
  ·refine kT (aP pr fun _ _ h=>h.keep fun b o e i=>?_) (.cons ⟨p,r,rfl,?_,?_⟩ .nil)
   ·rw[af (fun z=>by rw[z,hl] at e;cases e;exact sk i)];exact S3 _ _ e
   ·rw[af pl0,ag,Int.zero_add]
   ·rw[af Y];exact e1
  ·by_cases cj:j<cs.length
   ·rw[mu cj] at e;exact U j q e
   ·have:=(ek.mp e).1;rw[ey,me] at this;rw[Xk (by lia),show j-cs.length=0 by lia] at e;injection e with e;subst e;exact⟨by show(i:Int)=j;lia,rfl,⟨by show n<wh;lia,by show wh<=n+g;lia⟩,rfl,rfl,z1,z2⟩
 ·obtain⟨vs,cs,Z,W,I,G,v10,v11,rfl,S,hl,pr,lc,U⟩:=hp;show jm _ _ _ _;unfold jm;exists 9;exact q l vs cs H' S nl hl pr (by lia) U
theorem IW {H:Hp}:∀{vs:List V} {cs:List Cy},Paired (r_ H) vs cs->Apart cs->∃qs:List (Addr×C4),vs=qs.map (fun q=>V.ref q.1)/\(∀q∈qs,∃c∈cs,r_ H (.ref q.1) c/\q.2=(c.wh,c.rk,c.j,c.k))/\∀a∈qs,∀b∈qs,a.2=b.2->a.1=b.1
 |_,_,.nil,_=>⟨[],rfl,fun q h=>absurd h d3,fun q h=>absurd h d3⟩
 |_,c::cs,.cons h t,ap=>by
  unfold Apart at ap;rw[Xr,Sk] at ap;obtain⟨qs,e,m,u⟩:=IW t ap.2;obtain⟨a,r,rfl,y,E⟩:=h;have key:∀b∈qs,b.2≠(c.wh,c.rk,c.j,c.k):=fun b C z=>by
   obtain⟨v,m',_,x⟩:=m b C;rw[x] at z;simp only[Prod.mk.injEq] at z;exact ap.1 (ke.mpr ⟨v,m',by rw[z.2.2.1,z.2.2.2]⟩)
  refine⟨(a,c.wh,c.rk,c.j,c.k)::qs,by rw[e];rfl,fun q i=>?_,fun p hp q i z=>?_⟩
  ·rcases cR.mp i with rfl|i
   ·exact⟨c,sm ..,⟨a,r,rfl,y,E⟩,rfl⟩
   ·obtain⟨v,m',z⟩:=m q i;exact⟨v,hQ _ m',z⟩
  ·rcases cR.mp hp with rfl|hp<;>rcases cR.mp i with rfl|i
   ·rfl
   ·exact absurd z.symm (key q i)
   ·exact absurd z (key p hp)
   ·exact u p hp q i z
noncomputable def T9 (w:Str):Option Int->Dt
 |none=> .t [.str w,.non]
 |some q=> .t [.str w,.int q]
theorem HJ {K:W.Frag} {H:Hp} {r:Addr} {w:Str} {p:Option Int} (h:du K H r [.str w,J8 p]):Dn K H 1 (.ref r) (T9 w p):=by
 cases p with
 |none=>exact .inr (.inr ⟨r,_,_,rfl,rfl,h,.cons D3 (.cons (.inl ⟨rfl,rfl⟩) .nil)⟩)
 |some q=>exact .inr (.inr ⟨r,_,_,rfl,rfl,h,.cons D3 (.cons lg .nil)⟩)
theorem Tj {a:gF} {c:Cy}:∃w p,FI a c= [.str w,J8 p]:=by
 unfold FI;split
 ·exact⟨_,none,rfl⟩
 ·split
  ·exact⟨_,none,rfl⟩
  ·split
   ·exact⟨_,none,rfl⟩
   ·exact⟨_,some _,rfl⟩
theorem Dw:OF P w base T.yD aY 8 (oF K):=by
 exists 0,T.yD,aY,oF,(ae (eS j1 rfl (cL K rfl (aD (BK K rfl) (by rfl) T.N9 Lg (cJ (pv 2)))) (Im K (n:=6) rfl rfl (vz (aJ 3 aY.1.nd) (vz (aJ 4 aY.1.nd) (vz (aJ 5 aY.1.nd) (vz (aJ 6 aY.1.nd) (vz (aJ 7 aY.1.nd) (vz (aJ 8 aY.1.nd) Il))))))) (ae (Ii (pv 8) (Im K (n:=3) rfl rfl (vz (aJ 9 aY.1.nd) (vz (aJ 10 aY.1.nd) (vz (aJ 11 aY.1.nd) Il)))))
 (aj (ae (aw 12 aY.1.nd (ai (ai (pv 0) T.aH T.cw) T.aQ T.bY))
 (aj (ae (aw 13 aY.1.nd (bw (cb (pv 10) bW)))
 (aj (kr (aW (jY (pv 9)) (ah (aw 13 aY.1.nd (bw (cb aU bW)))) (ah (aW (PW.pt (pw_and (a_ vD (pv 11) bW) (pw_and1 (a_ jr (pv 11) (pv 12))))) (ah (aw 13 aY.1.nd (bw (cb aU bW)))) (ah (aW (a_ vD (pv 11) bW) (ah (aw 13 aY.1.nd (bw (cb aU (pv 11))))) aC)))))
 (aj (ae (aw 14 aY.1.nd (bK (pv 0) T.aH (DF T) HR (cb (pv 7) (pv 1))))
 (aj (ah (aW (PW.pt (pw_or (dE (jY (aD (Lc K rfl) (by rfl) T.dr cQ (cb (pv 14) (yh rfl T.sv oj))))) (pw_or1 (qV K HR (pv 14) (pv 13))))) (ah (aq dg)) aC)))))))))))))
 (aj (ah (aq dg))))
 rename_i x n l;obtain⟨A,a,vs,cs,hM,hl,hp,ap,I,i0,st,q⟩:=h;obtain⟨z,hz,hr⟩:=id hM;obtain⟨qs,eq,mq,uq⟩:=IW hp ap;subst eq;exists 9;refine⟨qs,cI.of hl,fun p hq=>?_,uq,fun l1 W n1 pm=>?_⟩
 ·obtain⟨c,_,⟨C,r,e1,h2,_⟩,e2⟩:=mq p hq;injection e1 with e1;subst e1;rw[e2];exact⟨_,_,du.of h2⟩
 have ik:∀H',Kp (foot x A) (upd H l1 (.lst (W.map fun q=>V.ref q.1))) H'->jz H H':=fun H' k p o e i=>k p o (ao n1 _ _ e) (hz.imm e i);have nf:=hz.fresh n1;refine pF (cI.of ag) (fun k σ H'=> ∃F C v3 v4 v5 v6 v7 v8 v9 v10 v11 U X G,σ= [some (V.ref x),some (V.int n),some (V.ref l),v3,v4,v5,v6,v7,v8,v9,v10,v11,U,X,G]/\I C/\Kp (foot x A) (upd H l1 (.lst (W.map fun q=>V.ref q.1))) H'/\sZ K H' x {A with st:=F} C) ⟨A.st,a,_,_,_,_,_,_,_,_,_,_,_,_,rfl,i0,Kp.refl,hM.same (ao n1)⟩ (fun k σ H' _ h=>?_) (fun k y σ H' hy h=>?_) (fun σ H' h=>?_)
 ·obtain⟨_,_,_,_,_,_,_,_,_,_,_,_,_,_,_,_,kp,_⟩:=h;exact cI.of (kp _ _ ag nf)
 ·obtain⟨F,C,v3,v4,v5,v6,v7,v8,v9,v10,v11,U,X,G,rfl,ia,kp,O⟩:=h;rw[vr] at hy;obtain⟨qa,hqa,rfl⟩:=Option.map_eq_some_iff.mp hy;obtain⟨c,mc,hc,_⟩:=mq qa (pm.mem_iff.mp (XB hqa));obtain⟨_,r,e1,h2,h3⟩:=hc.keep (ik H' kp);injection e1 with e1;subst e1;obtain⟨s1,s2,s3,s4⟩:=st C c ia mc;obtain⟨z',Q,hr'⟩:=id O;exists 6,u1;exists h2,h3;exists 8,u1,u2;exists Q.hx,Q.tk.hx;exists 8,u2,u3;exists 9;intro d0 v;exists 8,u3,u4;have nA:∀b u,H' b=some u->b ∉ [d0]:=fun b u e m=>by rw[ec.mp m,v] at e;cases e
  refine⟨fun Y H2=> ∃d,aE H' H2/\H2 d=some (.tup (FI C c))/\Y= [some (V.ref x),some (V.int n),some (V.ref l),some (V.int c.wh),some (V.int c.rk),some (V.int c.j),some (V.int c.k),some (V.int c.f),some (V.ref r),some (V.bl c.sp),some (V.str c.w),some (J8 c.p),some (V.int z'.tk.g),some (V.ref d),G],?_,?_⟩
  ·have eg:=hr'.g;unfold FI;cases hs:c.sp
   ·cases hpl:c.p with
    |none=>
     simp only[J8];exists 9;exact⟨d0,ao v,ag,rfl⟩
    |some i=>
     simp only[J8];exists 9;rw[eg];by_cases ci:i<C.g
     ·rw[bc ci,bc ci];intro d1 E;exact⟨d1,(ao v).trans (ao E),ag,rfl⟩
     ·rw[a5 ci,a5 ci];intro d1 E;exact⟨d1,(ao v).trans (ao E),ag,rfl⟩
   ·exists 9;intro d1 E;exact⟨d1,(ao v).trans (ao E),ag,rfl⟩
  clear v nA;rintro Y H2 ⟨d,S2,hd,rfl⟩;exists 8,u4,u5;have IF:=(Q.same S2).hx;exists IF;refine⟨{A with st:=F},C,O.same S2,s1,s2,fun st2 rr H3 k3 m3 t3=>?_⟩;rw[s3] at t3;have k4:Kp (foot x A) (upd H l1 (.lst (W.map fun q=>V.ref q.1))) H3:=(kp.trans (Kp.of S2)).trans k3;have Z:H3 d=some (.tup (FI C c)):=k3 _ _ hd ((Q.same S2).imm hd (.inl ⟨_,rfl⟩));exists 7,u5;exists 9;obtain⟨dw,dp,ed⟩:=Tj (a:=C) (c:=c);rw[ed] at t3 Z;refine⟨⟨_,t3⟩,?_⟩;refine⟨1,_,_,by decide,HJ t3,HJ (du.of Z),.inl ⟨rfl,false,rfl,?_⟩⟩;rw[a5 (by decide)];exact⟨st2,_,_,_,_,_,_,_,_,_,_,_,_,_,rfl,s4,k4,m3⟩
 ·obtain⟨F,C,v3,v4,v5,v6,v7,v8,v9,v10,v11,U,X,G,rfl,ia,kp,O⟩:=h;show jm _ _ _ _;unfold jm;exists 9;exact q F C H' ia ((Kp.of (ao n1)).trans kp) O
theorem D7 {xs:List V} {n:Nat}:AX xs none (some (n:Int))=xs.take n:=by
 unfold AX;rw[HT.LP,HT.C1,List.drop_zero,Nat.sub_zero];by_cases c:n<=xs.length
 ·rw[Nat.min_eq_left c]
 ·rw[Nat.min_eq_right (by lia),Xj (cm _),Xj (by lia)]
theorem zH {α β:Type} {R:α->β->Prop}:∀{xs:List α} {i:List β} (n:Nat),Paired R xs i->Paired R (xs.take n) (i.take n)
 |_,_,0,_=> .nil
 |_,_,_+1,.nil=> .nil
 |_,_,n+1,.cons r t=> .cons r (zH n t)
theorem Dv:OF P w base T.yB dZ 2 (oC K):=by
 exists 0,T.yB,dZ,oC,(ae (aw 3 dZ.1.nd (aO (ip T) HR (cb (nI (Jy K rfl) (pv 0) zI (mf (pv 1))) aU)))
 (aj (ae (aw 4 dZ.1.nd (aO (ip T) HR (cb (pv 2) aU)))
 (aj (ae (aw 5 dZ.1.nd (aD (oh rfl) (by rfl) T.FZ A3 (cb (pv 3) (pv 4))))
 (aj (ae (aw 6 dZ.1.nd (bw (cb (au cM (aO (ip T) HR (cb (pv 0) aU)) (pv 5)) (au cM (aO (ip T) HR (cb (pv 0) aU)) (pv 5)))))
 (aj (ah (aq (aO (Bh T) HR (cJ (aF K (pv 6) (bw (bq (au cM (pv 3) (pv 5)) (cb (au cM (aO (ip T) HR (cb (pv 2) aU)) (pv 5)) (au cM (pv 4) (pv 5))))))))))))))))))
 rename_i p b q';obtain⟨x,F,to,tp,hp,W,po,Z,⟨b0,l1,l2⟩,q⟩:=h;obtain⟨b,rfl⟩:∃n:Nat,b=(n:Int):=⟨b.toNat,by lia⟩;exists 6,u1;exists 9;have y:∀{H'},aE H H'->Paired (sA K H') x to:=fun s=>aP po fun _ _ t=>t.keep (jz.of s);have kp:∀{H'},aE H H'->Paired (sA K H') F tp:=fun s=>aP Z fun _ _ t=>t.keep (jz.of s);refine sf (cI.of hp) fun l nl=>?_;rw[D7];have i:=ao (o:= .lst (x.take b)) nl;refine⟨_,to.take b,ag,zH b (y i),by rw[n4];lia,fun H1 u=>?_⟩;replace i:=i.trans u;clear u nl;exists 8,u1,u2;exists 9;refine⟨F,tp,i _ _ W,kp i,l2,fun H2 u=>?_⟩;replace i:=i.trans u;clear u;exists 8,u2,u3;exists 9;have em:(if(ck "end" tp:Int)<(ck "end" (to.take b):Int) then(ck "end" tp:Int) else(ck "end" (to.take b):Int))=((min (ck "end" (to.take b)) (ck "end" tp):Nat):Int):=by split<;>lia
 rw[em];have C:∀H',aE H H'->Q (.str (Kk to b tp)) H':=fun H' s=>by have:=q H' s;rwa [gk] at this
 clear q;unfold Kk at C;obtain⟨mn,v⟩:∃mn:Int,mn=((min (ck "end" (to.take b)) (ck "end" tp):Nat):Int):=⟨_,rfl⟩;rw[<-v] at C⊢;clear em v;exists 8,u3,u4;exists 9;refine⟨x,to,i _ _ hp,y i,l1,fun H3 u=>?_⟩;replace i:=i.trans u;clear u;refine⟨x,to,i _ _ hp,y i,l1,fun I u=>?_⟩;replace i:=i.trans u;clear u;intro r O;have E:=ag (H:=I) (a:=r) (o:=(.tup [.int ((ck "begin" to:Int)-mn),.int ((ck "end" to:Int)-mn)]));have G:=ao (H:=I) (o:=(.tup [.int ((ck "begin" to:Int)-mn),.int ((ck "end" to:Int)-mn)])) O;replace i:=i.trans G;generalize upd I r ((.tup [.int ((ck "begin" to:Int)-mn),.int ((ck "end" to:Int)-mn)]))=H5 at*
 exists 7,u4;exists 9;refine⟨F,tp,i _ _ W,kp i,l2,fun H6 u X U=>?_⟩;have er:=aM (o:= .tup [.int ((ck "end" (to.take b):Int)-mn),.int ((ck "begin" tp:Int)-mn),.int ((ck "end" tp:Int)-mn)]) (u _ _ E) U;replace i:=(i.trans u).trans (ao (o:= .tup [.int ((ck "end" (to.take b):Int)-mn),.int ((ck "begin" tp:Int)-mn),.int ((ck "end" tp:Int)-mn)]) U);refine .inr ⟨r,X,_,_,rfl,rfl,du.of er,du.of ag,by simp,by rw[fR];simp,fun z=>by simp at z,fun _ p4 Y=>?_⟩;exact⟨_,_,_,_,_,ag,fun H' s=>C H' ((i.trans (ao Y)).trans s)⟩
theorem Ls {K:W.Frag} {H:Hp} {vs:List V} {ts:List Th} (h:Paired (sA K H) vs ts):Paired (Dn K H 1) vs (ts.map fun t=>Dt.t [.str t.1,.str t.2]):=
 De (aP h fun v t z=>by
  obtain⟨p,rfl,z⟩:=z;exact .inr (.inr ⟨p,_,_,rfl,rfl,z,.cons D3 (.cons D3 .nil)⟩))
theorem Bi:OF P w base T.v_ cO 3 (mM K):=by
 exists 0,T.v_,cO,mM,(ae (eS j1 rfl (fB rfl T.eC (cJ aa)) (aJ 3 cO.1.nd) (ae (aw 4 cO.1.nd (aO (qZ T) HR (cJ (aA K (pv 0) (pv 3)))))
 (aj (ae (aw 5 cO.1.nd (aO (qZ T) HR (cJ (aA K (pv 0) (au cM aa (pv 3))))))
 (aj (ae (aw 6 cO.1.nd (ai (aA K (pv 0) (pv 3)) T.aH T.bu))
 (aj (ae (aw 7 cO.1.nd (ai (aA K (pv 0) (au cM aa (pv 3))) T.aH T.cw))
 (aj (ae (aW (dE (J4 pW pW pW pW pW aa (ai (pv 6) T.ak T.aI) (ai (pv 7) T.aQ T.bY) (ai (pv 6) T.ak T.bB) (ai (pv 6) T.ak T.gy) (aD (oi rfl) (by rfl) T.CJ yc (cb aa (aF K (ai (pv 7) T.aQ T.fo) (aA K (pv 2) (au cM aa (pv 3)))))))) (ah (aq dg)) aC)
 (aj (ae (aW (PW.pt (pw_or (qV K HR (aA K (pv 1) (pv 3)) (nI (Jy K rfl) (pv 5) zI (mf (aD (eL K rfl) (by rfl) T.j_ gj (cJ (aA K (pv 1) (pv 3))))))) (pw_or1 (qV K HR (aD (eL K rfl) (by rfl) T.j_ gj (cJ (aA K (pv 1) (pv 3)))) (ai (ai (aA K (pv 0) (pv 3)) T.aH T.cw) T.aQ T.fo))))) (ah (aq dg)) aC)
 (aj (ah (aW (qV K HR (bI (aA K (pv 0) (pv 3)) T.aH (pj T) HR) (aO (Dv T) HR (bq (pv 4) (cb (ai (pv 6) T.ak T.aI) (nI (Jy K rfl) (pv 5) zI (mf (ai (ai (aA K (pv 0) (pv 3)) T.aH T.cw) T.aQ T.bY))))))) (ah (aq dg)) aC)))))))))))))))
 (aj (ah (aq dg))))
 rename_i ph po pr;obtain⟨X,Z,A0,A1,a0,a1,o0,o1,v0,v1,o,t,eh,h0,h1,eo,e0,e1,p0,p1,er,r0,r1,q⟩:=h;exists 9;refine pE (lo:=0) (n:=2) (fun i σ H'=>aE H H'/\∃v3 v4 v5 v6 v7,σ= [some (V.ref ph),some (V.ref po),some (V.ref pr),v3,v4,v5,v6,v7]) ⟨aE.refl _,_,_,_,_,_,rfl⟩ (fun i σ H' hi hp=>?_) (fun σ H' hp=>?_)
 ·obtain⟨S,v3,v4,v5,v6,v7,rfl⟩:=hp;obtain⟨x,y,A,B,a,b,ob,vo,M,hx,hy,e0,p0,r,lb,O,i2,i3,i4⟩:∃x y A B a b ob vo M,sZ K H x A a/\sZ K H y B b/\H ob=some (.lst vo)/\Paired (sA K H) vo (b.T.take a.o.toNat)/\Rt a b M/\b.T.length<=1000/\iN [V.ref X,V.ref Z] (0+(i:Int))=some (V.ref x)/\iN [V.ref X,V.ref Z] (1-(0+(i:Int)))=some (V.ref y)/\iN [V.ref o0,V.ref o1] (0+(i:Int))=some (V.ref ob)/\iN [V.int o,V.int t] (1-(0+(i:Int)))=some (V.int M):=by
   rcases(show i=0\/i=1 by lia) with rfl|rfl
   ·exact⟨X,Z,A0,A1,a0,a1,o0,v0,t,h0,h1,e0,p0,r0,r1.lT,lO,om,lO,om⟩
   ·exact⟨Z,X,A1,A0,a1,a0,o1,v1,o,h1,h0,e1,p1,r1,r0.lT,om,lO,om,lO⟩
  generalize(0:Int)+(i:Int)=sd at*
  clear h0 h1 p1 r0 r1 e1;exists 6,u1;have Q:=S _ _ eh;exists Q;refine⟨_,O,A,a,hx.same S,r.lT,fun p vs H1 S1 hp pa=>?_⟩;replace S:=S.trans S1;clear S1;exists 8,u1,u2;have I:=S _ _ eh;exists I;refine⟨_,i2,B,b,hy.same S,lb,fun p2 ws H2 Y C pb=>?_⟩;replace hp:=Y _ _ hp;replace pa:=aP pa fun _ _ t=>t.keep (jz.of Y);replace S:=S.trans Y;clear Y Q I;have eh:=S _ _ eh;have eo:=S _ _ eo;have er:=S _ _ er;have e0:=S _ _ e0;have p0:=aP p0 fun _ _ t=>t.keep (jz.of S);obtain⟨z,hz,W⟩:=hx.same S;obtain⟨y',U,E⟩:=hy.same S;exists 8,u2,u3;exists eh,hz.hx;refine⟨_,O,?_⟩;exists hz.hx;exists 8,u3,u4;exists eh;refine⟨_,i2,?_⟩;exists U.hx;exists 8,u4,u5;exists hz.sd.hx,U.tk.hx,er;obtain⟨tv,es,_⟩:=W.s;have eb:z.sd.b=a.s.b:=by rw[es]
  have et:z.sd.t=a.s.t:=by rw[es]
  have ee:z.sd.e=a.s.e:=by rw[es]
  have b0:=r.b0;have bg:=r.bg;have gt:=r.gt;have te:=r.te;have eo1:=r.eo;have o0':=r.o0;have oT:=r.oT;rw[bc (by lia),bc (by rw[E.g];lia),bc (by rw[E.g];lia),bc (by lia)];refine⟨_,i4,?_⟩;exists 9;rw[E.o];rw[a5 (by split<;>lia)]
  exists 8,u5,u6;exists eo;have lo:vo.length=a.o.toNat:=by rw[cK p0,n4];lia
  refine⟨_,i3,_,i3,?_⟩;exists e0;refine sf (cI.of C) fun l nl=>?_;rw[D7,lo];have v:=ao (o:= .lst (ws.take a.o.toNat)) nl;refine⟨2,_,_,by decide,NL (v _ _ e0) (Ls (aP p0 fun _ _ t=>t.keep (jz.of v))),NL ag (Ls (aP (zH a.o.toNat pb) fun _ _ t=>t.keep (jz.of v))),.inl ⟨rfl,false,rfl,?_⟩⟩;rw[a5 (by decide)];have u:=hz.same v;replace S:=S.trans v;replace hp:=v _ _ hp;replace pa:=aP pa fun _ _ t=>t.keep (jz.of v);replace C:=v _ _ C;replace pb:=aP pb fun _ _ t=>t.keep (jz.of v);have eo3:=v _ _ eo;have e03:=v _ _ e0;have F:=v _ _ eh;generalize upd H2 l (.lst (ws.take a.o.toNat))=H3 at*
  exists eo3;refine⟨_,i3,?_⟩;exists e03,F;refine⟨_,O,?_⟩;exists u.hx,u.tk.hx;rw[a5 (fun z=>z (by rw[W.o,lo];lia))];exists 7,u6;exists F;refine⟨_,O,?_⟩;exists u.hx;refine⟨_,_,u,?_⟩;exists u.sd.hx,F;refine⟨_,O,?_⟩;exists u.hx,u.tk.hx;have g0:=r.g0;obtain⟨G,egn⟩:∃G:Nat,z.tk.g=(G:Int):=⟨z.tk.g.toNat,by rw[W.g];lia⟩;rw[egn];refine sf (cI.of C) fun l4 nl4=>?_;rw[D7];have S4:=ao (o:= .lst (ws.take G)) nl4;refine⟨vs,_,a.T,b.T.take G,S4 _ _ hp,ag,aP pa fun _ _ t=>t.keep (jz.of S4),aP (zH G pb) fun _ _ t=>t.keep (jz.of S4),⟨by lia,r.lT,by rw[n4];lia⟩,fun H5 S5=>?_⟩;have nm:=r.nm;rw[show a.g.toNat=G by rw[<-W.g];lia,<-eb] at nm;rw[nm,a5 (fun z=>z W.nm)];exact⟨(S.trans S4).trans S5,_,_,_,_,_,rfl⟩
 ·obtain⟨S,v3,v4,v5,v6,v7,rfl⟩:=hp;show jm _ _ _ _;unfold jm;exists 9;exact q H' S
theorem NG {K:W.Frag} {H:Hp} {r:Addr} {vs:List V} {cs:List Cy} {n:Int} {Q:List V->Hp->Prop} (hl:H r=some (.lst vs)) (hp:Paired (r_ H) vs cs) (C:vs.length<=sizeLine) (q:∀u,Paired (r_ H) u (cs.filter fun q=>decide (q.wh=n))->Q u H):z_ K (.ref r) H fun J I=>n_ J (nQ 0) (ve (Er (uk K false) (Er (JR K) (zV 0) (tC (V.int 0))) (zV 1))) (zV 0) [none,some (V.int n)] I Q:=by
 refine FR (cI.of hl) C (fun i u σ H'=>H'=H/\u.length<=i/\Paired (r_ H) u ((cs.take i).filter fun q=>decide (q.wh=n))/\∃v,σ= [v,some (V.int n)]) ⟨rfl,cm _,.nil,_,rfl⟩ (fun i u σ H' hh=>hh.2.1) (fun i u σ H' hh=>by rw[hh.1];exact cI.of hl) (fun i y u σ H' hy hh=>?_) (fun u σ H' hh=>?_)
 ·obtain⟨rfl,E,x,v,rfl⟩:=hh;obtain⟨c,hc,a,r',rfl,z,F⟩:=Dg hp hy;have G:cs.take (i+1)=cs.take i++ [c]:=by rw[ON,hc];rfl
  exists z;rw[G,List.filter_append];by_cases e:c.wh=n
  ·rw[bc e];refine⟨by rw[ey,me];lia,kT x ?_,_,rfl⟩;rw[XD,bc (eT e)];exact .cons ⟨a,r',rfl,z,F⟩ .nil
  ·rw[a5 e];refine⟨by lia,?_,_,rfl⟩;rw[XD,a5 (by simp[e]),List.filter_nil,hL];exact x
 ·obtain⟨rfl,E,x,v,rfl⟩:=hh;rw[cK hp,AB] at x;exact q u x
theorem Ds:OF P w base T.yz da 9 (oA K):=by
 exists 0,T.yz,da,oA,(ae (aw 7 da.1.nd (aO (jg T) HR (cb (pv 4) (pv 5))))
 (aj (ae (eS j1 rfl (fB rfl T.eC (cJ aa)) (aJ 8 da.1.nd) (ae (Dc (i:=9) (N:=(["_law_copy","_law_turn_here"]:List Str)) (nv:=1) (ix:=[3]) rfl da.1.nd rfl rfl (lJ (by kernel_rfl)) (cL K rfl (aA K (pv 1) (au cM aa (pv 8)))) (fun _ _ _ _ _=>(aJ 0 (show((["_law_copy","_law_turn_here"]:List Str)).Nodup by decide))) (fun _ _ _ _ _=>(md (cu K HR (aA K (pv 0) aa) (pv 1)))) (fun _ _ _ _ _=>(pv 0)))
 (aj (ah (aW (dE (jY (aO (Dw T) HR (bq (aA K (pv 0) (pv 8)) (cb (pv 3) (pv 9)))))) (ah (aq dg)) aC)))))
 (aj (kr (aW (a_ qY (au bp (pv 7) aa) aa) (ah (bh (ME PySem.F.plainAttrs_list PySem.F.slot_list_extend PySem.F.type_list_extend Ko (aA K (pv 2) (au bp (au bJ (pv 7) aa) aa)) (cJ (bK (aA K (pv 0) (au bp (au bJ (pv 7) aa) aa)) T.aH (DD T) HR (cJ (aF K aa (au bp (au bJ (pv 7) aa) (aA K (fh (bq aa (cb aa aa))) (au bp (au bJ (pv 7) aa) aa)))))))))) aC)
 (aj (ae (eS j1 rfl (fB rfl T.eC (cJ aa)) (aJ 8 da.1.nd) (ae (aw 10 da.1.nd (bK (aA K (pv 0) (pv 8)) T.aH (DC T) HR (cJ (pv 3))))
 (aj (ah (aW (a_ vD (pv 10) bW) (ah (Ii (aF K (aA K (pv 1) (pv 8)) (aO (Ak T) HR (bq (pv 10) (bq (pv 3) (bq (pv 6) (cb (pv 4) (aF K (aF K (pv 5) aa) (au gV aa (pv 8))))))))) (Pf (pv 1) (pv 8) Um))) aC)))))
 (aj (ah (aq dg))))))))))
 rename_i ph pr po n c k g;obtain⟨x0,x1,o0,o1,A0,A1,a0,a1,r0,r1,c0,c1,e,e',m,N,al,B,z0,z1,⟨n0,n60,k0,hm,hN,g1,g32⟩,q⟩:=h;exists 6,u1;exists 9;refine⟨k0,fun v v0 v1=>?_⟩;exists 8,u1,u2;exists 9;have hoT:=B.oT;refine pE (lo:=0) (n:=2) (fun j σ H'=> ∃C y G E v8 v9,σ= [some (V.ref ph),some (V.ref pr),some (V.ref po),some (V.int n),some (V.int c),some (V.int k),some (V.int g),some (V.int v),v8,v9,none]/\(foot x0 C=foot x0 A0/\foot x1 y=foot x1 A1)/\Al az bG ax aX aK tbl K ph pr po x0 x1 o0 o1 H' C y G E r0 r1 c0 c1 (a1.T.take a0.o.toNat) (a0.T.take a1.o.toNat)/\Bo G E c0 c1 g (n-1) e e' m N/\Gm a0 G/\Gm a1 E/\Kp (foot x0 A0++(foot x1 A1++ [pr,o0,o1])) H H') ⟨A0,A1,a0,a1,_,_,rfl,⟨rfl,rfl⟩,al,B,Gm.refl,Gm.refl,Kp.refl⟩ (fun j σ H' hj hp=>?_) (fun σ H' hp=>?_)
 ·obtain⟨C,y,G,E,v8,v9,rfl,⟨f0,f1⟩,al',B',G0,G1,kp⟩:=hp;rcases(show j=0\/j=1 by lia) with rfl|rfl
  ·rw[show(0:Int)+((0:Nat):Int)=0 from rfl];obtain⟨vs,hr1,pr1⟩:=al'.t1;exists al'.er;refine NG hr1 pr1 (by rw[cK pr1,fR];have:=z1.l;lia) fun ys py=>⟨by rw[cK py,fR];have:=z1.l;have:=j0 (fun q:Cy=>decide (q.wh=n)) c1;lia,fun l nl=>?_⟩;have S1:=ao (o:= .lst ys) nl;have Q:=al'.same S1;exists 7,u2;exists Q.eh;refine⟨C,G,ys,_,Q.h0,rfl,aP py fun _ _ h=>h.keep (jz.of S1),Yn (X7.map _) z1.ap,fun b=>Bo b E c0 c1 g (n-1) e e' m N/\Gm G b,⟨B',Gm.refl⟩,fun b q x hq=>?_,fun st' b H2 x k2 m2=>?_⟩
   ·obtain⟨Bb,Gb⟩:=x;obtain⟨hq1,hq2⟩:=R1.mp hq;rw[eu] at hq2;have w:=Bb.come hq1 (by lia);obtain⟨k1,k2⟩:=Bb.eB (by lia) (by lia) q.f;rw[show n-1+1=n by lia] at w k1;exact⟨fun _=>k1,k2,w.2,w.1,Gb.trans IX⟩
   ·obtain⟨Bb,Gb⟩:=x;exact⟨{C with st:=st'},y,b,E,_,_,rfl,⟨f0,f1⟩,Q.vO k2 m2,Bb,G0.trans Gb,G1,(kp.trans (Kp.of S1)).trans (k2.more fun b x=>by rw[f0] at x;exact ez _ x)⟩
  ·rw[show(0:Int)+((1:Nat):Int)=1 from rfl];obtain⟨vs,hr0,pr0⟩:=al'.t0;exists al'.er;refine NG hr0 pr0 (by rw[cK pr0,fR];have:=z0.l;lia) fun ys py=>⟨by rw[cK py,fR];have:=z0.l;have:=j0 (fun q:Cy=>decide (q.wh=n)) c0;lia,fun l nl=>?_⟩;have S1:=ao (o:= .lst ys) nl;have Q:=al'.same S1;exists 7,u2;exists Q.eh;refine⟨y,E,ys,_,Q.h1,rfl,aP py fun _ _ h=>h.keep (jz.of S1),Yn (X7.map _) z0.ap,fun b=>Bo G b c0 c1 g (n-1) e e' m N/\Gm E b,⟨B',Gm.refl⟩,fun b q x hq=>?_,fun st' b H2 x k2 m2=>?_⟩
   ·obtain⟨Bb,Gb⟩:=x;obtain⟨hq1,hq2⟩:=R1.mp hq;rw[eu] at hq2;have w:=Bb.flip.come hq1 (by lia);obtain⟨k1,k2⟩:=Bb.flip.eB (by lia) (by lia) q.f;rw[show n-1+1=n by lia] at w k1;exact⟨fun _=>k1,k2,w.2,w.1.flip,Gb.trans IX⟩
   ·obtain⟨Bb,Gb⟩:=x;exact⟨C,{y with st:=st'},G,b,_,_,rfl,⟨f0,f1⟩,Q.Fu k2 m2,Bb,G0,G1.trans Gb,(kp.trans (Kp.of S1)).trans (k2.more fun b x=>by rw[f1] at x;exact ej _ (ez _ x))⟩
 ·clear al B;obtain⟨C,y,G,E,v8,v9,rfl,⟨f0,f1⟩,al,B,G0,G1,kp⟩:=hp;rw[<-G1.take hoT.1,<-G0.take hoT.2,<-G0.o,<-G1.o] at al;have M0:=G0.M;have M1:=G1.M;clear G0 G1 hoT;exists 6,u3;exists 8,u3,u4;refine⟨fun σ' H2=> ∃b0 b1,σ'= [some (V.ref ph),some (V.ref pr),some (V.ref po),some (V.int n),some (V.int c),some (V.int k),some (V.int g),some (V.int v),v8,v9,none]/\Al az bG ax aX aK tbl K ph pr po x0 x1 o0 o1 H2 C y b0 b1 r0 r1 c0 c1 (b1.T.take b0.o.toNat) (b0.T.take b1.o.toNat)/\Bo b0 b1 c0 c1 g (n-1) e e' m N/\(b0.M=a0.M/\b1.M=a1.M)/\Kp (foot x0 A0++(foot x1 A1++ [pr,o0,o1])) H H2,?_,?_⟩
  ·exists al.eh,al.eo;split
   ·obtain⟨ls,hls,l1,l60⟩:∃ls,iN [V.int 8,V.int 8,V.int 60] (v / 4096 % 3)=some (V.int ls)/\1<=ls/\ls<=60:=by
     rcases(show v / 4096 % 3=0\/v / 4096 % 3=1\/v / 4096 % 3=2 by lia) with z|z|z<;>rw[z]
     ·exact⟨8,lO,by lia,by lia⟩
     ·exact⟨8,om,by lia,by lia⟩
     ·exact⟨60,Oa,by lia,by lia⟩
    rcases(show v / 3 % 2=0\/v / 3 % 2=1 by lia) with e3|e3
    ·rw[e3];obtain⟨us,hu,pu⟩:=al.u0;obtain⟨z,hz,hr⟩:=id al.h0;refine⟨_,lO,kG (cI.of hu),_,lO,?_⟩;exists hz.hx;intro p np;refine⟨_,hls,?_⟩;exists 9;refine⟨by lia,?_⟩;have S1:=ao (o:= .lst [V.int 8,V.int 8,V.int 60]) np;have Q:=al.same S1;have w0:=ny (v / 6) (show ls≠0 by lia);have w1:=nt (v / 6) (show 0<ls by lia);have hB:=B;have gt:=hB.d'.gt;have tl:=hB.hy.j.tl;have rd:=hB.read (m':=1+v / 6 % ls) (by lia);refine⟨C,G,Q.h0,⟨by lia,by lia,hB.hx.o0,hB.hx.og,by lia⟩,hB.hx.hk,fun p2 O H3 n3 k3 m3 hp3 pp3=>?_⟩;have X:=Q.vO (st:=C.st) k3 m3;obtain⟨us3,hu3,pu3⟩:=X.u0;have lT:=hB.hy.tl;have ln:(vk G (1+v / 6 % ls)).length=dR G (1+v / 6 % ls):=by unfold vk;rw[cF,p6]
     have lr:=vm (z:=G) (m:=1+v / 6 % ls) hB.hx.og (by lia);have o0':=hB.hx.o0;refine⟨o0,p2,us3,O,rfl,rfl,hu3,hp3,by rw[cK pu3,cK pp3,n4,ln,fR];lia,?_⟩;refine⟨l8 G (1+v / 6 % ls),E,?_,rd.1,⟨M0,M1⟩,((kp.trans (Kp.of S1)).trans (k3.more fun b x=>by rw[f0] at x;exact ez _ x)).trans (Kp.one.more fun b x=>by rw[ec.mp x];simp)⟩;have im:jz H3 (upd H3 o0 (.lst (us3++O))):=fun b u e i=>by rw[af (fun z=>by rw[z,hu3] at e;cases e;exact sk i)];exact e
     exact X.Wy Kp.one ⟨_,ag,by rw[<-rd.2];exact kT (aP pu3 fun _ _ t=>t.keep im) (aP pp3 fun _ _ t=>t.keep im)⟩
    ·rw[e3];obtain⟨us,hu,pu⟩:=al.u1;obtain⟨z,hz,hr⟩:=id al.h1;refine⟨_,om,kG (cI.of hu),_,om,?_⟩;exists hz.hx;intro p np;refine⟨_,hls,?_⟩;exists 9;refine⟨by lia,?_⟩;have S1:=ao (o:= .lst [V.int 8,V.int 8,V.int 60]) np;have Q:=al.same S1;have w0:=ny (v / 6) (show ls≠0 by lia);have w1:=nt (v / 6) (show 0<ls by lia);have hB:=B.flip;have gt:=hB.d'.gt;have tl:=hB.hy.j.tl;have rd:=hB.read (m':=1+v / 6 % ls) (by lia);refine⟨y,E,Q.h1,⟨by lia,by lia,hB.hx.o0,hB.hx.og,by lia⟩,hB.hx.hk,fun p2 O H3 n3 k3 m3 hp3 pp3=>?_⟩;have X:=Q.Fu (st:=y.st) k3 m3;obtain⟨us3,hu3,pu3⟩:=X.u1;have lT:=hB.hy.tl;have ln:(vk E (1+v / 6 % ls)).length=dR E (1+v / 6 % ls):=by unfold vk;rw[cF,p6]
     have lr:=vm (z:=E) (m:=1+v / 6 % ls) hB.hx.og (by lia);have o0':=hB.hx.o0;refine⟨o1,p2,us3,O,rfl,rfl,hu3,hp3,by rw[cK pu3,cK pp3,n4,ln,fR];lia,?_⟩;refine⟨G,l8 E (1+v / 6 % ls),?_,rd.1.flip,⟨M0,M1⟩,((kp.trans (Kp.of S1)).trans (k3.more fun b x=>by rw[f1] at x;exact ej _ (ez _ x))).trans (Kp.one.more fun b x=>by rw[ec.mp x];simp)⟩;have im:jz H3 (upd H3 o1 (.lst (us3++O))):=fun b u e i=>by rw[af (fun z=>by rw[z,hu3] at e;cases e;exact sk i)];exact e
     exact X.Wx Kp.one ⟨_,ag,by rw[<-rd.2];exact kT (aP pu3 fun _ _ t=>t.keep im) (aP pp3 fun _ _ t=>t.keep im)⟩
   ·exact⟨G,E,al,B,⟨M0,M1⟩,kp⟩
  ·clear al B M0 M1 kp;rintro σ' H2 ⟨b0,b1,rfl,al,B,hM,kp⟩;exists 8,u4,u5;exists 9;have s0:=B.hx.GD (by lia);have s1:=B.hy.GD (by lia);rw[show n-1+1=n by lia] at s0 s1;refine pE (lo:=0) (n:=2) (fun j σ H'=> ∃I Y W U v8 v9 v10,σ= [some (V.ref ph),some (V.ref pr),some (V.ref po),some (V.int n),some (V.int c),some (V.int k),some (V.int g),some (V.int v),v8,v9,v10]/\Al az bG ax aX aK tbl K ph pr po x0 x1 o0 o1 H' C y (if j=0 then b0 else b9 b0 n) (if j<=1 then b1 else b9 b1 n) W U (c0++I) (c1++Y) (b1.T.take b0.o.toNat) (b0.T.take b1.o.toNat)/\(if j=0 then I= [] else Nw b0 n g I/\Rz (n+1) (c0++I))/\(if j<=1 then Y= [] else Nw b1 n g Y/\Rz (n+1) (c1++Y))/\Kp (foot x0 A0++(foot x1 A1++ [pr,o0,o1])) H H') ⟨[],[],r0,r1,_,_,_,rfl,by rw[hL,hL];exact al,rfl,rfl,kp⟩ (fun j σ H' hj hp=>?_) (fun σ H' hp=>?_)
   ·clear al kp;obtain⟨I,Y,W,U,v8,v9,v10,rfl,al,y0,y1,kp⟩:=hp;rcases(show j=0\/j=1 by lia) with rfl|rfl
    ·rw[show(0:Int)+((0:Nat):Int)=0 from rfl];obtain rfl:I= []:=y0;obtain rfl:Y= []:=y1;replace al:Al az bG ax aX aK tbl K ph pr po x0 x1 o0 o1 H' C y b0 b1 W U (c0++ []) (c1++ []) (b1.T.take b0.o.toNat) (b0.T.take b1.o.toNat):=al;obtain⟨z,hz,hr⟩:=id al.h0;exists al.eh,hz.hx;refine⟨C,b0,al.h0,s0,fun e0 H3 k3 m3=>?_,fun w pl e0 r H3 k3 m3 hr3=>?_⟩
     ·exists 7,u5;exists 9;exact⟨[],[],W,U,_,_,_,rfl,al.vO (st:=C.st) k3 m3,⟨fun q h=>absurd h d3,by rw[hL];exact z0.same⟩,rfl,kp.trans (k3.more fun b x=>by rw[f0] at x;exact ez _ x)⟩
     ·have X:=al.vO (st:=C.st) k3 m3;obtain⟨vs,hr0,pr0⟩:=X.t0;exists 7,u5;exists X.er,hr3;have pb:=(s0.pb w pl e0).1;have fp:WW (Jw b0 w pl:Nat):=⟨_,rfl,(qX pb).Ax,Ay⟩;refine⟨_,w,pl,rfl,fp,⟨g1,g32⟩,⟨n0,by lia⟩,by lia,fun l O cs H4 S4 nl hl4 pc lc nc=>?_⟩;have Z:=X.same S4;obtain⟨vs4,hr4,pr4⟩:=Z.t0;have lz:=z0.l;refine .inl ⟨W,l,vs4,O,rfl,rfl,hr4,hl4,by rw[cK pr4,cK pc,hL,fR];lia,fun p np=>?_⟩;have S5:=ao (o:= .lst (vs4++O)) np;have al5:=Z.same S5;have nw:Nw b0 n g cs:=fun q hq=>by
       obtain⟨ix,hi⟩:=List.getElem?_of_mem hq;obtain⟨_,q2,q3,q4,q5,q6,q7⟩:=nc ix q hi;exact⟨w,pl,e0,q2,q3,q4,q5,q6,q7⟩
      have im:jz H4 (upd (upd H4 p (.lst (vs4++O))) pr (.lst ([V.ref W,V.ref U].set 0 (V.ref p)))):=fun b u e i=>by
       rw[af (fun z=>by rw[z,Z.er] at e;cases e;exact sk i)];exact S5 _ _ e
      have pne:p≠pr:=fun z=>by rw[z,Z.er] at np;cases np
      refine⟨_,0,al5.er,rfl,cs,[],p,U,_,_,_,rfl,?_,⟨nw,z0.next lc nc⟩,rfl,((((kp.trans (k3.more fun b x=>by rw[f0] at x;exact ez _ x)).trans (Kp.of S4)).trans (Kp.of S5)).trans (Kp.one.more fun b x=>by rw[ec.mp x];simp))⟩
      exact Z.Uq (r':=p) np ((Kp.of S5).trans Kp.one) ag ⟨_,by rw[af pne];exact ag,by rw[hL] at pr4;exact kT (aP pr4 fun _ _ h=>h.keep im) (aP pc fun _ _ h=>h.keep im)⟩
    ·rw[show(0:Int)+((1:Nat):Int)=1 from rfl];obtain rfl:Y= []:=y1;replace y0:Nw b0 n g I/\Rz (n+1) (c0++I):=y0;replace al:Al az bG ax aX aK tbl K ph pr po x0 x1 o0 o1 H' C y (b9 b0 n) b1 W U (c0++I) (c1++ []) (b1.T.take b0.o.toNat) (b0.T.take b1.o.toNat):=al;obtain⟨z,hz,hr⟩:=id al.h1;exists al.eh,hz.hx;refine⟨y,b1,al.h1,s1,fun e0 H3 k3 m3=>?_,fun w pl e0 r H3 k3 m3 hr3=>?_⟩
     ·exists 7,u5;exists 9;exact⟨I,[],W,U,_,_,_,rfl,al.Fu (st:=y.st) k3 m3,y0,⟨fun q h=>absurd h d3,by rw[hL];exact z1.same⟩,kp.trans (k3.more fun b x=>by rw[f1] at x;exact ej _ (ez _ x))⟩
     ·have X:=al.Fu (st:=y.st) k3 m3;exists 7,u5;exists X.er,hr3;have pb:=(s1.pb w pl e0).1;have fp:WW (Jw b1 w pl:Nat):=⟨_,rfl,(qX pb).Ax,Ay⟩;refine⟨_,w,pl,rfl,fp,⟨g1,g32⟩,⟨n0,by lia⟩,by lia,fun l O cs H4 S4 nl hl4 pc lc nc=>?_⟩;have Z:=X.same S4;obtain⟨vs4,hr4,pr4⟩:=Z.t1;have lz:=z1.l;refine .inl ⟨U,l,vs4,O,rfl,rfl,hr4,hl4,by rw[cK pr4,cK pc,hL,fR];lia,fun p np=>?_⟩;have S5:=ao (o:= .lst (vs4++O)) np;have al5:=Z.same S5;have nw:Nw b1 n g cs:=fun q hq=>by
       obtain⟨ix,hi⟩:=List.getElem?_of_mem hq;obtain⟨_,q2,q3,q4,q5,q6,q7⟩:=nc ix q hi;exact⟨w,pl,e0,q2,q3,q4,q5,q6,q7⟩
      have im:jz H4 (upd (upd H4 p (.lst (vs4++O))) pr (.lst ([V.ref W,V.ref U].set 1 (V.ref p)))):=fun b u e i=>by
       rw[af (fun z=>by rw[z,Z.er] at e;cases e;exact sk i)];exact S5 _ _ e
      have pne:p≠pr:=fun z=>by rw[z,Z.er] at np;cases np
      refine⟨_,1,al5.er,rfl,I,cs,W,p,_,_,_,rfl,?_,y0,⟨nw,z1.next lc nc⟩,((((kp.trans (k3.more fun b x=>by rw[f1] at x;exact ej _ (ez _ x))).trans (Kp.of S4)).trans (Kp.of S5)).trans (Kp.one.more fun b x=>by rw[ec.mp x];simp))⟩
      exact Z.Up (r':=p) np ((Kp.of S5).trans Kp.one) ag ⟨_,by rw[af pne];exact ag,by rw[hL] at pr4;exact kT (aP pr4 fun _ _ h=>h.keep im) (aP pc fun _ _ h=>h.keep im)⟩
   ·clear al kp;obtain⟨I,Y,W,U,v8,v9,v10,rfl,al,y0,y1,kp⟩:=hp;obtain⟨y0,y0'⟩:Nw b0 n g I/\Rz (n+1) (c0++I):=y0;obtain⟨y1,y1'⟩:Nw b1 n g Y/\Rz (n+1) (c1++Y):=y1;show jm _ _ _ _;unfold jm;exists 9;have e1:n-1+1=n:=by lia
    obtain⟨e2,e3,B2⟩:=B.sends (ns:=I) (ns':=Y) (by lia) (by lia) (by rw[e1];exact y0) (by rw[e1];exact y1);rw[e1] at B2;exact q C y (b9 b0 n) (b9 b1 n) W U _ _ e2 e3 H' kp ⟨f0,f1⟩ hM al B2 y0' y1'
theorem Sa (T:Txt K mg):FnAt P w K mg base T7 "law" 10 ["_law_script"] (BY K):=by
 refine T.Q9.fn jN.1 jN.2 (fun vs H Q E h=>?_) fun f cdv A outer s H vs Q E HR h=>?_
 ·unfold BY at h;split at h<;>first|rfl|exact h.elim
 ·unfold BY at h;split at h
  ·rename_i a;obtain⟨ns,hS,hl,_,q⟩:=h;refine⟨_,(ae (aw 1 jN.1.nd (aO (Bg T) HR (cb (aO (pX T) HR (cb (pv 0) aa)) (aO (pX T) HR (cb (pv 0) aa)))))
 (aj (ae (aw 2 jN.1.nd (fh (cb (uu T.aH (nK T) HR (by decide) rfl (cb aa (pv 1))) (uu T.aH (nK T) HR (by decide) rfl (cb aa (pv 1))))))
 (aj (ae (aw 3 jN.1.nd (fh (cb (fh gU) (fh gU))))
 (aj (ae (aw 4 jN.1.nd (fh (cb (fh gU) (fh gU))))
 (aj (ae (aw 5 jN.1.nd aa)
 (aj (ae (eS j1 rfl (cL K rfl (nI (Jy K rfl) (pv 0) (mf aa) (mf aa))) (aJ 6 jN.1.nd) (ah (eS j1 rfl (fB rfl T.eC (cJ (aF K aa (au bp (au bJ (pv 6) aa) aa)))) (aJ 7 jN.1.nd) (ah (aW (a_ jr (pv 5) aa) (kr (aW (cu K HR (pv 7) aa) (ah (bh (aO (Dq T) HR (cb (aA K (pv 2) (au bp (au bJ (pv 6) aa) aa)) (pv 6))))) aC)
 (aj (ae (aW (dE (jY (aO (Ds T) HR (bq (pv 2) (bq (pv 3) (bq (pv 4) (bq (pv 5) (bq (pv 6) (cb (aF K (aF K aa (au gV aa (pv 7))) (au gV (au bp (pv 5) aa) aa)) (ai (pv 1) T.d_ T.yk)))))))))) (ah (aq dg)) aC)
 (aj (ae (aW (dE (jY (aO (Bi T) HR (bq (pv 2) (cb (pv 4) (ai (pv 1) T.d_ T.jk)))))) (ah (aq dg)) aC)
 (aj (ah (aw 5 jN.1.nd (aF K (pv 5) aa))))))))) aC)))))
 (aj (ah (aq dg)))))))))))))),?_⟩
   exists 6,ua;exists 9;refine⟨ns,hS,fun c0=>⟨ns,hS,fun c1 tm r o t g fl l H1 s1 hT hw=>?_⟩⟩;replace hS:=EL s1 hS;clear s1;exists 8,ua,ub;exists 9;intro x dx0 nx0 nd0 ne0;have s2:=cW (C:=az) (fs:=[]) nx0 nd0;refine⟨dx0,r,o,t,g,fl,l,rfl,hT.same s2,hw.1,fun A0 H2 B2 f2 h0=>?_⟩;have S2:aE H1 H2:=fun b o' e=>B2 b o' (s2 b o' e) (ar e nx0);have fr0:∀b u,H1 b=some u->b ∉ foot x A0:=fun b u e m=>by
    rcases cR.mp m with m|m
    ·rw[m,nx0] at e;cases e
    ·have:=f2 b m;rw[s2 b u e] at this;cases this
   have Y:=hT.same S2;clear B2 f2 s2 nd0 ne0 nx0;intro z dx1 W nd1 ne1;have s3:=cW (C:=az) (fs:=[]) W nd1;refine⟨dx1,r,o,t,g,fl,l,rfl,Y.same s3,hw.1,fun A1 H3 B3 f3 h1=>?_⟩;have S3:aE H2 H3:=fun b o' e=>B3 b o' (s3 b o' e) (ar e W);have nd:(foot x A0++foot z A1).Nodup:=by
    refine ij.mpr ⟨h0.nd,h1.nd,fun b hb c hc e=>?_⟩;subst e;obtain⟨u,hu⟩:=h0.live hb;rcases cR.mp hc with e|e
    ·rw[e,W] at hu;cases hu
    ·have:=f3 b e;rw[s3 b u hu] at this;cases this
   replace h0:=h0.same S3;have fr1:∀b u,H1 b=some u->b ∉ foot z A1:=fun b u e m=>by
    have e:=S2 b u e;rcases cR.mp m with m|m
    ·rw[m,W] at e;cases e
    ·have:=f3 b m;rw[s3 b u e] at this;cases this
   have S13:=S2.trans S3;clear B3 f3 s3 nd1 ne1 W S2 S3 Y;intro ph nph;obtain⟨H4,e4⟩:∃H4,H4=upd H3 ph (HO.lst [V.ref x,V.ref z]):=⟨_,rfl⟩;rw[<-e4];exists 8,ub,uc;exists 9;intro r0 n5;obtain⟨H5,e5⟩:∃H5,H5=upd H4 r0 (HO.lst []):=⟨_,rfl⟩;rw[<-e5];intro r1 n6;obtain⟨H6,e6⟩:∃H6,H6=upd H5 r1 (HO.lst []):=⟨_,rfl⟩;rw[<-e6];intro pr n7;obtain⟨H7,e7⟩:∃H7,H7=upd H6 pr (HO.lst [V.ref r0,V.ref r1]):=⟨_,rfl⟩;rw[<-e7];exists 8,uc,ud;exists 9;intro o0 n8;obtain⟨H8,e8⟩:∃H8,H8=upd H7 o0 (HO.lst []):=⟨_,rfl⟩;rw[<-e8];intro U n9;obtain⟨H9,e9⟩:∃H9,H9=upd H8 U (HO.lst []):=⟨_,rfl⟩;rw[<-e9];intro po n10;obtain⟨H10,e10⟩:∃H10,H10=upd H9 po (HO.lst [V.ref o0,V.ref U]):=⟨_,rfl⟩;rw[<-e10];obtain⟨S,ap,al⟩:=Al.start ⟨_,h0,c8.new (K:=K)⟩ ⟨_,h1,c8.new⟩ nd nph e4 n5 e5 n6 e6 n7 e7 n8 e8 n9 e9 n10 e10;replace S:=S13.trans S;have tmS:tm ∉ foot x A0++(foot z A1++ [pr,o0,U]):=by
    obtain⟨dx,p,ht,_⟩:=hT;obtain⟨_,z1,z2,z3⟩:=ap _ _ (S13 _ _ ht);intro m;rcases gs.mp m with m|m
    ·exact fr0 _ _ ht m
    rcases gs.mp m with m|m
    ·exact fr1 _ _ ht m
    simp only[cR,d3,lj] at m;rcases m with m|m|m
    ·exact z1 m
    ·exact z2 m
    ·exact z3 m
   replace hT:=hT.same S;replace hS:=EL S hS;clear h0 h1 nd nph e4 n5 e5 n6 e6 n7 e7 n8 e8 n9 e9 n10 e10 ap fr0 fr1 S13 S;exists 8,ud,ue;exists 9;exists 8,ue,uf;exists 9;refine sf hS fun p2 hp2=>?_;obtain⟨ms,em,hms⟩:=VF (ns:=ns);rw[em];have sp:=ao (o:= .lst (ms.map V.int)) hp2;have p2S:p2 ∉ foot x A0++(foot z A1++ [pr,o0,U]):=fun m=>al.free hp2 (by
    rcases gs.mp m with m|m
    ·exact ez _ m
    rcases gs.mp m with m|m
    ·exact ej _ (ez _ m)
    ·exact ej _ (ej _ (by simp only[cR,d3,lj] at m⊢;rcases m with h|h|h<;>simp[h])))
   have e11:=ag (H:=H10) (a:=p2) (o:= .lst (ms.map V.int));replace al:=al.same sp;replace hT:=hT.same sp;clear hp2 sp hS em;generalize upd H10 p2 (.lst (ms.map V.int))=G at*
   have X:Lp az bG ax aX aK tbl K ph pr po x z o0 U (foot x A0) (foot z A1) g o t G 0 1 G:=⟨A0,A1,_,_,r0,r1,[],[],0,0,1,al,Bo.start hw.1 hw.2,Rz.nil,Rz.nil,cm _,⟨rfl,rfl⟩,⟨rfl,rfl⟩,Kp.refl⟩;have imS:∀b u,G b=some u->Ge u->b ∉ foot x A0++(foot z A1++ [pr,o0,U]):=fun b u e i m=>al.im e i (by
    rcases gs.mp m with m|m
    ·exact ez _ m
    rcases gs.mp m with m|m
    ·exact ej _ (ez _ m)
    ·exact ej _ (ej _ (by simp only[cR,d3,lj] at m⊢;rcases m with h|h|h<;>simp[h])))
   clear al;have hg:=hw.1.2.2.1;generalize hF0:foot x A0=F0 at*
   generalize hF1:foot z A1=F1 at*
   clear hF0 hF1 A0 A1 r0 r1;refine pF (xs:=ms.map V.int) (cI.of e11) (fun i σ H'=> ∃n:Nat,n<=60/\Lp az bG ax aX aK tbl K ph pr po x z o0 U F0 F1 g o t G n (15*n+1) H'/\∃v6 v7,σ= [some (V.ref a),some (V.ref tm),some (V.ref ph),some (V.ref pr),some (V.ref po),some (V.int n),v6,v7]) ⟨0,by lia,X,_,_,rfl⟩ (fun i σ H' _ hp=>?_) (fun i y σ H' hy hp=>?_) (fun σ H' hp=>?_)
   ·obtain⟨n,_,⟨_,_,_,_,_,_,_,_,_,_,_,_,_,_,_,_,_,_,k⟩,_⟩:=hp;exact cI.of (k _ _ e11 p2S)
   ·clear X;obtain⟨n,hn,X,v6,v7,rfl⟩:=hp;rw[vr] at hy;obtain⟨c,hc,rfl⟩:=Option.map_eq_some_iff.mp hy;exists 9;refine⟨by lia,?_⟩;refine pE (lo:=0) (fun j σ H'=> ∃n:Nat,n<=60/\Lp az bG ax aX aK tbl K ph pr po x z o0 U F0 F1 g o t G n (15*n+1) H'/\∃v7,σ= [some (V.ref a),some (V.ref tm),some (V.ref ph),some (V.ref pr),some (V.ref po),some (V.int n),some (V.int c),v7]) ⟨n,hn,X,_,rfl⟩ (fun j σ H' hj hp=>?_) (fun σ H' hp=>?_)
    ·clear X hn n;obtain⟨n,hn,X,v7,rfl⟩:=hp;obtain⟨jj,ejj⟩:∃jj:Int,jj=(0:Int)+(j:Int):=⟨_,rfl⟩;rw[<-ejj];exists 9;split
     ·refine⟨fun σ' H2=>Lp az bG ax aX aK tbl K ph pr po x z o0 U F0 F1 g o t G n (15*(n+1)+1) H2/\σ'= [some (V.ref a),some (V.ref tm),some (V.ref ph),some (V.ref pr),some (V.ref po),some (V.int n),some (V.int c),some (V.int jj)],?_,?_⟩
      ·obtain⟨A0,A1,a0,a1,r0,r1,c0,c1,e,e',N,al,B,z0,z1,hN,I,O,k⟩:=X;exists al.eh;have hoT:=B.oT;have tl:=B.hx.tl;have el:=B.hx.el;have tl':=B.hy.tl;have el':=B.hy.el;split
       ·rcases(show c / 8 % 2=0\/c / 8 % 2=1 by lia) with e8|e8
        ·rw[e8];refine⟨_,lO,A0,a0,al.h0,by lia,by lia,fun Z a' v H3 k3 m3 w=>?_⟩;have gm:=Lj w;refine⟨{A0 with st:=Z},A1,a',a1,r0,r1,c0,c1,e,e',N+15,?_,B.wish w,z0,z1,by lia,I,⟨gm.M.trans O.1,O.2⟩,k.trans (k3.more fun b hb=>by rw[I.1] at hb;exact ez _ hb)⟩;rw[gm.o,gm.take hoT.2];exact al.vO (st:=Z) k3 m3
        ·rw[e8];refine⟨_,om,A1,a1,al.h1,by lia,by lia,fun Z a' v H3 k3 m3 w=>?_⟩;have gm:=Lj w;refine⟨A0,{A1 with st:=Z},a0,a',r0,r1,c0,c1,e,e',N+15,?_,(B.flip.wish w).flip,z0,z1,by lia,I,⟨O.1,gm.M.trans O.2⟩,k.trans (k3.more fun b hb=>by rw[I.2] at hb;exact ej _ (ez _ hb))⟩;rw[gm.o,gm.take hoT.1];exact al.Fu (st:=Z) k3 m3
       ·exact⟨A0,A1,a0,a1,r0,r1,c0,c1,e,e',N,al,B,z0,z1,by lia,I,O,k⟩
      ·clear X;rintro σ' H2 ⟨⟨A0,A1,a0,a1,r0,r1,c0,c1,e,e',N,al,B,z0,z1,hN,I,O,k⟩,rfl⟩;exists 8,uf,ug;have Y:=hT.kp k tmS imS;obtain⟨dxt,prm,et1,et2⟩:=id Y;exists et1;refine⟨x,z,o0,U,A0,A1,a0,a1,r0,r1,c0,c1,e,e',n,N,al,B,z0,z1,⟨by lia,by lia,by lia,by lia,by lia,by lia,by lia⟩,fun A0' A1' a0' a1' r0' r1' c0' c1' e2 e2' H3 k3 f3 m3 F B3 z3 z3'=>?_⟩;clear al B z0 z1 Y et1 et2;rw[I.1,I.2] at k3;replace k:=k.trans k3;replace I:foot x A0'=F0/\foot z A1'=F1:=⟨f3.1.trans I.1,f3.2.trans I.2⟩;replace O:a0'.M=o/\a1'.M=t:=⟨m3.1.trans O.1,m3.2.trans O.2⟩;clear k3 f3 m3;have hT3:=hT.kp k tmS imS;obtain⟨dxt,prm,et1,et2⟩:=id hT3;exists 8,ug,uh;exists et1;obtain⟨v0,u0,u0'⟩:=F.u0;obtain⟨v1,u1,u1'⟩:=F.u1;refine⟨x,z,A0',A1',a0',a1',o0,U,v0,v1,o,t,F.eh,F.h0,F.h1,F.eo,u0,u1,u0',u1',et2,O.2▸B3.rt (by lia),O.1▸B3.flip.rt (by lia),fun H4 S4=>?_⟩;exists 7,uh;exists 9;exact⟨n+1,by lia,⟨A0',A1',a0',a1',r0',r1',c0',c1',e2,e2',N,F.same S4,by rw[show((n+1:Nat):Int)-1=n by lia];exact B3,z3,z3',hN,I,O,k.trans (Kp.of S4)⟩,_,rfl⟩
     ·exact⟨n,hn,X,_,rfl⟩
    ·obtain⟨n,hn,X,v7,rfl⟩:=hp;exact⟨n,hn,X,_,_,rfl⟩
   ·obtain⟨n,_,_,_,_,rfl⟩:=hp;show jm _ _ _ _;unfold jm;exists 9;exact q _
  ·exact h.elim
end
end
theorem fin {P:Program} {w:World} {K:W.Frag} {h:Heap} {mg:Str->Option Value} {fa:Addr} (v:K.In h) (G:h.Ns mainGlobals mg) (i:mg "law" = some (.ref fa)) (T:Txt K mg):
  ∃q:FuncData,(∀(s:Shared) (u:Value),BindsTo s q ⟨[u],[]⟩ [("_law_script",u)])/\∀base:Heap,K.In base->base.Ns mainGlobals mg->wD P w K mg base T7 10 fa q ["_law_script"] (BY K):=
 law_fin i T.Q9 jN.2 fun base=>Sa T
end
end Tactic
noncomputable def PySem.W.Fast.tw14199178092008852959:PySem.Program:=PySem.Challenge.pw_slowroad_k68_whole_hands_on_any_road
theorem PySem.W.Fast.te14199178092008852959:PySem.Challenge.pw_slowroad_k68_whole_hands_on_any_road=PySem.W.Fast.tw14199178092008852959:=rfl
open PySem PySem.W PyProof.Rows
set_option maxRecDepth 100000 in
set_option maxHeartbeats 0 in
theorem PySem.Challenge.cw_slowroad_k68_whole_hands_on_any_road_holds : PySem.Challenge.rw_slowroad_k68_whole_hands_on_any_road.Holds := by
 w_on;o_law
 refine holds_open (q:=Tactic.b8) (loose:=[]) (Xt:=fun s=>xlAt Tactic.b8 [] s&&recOk (RowW.records (OpenRow.toRowW (OpenLaw.row Challenge.rw_slowroad_k68_whole_hands_on_any_road))) s) (XP:=XL Tactic.b8 []) (Yf:=Hook.obs (kHook Tactic.KU Tactic.p9 Tactic.vN)) (Ya:=Hook.val (kHook Tactic.KU Tactic.p9 Tactic.vN)) (YP:=Hook.says (kHook Tactic.KU Tactic.p9 Tactic.vN)) (N:=20000) Tactic.Vo (Hook.of (kHook Tactic.KU Tactic.p9 Tactic.vN)) (Hook.keeps (kHook Tactic.KU Tactic.p9 Tactic.vN)) (fun s e=>xl_of s (Bool.and_eq_true_iff.mp e).1) XL.keeps (by rfl) (by rfl) (by rfl) (fun s e=>recFacts_of (Bool.and_eq_true_iff.mp e).2) (by rfl) (by first|assumption|decide+kernel) (by decide+kernel) ⟨rfl,rfl,rfl,rfl,rfl,by decide+kernel⟩ ?hw ?hc
 case hw=>w_witness2
 k_fill
 refine Lake.M9 (l:=Challenge.rw_slowroad_k68_whole_hands_on_any_road) (k:=10) (x:="_law_script") rfl rfl ⟨rfl,by decide,by decide⟩ (fun w h Y=>W.kIn_of Y) ?F
 case F=>
  intro w mg fa h KX G hmg;refine' Tactic.fin KX G hmg ?TT
  case TT=>
   constructor
   all_goals first
     |(refine' Lake.Na KX G ?a ?pg ?hd ?po ?sa ?mk ?kc;(case a=>k_is);(case pg=>k_is);(case hd=>k_is);(case po=>k_is);(case sa=>k_is);(case mk=>k_is);(case kc=>k_is))
     |(refine' Lake.Ki ?a;(case a=>k_is))
     |(refine' Lake.OA KX G ?a ?t ?b;(case a=>k_is);(case t=>k_is);(case b=>k_is))
     |(refine' Lake.OC ?a ?b ?c ?d ?e ?f ?g ?h;(case a=>k_is);(case b=>k_is);(case c=>k_is);(case d=>k_is);(case e=>k_is);(case f=>k_is);(case g=>k_is);(case h=>k_is))
     |(refine' (show W.mroIn _ _ _=_ from ?a);(case a=>k_is))
     |(refine' Lake.MO ?a;(case a=>k_is))
     |(refine' Lake.Ks ?a ?i ?l ?c ?k;(case a=>k_is);(case i=>k_is);(case l=>k_is);(case c=>k_is);(case k=>k_is))
     |(refine' Lake.NT KX G ?a ?l ?c ?k;(case a=>k_is);(case l=>k_is);(case c=>k_is);(case k=>k_is))
     |(refine' W.mg_none_of KX G ?a;(case a=>k_is))
     |(refine' Lake.EC KX G ?a ?l ?c ?d ?e ?z ?r;(case a=>k_is);(case l=>k_is);(case c=>rfl);(case d=>rfl);(case e=>rfl);(case z=>decide);(case r=>exact .cons ⟨_,rfl⟩ (.cons ⟨_,rfl⟩ (.cons ⟨_,rfl⟩ (.cons ⟨_,rfl⟩ (.cons ⟨_,rfl⟩ (.nil)))))))
     |(refine' Lake.EC KX G ?a ?l ?c ?d ?e ?z ?r;(case a=>k_is);(case l=>k_is);(case c=>rfl);(case d=>rfl);(case e=>rfl);(case z=>decide);(case r=>exact .cons ⟨_,rfl⟩ (.cons ⟨_,rfl⟩ (.nil))))
     |(refine' ⟨_,Lake.OD KX G ?a ?l ?o ?i ?t ?l2 ?o2 ?i2 ?t2⟩;(case a=>k_is);(case l=>k_is);(case o=>kernel_rfl);(case i=>k_is);(case t=>k_is);(case l2=>k_is);(case o2=>kernel_rfl);(case i2=>k_is);(case t2=>k_is))
     |(refine' ⟨?a,?b⟩;(case a=>k_is);(case b=>k_is))
     |(refine' ⟨_,W.mg_of KX G ?a,?r⟩;(case a=>k_is);(case r=>exact⟨_,rfl⟩))
     |(k_is)
     |(kit_is)
