import PyProof.Rows.All
import Wide.All
import OpenK.AllK
import Wide.FinOn
import PyProof.EqAt
import PyProof.EqKinds
import PyProof.TupleCall
import PyProof.NeKinds
import PyProof.Rows.BitMore
import PyProof.FitsBits
import PyProof.Rows.TupAssign
import PyProof.ListRange
import PyProof.Rows.ZipGen
import PyProof.StationsW
import PyProof.ExcInit
import PyProof.ExcClass2
import PyProof.RulesTry
import PyProof.ExcBaseAll.ValueError
import PyProof.InstStoreFacts
import PyProof.RulesAs
import PyProof.RulesDel
import PyProof.ExcArgs
import KE.KUnpack
import PyProof.Draws
import PyProof.EnumMake
import KE.KMinBuiltin
import KE.KIntText
import PyProof.MeetsStr3
import PyProof.StrLawsIn
import Lean
import PySem.Challenge.RW_slowroad_k81_kept
set_option maxRecDepth 100000
set_option maxHeartbeats 4000000
set_option Elab.async false
set_option genSizeOf false
set_option backward.eqns.nonrecursive false
set_option linter.all false
set_option compiler.extract_closed false
section
open PySem List Nat Int PySem.W PySem.F PyProof.Rows Option
abbrev cv:=@Nat.le_refl
theorem cz:type_of% @length_map:=@length_map
abbrev c8:=@wpAny_bind
theorem de:type_of% @if_neg:=@if_neg
theorem dy:type_of% @if_pos:=@if_pos
abbrev ej:=@Heap.get?_push_of_some
theorem eM:type_of% @decide_eq_true_eq:=@decide_eq_true_eq
abbrev fg:=@wpAny_pure
theorem fx:type_of% @Bool.and_eq_true:=@Bool.and_eq_true
theorem fy:type_of% @mem_cons:=@mem_cons
abbrev gk:=@decide_eq_false
theorem gn:type_of% @sizeLine_eq:=@sizeLine_eq
theorem hL:type_of% @not_mem_nil:=@not_mem_nil
abbrev hQ:=@mem_singleton
abbrev h6:=@Heap.lt_size
abbrev h7:=@Nat.le_trans
abbrev h8:=@mem_map
abbrev h9:=@Nat.lt_of_lt_of_le
theorem ib:type_of% @length_append:=@length_append
abbrev i4:=@List.getElem?_eq_some_iff
abbrev j0:=@PassesOwn.never
abbrev j1:=@getElem?_map
abbrev ke:=@Heap.get?_push_size
abbrev kv:=@ne_of_lt
abbrev lp:=@zero_le
abbrev me:=@length_filter_le
abbrev mu:=@getElem?_eq_getElem
abbrev nc:=@map_eq_some_iff
abbrev ni:=@mem_of_getElem?
theorem ny:type_of% @List.size_toArray:=@List.size_toArray
theorem nS:type_of% @length_cons:=@length_cons
abbrev n5:=@le_add_right
abbrev n7:=@map_append
abbrev n8:=@Heap.get?_update_other
theorem n9:type_of% @decide_eq_true:=@decide_eq_true
abbrev qx:=@plainAttrs_str
theorem qF:type_of% @toNat_natCast:=@toNat_natCast
abbrev ra:=@take_add_one
abbrev sh:=@mem_cons_of_mem
abbrev tH:=@Int.le_of_lt
abbrev vr:=@le_succ
theorem wh:type_of% @or_false:=@or_false
abbrev yl:=@mem_append_right
abbrev zc:=@slot_str_join
abbrev zT:=@type_str_join
abbrev z1:=@length_take
abbrev z4:=@wpAny_mono
abbrev C2:=@emod_nonneg
abbrev FX:=@List.map_map
theorem K5:type_of% @map_cons:=@map_cons
abbrev Lo:=@take_of_length_le
abbrev L0:=@emod_lt_of_pos
theorem L1:type_of% @mem_range:=@mem_range
abbrev L3:=@Ne.symm
abbrev L4:=@Bool.eq_iff_iff
theorem L5:type_of% @Bool.true_and:=@Bool.true_and
theorem ON:type_of% @List.all_eq_true:=@List.all_eq_true
abbrev RA:=@length_range
abbrev Sk:=@exists_cons_of_length_eq_add_one
abbrev Zy:=@mem_append
abbrev Zz:=@some.inj
abbrev ZA:=@Bool.or_eq_false_iff
abbrev ZC:=@wpAny_truthy_bool
theorem ZD:type_of% @any_cons:=@any_cons
abbrev ZE:=@Int.mul_nonneg
abbrev ZF:=@mem_filter
abbrev ZG:=@mem_cons_self
abbrev ZH:=@PyProof.Rows.callWith_type1
abbrev ZI:=@filter_cons
abbrev ZJ:=@PySem.mem_of_lookup
abbrev ZK:=@wpAny_Call_Name_kw
abbrev ZL:=@take_length
abbrev ZM:=@Paired.length
theorem ZN:type_of% @Str.cps_append:=@Str.cps_append
theorem ZO:type_of% @Bool.false_and:=@Bool.false_and
abbrev ZP:=@eq_ofNat_of_zero_le
abbrev ZQ:=@beq_eq_false_iff_ne
abbrev ZR:=@Int.le_refl
theorem ZS:type_of% @beq_iff_eq:=@beq_iff_eq
abbrev ZT:=@getD_eq_getElem?_getD
theorem ZU:type_of% @length_singleton:=@length_singleton
theorem ZV:type_of% @Bool.false_eq_true:=@Bool.false_eq_true
abbrev ZW:=@Heap.get?_update_self
abbrev ZX:=@plainObj_wpAny_Assign_Attribute
abbrev ZY:=@isSome_iff_exists
theorem ZZ:type_of% @Str.length_append:=@Str.length_append
abbrev Z0:=@wpAny_holding
abbrev Z1:=@Array.length_toList
abbrev Z2:=@filter_eq_self
abbrev Z3:=@plain_max_loop
abbrev Z4:=@Bool.false_ne_true
abbrev Z5:=@wpAny_passesOwn
theorem Z6:type_of% @nodup_cons:=@nodup_cons
abbrev Z7:=@Nat.lt_irrefl
abbrev Z8:=@codeAny_call_builtin
abbrev Z9:=@kia_one
abbrev Z_:=@looks_findIn
abbrev aaa:=@getElem_mem
abbrev aab:=@plainAttrs_list
abbrev aac:=@looks_mroIn
abbrev aad:=@append_nil
abbrev aae:=@List.filter_map
abbrev aaf:=@Nat.min_le_left
abbrev aag:=@wpAny_field
abbrev aah:=@Int.mul_le_mul_of_nonneg_left
abbrev aai:=@isSome_map
abbrev aaj:=@wpAny_loadPart_at
abbrev aak:=@foldl_append
abbrev aal:=@Nat.ne_of_gt
abbrev aam:=@length_replicate
abbrev aan:=@Heap.get?_none_of_le
abbrev aao:=@mem_append_left
abbrev aap:=@getElem?_set_ne
abbrev aaq:=@congrArg
abbrev aar:=@wpAny_call
theorem aas:type_of% @if_false:=@if_false
theorem aat:type_of% @lookup_cons:=@lookup_cons
abbrev aau:=@Nat.pow_le_pow_right
abbrev aav:=@Pairwise.filter
abbrev aaw:=@wpAny_standAt
theorem aax:type_of% @if_true:=@if_true
abbrev aay:=@wpAny_execs_nil
theorem aaz:type_of% @Bool.or_eq_true:=@Bool.or_eq_true
abbrev aaA:=@forIn_cons
abbrev aaB:=@methodCall_KW
theorem aaC:type_of% @length_nil:=@length_nil
abbrev aaD:=@natCast_nonneg
abbrev aaE:=@codeAny_mono
abbrev aaF:=@callWith_K
abbrev aaG:=@tupleKind_room_in1
abbrev aaH:=@Int.mul_comm
abbrev aaI:=@wpAny_loadPart
abbrev aaJ:=@wpAny_seqItems
abbrev aaK:=@wpAny_tryCatch
abbrev aaL:=@wpAny_newObj_type
abbrev aaM:=@length_drop
abbrev aaN:=@Nat.le_max_right
abbrev aaO:=@Nat.two_pow_pos
abbrev aaP:=@natCast_mul
abbrev aaQ:=@Nat.le_max_left
abbrev aaR:=@succ.inj
abbrev aaS:=@log2_lt
abbrev aaT:=@Int.pow_add
abbrev aaU:=@piece_app
abbrev aaV:=@segRun_of
end
local macro_rules | `(tactic| walk_at "q") => `(tactic| first|exact .inl rfl|exact .inr rfl|exact .inr (.inl rfl)|exact .inr (.inr rfl)|assumption)

theorem qqr0 (_:True:=by rfl):True:=trivial
def qqr:Lean.Syntax:=qqr0._auto_1
section
open Lean Parser.Tactic
variable {q:Prop}
theorem qqE7 {P:α->β->γ->δ->ε->ζ->η->Prop} (y:∀a b c d e f g,P a b c d e f g->q):(∃a b c d e f g,P a b c d e f g)->q|⟨_,_,_,_,_,_,_,h⟩=>y _ _ _ _ _ _ _ h
theorem qqE5 {P:α->β->γ->δ->ε->Prop} (y:∀a b c d e,P a b c d e->q):(∃a b c d e,P a b c d e)->q|⟨_,_,_,_,_,h⟩=>y _ _ _ _ _ h
theorem qqE4 {P:α->β->γ->δ->Prop} (y:∀a b c d,P a b c d->q):(∃a b c d,P a b c d)->q|⟨_,_,_,_,h⟩=>y _ _ _ _ h
theorem qqE3 {P:α->β->γ->Prop} (y:∀a b c,P a b c->q):(∃a b c,P a b c)->q|⟨_,_,_,h⟩=>y _ _ _ h
theorem qqE2 {P:α->β->Prop} (y:∀a b,P a b->q):(∃a b,P a b)->q|⟨_,_,h⟩=>y _ _ h
theorem qqE1 {P:α->Prop} (y:∀a,P a->q):(∃a,P a)->q|⟨_,h⟩=>y _ h
theorem qqA7 (y:a->b->c->d->e->f->g->i->q):a/\b/\c/\d/\e/\f/\g/\i->q|⟨a,b,c,d,e,f,g,i⟩=>y a b c d e f g i
theorem qqA5 (y:a->b->c->d->e->f->q):a/\b/\c/\d/\e/\f->q|⟨a,b,c,d,e,f⟩=>y a b c d e f
theorem qqA4 (y:a->b->c->d->e->q):a/\b/\c/\d/\e->q|⟨a,b,c,d,e⟩=>y a b c d e
theorem qqA3 (y:a->b->c->d->q):a/\b/\c/\d->q|⟨a,b,c,d⟩=>y a b c d
theorem qqA2 (y:a->b->c->q):a/\b/\c->q|⟨a,b,c⟩=>y a b c
theorem qqA1 (y:a->b->q):a/\b->q|⟨a,b⟩=>y a b
theorem qqO (y:a->q) (z:b->q) (h:a∨b):q:=h.elim y z
def qqF (o:TSyntaxArray ``rcasesPatLo):MacroM (TSyntax `tactic):=do
  if o.size<2 then Macro.throwUnsupported
  let mut r:=#[]
  for s in ["E","A"] do for c in [7,5,4,3,2,1] do
   if c<o.size then
    let y:=o.extract c
    let w<-if y.size<2 then `(rcasesPat| ($(y[0]!))) else `(rcasesPat| ⟨$y,*⟩)
    r:=r.push (<-`(tactic| (refine $(mkIdent (.mkSimple s!"qq{s}{c}")) ?_;$(<-(o.extract 0 c).foldrM (fun p z=>do `(tactic| rintro $(<-`(rcasesPat| ($p))):rcasesPat<;>$z)) (<-`(tactic| rintro $w:rcasesPat))))))
  `(tactic| first $[| $r:tactic]*)
def qqL (a:Array Syntax):MacroM (TSyntax `tactic):=do
  if a.size<2 then Macro.throwUnsupported
  let f:=fun b=>`(rcasesPat| ($(⟨mkNode ``rcasesPatLo #[mkNode ``rcasesPatMed #[mkNullNode (mkSepArray b (mkAtom "|"))],mkNullNode]⟩)))
  let h:=hash (<-Macro.addMacroScope `q)
  let x:=mkIdent (.mkSimple s!"x{h}")
  let y:=mkIdent (.mkSimple s!"y{h}")
  `(tactic| (refine qqO ?$x ?$y;(case' $y:ident=>rintro $(<-f (a.extract 1)):rcasesPat);case' $x:ident=>rintro $(<-f #[a[0]!]):rcasesPat))
end
open Lean Parser.Tactic in
local macro_rules
 | `(tactic| rintro $p:rcasesPat) => do
  match p with
  | `(rcasesPat| ⟨$e,*⟩)=>qqF e
  | `(rcasesPat| ($p))=>
   let c:=p.raw[0][0].getSepArgs
   if c.size<2 then `(tactic| rintro $(⟨c[0]!⟩):rcasesPat) else qqL c
  | _=>Macro.throwUnsupported
 | `(tactic| obtain⟨$e,*⟩:=$h:term) => do `(tactic| (refine (?f:_->_) $h;(try clear $h);$(<-qqF e)))
 | `(tactic| rcases $t:elimTarget with $p:rcasesPatLo) => do
  let h:Term:=⟨t.raw[1]⟩
  `(tactic| (refine (?f:_->_) $h;(try clear $h);$(<-qqL p.raw[0][0].getSepArgs)))
local macro_rules | `(mutual $c* end)=>return Lean.mkNullNode (c.map (·.raw.rewriteBottomUp fun|.atom _ v=>.atom .none v|.ident _ r n p=>.ident .none r n p|s=>s))
namespace Lake
mutual
open PySem PySem.Spec PyProof.Rows
noncomputable abbrev Key:=Sum Int Str
noncomputable def Ed:Key->Value->Bool
 | .inl k,v=>Value.isInt k v
 | .inr x,v=>Value.isStrOf x v
noncomputable def YO (w:World):Key->Int
 | .inl k=>hashInt k
 | .inr x=>hashStr w x
theorem dW:∀{k:Key} {v:Value},Ed k v=true->(∃i t,k=Sum.inl i/\v=Value.int i t)\/(∃x t,k=Sum.inr x/\v=Value.str x t)
 | .inl i,v,h=>by
  obtain⟨t,e⟩:=Value.isInt_shape h;exact .inl ⟨i,t,rfl,e⟩
 | .inr x,v,h=>by
  obtain⟨t,e⟩:=Value.isStrOf_shape h;exact .inr ⟨x,t,rfl,e⟩
theorem MW (i:Int) (t:Tok):Ed (.inl i) (.int i t)=true:=by simp[Ed,Value.isInt]
theorem MV (x:Str) (t:Tok):Ed (.inr x) (.str x t)=true:=by simp[Ed,Value.isStrOf]
theorem Vd (a b:Int):decide ((Sum.inl a:Key)=Sum.inl b)=(a == b):=by
 lia
theorem Va (a b:Str):decide ((Sum.inr a:Key)=Sum.inr b)=decide (a=b):=by
 simp_all
theorem Vc (a:Int) (b:Str):decide ((Sum.inl a:Key)=Sum.inr b)=false:=gk (fun q=>nomatch q)
theorem Vb (a:Str) (b:Int):decide ((Sum.inr a:Key)=Sum.inl b)=false:=gk (fun q=>nomatch q)
noncomputable def gg (prog:Program) (w:World):PySem.KeyKind prog w Key where
 is:=Ed
 hash:=YO w
 inj:=fun v a b ha C=>by
  rcases dW ha with⟨i,t,rfl,rfl⟩|⟨x,t,rfl,rfl⟩
  ·rcases dW C with⟨j,u,rfl,e⟩|⟨y,u,rfl,e⟩
   ·injection e with e1 _;rw[e1]
   ·exact nomatch e
  ·rcases dW C with⟨j,u,rfl,e⟩|⟨y,u,rfl,e⟩
   ·exact nomatch e
   ·injection e with e1 _;rw[e1]
 byValue:=fun k v h=>by
  rcases dW h with⟨i,t,rfl,rfl⟩|⟨x,t,rfl,rfl⟩<;>rfl
 pyHash:=fun z h=>by
  rcases dW z with⟨i,t,rfl,rfl⟩|⟨x,t,rfl,rfl⟩
  ·exact wpAny_pyHash_int h
  ·exact wpAny_pyHash_str h
 eqBool:=fun F z h=>by
  rcases dW F with⟨i,t,rfl,rfl⟩|⟨x,t,rfl,rfl⟩
  ·rcases dW z with⟨j,u,rfl,rfl⟩|⟨y,u,rfl,rfl⟩
   ·rw[Vd] at h;exact wpAny_eqBool_int h
   ·rw[Vc] at h;exact SeqAt.EqAt.int_str i t y u _ _ _ _ h
  ·rcases dW z with⟨j,u,rfl,rfl⟩|⟨y,u,rfl,rfl⟩
   ·rw[Vb] at h;exact SeqAt.EqAt.str_int x t j u _ _ _ _ h
   ·rw[Va] at h;exact wpAny_eqBool_str h
 «strs» :=fun k x t v h=>by
  rcases dW h with⟨i,u,rfl,e⟩|⟨y,u,rfl,e⟩
  ·exact nomatch e
  ·injection e with e1 _;subst e1;cases v<;>rfl
theorem HD (prog:Program) (w:World) (i:Int) (t:Tok):(gg prog w).is (.inl i) (.int i t)=true:=MW i t
theorem HB (prog:Program) (w:World) (x:Str) (t:Tok):(gg prog w).is (.inr x) (.str x t)=true:=MV x t
inductive V where
 |non|bl (b:Bool)|int (i:Int)|str (x:Str)|byt (b:Array UInt8)|flt (b:UInt64)|ref (a:Addr)|ty (n:String)
 deriving DecidableEq
def RelV:V->Value->Prop
 | .non,u=>u=Value.none
 | .bl b,u=>u=Value.bool b
 | .int i,u=> ∃t,u=Value.int i t
 | .str x,u=> ∃t,u=Value.str x t
 | .byt b,u=> ∃t,u=Value.bytes b t
 | .flt b,u=> ∃t,u=Value.float b t
 | .ref a,u=>u=Value.ref a
 | .ty n,u=>u=Value.type n
abbrev Vals:List V->List Value->Prop:=Paired RelV
theorem Vals.length (r:Vals xs us):xs.length=us.length:=ZM r
theorem Vals.get:∀{xs:List V} {us:List Value} {i:Nat} {x:V},Vals xs us->xs[i]?=some x->∃u,us[i]?=some u/\RelV x u
 |_,_,_,_,.nil,e=>by trivial
 |_,_,0,_,.cons r _,e=>by simp_all
 |_,_,i+1,x,.cons _ t,e=>by
  obtain⟨u,y,v⟩:=Vals.get t (‹_›);exact⟨u,‹_›,v⟩
theorem Vals.append:∀{xs ys:List V} {us ws:List Value},Vals xs us->Vals ys ws->Vals (xs++ys) (us++ws)
 |_,_,_,_,.nil,s=>s
 |_,_,_,_,.cons r t,s=> .cons r (Vals.append t s)
theorem Vals.take:∀{xs:List V} {us:List Value} (n:Nat),Vals xs us->Vals (xs.take n) (us.take n)
 |_,_,0,_=> .nil
 |_,_,_+1,.nil=> .nil
 |_,_,n+1,.cons r t=> .cons r (Vals.take n t)
theorem Vals.drop:∀{xs:List V} {us:List Value} (n:Nat),Vals xs us->Vals (xs.drop n) (us.drop n)
 |_,_,0,r=>r
 |_,_,_+1,.nil=> .nil
 |_,_,n+1,.cons _ t=>Vals.drop n t
def rE:Option V->Option Value->Prop
 |some v,some u=>RelV v u
 |none,none=>True
 |_,_=>False
def KV {i:Type}:List (i×V)->List (i×Value)->Prop:=Paired fun(p:i×V) (q:i×Value)=>p.1=q.1/\RelV p.2 q.2
noncomputable def kV:Key->V
 | .inl i=> .int i
 | .inr x=> .str x
inductive HO where
 |lst (xs:List V)
 |tup (xs:List V)
 |dK (kvs:List (Key×V))|dT (kvs:List (List Key×V))
 |set (S:Int->Bool) (n:Nat)
 |ins (C dx:Addr) (fs:List (Str×V))
 |own (x:Addr)
 |xd (fs:List (Str×V))
 |met (f x:Addr)
 |rng (lo hi:Int)
 |frz (o:Obj) (u:HO)
 |tbl (ps:Array Value)
 |ext (φ:Heap->Prop)
noncomputable abbrev Hp:=Addr->Option HO
set_option genInjectivity false
noncomputable def upd (H:Hp) (a:Addr) (o:HO):Hp:=fun b=>if b=a then some o else H b
theorem aa:upd H a o a=some o:=by unfold upd;rw[dy rfl]
theorem ag (h:b≠a):upd H a o b=H b:=by unfold upd;rw[de h]
theorem QD:upd (upd H a o) a u=upd H a u:=by
 funext b;unfold upd;split<;>rfl
theorem bN {H:Hp} (h:H a=some o) (i:H b=some u) (d:o≠u):a≠b:=by
 lia
theorem ao {H:Hp} (h:H a=some o) (i:H b=none):a≠b:=by
 lia
end
section
variable (P:Program) (w:World)
def dZ (H:Hp) (h:Heap) (a:Addr):HO->Prop
 | .lst xs=>xs.length<=sizeLine/\∃(i:List Value) (n:Nat),Vals xs i/\h.get? a=some {cls:= .type "list",data:= .seq i.toArray n}
 | .tup xs=>xs.length<=sizeLine/\∃i:List Value,Vals xs i/\IsTup h a i.toArray
 | .dK y=>y.length<=sizeLine/\(a == sysModules)=false/\∃vs,KV y vs/\h.DictOf (gg P w) a vs
 |
   .dT y=>y.length<=sizeLine/\(a == sysModules)=false/\∃xs:List (List Key×Addr×Value),
   Paired (fun(p:List Key×V) (q:List Key×Addr×Value)=>p.1=q.1/\H q.2.1=some (.tup (p.1.map kV))/\RelV p.2 q.2.2) y xs/\
   ∃o es J,h.get? a=some o/\o.ExactDict/\o.data = .dict es J/\es.toList=xs.map (entryOfKey (tupleKind (gg P w)))/\(xs.map (·.1)).Nodup
 | .set S n=>h.SetOf (intKind P w) a S n
 |
   .ins C dx fs=>H dx=some (.own a)/\fs.length<=1000/\dx≠a/\h.get? a=some (W.instObj C dx)/\
   ∃z,h.Ns1 dx z/\(∀f,rE (fs.lookup f) (z f))/\PySem.Within z (fs.map (·.1))
 | .own _=> ∃o,h.get? a=some o
 | .xd fs=> ∃z,h.Ns1 a z/\∀f,rE (fs.lookup f) (z f)
 | .rng lo O=> ∃t u v,h.get? a=some {cls:= .type "range",data:= .fields #[.int lo t,.int O u,.int 1 v]}
 | .frz o u=>h.get? a=some o/\dZ H h a u
 | .tbl Q=>h.get? a=some {cls:= .none,data:= .fields Q}
 | .met f x=>h.get? a=some (W.methodObj (.ref f) (.ref x))
 | .ext F=>F h/\(∃o,h.get? a=some o)/\∀G I:Heap,F G->(∀o,G.get? a=some o->I.get? a=some o)->F I
def xi (H:Hp) (h:Heap):Prop:= ∀a o,H a=some o->dZ P w H h a o
end
section
mutual
theorem dZ.lt (x:dZ P w H h a o):a<h.objs.size:=by
 cases o with
 |lst xs=>obtain⟨_,_,_,_,e⟩:=x;exact h6 e
 |tup xs=>obtain⟨_,_,_,p⟩:=x;exact p.lt
 |dK i=>obtain⟨_,_,_,_,o,_,_,e,_⟩:=x;exact h6 e
 |dT i=>obtain⟨_,_,_,_,o,_,_,e,_⟩:=x;exact h6 e
 |set S n=>obtain⟨o,_,_,_,e,_⟩:=x;exact h6 e
 |ins C dx fs=>obtain⟨_,_,_,e,_⟩:=x;exact h6 e
 |own y=>obtain⟨_,e⟩:=x;exact h6 e
 |xd fs=>obtain⟨_,⟨_,_,_,e,_⟩,_⟩:=x;exact h6 e
 |rng lo z=>obtain⟨_,_,_,e⟩:=x;exact h6 e
 |frz ob u=>obtain⟨e,_⟩:=x;exact h6 e
 |tbl F=>exact h6 ((x))
 |met f y=>exact h6 ((x))
 |ext v=>obtain⟨_,⟨_,e⟩,_⟩:=x;exact h6 e
theorem Paired.U3:∀{v:List α} {i:List β},Paired F v i->(∀a b,F a b->G a b)->Paired G v i
 |_,_,.nil,_=> .nil
 |_,_,.cons r t,f=> .cons (f _ _ r) (Paired.U3 t f)
theorem dZ.stay (x:dZ P w H h a o) (k:∀b u,(b=a\/H b=some (.own a))->h.get? b=some u->h'.get? b=some u) (ho:∀b,H b=some (.own a)->H' b=some (.own a)) (ht:∀b xs,H b=some (.tup xs)->H' b=some (.tup xs)):dZ P w H' h' a o:=by
 induction o with
 |lst xs=>obtain⟨z,F,n,r,e⟩:=x;exact⟨z,F,n,r,k _ _ (.inl rfl) e⟩
 |tup xs=>obtain⟨z,F,r,ob,e,c⟩:=x;exact⟨z,F,r,ob,k _ _ (.inl rfl) e,c⟩
 |dK I=>obtain⟨z,y,vs,r,ob,es,i,e,c⟩:=x;exact⟨z,y,vs,r,ob,es,i,k _ _ (.inl rfl) e,c⟩
 |dT I=>
  obtain⟨z,y,xs,r,ob,es,i,e,c⟩:=x;exact⟨z,y,xs,Paired.U3 r fun p q z=>⟨z.1,ht _ _ z.2.1,z.2.2⟩,ob,es,i,k _ _ (.inl rfl) e,c⟩
 |set S n=>obtain⟨ob,es,i,t,e,c⟩:=x;exact⟨ob,es,i,t,k _ _ (.inl rfl) e,c⟩
 |ins C dx fs=>
  obtain⟨d,z,ne,e,G,⟨od,es,i,e2,c⟩,r⟩:=x;exact⟨ho _ d,z,ne,k _ _ (.inl rfl) e,G,⟨od,es,i,k _ _ (.inr d) e2,c⟩,r⟩
 |own y=>obtain⟨ob,e⟩:=x;exact⟨ob,k _ _ (.inl rfl) e⟩
 |xd fs=>obtain⟨G,⟨od,es,i,e,c⟩,r⟩:=x;exact⟨G,⟨od,es,i,k _ _ (.inl rfl) e,c⟩,r⟩
 |rng lo Q=>obtain⟨t,u,v,e⟩:=x;exact⟨t,u,v,k _ _ (.inl rfl) e⟩
 |frz ob u J=>obtain⟨e,q⟩:=x;exact⟨k _ _ (.inl rfl) e,J q⟩
 |tbl U=>
  have e:=x;exact k a _ (.inl rfl) e
 |met f y=>
  have e:=x;exact k a _ (.inl rfl) e
 |ext O=>obtain⟨p,⟨o,e⟩,st⟩:=x;exact⟨st _ _ p fun o q=>k _ _ (.inl rfl) q,⟨o,k _ _ (.inl rfl) e⟩,st⟩
theorem xi.lt (x:xi P w H h) (e:H a=some o):a<h.objs.size:=(x a o e).lt
theorem xi.fresh (x:xi P w H h) (e:h.objs.size<=a):H a=none:=by
 cases q:H a with
 |none=>rfl
 |some u=>exact absurd (h9 (x.lt q) e) (Z7 _)
theorem xi.kept (x:xi P w H h) (k:∀b u,h.get? b=some u->h'.get? b=some u):xi P w H h':=fun a o e=>
 (x a o e).stay (fun b u _ q=>k b u q) (fun _ q=>q) fun _ _ q=>q
theorem xi.laid (x:xi P w H h) (k:∀b u,h.get? b=some u->h'.get? b=some u) (hp:h.objs.size<=a) (new:dZ P w (upd H a o) h' a o):xi P w (upd H a o) h':=fun b u e=>by
 have hn:=x.fresh hp;by_cases i:b=a
 ·subst i;rw[aa] at e;cases e;exact new
 ·rw[ag i] at e;exact(x b u e).stay (fun c v _ q=>k c v q) (fun c q=>by rw[ag (ao q hn)];exact q) fun c xs q=>by rw[ag (ao q hn)];exact q
end
end
def Rd (H:Hp) (a:Addr) (u:HO):Prop:=H a=some u\/∃o,H a=some (.frz o u)
theorem Rd.ok (r:Rd H a u) (x:xi P w H h):dZ P w H h a u:=by
 rcases r with r|⟨o,r⟩
 ·exact x a u r
 ·obtain⟨_,q⟩:=x a _ r;exact q
def Yb:Option HO->Prop
 |some (.lst _)=>True
 |some (.dK _)=>True
 |some (.dT _)=>True
 |some (.set _ _)=>True
 |some (.ins _ _ _)=>True
 |some (.ext _)=>True
 |_=>False
section
theorem xi.write (ok:xi P w H h) (F:Yb (H x)) (he:e=x\/H e=some (.own x)) (k:∀b u,b≠e->h.get? b=some u->h'.get? b=some u) (G:∃u,h'.get? e=some u) (new:dZ P w (upd H x o') h' x o'):xi P w (upd H x o') h':=fun b u q=>by
 have C:∀c y,H c=some (.own y)->c≠x:=fun c y r z=>by subst z;rw[r] at F;exact F
 have i:∀c xs,H c=some (.tup xs)->c≠x:=fun c xs r z=>by subst z;rw[r] at F;exact F
 by_cases I:b=x
 ·subst I;rw[aa] at q;cases q;exact new
 ·rw[ag I] at q;by_cases O:b=e
  ·have J:H b=some (.own x):=by
    simp_all
   rw[q] at J;cases J;obtain⟨v,Q⟩:=G;exact⟨v,by simp_all⟩
  ·refine(ok b u q).stay (fun c v hc r=>k c v ?_ r) (fun c r=>by rw[ag (C c b r)];exact r) fun c xs r=>by rw[ag (i c xs r)];exact r
   rcases hc with rfl|hc
   ·trivial
   ·grind
end
structure Un (fs ex:List Addr) (H H':Hp) (h h':Heap):Prop where
 keep:∀b o,h.get? b=some o->H b=none->b ∉ fs->b ∉ ex->h'.get? b=some o
 slot:∀b o,h.get? b=some o->H b=none->b∈fs->b ∉ ex->∃sl,h'.get? b=some {o with slots:=sl}
 free:∀b o,h.get? b=some o->H b=none->b ∉ ex->H' b=none
 there:∀b o,h.get? b=some o->b ∉ ex->∃o',h'.get? b=some o'
 tups:∀b xs,H b=some (.tup xs)->H' b=some (.tup xs)
 frzs:∀b o u,H b=some (.frz o u)->H' b=some (.frz o u)
 tbls:∀b ps,H b=some (.tbl ps)->∃more,H' b=some (.tbl (ps++more))
section
theorem Un.any {ob:Obj} (u:Un fs ex H H1 h h1) (q:h.get? b=some ob) (n:H b=none) (hx:b ∉ ex):∃sl,h1.get? b=some {ob with slots:=sl}:=by
 by_cases i:b∈fs
 ·exact u.slot b ob q n i hx
 ·exact⟨_,u.keep b ob q n i hx⟩
theorem Un.kept (k:∀b u,h.get? b=some u->h'.get? b=some u):Un fs ex H H h h':=
 ⟨fun b ob q _ _ _=>k b ob q,fun b ob q _ _ _=>⟨_,k b ob q⟩,fun _ _ _ n _=>n,fun b ob q _=>⟨ob,k b ob q⟩,fun _ _ q=>q,fun _ _ _ q=>q,fun _ i q=>⟨#[],‹_›⟩⟩
theorem Un.refl:Un fs ex H H h h:=Un.kept fun _ _ q=>q
theorem Un.laid (k:∀b u,h.get? b=some u->h'.get? b=some u) (hp:h.objs.size<=a) (hn:H a=none):Un fs ex H (upd H a o) h h' where
 keep:=fun b u q _ _ _=>k b u q
 slot:=fun b u q _ _ _=>⟨_,k b u q⟩
 free:=fun b u q n _=>by rw[ag (kv (h9 (h6 q) hp))];exact n
 there:=fun b u q _=>⟨u,k b u q⟩
 tups:=fun b xs q=>by rw[ag (ao q hn)];exact q
 frzs:=fun b u xs q=>by rw[ag (ao q hn)];exact q
 tbls:=fun b i q=>⟨#[],by rw[ag (ao q hn),q];simp⟩
theorem Un.write (v:Yb (H x)) (he:e=x\/H e=some (.own x)) (k:∀b u,b≠e->h.get? b=some u->h'.get? b=some u) (C:∃u,h'.get? e=some u):Un fs ex H (upd H x o) h h':=by
 have hx:∀b,H b=none->b≠x:=fun b n z=>by subst z;rw[n] at v;exact v
 have y:∀b,H b=none->b≠e:=fun b n z=>by
  simp_all
 have hm:∀b u,H b=some u->¬Yb (some u)->b≠x:=fun b u q nm z=>by simp_all
 refine⟨fun b u q n _ _=>k b u (y b n) q,fun b u q n _ _=>⟨_,k b u (y b n) q⟩,fun b u q n _=>by rw[ag (hx b n)];exact n,fun b u q _=>?_,
  fun b xs q=>by rw[ag (hm b _ q fun z=>z)];exact q,fun b u xs q=>by rw[ag (hm b _ q fun z=>z)];exact q,fun b F q=>⟨#[],by rw[ag (hm b _ q fun z=>z),q];simp⟩⟩
 by_cases i:b=e
 ·simp_all
 ·exact⟨u,k b u i q⟩
end
mutual
noncomputable def trk (h:Heap) (H:Hp):List Addr:=(List.range h.objs.size).filter fun a=>(H a).isSome
noncomputable def M_ (h:Heap) (H:Hp):Heap:=W.hideAll h (trk h H)
theorem M9 (h:Heap) (H:Hp):(M_ h H).objs.size=h.objs.size:=W.hideAll_size _ _
theorem Pj (e:h.get? b=some o) (n:H b=none):(M_ h H).get? b=some o:=
 W.hideAll_get _ e fun hm=>by
  have q:=(ZF.mp hm).2;rw[n] at q;simp at q
theorem RU (e:(M_ h H).get? b=some o):h.get? b=some o/\H b=none:=by
 have i:=W.of_hideAll _ e;refine⟨i,?_⟩;cases q:H b with
 |none=>rfl
 |some x=>
  have hm:b∈trk h H:=ZF.mpr ⟨L1.mpr (h6 i),by simp[q]⟩;have z:(M_ h H).get? b=none:=W.hideAll_none _ hm;rw[z] at e;cases e
structure Mod (K:W.Frag) (mg:Str->Option Value) (base:Heap):Prop where
 kin:K.In base
 glob:base.Ns mainGlobals mg
 blt:∃mb,base.Ns builtinsNs mb/\∀x:Str,x≠ "__name__" ->mb x=bootBuiltins x
 nolimit:base.NoLimit
structure Cx where
 prog:Program
 w:World
 K:W.Frag
 mg:Str->Option Value
 base:Heap
 A:Around
 N:List Str
 s₀:Shared
 H₀:Hp
 env:Env
 outer:List Env
 stack:List Env
 ex:List Addr
 fn:Str->Bool
 calm:Bool
 pn:List (Addr×Obj)
 xe:Value->Shared->Prop
noncomputable def frs (l:List Env):List Addr:=l.filterMap (·.frame)
noncomputable abbrev Cx.fs (X:Cx):List Addr:=frs X.outer
def Ys (sc:Scope) (x:Str):Prop:=sc.names.lookup x=some .local\/sc.names.lookup x=some .cell\/sc.names.lookup x=some .free
def Loc (sc:Scope) (x:Str):Prop:=sc.names.lookup x=some .local\/sc.names.lookup x=some .cell
def Look (env:Env) (h:Heap) (m:Str->Option Value) (x:Str) (u:Value):Prop:=
 (env.kindOf x=some .local/\m x=some u)\/((env.kindOf x=some .cell\/env.kindOf x=some .free)/\∃c,env.cells.lookup x=some c/\h.IsCell c (some u))
structure Cx.Ok (X:Cx):Prop where
 mod:Mod X.K X.mg X.base
 kind:X.env.scope.kind = .function
 glob:X.env.globals=mainGlobals
 blt:X.env.builtins=builtinsNs
 above:X.s₀.heap.objs.size<=X.env.locals
 inj:∀x y c,X.env.cells.lookup x=some c->X.env.cells.lookup y=some c->x=y
 has:∀x,(X.env.kindOf x=some .cell\/X.env.kindOf x=some .free)->∃c,X.env.cells.lookup x=some c
 cab:∀x c,X.fn x=true->X.env.cells.lookup x=some c->X.s₀.heap.objs.size<=c
 hd:X.calm=true->X.A.handled=none
 frames:X.A.frames=some X.stack
 stk:X.stack=X.outer\/(X.stack=X.env::X.outer/\X.env.frame=some X.env.locals)
 exf:∀b∈X.ex,b≠X.env.locals/\∀x c,X.env.cells.lookup x=some c->c≠b
 bs:∀b o,X.base.get? b=some o->X.s₀.heap.get? b=some o/\X.H₀ b=none
 bsz:X.base.objs.size<=X.s₀.heap.objs.size
 noex:∀b o,X.base.get? b=some o->b ∉ X.ex
 exfs:∀b∈X.ex,b ∉ X.fs
 funs:X.s₀.heap.FunFrames X.base X.outer
 frf:∀b∈X.fs,X.H₀ b=none
structure Inv (X:Cx) (pins:List (Addr×Obj)) (σ:List (Option V)) (H:Hp) (s:Shared):Prop where
 ok:X.Ok
 os:s.os=X.s₀.os
 bare:AllBare s.gens
 base:Un X.fs X.ex X.H₀ H X.s₀.heap s.heap
 loc:∃m,s.heap.Ns X.env.locals m/\∀(i:Nat) (x:Str) (v:V),X.N[i]?=some x->σ[i]?=some (some v)->Ys X.env.scope x->∃u,RelV v u/\Look X.env s.heap m x u
 cell:∀x c,X.env.cells.lookup x=some c->∃v,s.heap.IsCell c v
 free:H X.env.locals=none
 md:∀x c,X.env.cells.lookup x=some c->H c=none
 pin:∀p∈X.pn++pins,s.heap.get? p.1=some p.2/\H p.1=none/\p.1≠X.env.locals/\p.1 ∉ X.fs/\∀v,p.2.data≠ .cell v
 hok:xi X.prog X.w H s.heap
 len:σ.length=X.N.length
end
section
mutual
theorem Cx.Ok.nofr {X:Cx} (ok:X.Ok) (e:X.base.get? b=some o):b ∉ X.fs:=fun i=>by
 have:=(ok.funs.mem i).1;rw[e] at this;cases this
theorem Inv.bs (I:Inv X pins σ H s):∀b o,X.base.get? b=some o->s.heap.get? b=some o/\H b=none:=fun b o e=>
 ⟨I.base.keep b o (I.ok.bs b o e).1 (I.ok.bs b o e).2 (I.ok.nofr e) (I.ok.noex b o e),I.base.free b o (I.ok.bs b o e).1 (I.ok.bs b o e).2 (I.ok.noex b o e)⟩
theorem Inv.bk (I:Inv X pins σ H s):∀b o,X.base.get? b=some o->s.heap.get? b=some o:=fun b o e=>(I.bs b o e).1
theorem Inv.mod (I:Inv X pins σ H s):Mod X.K X.mg X.base:=I.ok.mod
theorem Inv.nO (I:Inv X pins σ H s):X.K.In s.heap:=I.ok.mod.kin.keeps I.bk
theorem Inv.lt (I:Inv X pins σ H s):X.env.locals<s.heap.objs.size:=let ⟨_,hn,_⟩:=I.loc;hn.lt
theorem Inv.sz (I:Inv X pins σ H s):X.s₀.heap.objs.size<=s.heap.objs.size:=h7 I.ok.above (Nat.le_of_lt I.lt)
theorem Inv.nofs (I:Inv X pins σ H s) (h:s.heap.objs.size<=a):a ∉ X.fs:=fun i=>by
 obtain⟨_,o,ho,_⟩:=I.ok.funs.mem i;exact absurd (h9 (h6 ho) (h7 I.sz h)) (Z7 _)
theorem Inv.cne (I:Inv X pins σ H s):∀x c,X.env.cells.lookup x=some c->c≠X.env.locals:=fun x c e z=>by
 obtain⟨v,o,ho,hd⟩:=I.cell x c e;obtain⟨m,⟨F,es,C,y,i,_⟩,_⟩:=I.loc;rw[z,y] at ho;cases ho;rw[i] at hd;cases hd
theorem Inv.funs (I:Inv X pins σ H s):s.heap.FunFrames X.base X.outer:=by
 have all:∀l,(∀b∈frs l,b∈X.fs)->X.s₀.heap.FunFrames X.base l->s.heap.FunFrames X.base l:=by
  intro l
  induction l with
  |nil=>intro _ _;trivial
  |cons env r x=>
   intro hs hl;obtain⟨hk,⟨L,o,hf,hn,ho,hd⟩,hr⟩:=hl;have v:=hs L (by unfold frs;rw[List.filterMap_cons,hf];exact ZG);obtain⟨sl,e⟩:=I.base.slot L o ho (I.ok.frf L v) v fun z=>I.ok.exfs L z v;exact⟨hk,⟨L,_,hf,hn,e,hd⟩,x (fun b i=>hs b (by unfold frs;rw[List.filterMap_cons,hf];exact sh _ i)) hr⟩
 exact all _ (fun _ i=>i) I.ok.funs
theorem Inv.stack (I:Inv X pins σ H s):s.heap.FunFrames X.base X.stack:=by
 rcases I.ok.stk with e|⟨e,hf⟩
 ·rw[e];exact I.funs
 ·rw[e];obtain⟨m,hn,_⟩:=I.loc;refine .cons (by rw[I.ok.kind];decide) hf hn ?_ I.funs;exact aan (h7 I.ok.bsz I.ok.above)
theorem Inv.BP (I:Inv X pins σ H s):∀b∈frs X.stack,b∈X.env.locals::X.fs:=fun b i=>by
 rcases I.ok.stk with e|⟨e,hf⟩
 ·simp_all
 ·rw[e] at i;unfold frs at i;rw[List.filterMap_cons,hf] at i;exact i
theorem Inv.Bu (I:Inv X pins σ H s):∀b∈frs X.stack,H b=none:=fun b i=>by
 rcases fy.mp (I.BP b i) with e|i
 ·rw[e];exact I.free
 ·obtain⟨_,o,ho,_⟩:=I.ok.funs.mem i;exact I.base.free b o ho (I.ok.frf b i) fun z=>I.ok.exfs b z i
theorem Inv.step {ch:List Addr} (I:Inv X pins σ H s) (y:∀b∈ch,(b∈X.ex\/X.s₀.heap.objs.size<=b)/\b≠X.env.locals/\(∀x c,X.env.cells.lookup x=some c->c≠b)/\∀p∈X.pn++pins,p.1≠b) (keep:∀b o,b≠X.env.locals->b ∉ X.fs->b ∉ ch->s.heap.get? b=some o->H b=none->J.get? b=some o) (slot:∀b o,b≠X.env.locals->b∈X.fs->b ∉ ch->s.heap.get? b=some o->H b=none->∃sl,J.get? b=some {o with slots:=sl}) (free:∀b o,b ∉ ch->s.heap.get? b=some o->H b=none->H' b=none) (there:∀b o,b ∉ ch->s.heap.get? b=some o->∃P,J.get? b=some P) (tups:∀b xs,H b=some (.tup xs)->H' b=some (.tup xs)) (frzs:∀b o u,H b=some (.frz o u)->H' b=some (.frz o u)) (tbls:∀b Q,H b=some (.tbl Q)->∃more,H' b=some (.tbl (Q++more))) (ns:∀m,s.heap.Ns X.env.locals m->J.Ns X.env.locals m) (hok:xi X.prog X.w H' J) (hg:AllBare g'):
  Inv X pins σ H' {s with heap:=J,gens:=g',drawn:=d',toks:=t'}:=by
 have O:∀b o,X.s₀.heap.get? b=some o->b≠X.env.locals:=fun b o e=>kv (h9 (h6 e) I.ok.above);have F:∀b o,X.s₀.heap.get? b=some o->b ∉ X.ex->b ∉ ch:=fun b o e hx G=>by
  rcases(y b G).1 with z|z
  ·trivial
  ·exact absurd (h9 (h6 e) z) (Z7 _)
 have cellK:∀x c,X.env.cells.lookup x=some c->∀v,s.heap.IsCell c v->J.IsCell c v:=fun x c e v ⟨o,ho,hd⟩=>by
  have C:=fun z=>(y c z).2.2.1 x c e rfl;by_cases hc:c∈X.fs
  ·obtain⟨sl,q⟩:=slot c o (I.cne x c e) hc C ho (I.md x c e);exact⟨_,q,hd⟩
  ·exact⟨o,keep c o (I.cne x c e) hc C ho (I.md x c e),hd⟩
 refine⟨I.ok,I.os,hg,⟨fun b o e n G hx=>?_,fun b o e n G hx=>?_,fun b o e n hx=>?_,fun b o e hx=>?_,fun b xs e=>tups b xs (I.base.tups b xs e),fun b o xs e=>frzs b o xs (I.base.frzs b o xs e),fun b Q e=>?_⟩,?_,fun x c e=>?_,?_,fun x c e=>?_,fun p hp=>?_,hok,I.len⟩
 ·exact keep b o (O b o e) G (F b o e hx) (I.base.keep b o e n G hx) (I.base.free b o e n hx)
 ·obtain⟨sl,e1⟩:=I.base.slot b o e n G hx;obtain⟨U,e2⟩:=slot b _ (O b o e) G (F b o e hx) e1 (I.base.free b o e n hx);exact⟨U,e2⟩
 ·obtain⟨P,e1⟩:=I.base.there b o e hx;exact free b P (F b o e hx) e1 (I.base.free b o e n hx)
 ·obtain⟨P,e1⟩:=I.base.there b o e hx;exact there b P (F b o e hx) e1
 ·obtain⟨m1,e1⟩:=I.base.tbls b Q e;obtain⟨m2,e2⟩:=tbls b _ e1;exact⟨m1++m2,by simp_all⟩
 ·obtain⟨m,hn,hl⟩:=I.loc;refine⟨m,ns m hn,fun i x v e1 e2 e3=>?_⟩;obtain⟨u,r,l⟩:=hl i x v e1 e2 e3;refine⟨u,r,?_⟩;rcases l with l|⟨k,c,e,z⟩
  ·exact .inl l
  ·exact .inr ⟨k,c,e,cellK x c e _ z⟩
 ·obtain⟨v,z⟩:=I.cell x c e;exact⟨v,cellK x c e v z⟩
 ·obtain⟨m,⟨o,_,_,ho,_⟩,_⟩:=I.loc;exact free _ o (fun z=>(y _ z).2.1 rfl) ho I.free
 ·obtain⟨v,o,ho,hd⟩:=I.cell x c e;exact free c o (fun z=>(y c z).2.2.1 x c e rfl) ho (I.md x c e)
 ·obtain⟨e,n,ne,Z,d⟩:=I.pin p hp;have C:=fun z=>(y _ z).2.2.2 p hp rfl;exact⟨keep _ _ ne Z C e n,free _ _ C e n,ne,Z,d⟩
theorem Inv.un (I:Inv X pins σ H s) (u:Un X.fs [] H H' s.heap C) (hok:xi X.prog X.w H' C):Inv X pins σ H' {s with heap:=C,toks:=t'}:=by
 obtain⟨m,⟨o,es,J,ho,r⟩,_⟩:=id I.loc;obtain⟨sl,F⟩:=u.any ho I.free (by simp);exact I.step (ch:=[]) (fun _ z=>nomatch z) (fun b o _ v _ e n=>u.keep b o e n v (by simp)) (fun b o _ v _ e n=>u.slot b o e n v (by simp)) (fun b o _ e n=>u.free b o e n (by simp)) (fun b o _ e=>u.there b o e (by simp)) u.tups u.frzs u.tbls (fun O hm=>by
  obtain⟨P,y,x,i,G⟩:=hm;rw[ho] at i;cases i;exact⟨_,y,x,F,G⟩) hok I.bare
theorem Inv.call (I:Inv X pins σ H s) (u:Un (frs X.stack) ch H H' s.heap G) (hok:xi X.prog X.w H' G) (hg:AllBare g') (v:∀b∈ch,(b∈X.ex\/X.s₀.heap.objs.size<=b)/\b≠X.env.locals/\(∀x c,X.env.cells.lookup x=some c->c≠b)/\∀p∈X.pn++pins,p.1≠b):
  Inv X pins σ H' {s with heap:=G,gens:=g',drawn:=d',toks:=t'}:=by
 obtain⟨m,⟨o,es,P,ho,r⟩,_⟩:=id I.loc;obtain⟨sl,C⟩:=u.any ho I.free fun z=>(v _ z).2.1 rfl;exact I.step v (fun b o C J hc e n=>u.keep b o e n (fun z=>(fy.mp (I.BP b z)).elim C J) hc) (fun b o _ _ hc e n=>u.any e n hc) (fun b o hc e n=>u.free b o e n hc) (fun b o hc e=>u.there b o e hc) u.tups u.frzs u.tbls (fun Q hm=>by
  obtain⟨U,F,y,i,O⟩:=hm;rw[ho] at i;cases i;exact⟨_,F,y,C,O⟩) hok hg
theorem Inv.turned (I:Inv X pins σ H s) (k:∀b o,b≠it->s.heap.get? b=some o->O.get? b=some o) (hn:H it=none) (i:it≠X.env.locals) (C:it∈X.ex\/X.s₀.heap.objs.size<=it) (F:∀x c,X.env.cells.lookup x=some c->c≠it) (G:∀p∈X.pn++pins,p.1≠it):Inv X pins σ H {s with heap:=O,toks:=t'}:=by
 have J:∀b u,H b=some u->b≠it:=fun b u e z=>by simp_all
 refine I.step (ch:=[it]) (fun b P=>?_) (fun b o _ _ hc e _=>k b o (fun z=>hc (by simp[z])) e) (fun b o _ _ hc e _=>⟨_,k b o (fun z=>hc (by simp[z])) e⟩) (fun _ _ _ _ n=>n)
  (fun b o hc e=>⟨o,k b o (fun z=>hc (by simp[z])) e⟩) (fun _ _ e=>e) (fun _ _ _ e=>e) (fun b Q e=>⟨#[],‹_›⟩) (fun m hm=>?_) (fun b u e=>?_) I.bare
 ·have e:b=it:=by simp_all
  subst e;exact⟨C,i,F,G⟩
 ·obtain⟨o,es,y,ho,r⟩:=hm;exact⟨o,es,y,k _ o (L3 i) ho,r⟩
 ·refine(I.hok b u e).stay (fun c v hc q=>k c v ?_ q) (fun _ q=>q) fun _ _ q=>q;rcases hc with z|z
  ·simp_all
  ·simp_all
theorem Inv.tok (I:Inv X pins σ H s) (t:Nat):Inv X pins σ H {s with toks:=t}:=I.un Un.refl I.hok
theorem Inv.kept (I:Inv X pins σ H s) (k:∀b u,s.heap.get? b=some u->i.get? b=some u):Inv X pins σ H {s with heap:=i,toks:=t'}:=I.un (Un.kept k) (I.hok.kept k)
theorem Inv.laid (I:Inv X pins σ H s) (k:∀b u,s.heap.get? b=some u->i.get? b=some u) (hp:s.heap.objs.size<=a) (new:dZ X.prog X.w (upd H a o) i a o):
  Inv X pins σ (upd H a o) {s with heap:=i,toks:=t'}:=I.un (Un.laid k hp (I.hok.fresh hp)) (I.hok.laid k hp new)
theorem Inv.write (I:Inv X pins σ H s) (y:Yb (H x)) (he:e=x\/H e=some (.own x)) (k:∀b u,b≠e->s.heap.get? b=some u->v.get? b=some u) (i:∃u,v.get? e=some u) (new:dZ X.prog X.w (upd H x o) v x o):Inv X pins σ (upd H x o) {s with heap:=v,toks:=t'}:=I.un (Un.write y he k i) (I.hok.write y he k i new)
theorem Inv.BB (I:Inv X pins σ H s) (h:∀p∈pins',s.heap.get? p.1=some p.2/\H p.1=none/\p.1≠X.env.locals/\p.1 ∉ X.fs/\∀v,p.2.data≠ .cell v):Inv X pins' σ H s:=
 ⟨I.ok,I.os,I.bare,I.base,I.loc,I.cell,I.free,I.md,fun p hp=>(Zy.mp hp).elim (fun z=>I.pin p (aao _ z)) (h p),I.hok,I.len⟩
theorem Ci {N:List Str} {j:Nat} (v:N.Nodup) (a:N[i]?=some x) (b:N[j]?=some x):i=j:=by
 obtain⟨z,e1⟩:=i4.mp a;obtain⟨y,e2⟩:=i4.mp b;exact(List.getElem_inj v).mp (e1.trans e2.symm)
theorem D3 (I:Inv X pins σ H s) (hN:X.N.Nodup) (O:X.N[i]?=some x) (hx:Loc X.env.scope x) (r:RelV v u) (h:∀s',Inv X pins (σ.set i (some v)) H s'->(∃a,Heap.SameBut a s.heap s'.heap/\(a=X.env.locals\/X.env.cells.lookup x=some a))->Q () s') (hf:X.fn x=true\/X.env.scope.names.lookup x=some .local:=by walk_at "q"):wpAny M A (storeName X.env x u) Q E s:=by
 obtain⟨m,hn,hl⟩:=id I.loc;have Z:(X.env.scope.kind == .class||(X.env.scope.kind == .module&&X.env.locals != X.env.globals))=false:=by rw[I.ok.kind];rfl
 have C:i<σ.length:=by rw[I.len];exact(i4.mp O).1
 have cne:=I.cne;have tracked:∀{a:Addr} {h':Heap},(∃o,s.heap.get? a=some o/\H a=none)->Heap.SameBut a _ h'->xi _ _ H h':=fun{a h'} ha hs b ob e=>by
  refine(I.hok b ob e).stay (fun c w' hc q=>(hs.2 c ?_).trans q) (fun _ q=>q) fun _ _ q=>q;rintro rfl;rcases hc with rfl|hc
  ·simp_all
  ·simp_all
 rcases hx with hk|hk
 ·refine wpAny_storeName_local hk hn (fun h' hn' hs=>?_) Z;obtain⟨oL,_,_,hoL,_⟩:=id hn;refine h _ ⟨I.ok,I.os,I.bare,⟨fun b o e n G hx=>?_,fun b o e n G hx=>?_,I.base.free,fun b o e hx=>?_,I.base.tups,I.base.frzs,I.base.tbls⟩,⟨_,hn',fun j y v' e1 e2 e3=>?_⟩,fun y c e=>?_,I.free,I.md,fun p hp=>?_,tracked ⟨oL,hoL,I.free⟩ hs,by simpa using I.len⟩ ⟨_,hs,.inl rfl⟩
  ·exact(hs.2 b (kv (h9 (h6 e) I.ok.above))).trans (I.base.keep b o e n G hx)
  ·obtain⟨sl,e1⟩:=I.base.slot b o e n G hx;exact⟨sl,(hs.2 b (kv (h9 (h6 e) I.ok.above))).trans e1⟩
  ·obtain⟨o',e1⟩:=I.base.there b o e hx;exact⟨o',(hs.2 b (kv (h9 (h6 e) I.ok.above))).trans e1⟩
  ·by_cases J:j=i
   ·subst J;rw[O] at e1;cases e1;rw[List.getElem?_set_self C] at e2;cases e2;exact⟨u,r,.inl ⟨hk,by simp⟩⟩
   ·rw[aap (L3 J)] at e2;obtain⟨u',r',q⟩:=hl j y v' e1 e2 e3;refine⟨u',r',?_⟩;rcases q with⟨k,e⟩|⟨k,c,e,z⟩
    ·refine .inl ⟨k,?_⟩;have:y≠x:=fun e=>J (Ci hN e1 (e▸O));simp[this,e]
    ·exact .inr ⟨k,c,e,z.sameBut hs (cne y c e)⟩
  ·obtain⟨w',z⟩:=I.cell y c e;exact⟨w',z.sameBut hs (cne y c e)⟩
  ·obtain⟨e,n,ne,nf,d⟩:=I.pin p hp;exact⟨(hs.2 _ ne).trans e,n,ne,nf,d⟩
 ·have F:X.fn x=true:=by
   simp_all
  obtain⟨c,hc⟩:=I.ok.has x (.inl hk);obtain⟨w',z⟩:=I.cell x c hc;refine wpAny_storeName_cell I.ok.kind hk hc z (fun h' P hs=>?_);obtain⟨oc,hoc,hocd⟩:=id z;refine h _ ⟨I.ok,I.os,I.bare,⟨fun b o e n G hx=>?_,fun b o e n G hx=>?_,I.base.free,fun b o e hx=>?_,I.base.tups,I.base.frzs,I.base.tbls⟩,⟨m,hn.sameBut hs (L3 (cne x c hc)),fun j y v' e1 e2 e3=>?_⟩,fun y c' e=>?_,I.free,I.md,fun p hp=>?_,tracked ⟨oc,hoc,I.md x c hc⟩ hs,by simpa using I.len⟩ ⟨c,hs,.inr hc⟩
  ·exact(hs.2 b (kv (h9 (h6 e) (I.ok.cab x c F hc)))).trans (I.base.keep b o e n G hx)
  ·obtain⟨sl,e1⟩:=I.base.slot b o e n G hx;exact⟨sl,(hs.2 b (kv (h9 (h6 e) (I.ok.cab x c F hc)))).trans e1⟩
  ·obtain⟨o',e1⟩:=I.base.there b o e hx;exact⟨o',(hs.2 b (kv (h9 (h6 e) (I.ok.cab x c F hc)))).trans e1⟩
  ·by_cases J:j=i
   ·subst J;rw[O] at e1;cases e1;rw[List.getElem?_set_self C] at e2;cases e2;exact⟨u,r,.inr ⟨.inl hk,c,hc,P⟩⟩
   ·rw[aap (L3 J)] at e2;obtain⟨u',r',q⟩:=hl j y v' e1 e2 e3;refine⟨u',r',?_⟩;rcases q with q|⟨k,c',e,z'⟩
    ·exact .inl q
    ·refine .inr ⟨k,c',e,z'.sameBut hs ?_⟩;rintro rfl;exact J (Ci hN e1 (I.ok.inj _ _ _ e hc▸O))
  ·by_cases U:c'=c
   ·subst U;exact⟨_,P⟩
   ·obtain⟨w2,z2⟩:=I.cell y c' e;exact⟨w2,z2.sameBut hs U⟩
  ·obtain⟨e,n,ne,nf,d⟩:=I.pin p hp;refine⟨(hs.2 _ ?_).trans e,n,ne,nf,d⟩;intro q;exact d w' (by simp_all)
theorem xr (I:Inv X pins σ H s) (z:X.N.Nodup) (F:X.N[i]?=some x) (hx:Loc X.env.scope x) (r:RelV v u) (h:∀y,Inv X pins (σ.set i (some v)) H y->Q () y) (hf:X.fn x=true\/X.env.scope.names.lookup x=some .local:=by walk_at "q"):wpAny M A (storeName X.env x u) Q E s:=
 D3 I z F hx r (fun y C _=>h y C) hf
theorem Inv.call' (I:Inv X pins σ H s) (ho:s'.os=s.os) (u:Un (frs X.stack) ch H H' s.heap s'.heap) (hok:xi X.prog X.w H' s'.heap) (hg:AllBare s'.gens) (i:∀b∈ch,(b∈X.ex\/X.s₀.heap.objs.size<=b)/\b≠X.env.locals/\(∀x c,X.env.cells.lookup x=some c->c≠b)/\∀p∈X.pn++pins,p.1≠b):Inv X pins σ H' s':=by
 obtain⟨y,g',d',t',v⟩:=s';have e:=ho;subst e;exact I.call u hok hg i
end
end
mutual
noncomputable abbrev XK:=Value->Option Addr->Hp->Prop
noncomputable abbrev St:=List (Option V)
noncomputable abbrev VK:=V->Hp->Prop
noncomputable abbrev TE:=St->Hp->VK->Prop
noncomputable abbrev TT:=St->Hp->(Bool->Hp->Prop)->Prop
noncomputable abbrev TA:=St->Hp->(List V->Hp->Prop)->Prop
structure Ends where
 nx:St->Hp->Prop
 rt:VK
 bk:St->Hp->Prop:=fun _ _=>False
 ct:St->Hp->Prop:=fun _ _=>False
noncomputable abbrev TS:=Ends->St->Hp->Prop
def EP (X:Cx) (i:List (Addr×Obj)) (σ:St) (Q:VK) (u:Value) (x:Shared):Prop:= ∃v H',Inv X i σ H' x/\RelV v u/\Q v H'
def TP (X:Cx) (i:List (Addr×Obj)) (σ:St) (Q:Bool->Hp->Prop) (b:Bool) (v:Shared):Prop:= ∃H',Inv X i σ H' v/\Q b H'
def AP (X:Cx) (i:List (Addr×Obj)) (σ:St) (Q:List V->Hp->Prop) (us:List Value) (v:Shared):Prop:= ∃vs H',Inv X i σ H' v/\Vals vs us/\Q vs H'
def SP (X:Cx) (x:List (Addr×Obj)) (D:Ends) (f:Flow) (y:Shared):Prop:=
 match f with
 | .next=> ∃i H',Inv X x i H' y/\D.nx i H'
 | .brk=> ∃i H',Inv X x i H' y/\D.bk i H'
 | .cont=> ∃i H',Inv X x i H' y/\D.ct i H'
 | .ret u=> ∃v i H',Inv X x i H' y/\RelV v u/\D.rt v H'
def PE (X:Cx) (e:Expr) (t:TE):Prop:=
 ∀(i:List (Addr×Obj)) (s:Shared) (σ:St) (H:Hp) (Q:VK),Inv X i σ H s->t σ H Q->wpAny (model X.prog X.w) X.A (eval e X.env) (EP X i σ Q) X.xe s
def PT (X:Cx) (e:Expr) (t:TT):Prop:=
 ∀(i:List (Addr×Obj)) (s:Shared) (σ:St) (H:Hp) (Q:Bool->Hp->Prop),Inv X i σ H s->t σ H Q->wpAny (model X.prog X.w) X.A (isTrue e X.env (eval e X.env)) (TP X i σ Q) X.xe s
def PW (X:Cx) (e:Expr) (t:TT):Prop:=
 ∀(whole:Sem Value) (i:List (Addr×Obj)) (s:Shared) (σ:St) (H:Hp) (Q:Bool->Hp->Prop),Inv X i σ H s->t σ H Q->wpAny (model X.prog X.w) X.A (isTrue e X.env whole) (TP X i σ Q) X.xe s
theorem PW.pt (h:PW X e t):PT X e t:=h _
def PA (X:Cx) (es:List Expr) (t:TA):Prop:=
 ∀(pos:Pos) (i:List (Addr×Obj)) (s:Shared) (σ:St) (H:Hp) (Q:List V->Hp->Prop),Inv X i σ H s->t σ H Q->wpAny (model X.prog X.w) X.A (spliced (backTo pos (starEach es X.env))) (AP X i σ Q) X.xe s
def PS (X:Cx) (st:Stmt) (t:TS):Prop:=
 ∀(i:List (Addr×Obj)) (s:Shared) (σ:St) (H:Hp) (D:Ends),Inv X i σ H s->t D σ H->wpAny (model X.prog X.w) X.A (exec st X.env) (SP X i D) X.xe s
def Br (X:Cx) (st:List Stmt) (t:TS):Prop:=
 ∀(i:List (Addr×Obj)) (s:Shared) (σ:St) (H:Hp) (D:Ends),Inv X i σ H s->t D σ H->wpAny (model X.prog X.w) X.A (execs st X.env) (SP X i D) X.xe s
theorem thn {i:α->Shared->Prop} (h:wpAny M A t Q E s) (v:∀a s,Q a s->i a s):wpAny M A t i E s:=z4 h v fun _ _ x=>x
theorem gQ {α β i:Type} {t:Sem α} {F:α->Shared->β->i->Prop} {G:α->Shared->β->i->Prop} {J:α->Shared->β->i->Prop} {Q:α->Shared->Prop} {M:Model} {A:Around} {E:Value->Shared->Prop} {s:Shared} (h:wpAny M A t (fun a s=> ∃x y,F a s x y/\G a s x y/\J a s x y) E s) (k:∀a s x y,F a s x y->G a s x y->J a s x y->Q a s):wpAny M A t Q E s:=thn h fun a s ⟨x,y,f,g,j⟩=>k a s x y f g j
end
section
mutual
variable {X:Cx} {a b:Expr} {pos:Pos} {tA tB':TT} {rest:List Expr}
def EY (i:Nat):TE:=fun σ H Q=>match σ[i]? with
 |some (some v)=>Q v H
 |_=>False
theorem QN (h:EY i σ H Q):∃v,σ[i]?=some (some v)/\Q v H:=by
 unfold EY at h;split at h
 ·exact⟨_,by assumption,h⟩
 ·exact h.elim
def tC (v:V):TE:=fun _ H Q=>Q v H
theorem UE (F:X.N[i]?=some x) (G:Ys X.env.scope x) (hd:(x == ("__debug__":Str))=false:=by decide) (z:(x == ("__classdict__":Str))=false:=by decide):PE X (.Name x pos) (EY i):=by
 intro C s σ H Q I h;obtain⟨v,e,h⟩:=QN h;obtain⟨m,hn,hl⟩:=I.loc;obtain⟨u,r,l⟩:=hl i x v F e G;have fin:EP X _ σ Q u s:=⟨v,H,I,r,h⟩;rcases l with⟨hk,hm⟩|⟨hk,c,hc,y⟩
 ·exact wpAny_Name (wpAny_loadName_local I.ok.kind hk hn hm fin) hd
 ·rcases hk with hk|hk
  ·exact wpAny_Name (wpAny_loadName_cell I.ok.kind hk hc y fin) hd
  ·exact wpAny_Name (wpAny_loadName_free I.ok.kind hk hc y fin z) hd
theorem af {i j pos}:PE X (.Constant (.int i) j pos) (tC (.int i)):=fun _ _ _ H _ I h=>wpAny_Constant_int ⟨.int i,H,I.tok _,⟨_,rfl⟩,h⟩
theorem gr {b j pos}:PE X (.Constant (.bool b) j pos) (tC (.bl b)):=fun _ _ _ H _ I h=>Constant_bool ⟨.bl b,H,I,rfl,h⟩
theorem bY {j pos}:PE X (.Constant .none j pos) (tC .non):=fun _ _ _ H _ I h=>Constant_none ⟨.non,H,I,rfl,h⟩
theorem aG {x j pos}:PE X (.Constant (.str x) j pos) (tC (.str x)):=fun _ _ _ H _ I h=>Calls.Constant_str ⟨.str x,H,I.tok _,⟨_,rfl⟩,h⟩
def Gl (X:Cx) (x:Str):Prop:=X.env.kindOf x=some .globalImplicit
theorem mw (I:Inv X pins σ H s) (hg:Gl X x) (hm:X.mg x=some u) (h:Q u s) (hd:(x == ("__debug__":Str))=false:=by decide):wpAny (model X.prog X.w) X.A (eval (.Name x pos) X.env) Q E s:=
 Calls.Name_function_global I.ok.kind hg (Calls.loadGlobal_global (by rw[I.ok.glob];exact I.mod.glob.keeps I.bk) hm h) hd
theorem ri (I:Inv X pins σ H s) (hg:Gl X x) (hm:X.mg x=none) (y:bootBuiltins x=some u) (h:Q u s) (hn:x≠ "__name__" :=by decide) (hd:(x == ("__debug__":Str))=false:=by decide):wpAny (model X.prog X.w) X.A (eval (.Name x pos) X.env) Q E s:=by
 obtain⟨z,v,i⟩:=I.mod.blt;exact Calls.Name_function_global I.ok.kind hg (Calls.loadGlobal_builtin (by rw[I.ok.glob];exact I.mod.glob.keeps I.bk) hm (by rw[I.ok.blt];exact v.keeps I.bk) ((i x hn).trans y) h) hd
theorem RD (hg:Gl X x) (hm:X.mg x=some u) (r:RelV v u) (hd:(x == ("__debug__":Str))=false:=by decide):PE X (.Name x pos) (tC v):=
 fun _ _ _ H _ I h=>mw I hg hm ⟨v,H,I,r,h⟩ hd
theorem RI (hg:Gl X x) (hm:X.mg x=none) (i:bootBuiltins x=some u) (r:RelV v u) (hn:x≠ "__name__" :=by decide) (hd:(x == ("__debug__":Str))=false:=by decide):PE X (.Name x pos) (tC v):=
 fun _ _ _ H _ I h=>ri I hg hm i ⟨v,H,I,r,h⟩ hn hd
def PC (X:Cx) (op:CmpOp) (a b:Expr) (t:TE):Prop:=
 ∀(i:List (Addr×Obj)) (s:Shared) (σ:St) (H:Hp) (Q:VK),Inv X i σ H s->t σ H Q->
  wpAny (model X.prog X.w) X.A (eval a X.env) (fun v y=>wpAny (model X.prog X.w) X.A (eval b X.env) (fun u x=>wpAny (model X.prog X.w) X.A (compareOp op v u) (EP X i σ Q) X.xe x) X.xe y) X.xe s
def tB (t:TE):TT:=fun σ H Q=>t σ H fun x i=> ∃c,x = .bl c/\Q c i
theorem yU {op:CmpOp} {t:TE} (h:PC X op a b t) (i:behindInMarks op b=false:=by first|exact nobehind _ (by decide) (by decide)|rfl):PT X (.Compare a [op] [b] pos) (tB t):=by
 intro y s σ H Q I hw;refine wpAny_isTrue_Compare1 (thn (h _ s σ H _ I hw) fun v s1 i=>thn i fun u s2 C=>thn C fun c s3 ⟨x,G,F,z,J⟩=>?_) i;obtain⟨d,rfl,q⟩:=J;cases z;exact ZC ⟨G,F,q⟩
theorem Uv (h:PE X e t) (he:∀whole,isTrue e X.env whole=(do let v<-whole;standAt e.pos;holding [v] (truthy v)):=by intro _;rfl):PT X e (tB t):=by
 intro i s σ H Q I hw;refine isTrue_plain (gQ (h _ s σ H _ I hw) fun v s1 x C z y F=>?_) (he _);obtain⟨d,rfl,q⟩:=F;cases y;exact ZC ⟨C,z,q⟩
def Wl (t u:TT):TT:=fun σ H Q=>t σ H fun c i=>if c=true then u σ i Q else Q false i
def Zd (t u:TT):TT:=fun σ H Q=>t σ H fun c i=>if c=true then Q true i else u σ i Q
def Wi (t:TT):TT:=fun σ H Q=>t σ H fun c i=>Q (!c) i
theorem pw_and1 (ha:PT X a tA):PW X (.BoolOp .And [a] pos) tA:=by
 intro v i s σ H Q I h;refine isTrue_and (thn (ha _ s σ H Q I h) fun c s1 e=>?_);cases c with
 |true=>exact isTrue_and_nil e
 |false=>exact e
theorem pw_or1 (ha:PT X a tA):PW X (.BoolOp .Or [a] pos) tA:=by
 intro v i s σ H Q I h;refine isTrue_or (thn (ha _ s σ H Q I h) fun c s1 e=>?_);cases c with
 |false=>exact isTrue_or_nil e
 |true=>exact e
theorem pw_and (ha:PT X a tA) (z:PW X (.BoolOp .And (b::rest) pos) tB'):PW X (.BoolOp .And (a::b::rest) pos) (Wl tA tB'):=by
 intro y i s σ H Q I h;refine isTrue_and (thn (ha _ s σ H _ I h) fun c s1 ⟨v,C,x⟩=>?_);cases c with
 |true=>exact z y _ s1 σ v Q C x
 |false=>trivial
theorem pw_or (ha:PT X a tA) (z:PW X (.BoolOp .Or (b::rest) pos) tB'):PW X (.BoolOp .Or (a::b::rest) pos) (Zd tA tB'):=by
 intro y i s σ H Q I h;refine isTrue_or (thn (ha _ s σ H _ I h) fun c s1 ⟨v,C,x⟩=>?_);cases c with
 |true=>trivial
 |false=>exact z y _ s1 σ v Q C x
theorem eZ (ha:PT X a tA):PT X (.UnaryOp .Not a pos) (Wi tA):=by
 intro i s σ H Q I h;exact isTrue_not (ha _ s σ H _ I h)
def Tf (v tb:TE):TE:=fun σ H Q=>v σ H fun x i=> ∃c,x = .bl c/\if c=true then tb σ i Q else Q (.bl false) i
def Tc (v:TE):TE:=fun σ H Q=>v σ H fun x i=> ∃c,x = .bl c/\Q (.bl (!c)) i
theorem kh {op} {t:TE} (h:PE X a t):PE X (.BoolOp op [a] pos) t:=fun i s σ H Q I hw=>BoolOp_one (h _ s σ H Q I hw)
theorem cD {y tb:TE} (ha:PE X a y) (G:PE X (.BoolOp .And (b::rest) pos) tb):PE X (.BoolOp .And (a::b::rest) pos) (Tf y tb):=by
 intro F s σ H Q I h;refine BoolOp_and (gQ (ha _ s σ H _ I h) fun v s1 x C z J i=>?_);obtain⟨c,rfl,i⟩:=i;cases J;refine ZC ?_;cases c with
 |true=>exact G _ s1 σ C Q z i
 |false=>exact⟨.bl _,C,z,rfl,i⟩
theorem OE {z:TE} (ha:PE X a z):PE X (.UnaryOp .Not a pos) (Tc z):=by
 intro y s σ H Q I h;refine UnaryOp_ (gQ (ha _ s σ H _ I h) fun v s1 x C G F i=>?_);obtain⟨c,rfl,i⟩:=i;cases F;exact not_of (ZC ⟨.bl _,C,G,rfl,i⟩)
def Ze (t:TT) (v tb:TE):TE:=fun σ H Q=>t σ H fun c i=>if c=true then v σ i Q else tb σ i Q
theorem gV {y tb:TE} {c:Expr} (hc:PT X c tA) (ha:PE X a y) (C:PE X b tb):PE X (.IfExp c a b pos) (Ze tA y tb):=by
 intro x s σ H Q I h;refine wpAny_IfExp (thn (hc _ s σ H _ I h) fun d s1 ⟨i,z,v⟩=>?_);cases d with
 |true=>exact ha _ s1 σ i Q z v
 |false=>exact C _ s1 σ i Q z v
end
end
def bC (K:W.Frag) (H:Hp) (a:Addr) (xs:List V):Prop:=
 Rd H a (.lst xs)\/
  ∃(o:Obj) (i:Array Value) (n:Nat),K.lookup a=some o/\o.cls = .type "list" /\o.dict=none/\o.data = .seq i n/\i.size<=sizeLine/\Vals xs i.toList
def c6 (K:W.Frag) (H:Hp) (a:Addr) (xs:List V):Prop:=
 Rd H a (.tup xs)\/
  ∃(o:Obj) (i:Array Value) (n:Nat),K.lookup a=some o/\o.cls = .type "tuple" /\o.data = .seq i n/\i.size<=sizeLine/\Vals xs i.toList
noncomputable def Y0:Value->Option V
 | .none=>some .non
 | .bool b=>some (.bl b)
 | .int i _=>some (.int i)
 | .str x _=>some (.str x)
 | .bytes b _=>some (.byt b)
 | .float b _=>some (.flt b)
 | .ref a=>some (.ref a)
 | .type n=>some (.ty n)
 |_=>none
theorem RelV.abs (r:RelV x u):Y0 u=some x:=by
 cases x with
 |non=>cases r;rfl
 |bl _=>cases r;rfl
 |int _=>obtain⟨t,rfl⟩:=r;rfl
 |str _=>obtain⟨t,rfl⟩:=r;rfl
 |byt _=>obtain⟨t,rfl⟩:=r;rfl
 |flt _=>obtain⟨t,rfl⟩:=r;rfl
 |ref _=>cases r;rfl
 |ty _=>cases r;rfl
theorem RelV.inj (r:RelV x u) (q:RelV y u):x=y:=Zz (r.abs.symm.trans q.abs)
theorem Vals.inj:∀{xs ys:List V} {us:List Value},Vals xs us->Vals ys us->xs=ys
 |_,_,_,.nil,.nil=>rfl
 |_,_,_,.cons r t,.cons r' t'=>by rw[r.inj r',Vals.inj t t']
section
theorem bC.of {K:W.Frag} (h:H a=some (.lst xs)):bC K H a xs:= .inl (.inl h)
theorem c6.of {K:W.Frag} (h:H a=some (.tup xs)):c6 K H a xs:= .inl (.inl h)
theorem Inv.list (I:Inv X pins σ H s) (h:bC X.K H a xs):∃i:List Value,Vals xs i/\PlainL s.heap a i.toArray/\xs.length<=sizeLine:=by
 rcases h with h|⟨o,i,n,hk,hc,hd,hs,v,r⟩
 ·obtain⟨z,i,n,r,e⟩:=h.ok I.hok;exact⟨i,r,⟨_,n,e,rfl,rfl,rfl⟩,z⟩
 ·refine⟨_,r,⟨o,n,I.nO a o hk,hc,hd,‹_›⟩,?_⟩;have e:=r.length;simp at e;omega
theorem Inv.tuple (I:Inv X pins σ H s) (h:c6 X.K H a xs):∃i:List Value,Vals xs i/\IsTup s.heap a i.toArray/\xs.length<=sizeLine:=by
 rcases h with h|⟨o,i,n,hk,hc,hs,v,r⟩
 ·obtain⟨z,i,r,p⟩:=h.ok I.hok;exact⟨i,r,p,z⟩
 ·refine⟨_,r,⟨o,I.nO a o hk,hc,n,‹_›⟩,?_⟩;have e:=r.length;simp at e;lia
theorem Inv.HJ (I:Inv X pins σ H s) (h:bC X.K H a xs) (x:bC X.K H a ys):xs=ys:=by
 obtain⟨i,r,⟨o,n,e,_,_,d⟩,_⟩:=I.list h;obtain⟨its',y,⟨z,C,v,_,_,d'⟩,_⟩:=I.list x;rw[e] at v;cases v;have:i=its':=by simp_all
 subst this;exact r.inj y
theorem Inv.D0 (I:Inv X pins σ H s) (h:c6 X.K H a xs) (x:c6 X.K H a ys):xs=ys:=by
 obtain⟨i,r,⟨o,e,_,n,d⟩,_⟩:=I.tuple h;obtain⟨its',y,⟨z,v,_,C,d'⟩,_⟩:=I.tuple x;rw[e] at v;cases v;have:i=its':=by simp_all
 subst this;exact r.inj y
end
noncomputable abbrev Cx.wish (X:Cx) (E:Value->Shared->Prop):Cx:={X with xe:=E}
noncomputable abbrev Cx.nox (X:Cx):Cx:=X.wish fun _ _=>False
theorem Cx.Ok.wish {X:Cx} (ok:X.Ok) (E:Value->Shared->Prop):(X.wish E).Ok:=
 ⟨ok.mod,ok.kind,ok.glob,ok.blt,ok.above,ok.inj,ok.has,ok.cab,ok.hd,ok.frames,ok.stk,ok.exf,ok.bs,ok.bsz,ok.noex,ok.exfs,ok.funs,ok.frf⟩
theorem Cx.Ok.unwish {X:Cx} (ok:(X.wish E).Ok):X.Ok:=
 ⟨ok.mod,ok.kind,ok.glob,ok.blt,ok.above,ok.inj,ok.has,ok.cab,ok.hd,ok.frames,ok.stk,ok.exf,ok.bs,ok.bsz,ok.noex,ok.exfs,ok.funs,ok.frf⟩
section
theorem Inv.wish (I:Inv X pins σ H s) (E:Value->Shared->Prop):Inv (X.wish E) pins σ H s:=⟨I.ok.wish E,I.os,I.bare,I.base,I.loc,I.cell,I.free,I.md,I.pin,I.hok,I.len⟩
theorem Inv.unwish (I:Inv (X.wish E) pins σ H s):Inv X pins σ H s:=⟨I.ok.unwish,I.os,I.bare,I.base,I.loc,I.cell,I.free,I.md,I.pin,I.hok,I.len⟩
theorem SP.unwish (h:SP (X.wish E) pins D f s'):SP X pins D f s':=by
 cases f with
 |next=>obtain⟨i,H',I,q⟩:=h;exact⟨i,H',I.unwish,q⟩
 |brk=>obtain⟨i,H',I,q⟩:=h;exact⟨i,H',I.unwish,q⟩
 |cont=>obtain⟨i,H',I,q⟩:=h;exact⟨i,H',I.unwish,q⟩
 |ret u=>obtain⟨v,i,H',I,r,q⟩:=h;exact⟨v,i,H',I.unwish,r,q⟩
theorem PT.nox (h:PT X.nox e t):PT X e t:=fun i s σ H Q I hw=>
 z4 (h _ s σ H Q (I.wish _) hw) (fun _ _ ⟨H',v,q⟩=>⟨H',v.unwish,q⟩) fun _ _ z=>False.elim z
theorem Br.nox {st:List Stmt} (h:Br X.nox st t):Br X st t:=fun i s σ H D I hw=>
 z4 (h _ s σ H D (I.wish _) hw) (fun _ _ q=>q.unwish) fun _ _ z=>False.elim z
end
section
mutual
variable {st:Stmt}
def Ki:TS:=fun D σ H=>D.nx σ H
def T6 (t u:TS):TS:=fun D σ H=>t {D with nx:=u D} σ H
theorem aB:Br X [] Ki:=fun _ _ σ H _ I h=>aay ⟨σ,H,I,h⟩
theorem ae {rest:List Stmt} (z:PS X st t) (y:Br X rest u):Br X (st::rest) (T6 t u):=by
 intro i s σ H D I h;refine wpAny_execs_cons (thn (z _ s σ H _ I h) fun f s1 q=>?_);cases f with
 |next=>
  obtain⟨C,H',x,q⟩:=q;exact y _ s1 _ H' D x q
 |ret v=>exact q
 |brk=>exact q
 |cont=>exact q
theorem ah (x:PS X st t):Br X [st] t:=by
 intro i s σ H D I h;refine wpAny_execs_cons (thn (x _ s σ H D I h) fun f s1 q=>?_);cases f with
 |next=>exact aay q
 |ret v=>exact q
 |brk=>exact q
 |cont=>exact q
theorem Inv.quiet (I:Inv X pins σ H s):interactive X.env=false:=by simp[interactive,I.ok.kind]
def NN (te:TE):TS:=fun D σ H=>te σ H fun _ i=>D.nx σ i
theorem Rl (he:PE X e te) (hs:autoParam (swapsWith e none pos.line X.env=pure false) qqr):PS X (.Expr e pos) (NN te):=by
 intro i s σ H D I h;exact wpAny_Expr_any (gQ (he _ s σ H _ I h) fun v s1 x y C F z=>⟨σ,y,C,z⟩) I.quiet hs
def T7 (te:TE):TS:=fun D σ H=>te σ H D.rt
theorem ar (he:PE X e te):PS X (.Return (some e) pos) (T7 te):=by
 intro i s σ H D I h;exact wpAny_Return_some (gQ (he _ s σ H _ I h) fun v s1 x y F C z=>⟨x,σ,y,F,C,z⟩)
def Ta:TS:=fun D _ H=>D.rt .non H
theorem KG:PS X (.Return none pos) Ta:=fun _ _ σ H _ I h=>wpAny_Return_none ⟨.non,σ,H,I,rfl,h⟩
def QP (c:TT) (t u:TS):TS:=fun D σ H=>c σ H fun b i=>if b=true then t D σ i else u D σ i
theorem aQ (hc:PT X c tc) (ha:Br X a t) (z:Br X b u):PS X (.If c a b pos) (QP tc t u):=by
 intro x s σ H D I h;refine wpAny_If (thn (hc _ s σ H _ I h) fun d s1 ⟨i,y,v⟩=>?_);cases d with
 |true=>exact ha _ s1 σ i D y v
 |false=>exact z _ s1 σ i D y v
def T8:TS:=fun _ _ _=>False
theorem kE:PS X st T8:=fun _ _ _ _ _ _ h=>h.elim
end
end
noncomputable abbrev TG:=V->St->Hp->(St->Hp->Prop)->Prop
noncomputable abbrev TR:=List V->St->Hp->(St->Hp->Prop)->Prop
def PG (X:Cx) (target:Expr) (t:TG):Prop:=
 ∀(i:List (Addr×Obj)) (s:Shared) (σ:St) (H:Hp) (v:V) (u:Value) (Q:St->Hp->Prop),Inv X i σ H s->RelV v u->t v σ H Q->
  wpAny (model X.prog X.w) X.A (assign target X.env u) (fun _ y=> ∃x H',Inv X i x H' y/\Q x H') X.xe s
def Qq (X:Cx) (ts:List Expr) (t:TR):Prop:=
 ∀(i:List (Addr×Obj)) (s:Shared) (σ:St) (H:Hp) (vs:List V) (us:List Value) (Q:St->Hp->Prop),Inv X i σ H s->Vals vs us->t vs σ H Q->
  wpAny (model X.prog X.w) X.A (assignInOrder ((assignEach ts X.env).map (·.2)) us) (fun _ x=> ∃v H',Inv X i v H' x/\Q v H') X.xe s
noncomputable abbrev Y3:=V->V->V->Hp->(Hp->Prop)->Prop
section
mutual
def ou (i:Nat):TG:=fun v σ H Q=>Q (σ.set i (some v)) H
theorem Ru (z:X.N.Nodup) (F:X.N[i]?=some x) (hx:Loc X.env.scope x) (hf:X.fn x=true\/X.env.scope.names.lookup x=some .local:=by walk_at "q"):PG X (.Name x pos) (ou i):=by
 intro y s σ H v u Q I r h;exact wpAny_assign_Name (xr I z F hx r (fun G C=>⟨_,H,C,h⟩) hf)
def XD:TR:=fun vs σ H Q=>vs= []/\Q σ H
def Pt (t:TG) (u:TR):TR:=fun vs σ H Q=> ∃v r,vs=v::r/\t v σ H fun i H'=>u r i H' Q
theorem uM:Qq X [] XD:=by
 intro i s σ H vs us Q I r h;obtain⟨e,h⟩:=h;exact assignInOrder_nil ⟨σ,H,I,h⟩
theorem OD (x:PG X e t) (y:Qq X es u) (hs:autoParam ((assignEach (e::es) X.env).map (·.2)=assign e X.env::(assignEach es X.env).map (·.2)) qqr):Qq X (e::es) (Pt t u):=by
 intro i s σ H vs us Q I r h;obtain⟨v,O,e1,h⟩:=h;subst e1;cases r with
 |cons r z=>
  rw[hs];refine assignInOrder_cons (thn (x _ s σ H _ _ _ I r h) fun _ s1 ⟨C,G,F,J⟩=>?_);exact y _ s1 _ G _ _ Q F z J
def Vr (K:W.Frag) (n:Nat) (t:TR):TG:=fun v σ H Q=> ∃a xs,v = .ref a/\c6 K H a xs/\xs.length=n/\t xs σ H Q
theorem UC (hc:X.calm=true) (h:Qq X es t) (hn:autoParam ((assignEach es X.env).length=n) qqr) (i:autoParam ((assignEach es X.env).findIdx? (·.1)=none) qqr):PG X (.Tuple es k pos) (Vr X.K n t):=by
 intro x s σ H v u Q I r hw;obtain⟨a,xs,e1,y,hl,hw⟩:=hw;subst e1;cases r;obtain⟨C,z,ht,G⟩:=I.tuple y;refine assign_Tuple_tuple (I.ok.hd hc) ht (by simp[hn,<-hl,z.length]) i fun J hx=>?_;have F:=I.kept (t':=s.toks) fun b o e=>hx b o (kv (h6 e)) e;exact h _ _ σ H xs _ Q F (‹_›) hw
def YT (to z:TE) (t:Y3):TG:=fun v σ H Q=>to σ H fun o x=>z σ x fun i C=>t o i v C fun y=>Q σ y
def G1 (te:TE) (g:TG):TS:=fun D σ H=>te σ H fun x i=>g x σ i D.nx
theorem Ux (he:PE X e te) (hg:PG X tg g) (hs:autoParam (swapsWithSole [tg] e pos.line X.env=pure false) qqr) (hw:autoParam (swappedStores [tg] e X.env=pure none) qqr) (y:autoParam ((assignEach [tg] X.env).map (·.2)= [assign tg X.env]) qqr):PS X (.Assign [tg] e pos) (G1 te g):=by
 intro i s σ H D I h;refine wpAny_Assign_stores (gQ (he _ s σ H _ I h) fun v s1 x F C z G=>?_) hs hw;rw[y];exact thn (hg _ s1 σ F x v _ C z G) fun _ s2 q=>q
theorem Uw (G:X.N.Nodup) (F:X.N[i]?=some x) (hx:Loc X.env.scope x) (he:PE X e te) (hs:autoParam (swapsWith e (some (.Name x pos')) pos.line X.env=pure false) qqr) (hf:X.fn x=true\/X.env.scope.names.lookup x=some .local:=by walk_at "q"):
  PS X (.Assign [.Name x pos'] e pos) (G1 te (ou i)):=by
 intro z s σ H D I h;refine wpAny_Assign_Name (gQ (he _ s σ H _ I h) fun v s1 y O J C P=>?_) hs;exact xr J G F hx C (fun s2 Q=>⟨_,O,Q,P⟩) hf
end
end
section
def T3 (c:TT) (tb:TS):TS:=fun D σ H=> ∃W:Nat->St->Hp->Prop,(∃m,W m σ H)/\∀m σ H,W m σ H->
 c σ H fun b x=>if b=true then∃N:St->Hp->Prop,(∀i H',N i H'->∃v,v<m/\W v i H')/\tb {D with nx:=N,ct:=N,bk:=D.nx} σ x else D.nx σ x
theorem Hl (hp:PassesOwn (model X.prog X.w) X.A X.env X.xe) (hc:PT X c tc) (hb:Br X body tb):PS X (.While c body [] pos) (T3 tc tb):=by
 intro pins s σ H D I h;obtain⟨W,⟨m0,w0⟩,turn⟩:=h;refine wpAny_While (codeAny_whileLoop (fun n s'=> ∃y H',Inv X _ y H' s'/\W n y H') ?_ m0 ⟨σ,H,I,w0⟩);rintro n s1 ⟨O,Z,I1,w1⟩;refine Z5 hp (thn (hc _ s1 _ Z _ I1 (turn n _ Z w1)) fun b s2 ⟨U,I2,C⟩=>?_);cases b with
 |true=>
  obtain⟨N,Q,C⟩:=C;refine Z5 hp (thn (hb _ s2 _ U _ I2 C) fun f s3 z=>?_);cases f with
  |next=>
   obtain⟨i,x,F,P⟩:=z;obtain⟨J,hm,G⟩:=Q _ x P;exact⟨J,hm,i,x,F,G⟩
  |cont=>
   obtain⟨i,x,F,P⟩:=z;obtain⟨J,hm,G⟩:=Q _ x P;exact⟨J,hm,i,x,F,G⟩
  |brk=>exact z
  |ret v=>exact z
 |false=>
  exact aay ⟨O,U,I2,C⟩
end
mutual
structure It where
 go:Nat->Hp->Prop
 yld:Nat->Hp->V->Hp->Prop
 stop:Nat->Hp->Prop
def Bs (X:Cx) (i:List (Addr×Obj)) (H:Hp) (b:Addr):Prop:=
 H b=none/\b≠X.env.locals/\b ∉ X.fs/\(b∈X.ex\/X.s₀.heap.objs.size<=b)/\(∀x c,X.env.cells.lookup x=some c->c≠b)/\∀p∈X.pn++i,p.1≠b
theorem Inv.Ge (I:Inv X pins σ H s) (i:s.heap.objs.size<=b) (hn:H' b=none):Bs X pins H' b:=by
 refine⟨hn,aal (h9 I.lt i),I.nofs i,.inr (h7 I.sz i),fun x c e z=>?_,fun p hp z=>?_⟩
 ·obtain⟨v,q⟩:=I.cell x c e;exact absurd (h9 q.lt (by simp_all)) (Z7 _)
 ·exact absurd (h9 (h6 (I.pin p hp).1) (by simp_all)) (Z7 _)
structure Turn (P:Program) (w:World) (K:W.Frag) (tg:Expr) (J:It) (fp:List Addr) (it:Addr) (tn:Nat->Heap->Prop):Prop where
 mem:it∈fp
 obj:∀i h,tn i h->∀b∈fp,∃o,h.get? b=some o/\∀v,o.data≠ .cell v
 keep:∀i h h',tn i h->(∀b∈fp,∀o,h.get? b=some o->h'.get? b=some o)->tn i h'
 item:∀(X:Cx),X.prog=P->X.w=w->X.K=K->X.calm=true->∀(i:Nat) (pins:List (Addr×Obj)) (s:Shared) (σ:St) (H:Hp) (E:Value->Shared->Prop),Inv X pins σ H s->(∀b∈fp,Bs X pins H b)->tn i s.heap->J.go i H->
  wpAny (model P w) X.A (pyNext (.ref it)) (fun r s1=> ∃u,r=some u/\
   wpAny (model P w) X.A (letOwnedTupleGo tg (.ref it) u) (fun _ s2=> ∃x H',Inv X pins σ H' s2/\RelV x u/\J.yld i H x H'/\tn (i+1) s2.heap/\∀b∈fp,H' b=none) E s1) E s
 done:∀(X:Cx),X.prog=P->X.w=w->X.K=K->X.calm=true->∀(i:Nat) (pins:List (Addr×Obj)) (s:Shared) (σ:St) (H:Hp) (E:Value->Shared->Prop),Inv X pins σ H s->(∀b∈fp,Bs X pins H b)->tn i s.heap->J.stop i H->
  wpAny (model P w) X.A (pyNext (.ref it)) (fun r s1=>r=none/\Inv X pins σ H s1) E s
 self:∀(A:Around) (i:Nat) (s:Shared) (Q:Value->Shared->Prop) (E:Value->Shared->Prop),tn i s.heap->Q (.ref it) s->wpAny (model P w) A (pyIter (.ref it)) Q E s
noncomputable abbrev TI:=St->Hp->(It->Hp->Prop)->Prop
def Y6 (X:Cx) (i:List (Addr×Obj)) (σ:St) (y:Expr) (R:It->Hp->Prop) (v:Value) (s2:Shared):Prop:=
 ∃(it:Addr) (x:List Addr) (tn:Nat->Heap->Prop) (J:It) (H':Hp),v = .ref it/\Inv X i σ H' s2/\Turn X.prog X.w X.K y J x it tn/\tn 0 s2.heap/\(∀b∈x,Bs X i H' b)/\R J H'
def PI (X:Cx) (x iter:Expr) (wi:TI):Prop:=
 ∀(i:List (Addr×Obj)) (s:Shared) (σ:St) (H:Hp) (R:It->Hp->Prop),Inv X i σ H s->wi σ H R->
  wpAny (model X.prog X.w) X.A (eval iter X.env) (fun v s1=>wpAny (model X.prog X.w) X.A (pyIter v) (Y6 X i σ x R) X.xe s1) X.xe s
theorem HQ (ho:s.heap.get? it=some o) (hc:o.cls = .type n) (hd:o.data = .fields vs) (hn: ["enumerate","zip","dict_itemiterator","dict_reverseitemiterator","odict_iterator","itertools.zip_longest","itertools.pairwise"].contains n=false) (i:Q () s):wpAny M A (letOwnedTupleGo tg (.ref it) u) Q E s:=by
  cases tg<;>first
    |exact fg i
    |(cases u<;>first
        |exact fg i
        |(
           refine c8 (wpAny_load ho ?_);rw[hc,hd];show wpAny M A (if(["enumerate","zip","dict_itemiterator","dict_reverseitemiterator","odict_iterator","itertools.zip_longest","itertools.pairwise"].contains n&&vs[0]? == some _)=true then _ else _) Q E s;rw[de (by lia)];exact fg i))
noncomputable def Ye (K:W.Frag) (a:Addr):It:=
 ⟨fun i H=> ∃xs x,bC K H a xs/\xs[i]?=some x,fun i H x H'=>H'=H/\∀xs,bC K H a xs->xs[i]?=some x,fun i H=> ∃xs,bC K H a xs/\xs.length<=i⟩
noncomputable def Yd (K:W.Frag) (a:Addr):It:=
 ⟨fun i H=> ∃xs x,c6 K H a xs/\xs[i]?=some x,fun i H x H'=>H'=H/\∀xs,c6 K H a xs->xs[i]?=some x,fun i H=> ∃xs,c6 K H a xs/\xs.length<=i⟩
noncomputable def Nw (lo:Int) (n:Nat):It:=⟨fun i _=>i<n,fun i H x H'=>H'=H/\x = .int (lo+i),fun i _=>n<=i⟩
theorem LD {P:Program} {w:World} {K:W.Frag} {tg:Expr} (a it:Addr):Turn P w K tg (Ye K a) [it] it (fun i h=>h.IsListIter it a i) where
 mem:=by simp
 obj:=fun i h st b y=>by
  have e:b=it:=by simp_all
  subst e;obtain⟨o,e,c,d⟩:=st;exact⟨o,e,fun v z=>by simp_all⟩
 keep:=fun i h h' st k=>st.at fun o e=>k it (by simp) o e
 item:=by
  intro X J hw hK hc i F s σ H E I hf st hg;subst J hw hK;obtain⟨xs,x,G,hx⟩:=hg;obtain⟨its,Q,p,hz⟩:=I.list G;obtain⟨u,hu,ru⟩:=Q.get hx;obtain⟨f0,U,f2,Z,O,f5⟩:=hf it (by simp);refine wpAny_pyNext_list_item st p.isList (x:=u) (by simp_all) fun h' C sb=>?_;have I1:=I.turned (t':=s.toks) (fun b o y e=>(sb.2 b y).trans e) f0 U Z O f5;obtain⟨o,e,c,d⟩:=id C;exact⟨u,rfl,HQ e c d (by decide) ⟨x,H,I1,ru,⟨rfl,fun ys hy=>by rw[I.HJ hy G];exact hx⟩,C,fun b y=>(hf b y).1⟩⟩
 done:=by
  intro X J hw hK hc i F s σ H E I hf st hg;subst J hw hK;obtain⟨xs,G,hx⟩:=hg;obtain⟨its,Q,p,hz⟩:=I.list G;obtain⟨f0,U,f2,Z,O,f5⟩:=hf it (by simp);have hl:=Q.length;exact wpAny_pyNext_list_end (I.ok.hd hc) st p.isList (by simp_all) fun h' eb=>⟨rfl,I.turned (fun b o y e=>eb b o y e) f0 U Z O f5⟩
 self:=fun _ _ _ _ _ st h=>wpAny_pyIter_listiter st h
theorem IT {P:Program} {w:World} {K:W.Frag} {tg:Expr} (a it:Addr):Turn P w K tg (Yd K a) [it] it (fun i h=>h.IsTupleIter it a i) where
 mem:=by simp
 obj:=fun i h st b y=>by
  have e:b=it:=by simp_all
  subst e;obtain⟨o,e,c,d⟩:=st;exact⟨o,e,fun v z=>by simp_all⟩
 keep:=fun i h h' st k=>st.at fun o e=>k it (by simp) o e
 item:=by
  intro X J hw hK hc i F s σ H E I hf st hg;subst J hw hK;obtain⟨xs,x,G,hx⟩:=hg;obtain⟨its,Q,p,hz⟩:=I.tuple G;obtain⟨u,hu,ru⟩:=Q.get hx;obtain⟨f0,U,f2,Z,O,f5⟩:=hf it (by simp);refine wpAny_pyNext_tuple_item st ((p)) (x:=u) (by simp_all) fun h' C sb=>?_;have I1:=I.turned (t':=s.toks) (fun b o y e=>(sb.2 b y).trans e) f0 U Z O f5;obtain⟨o,e,c,d⟩:=id C;exact⟨u,rfl,HQ e c d (by decide) ⟨x,H,I1,ru,⟨rfl,fun ys hy=>by rw[I.D0 hy G];exact hx⟩,C,fun b y=>(hf b y).1⟩⟩
 done:=by
  intro X J hw hK hc i F s σ H E I hf st hg;subst J hw hK;obtain⟨xs,G,hx⟩:=hg;obtain⟨its,Q,p,hz⟩:=I.tuple G;obtain⟨f0,U,f2,Z,O,f5⟩:=hf it (by simp);have hl:=Q.length;exact wpAny_pyNext_tuple_end (I.ok.hd hc) st ((p)) (by simp_all) fun h' eb=>⟨rfl,I.turned (fun b o y e=>eb b o y e) f0 U Z O f5⟩
 self:=fun _ _ _ _ _ st h=>wpAny_pyIter_tupleiter st h
theorem IU {P:Program} {w:World} {K:W.Frag} {tg:Expr} (it:Addr) (lo:Int) (n:Nat):Turn P w K tg (Nw lo n) [it] it (fun i h=>IsRangeIter h it (lo+(i:Nat)*1) ((n:Int)-(i:Nat)) 1) where
 mem:=by simp
 obj:=fun i h st b x=>by
  simp_all
 keep:=fun i h O st k=>k it (by simp) _ st
 item:=by
  intro X U hw Z hc i z s σ H E I hf st hg;subst U hw Z;obtain⟨Q,G,f2,F,C,J⟩:=hf it (by simp);have W:=Walks.range (prog:=X.prog) (w:=X.w) (I.ok.hd hc) it lo 1 n;refine W.item i s _ _ hg st fun v O tk hv y kk=>?_;obtain⟨t,rfl⟩:=hv;have I1:Inv X _ σ H {s with heap:=O,toks:=tk}:=I.turned (fun b o x e=>kk b o (by simp_all) e) Q G F C J;refine⟨_,rfl,HQ y rfl rfl (by decide) ⟨.int _,H,I1,⟨t,?_⟩,⟨rfl,rfl⟩,y,fun b x=>(hf b x).1⟩⟩;rw[Int.mul_one]
 done:=by
  intro X U hw Z hc i z s σ H E I hf st hg;obtain⟨Q,G,f2,F,C,J⟩:=hf it (by simp);exact wpAny_pyNext_range_end (I.ok.hd hc) st (by have:n<=i:=hg;omega) fun O eb=>⟨rfl,I.turned (fun b o x e=>eb b o x e) Q G F C J⟩
 self:=fun _ _ _ _ _ st h=>wpAny_pyIter_rangeiter st h
end
section
mutual
theorem G_ {X:Cx} {J:Expr} {x:List (Addr×Obj)} {σ:St} {H:Hp} {s:Shared} {R:It->Hp->Prop} {E:Value->Shared->Prop} {lo i:Int} {t u v:Tok} {tk:Nat} (I:Inv X x σ H s) (z : -(2 ^ 62)<=lo) (F:lo<2 ^ 62) (G : -(2 ^ 62)<=i) (C:i<2 ^ 62)
  (q:R (Nw lo (i-lo).toNat) H):wpAny (model X.prog X.w) X.A (pyIter (.ref s.heap.objs.size)) (Y6 X x σ J R) E {s with heap:=s.heap.push {cls:= .type "range",data:= .fields #[.int lo t,.int i u,.int 1 v]},toks:=tk}:=by
 refine wpAny_pyIter_range (IsRange.new ..) (small_one z F G C) ?_;have y:Inv X _ σ H {s with heap:=s.heap.push {cls:= .type "range",data:= .fields #[.int lo t,.int i u,.int 1 v]},toks:=tk}:=I.kept fun b o e=>ej _ e;refine⟨_,_,_,_,H,rfl,
  y.kept fun b o e=>ej _ e,IU _ lo _,?_,fun b O=>?_,q⟩
 ·have e1:lo+((0:Nat))*1=lo:=by simp
  have e2:(((i-lo).toNat))-((0:Nat))=Builtin.Range.rangeSize lo i 1:=by rw[rangeSize_one];split<;>lia
  rw[e1,e2];exact ke _ rfl
 ·have e:b=(s.heap.push {cls:= .type "range",data:= .fields #[.int lo t,.int i u,.int 1 v]}).objs.size:=by simp_all
  subst e;exact y.Ge (cv _) (y.hok.fresh (cv _))
def LM (wi:TI) (g:TG) (tb:TS):TS:=fun D σ H=>wi σ H fun J C=> ∃W:Nat->Nat->St->Hp->Prop,(∃m,W 0 m σ C)/\∀i m σ H,W i m σ H->
 (J.stop i H/\D.nx σ H)\/(J.go i H/\∃N:St->Hp->Prop,(∀v H',N v H'->∃z,z<m/\W (i+1) z v H')/\∀x H',J.yld i H x H'->g x σ H' fun y F=>tb {D with nx:=N,ct:=N,bk:=D.nx} y F)
noncomputable def Fp (i:List Addr) (h:Heap):List (Addr×Obj):=i.filterMap fun b=>(h.get? b).map fun o=>(b,o)
theorem rh (i:b∈fp) (e:h.get? b=some o):(b,o)∈Fp fp h:=List.mem_filterMap.mpr ⟨b,i,by simp_all⟩
theorem MB (hp:p∈Fp fp h):p.1∈fp/\h.get? p.1=some p.2:=by
 obtain⟨b,i,e⟩:=List.mem_filterMap.mp hp;cases q:h.get? b<;>grind
theorem Inv.pinned (I:Inv X pins σ H s) (hf:∀b∈fp,Bs X pins H b) (ho:∀b∈fp,∃o,s.heap.get? b=some o/\∀v,o.data≠ .cell v):Inv X (pins++Fp fp s.heap) σ H s:=
 I.BB fun p hp=>(Zy.mp hp).elim (fun z=>I.pin p (yl _ z)) fun z=>by
  obtain⟨x,e⟩:=MB z;obtain⟨F,C,y,_⟩:=hf _ x;obtain⟨o,i,d⟩:=ho _ x;rw[e] at i;cases i;exact⟨e,F,C,y,d⟩
theorem Inv.unpinned (I:Inv X (pins++pl) σ H s):Inv X pins σ H s:=I.BB fun p hp=>I.pin p (yl _ (aao _ hp))
theorem cJ (hp:PassesOwn (model X.prog X.w) X.A X.env X.xe) (hc:X.calm=true) (hi:PI X tg iter wi) (hg:PG X tg g) (z:Br X body tb) (hs:∀x,foldedSetIterable iter X.env x=pure x:=by intro _;rfl):PS X (.For tg iter body [] pos) (LM wi g tb):=by
 intro pins s σ H D I h;refine wpAny_For (thn (hi _ s σ H _ I h) fun v s1 h1=>thn h1 fun itv s2 h2=>?_) hs;obtain⟨it,fp,tn,J,H2,e,I2,T,st2,f2,W,⟨m0,w0⟩,turn⟩:=h2;subst e
 have O:∀{H':Hp},(∀b∈fp,H' b=none)->∀b∈fp,Bs X _ H' b:=fun hn b z=>⟨hn b z,(f2 b z).2⟩;refine codeAny_forLoop_any (fun n s'=> ∃i G H',Inv X _ G H' s'/\tn i s'.heap/\(∀b∈fp,H' b=none)/\W i n G H') ?_ m0 ⟨0,σ,H2,I2,st2,fun b z=>(f2 b z).1,w0⟩;rintro n s3 ⟨i,σ3,H3,I3,st3,U,w3⟩;rcases turn i n _ H3 w3 with⟨stop,qn⟩|⟨go,N,hN,step⟩
 ·refine Z5 hp (thn (T.done X rfl rfl rfl hc i _ s3 _ H3 _ I3 (O U) st3 stop) fun r s4 ⟨hr,I4⟩=>?_);subst hr;exact aay ⟨σ3,H3,I4,qn⟩
 ·refine Z5 hp (thn (T.item X rfl rfl rfl hc i _ s3 _ H3 _ I3 (O U) st3 go) fun r s4 ⟨u,hr,h4⟩=>?_);subst hr;refine Z5 hp (thn h4 fun _ s5 ⟨x,H5,I5,r5,y5,Q,fr5⟩=>?_);have I5':=I5.pinned (O fr5) (T.obj _ _ Q);refine Z5 hp (thn (hg _ s5 _ H5 x u _ I5' r5 (step x H5 y5)) fun _ s6 ⟨σ6,H6,I6,q6⟩=>?_);refine Z5 hp (thn (z _ s6 _ H6 _ I6 q6) fun f s7 P=>?_);have again:∀{y:St} {C:Hp},Inv X _ _ C s7->N _ C->∃m,m<n/\∃i G H',Inv X pins G H' s7/\tn i _/\(∀b∈fp,H' b=none)/\W i m G H':=fun{y C} F Z=>by
   obtain⟨m',hm,w7⟩:=hN _ C Z;refine⟨m',hm,_,y,C,F.unpinned,T.keep _ _ _ Q fun b z o e=>(F.pin _ (yl _ (yl _ (rh z e)))).1,fun b z=>?_,w7⟩;obtain⟨o,e,d⟩:=T.obj _ _ Q b z;exact(F.pin _ (yl _ (yl _ (rh z e)))).2.1
  cases f with
  |next=>obtain⟨y,C,F,Z⟩:=P;exact again F Z
  |cont=>obtain⟨y,C,F,Z⟩:=P;exact again F Z
  |brk=>obtain⟨y,C,F,P⟩:=P;exact⟨y,C,F.unpinned,P⟩
  |ret v=>obtain⟨x7,y,C,F,r7,P⟩:=P;exact⟨x7,y,C,F.unpinned,r7,P⟩
end
end
mutual
theorem Px {K:W.Frag} {g:TG} {tb:TS} {D:Ends} (Pv:Nat->St->Hp->Prop) (I:Pv 0 σ H) (hl:∀i σ H,i<=xs.length->Pv i σ H->bC K H a xs) (hs:∀i x σ H,xs[i]?=some x->Pv i σ H->g x σ H fun v F=>tb {D with nx:=Pv (i+1),ct:=Pv (i+1),bk:=D.nx} v F) (hd:∀σ H,Pv xs.length σ H->D.nx σ H):
  ∃W:Nat->Nat->St->Hp->Prop,(∃m,W 0 m σ H)/\∀i m σ H,W i m σ H->
   ((Ye K a).stop i H/\D.nx σ H)\/((Ye K a).go i H/\∃N:St->Hp->Prop,(∀z H',N z H'->∃G,G<m/\W (i+1) G z H')/\∀x H',(Ye K a).yld i H x H'->g x σ H' fun v F=>tb {D with nx:=N,ct:=N,bk:=D.nx} v F):=by
 refine⟨fun i m σ H=>m=xs.length-i/\i<=xs.length/\Pv i σ H,⟨_,rfl,lp _,I⟩,?_⟩;rintro i m σ H ⟨rfl,J,p⟩;have q:=hl i σ H J p;by_cases C:i<xs.length
 ·refine .inr ⟨⟨xs,xs[i],q,by simp_all⟩,_,fun z H' p'=>⟨_,by omega,rfl,C,p'⟩,fun x H' y=>?_⟩;obtain⟨e,y⟩:=y;subst e;exact hs i x σ _ (y xs q) p
 ·have e:i=xs.length:=by omega
  subst e;exact .inl ⟨⟨xs,q,cv _⟩,hd σ H p⟩
theorem Ss {K:W.Frag} {g:TG} {tb:TS} {D:Ends} (Pv:Nat->St->Hp->Prop) (I:Pv 0 σ H) (hl:∀i σ H,i<=xs.length->Pv i σ H->c6 K H a xs) (hs:∀i x σ H,xs[i]?=some x->Pv i σ H->g x σ H fun v F=>tb {D with nx:=Pv (i+1),ct:=Pv (i+1),bk:=D.nx} v F) (hd:∀σ H,Pv xs.length σ H->D.nx σ H):
  ∃W:Nat->Nat->St->Hp->Prop,(∃m,W 0 m σ H)/\∀i m σ H,W i m σ H->
   ((Yd K a).stop i H/\D.nx σ H)\/((Yd K a).go i H/\∃N:St->Hp->Prop,(∀z H',N z H'->∃G,G<m/\W (i+1) G z H')/\∀x H',(Yd K a).yld i H x H'->g x σ H' fun v F=>tb {D with nx:=N,ct:=N,bk:=D.nx} v F):=by
 refine⟨fun i m σ H=>m=xs.length-i/\i<=xs.length/\Pv i σ H,⟨_,rfl,lp _,I⟩,?_⟩;rintro i m σ H ⟨rfl,J,p⟩;have q:=hl i σ H J p;by_cases C:i<xs.length
 ·refine .inr ⟨⟨xs,xs[i],q,by simp_all⟩,_,fun z H' p'=>⟨_,by lia,rfl,C,p'⟩,fun x H' y=>?_⟩;obtain⟨e,y⟩:=y;subst e;exact hs i x σ _ (y xs q) p
 ·have e:i=xs.length:=by lia
  subst e;exact .inl ⟨⟨xs,q,cv _⟩,hd σ H p⟩
theorem Nd {lo:Int} {g:TG} {tb:TS} {D:Ends} (Pv:Nat->St->Hp->Prop) (I:Pv 0 σ H) (hs:∀i σ H,i<n->Pv i σ H->g (.int (lo+i)) σ H fun z F=>tb {D with nx:=Pv (i+1),ct:=Pv (i+1),bk:=D.nx} z F) (hd:∀σ H,Pv n σ H->D.nx σ H):
  ∃W:Nat->Nat->St->Hp->Prop,(∃m,W 0 m σ H)/\∀i m σ H,W i m σ H->
   ((Nw lo n).stop i H/\D.nx σ H)\/((Nw lo n).go i H/\∃N:St->Hp->Prop,(∀C H',N C H'->∃G,G<m/\W (i+1) G C H')/\∀x H',(Nw lo n).yld i H x H'->g x σ H' fun z F=>tb {D with nx:=N,ct:=N,bk:=D.nx} z F):=by
 refine⟨fun i m σ H=>m=n-i/\i<=n/\Pv i σ H,⟨n,rfl,lp _,I⟩,?_⟩;rintro i m σ H ⟨rfl,J,p⟩;by_cases v:i<n
 ·refine .inr ⟨v,_,fun C H' p'=>⟨_,by lia,rfl,v,p'⟩,fun x H' y=>?_⟩;obtain⟨e,y⟩:=y;subst e y;exact hs i σ _ v p
 ·have e:i=n:=by lia
  subst e;exact .inl ⟨cv _,hd σ H p⟩
noncomputable abbrev R2:=V->V->Hp->VK->Prop
def iH (X:Cx) (f:Value->Value->Sem Value) (r:R2):Prop:=
 ∀(i:List (Addr×Obj)) (s:Shared) (σ:St) (H:Hp) (x y:V) (v u:Value) (Q:VK),Inv X i σ H s->RelV x v->RelV y u->r x y H Q->
  wpAny (model X.prog X.w) X.A (f v u) (EP X i σ Q) X.xe s
def Y2 (X:Cx) (f:Value->Sem Value) (r:V->Hp->VK->Prop):Prop:=
 ∀(i:List (Addr×Obj)) (s:Shared) (σ:St) (H:Hp) (x:V) (v:Value) (Q:VK),Inv X i σ H s->RelV x v->r x H Q->
  wpAny (model X.prog X.w) X.A (f v) (EP X i σ Q) X.xe s
def bT (X:Cx) (f:Value) (r:List V->Hp->VK->Prop):Prop:=
 ∀(i:List (Addr×Obj)) (s:Shared) (σ:St) (H:Hp) (xs:List V) (us:List Value) (Q:VK),Inv X i σ H s->Vals xs us->r xs H Q->
  wpAny (model X.prog X.w) X.A (call f us) (EP X i σ Q) X.xe s
def II (r:R2) (v tb:TE):TE:=fun σ H Q=>v σ H fun x i=>tb σ i fun y z=>r x y z Q
def Zb (r:V->Hp->VK->Prop) (v:TE):TE:=fun σ H Q=>v σ H fun x i=>r x i Q
def rI (C:Int->Int->Prop) (g:Int->Int->V):R2:=fun x y H Q=>match x,y with
 | .int i,.int j=>C i j/\Q (g i j) H
 |_,_=>False
theorem WA (h:rI C g x y H Q):∃i j,x = .int i/\y = .int j/\C i j/\Q (g i j) H:=by
 unfold rI at h;split at h
 ·exact⟨_,_,rfl,rfl,h⟩
 ·exact h.elim
def Jg (g:Int->Int->V):R2:=fun x y H Q=>match x,y with
 | .int i,.int j=>Q (g i j) H
 |_,_=>False
theorem Oh (h:Jg g x y H Q):∃i j,x = .int i/\y = .int j/\Q (g i j) H:=by
 unfold Jg at h;split at h
 ·exact⟨_,_,rfl,rfl,h⟩
 ·exact h.elim
def rU (g:Int->V):V->Hp->VK->Prop:=fun x H Q=>match x with
 | .int i=>Q (g i) H
 |_=>False
theorem Wq (h:rU g x H Q):∃i,x = .int i/\Q (g i) H:=by
 unfold rU at h;split at h
 ·exact⟨_,rfl,h⟩
 ·exact h.elim
end
section
mutual
theorem VS {X:Cx} {a b:Expr} {J tb:TE} (ha:PE X a J) (O:PE X b tb) {i:List (Addr×Obj)} {s:Shared} {σ:St} {H:Hp} {R:V->V->Hp->Prop} (I:Inv X i σ H s)
  (h:J σ H fun x G=>tb σ G fun y z=>R x y z) {Q:Value->Shared->Prop} {f:Value->Value->Sem Value}
  (hf:∀v u s2 x y z,Inv X i σ z s2->RelV x v->RelV y u->R x y z->wpAny (model X.prog X.w) X.A (f v u) Q X.xe s2):
  wpAny (model X.prog X.w) X.A (eval a X.env) (fun v F=>wpAny (model X.prog X.w) X.A (eval b X.env) (fun u C=>wpAny (model X.prog X.w) X.A (f v u) Q X.xe C) X.xe F) X.xe s:=by
 refine gQ (ha _ s σ H _ I h) fun v s1 x G Z P q1=>?_;refine gQ (O _ s1 σ G _ Z q1) fun u s2 y z I2 r2 U=>?_;exact hf v u s2 x y z I2 P r2 U
theorem au (ho:iH X (binaryOp op) r) (ha:PE X a ta) (C:PE X b tb):PE X (.BinOp a op b pos) (II r ta tb):=by
 intro i s σ H Q I h;exact wpAny_BinOp (VS ha C I h fun v u s2 x y F J G z q=>ho _ s2 σ F x y v u Q J G z q)
theorem KL (ho:Y2 X (unaryOp op) r) (ha:PE X a ta):PE X (.UnaryOp op a pos) (Zb r ta):=by
 intro i s σ H Q I h;exact UnaryOp_ (gQ (ha _ s σ H _ I h) fun v s1 x y F C z=>ho _ s1 σ y x v Q F C z)
theorem UU {g:Int->Int->Int} (rule:∀(i j:Int) (t u:Tok) (s:Shared) (Q:Value->Shared->Prop) (E:Value->Shared->Prop),C i j->Q (.int (g i j) s.toks) {s with toks:=s.toks+1}->wpAny (model X.prog X.w) X.A (f (.int i t) (.int j u)) Q E s):
  iH X f (rI C fun i j=> .int (g i j)):=by
 intro z s σ H x y v u Q I G F h;obtain⟨i,j,rfl,rfl,hc,q⟩:=WA h;obtain⟨t,rfl⟩:=G;obtain⟨t',rfl⟩:=F;exact rule i j t t' s _ _ hc ⟨.int _,H,I.tok _,⟨_,rfl⟩,q⟩
theorem Mz {g:Int->Int->Int} (rule:∀(i j:Int) (t u:Tok) (s:Shared) (Q:Value->Shared->Prop) (E:Value->Shared->Prop),Q (.int (g i j) s.toks) {s with toks:=s.toks+1}->wpAny (model X.prog X.w) X.A (f (.int i t) (.int j u)) Q E s):
  iH X f (Jg fun i j=> .int (g i j)):=by
 intro z s σ H x y v u Q I F C h;obtain⟨i,j,rfl,rfl,q⟩:=Oh h;obtain⟨t,rfl⟩:=F;obtain⟨t',rfl⟩:=C;exact rule i j t t' s _ _ ⟨.int _,H,I.tok _,⟨_,rfl⟩,q⟩
theorem RP {g:Int->Int->Bool} (rule:∀(i j:Int) (t u:Tok) (s:Shared) (Q:Value->Shared->Prop) (E:Value->Shared->Prop),Q (.bool (g i j)) s->wpAny (model X.prog X.w) X.A (f (.int i t) (.int j u)) Q E s):
  iH X f (Jg fun i j=> .bl (g i j)):=by
 intro z s σ H x y v u Q I F C h;obtain⟨i,j,rfl,rfl,q⟩:=Oh h;obtain⟨t,rfl⟩:=F;obtain⟨t',rfl⟩:=C;exact rule i j t t' s _ _ ⟨.bl _,H,I,rfl,q⟩
def Yi (i j:Int):Prop:=0<j/\j<1073741824
def Qm (i j:Int):Prop:=(-(2 ^ 64)<i/\i<2 ^ 64)\/(-(2 ^ 64)<j/\j<2 ^ 64)
theorem Qm.ok (h:Qm i j):IntMulOk i j:=by
 rcases h with⟨v,x⟩|⟨v,x⟩
 ·exact .of_left (intBits_le_64 v x)
 ·exact .of_right (intBits_le_64 v x)
theorem IS (k:Nat):(0:Int)<=2 ^ k:=by
 rw[two_pow_cast];exact aaD _
theorem UT:iH X (binaryOp .Add) (Jg fun i j=> .int (i+j)):=Mz fun _ _ _ _ _ _ _ q=>add_int q
theorem fP:iH X (binaryOp .Sub) (Jg fun i j=> .int (i-j)):=Mz fun _ _ _ _ _ _ _ q=>sub_int q
theorem je:iH X (binaryOp .Mult) (rI Qm fun i j=> .int (i*j)):=UU fun _ _ _ _ _ _ _ hc q=>mul_int q hc.ok
theorem b9:iH X (binaryOp .FloorDiv) (rI Yi fun i j=> .int (i / j)):=UU fun i j _ _ _ _ _ hc q=>by
 have x:=hc.1;have v:=hc.2;exact floordiv_int (by omega) (by rw[Int.fdiv_eq_ediv_of_nonneg i (by omega)];exact q) (.inl (PyProof.noPylong_small (by omega)))
theorem bE:iH X (binaryOp .Mod) (rI (fun _ j=>0<j) fun i j=> .int (i % j)):=UU fun i j _ _ _ _ _ hc q=>by
 exact mod_int' (by lia) (by rw[Int.fmod_eq_emod_of_nonneg i (by lia)];exact q)
theorem lR:iH X (binaryOp .RShift) (rI (fun _ j=>0<=j) fun i j=> .int (i / 2 ^ j.toNat)):=UU fun i j _ _ _ _ _ hc q=>
 rshift_int hc (by rw[Int.fdiv_eq_ediv_of_nonneg i (IS _)];exact q)
theorem wA:iH X (binaryOp .BitAnd) (Jg fun i j=> .int (Builtin.bitAnd i j)):=Mz fun _ _ _ _ _ _ _ q=>and_int q
theorem vw:iH X (binaryOp .BitOr) (Jg fun i j=> .int (Builtin.bitOr i j)):=Mz fun _ _ _ _ _ _ _ q=>or_int q
theorem OO:iH X (binaryOp .BitXor) (Jg fun i j=> .int (Builtin.bitXor i j)):=Mz fun _ _ _ _ _ _ _ q=>xor_int q
theorem mx:iH X (inplaceOp .Add) (Jg fun i j=> .int (i+j)):=Mz fun _ _ _ _ _ _ _ q=>iadd_int q
theorem Zp {g:Int->Int} (rule:∀(i:Int) (t:Tok) (s:Shared) (Q:Value->Shared->Prop) (E:Value->Shared->Prop),Q (.int (g i) s.toks) {s with toks:=s.toks+1}->wpAny (model X.prog X.w) X.A (f (.int i t)) Q E s):
  Y2 X f (rU fun i=> .int (g i)):=by
 intro y s σ H x v Q I z h;obtain⟨i,rfl,q⟩:=Wq h;obtain⟨t,rfl⟩:=z;exact rule i t s _ _ ⟨.int _,H,I.tok _,⟨_,rfl⟩,q⟩
theorem EX:Y2 X (unaryOp .USub) (rU fun i=> .int (-i)):=Zp fun _ _ _ _ _ q=>neg_int q
end
end
mutual
noncomputable def scal:V->V->Bool
 | .non,.non=>true | .non,.int _=>true | .int _,.non=>true | .non,.bl _=>true | .bl _,.non=>true | .non,.str _=>true | .str _,.non=>true
 | .int _,.int _=>true | .bl _,.bl _=>true | .str _,.str _=>true | .byt _,.byt _=>true
 | .int _,.str _=>true | .str _,.int _=>true | .bl _,.str _=>true | .str _,.bl _=>true
 |_,_=>false
def WB:R2:=fun x y H Q=>scal x y=true/\Q (.bl (decide (x=y))) H
def Wu:R2:=fun x y H Q=>scal x y=true/\Q (.bl (!decide (x=y))) H
theorem Le:decide (V.int i=V.int j)=(i == j):=by
 rw[L4];simp
theorem PZ:decide (V.bl i=V.bl j)=(i == j):=by
 rw[L4];simp
theorem Ld:decide (V.str i=V.str j)=(i == j):=by
 rw[L4];simp
theorem Lf:decide (V.byt i=V.byt j)=(i.toList == j.toList):=by
 rw[L4];cases i;cases j;simp
end
section
mutual
theorem b8 (I:Inv X pins σ H s) (q:Q (.bl k) H) (e:k=k'):EP X pins σ Q (.bool k') s:=by
 subst e;exact⟨.bl k,H,I,rfl,q⟩
theorem WK:iH X (compareOp .Eq) WB:=by
 intro F s σ H x y v u Q I C z h;obtain⟨hs,q⟩:=h;cases x with
 |non=>
  cases C;cases y with
  |non=>cases z;exact PySem.EqNone.eq_none_none (b8 I q (rfl))
  |bl j=>cases z;exact PySem.EqNone.eq_none_bool (b8 I q (rfl))
  |int j=>obtain⟨t',rfl⟩:=z;exact PySem.EqNone.eq_none_int (b8 I q (rfl))
  |str j=>obtain⟨t',rfl⟩:=z;exact PySem.EqNone.eq_none_str (b8 I q (rfl))
  |_=>trivial
 |bl i=>
  cases C;cases y with
  |non=>cases z;exact PySem.EqNone.eq_bool_none (b8 I q (rfl))
  |bl j=>cases z;exact eq_bool (b8 I q PZ)
  |str j=>obtain⟨t',rfl⟩:=z;exact PySem.EqMixed.eq_bool_str (b8 I q (rfl))
  |_=>trivial
 |int i=>
  obtain⟨t,rfl⟩:=C;cases y with
  |non=>cases z;exact PySem.EqNone.eq_int_none (b8 I q (rfl))
  |int j=>obtain⟨t',rfl⟩:=z;exact eq_int (b8 I q Le)
  |str j=>obtain⟨t',rfl⟩:=z;exact PySem.EqMixed.eq_int_str (b8 I q (rfl))
  |_=>trivial
 |str i=>
  obtain⟨t,rfl⟩:=C;cases y with
  |non=>cases z;exact PySem.EqNone.eq_str_none (b8 I q (rfl))
  |bl j=>cases z;exact PySem.EqMixed.eq_str_bool (b8 I q (rfl))
  |int j=>obtain⟨t',rfl⟩:=z;exact PySem.EqMixed.eq_str_int (b8 I q (rfl))
  |str j=>obtain⟨t',rfl⟩:=z;exact eq_str (b8 I q Ld)
  |_=>trivial
 |byt i=>
  obtain⟨t,rfl⟩:=C;cases y with
  |byt j=>obtain⟨t',rfl⟩:=z;exact W.eq_bytes (b8 I q Lf)
  |_=>trivial
 |_=>trivial
theorem WJ:iH X (compareOp .NotEq) Wu:=by
 intro F s σ H x y v u Q I C z h;obtain⟨hs,q⟩:=h;cases x with
 |non=>
  cases C;cases y with
  |non=>cases z;exact PySem.EqNone.ne_none_none (b8 I q (rfl))
  |bl j=>cases z;exact PySem.EqNone.ne_none_bool (b8 I q (rfl))
  |int j=>obtain⟨t',rfl⟩:=z;exact PySem.EqNone.ne_none_int (b8 I q (rfl))
  |str j=>obtain⟨t',rfl⟩:=z;exact PySem.EqNone.ne_none_str (b8 I q (rfl))
  |_=>trivial
 |bl i=>
  cases C;cases y with
  |non=>cases z;exact PySem.EqNone.ne_bool_none (b8 I q (rfl))
  |bl j=>cases z;exact ne_bool (b8 I q (aaq _ PZ))
  |str j=>obtain⟨t',rfl⟩:=z;exact PySem.EqMixed.ne_bool_str (b8 I q (rfl))
  |_=>trivial
 |int i=>
  obtain⟨t,rfl⟩:=C;cases y with
  |non=>cases z;exact PySem.EqNone.ne_int_none (b8 I q (rfl))
  |int j=>obtain⟨t',rfl⟩:=z;exact ne_int (b8 I q (aaq _ Le))
  |str j=>obtain⟨t',rfl⟩:=z;exact PySem.EqMixed.ne_int_str (b8 I q (rfl))
  |_=>trivial
 |str i=>
  obtain⟨t,rfl⟩:=C;cases y with
  |non=>cases z;exact PySem.EqNone.ne_str_none (b8 I q (rfl))
  |bl j=>cases z;exact PySem.EqMixed.ne_str_bool (b8 I q (rfl))
  |int j=>obtain⟨t',rfl⟩:=z;exact PySem.EqMixed.ne_str_int (b8 I q (rfl))
  |str j=>obtain⟨t',rfl⟩:=z;exact ne_str (b8 I q (aaq _ Ld))
  |_=>trivial
 |byt i=>
  obtain⟨t,rfl⟩:=C;cases y with
  |byt j=>obtain⟨t',rfl⟩:=z;exact W.ne_bytes (b8 I q (aaq _ Lf))
  |_=>trivial
 |_=>trivial
theorem mS:iH X (compareOp .Lt) (Jg fun i j=> .bl (decide (i<j))):=RP fun _ _ _ _ _ _ _ q=>lt_int q
theorem xK:iH X (compareOp .LtE) (Jg fun i j=> .bl (decide (i<=j))):=RP fun _ _ _ _ _ _ _ q=>le_int q
theorem mT:iH X (compareOp .Gt) (Jg fun i j=> .bl (decide (j<i))):=RP fun _ _ _ _ _ _ _ q=>gt_int q
theorem z_:iH X (compareOp .GtE) (Jg fun i j=> .bl (decide (j<=i))):=RP fun _ _ _ _ _ _ _ q=>ge_int q
theorem Mx:iH X (compareOp .In) (fun x y H Q=> ∃i j,x = .str i/\y = .str j/\Q (.bl (!(Builtin.Str.occurrences j i 0 j.length 1).isEmpty)) H):=by
 intro z s σ H x y v u Q I F C h;obtain⟨i,j,rfl,rfl,q⟩:=h;obtain⟨t,rfl⟩:=F;obtain⟨t',rfl⟩:=C;exact in_str (b8 I q rfl)
theorem UP:iH X (compareOp .Is) (fun x y H Q=>y = .non/\Q (.bl (decide (x = .non))) H):=by
 intro i s σ H x y v u Q I C z h;obtain⟨rfl,q⟩:=h;cases z;refine is_none_gen (b8 I q ?_);cases x<;>first
  |rfl
  |(obtain⟨t,rfl⟩:=C;rfl)
theorem RK:iH X (compareOp .IsNot) (fun x y H Q=>y = .non/\Q (.bl (!decide (x = .non))) H):=by
 intro i s σ H x y v u Q I C z h;obtain⟨rfl,q⟩:=h;cases z;refine isnot_none_gen (b8 I q ?_);cases x<;>first
  |rfl
  |(obtain⟨t,rfl⟩:=C;rfl)
theorem iH.or (h:iH X f r) (F:iH X f r'):iH X f (fun x y H Q=>r x y H Q\/r' x y H Q):=by
 intro i s σ H x y v u Q I C z q;rcases q with q|q
 ·exact h _ s σ H x y v u Q I C z q
 ·exact F _ s σ H x y v u Q I C z q
theorem nomark (b:Expr) {op:CmpOp} (h:op≠ .In:=by decide) (i:op≠ .NotIn:=by decide):behindInMarks op b=false:=by
 have e1:(op == CmpOp.In)=false:=by simp_all
 have e2:(op == CmpOp.NotIn)=false:=by simp_all
 cases b<;>simp[behindInMarks,e1,e2]
theorem xI (ho:iH X (compareOp op) r) (ha:PE X a ta) (C:PE X b tb) (hm:behindInMarks op b=false):PE X (.Compare a [op] [b] pos) (II r ta tb):=by
 intro i s σ H Q I h;exact wpAny_Compare1 (VS ha C I h fun v u s2 x y F J G z q=>ho _ s2 σ F x y v u Q J G z q) hm
def BM (t:TE):TT:=fun σ H Q=>t σ H fun x H'=> ∃k,x = .bl k/\Q k H'
theorem BA (ho:iH X (compareOp op) r) (ha:PE X a ta) (J:PE X b tb) (hm:behindInMarks op b=false):PT X (.Compare a [op] [b] pos) (BM (II r ta tb)):=by
 intro i s σ H Q I h;refine wpAny_isTrue_Compare1 (gQ (ha _ s σ H _ I h) fun v s1 x H1 Z O q1=>gQ (J _ s1 σ H1 _ Z q1) fun u s2 y P I2 r2 U=>
  thn (ho _ s2 σ P x y v u _ I2 O r2 U) fun c s3 ⟨z,C,F,r3,k,e,G⟩=>?_) hm
 subst e;cases r3;exact ZC ⟨C,F,G⟩
def IY (r F:R2) (G tb C:TE):TE:=fun σ H Q=>G σ H fun x v=>tb σ v fun y I=>r x y I fun z i=> ∃k,z = .bl k/\
 (if k=true then C σ i fun O J=>F y O J Q else Q (.bl false) i)
theorem Hm (ho:iH X (compareOp op) r) (i:iH X (compareOp op') r') (ha:PE X a ta) (P:PE X b tb) (hc:PE X c tc) (hm:lastMarks [op,op'] [b,c]=false:=by with_unfolding_all rfl):PE X (.Compare a [op,op'] [b,c] pos) (IY r r' ta tb tc):=by
 intro J s σ H Q I h;refine Compare_chain (gQ (ha _ s σ H _ I h) fun v s1 x H1 I1 U q1=>chain_link (gQ (P _ s1 σ H1 _ I1 q1) fun u s2 y H2 I2 r2 q2=>
  thn (ho _ s2 σ H2 x y v u _ I2 U r2 q2) fun d s3 ⟨z,C,F,r3,k,e,G⟩=>?_)) hm
 subst e;cases r3;refine ZC ?_;cases k with
 |false=>exact ite_ff ⟨.bl _,C,F,rfl,G⟩
 |true=>exact ite_tt (chain_last (gQ (hc _ s3 σ C _ F G) fun w' s4 O Z I4 r4 q4=>i _ s4 σ Z y O u w' Q I4 r2 r4 q4))
theorem Hj (ho:iH X (compareOp op) r) (i:iH X (compareOp op') r') (ha:PE X a ta) (Z:PE X b tb) (hc:PE X c tc) (hm:lastMarks [op,op'] [b,c]=false:=by with_unfolding_all rfl):PT X (.Compare a [op,op'] [b,c] pos) (BM (IY r r' ta tb tc)):=by
 intro J s σ H Q I h;refine isTrue_chain (gQ (ha _ s σ H _ I h) fun v s1 x H1 I1 r1 q1=>test_link (gQ (Z _ s1 σ H1 _ I1 q1) fun u s2 y H2 I2 r2 q2=>
  thn (ho _ s2 σ H2 x y v u _ I2 r1 r2 q2) fun d s3 ⟨z,C,F,r3,k,e,G⟩=>?_)) hm
 subst e;cases r3;refine ZC ?_;cases k with
 |false=>
  obtain⟨k',e',q'⟩:=G;cases e';exact ite_ff ⟨C,F,q'⟩
 |true=>
  refine ite_tt (test_last (gQ (hc _ s3 σ C _ F G) fun w' s4 O H4 I4 r4 q4=>thn (i _ s4 σ H4 y O u w' _ I4 r2 r4 q4) fun d' s5 ⟨z2,P,U,r5,k2,e2,q5⟩=>?_));subst e2;cases r5;exact ZC ⟨P,U,q5⟩
theorem Cq:(sizeLine:Nat)<2 ^ 63:=by rw[gn];decide
theorem Jp:iH X (binaryOp .Add) (fun x y H Q=> ∃i j,x = .str i/\y = .str j/\i.length+j.length<=sizeLine/\Q (.str (i++j)) H):=by
 intro z s σ H x y v u Q I G C h;obtain⟨i,j,rfl,rfl,F,q⟩:=h;obtain⟨t,rfl⟩:=G;obtain⟨t',rfl⟩:=C;exact add_str (fun t' tk=>⟨.str _,H,I.tok _,⟨_,rfl⟩,q⟩) F
theorem vals1 (r:Vals [x] us):∃u,us= [u]/\RelV x u:=by
 cases r with
 |cons i r2=>cases r2;exact⟨_,rfl,i⟩
theorem vals2 (r:Vals [x,y] us):∃u i,us= [u,i]/\RelV x u/\RelV y i:=by
 cases r with
 |cons v r2=>
  cases r2 with
  |cons C z=>cases z;exact⟨_,_,rfl,v,C⟩
theorem Qb:bT X (.builtin "abs") (fun xs H Q=> ∃i,xs= [.int i]/\Q (.int (if i<0 then -i else i)) H):=by
 intro v s σ H xs us Q I r h;obtain⟨i,rfl,q⟩:=h;obtain⟨u,rfl,t,rfl⟩:=vals1 r;exact call_abs_int fun u tk=>⟨.int _,H,I.tok _,⟨_,rfl⟩,q⟩
theorem Nm (hc:X.calm=true):bT X (.builtin "max") (fun xs H Q=> ∃i j,xs= [.int i,.int j]/\Q (.int (if j > i then j else i)) H):=by
 intro x s σ H xs us Q I r h;obtain⟨i,j,rfl,q⟩:=h;obtain⟨u,z,rfl,⟨t,rfl⟩,⟨t',rfl⟩⟩:=vals2 r;refine max_two_ints (I.ok.hd hc) fun y tk k=>⟨_,H,I.kept k,?_,q⟩;by_cases v:j > i
 ·rw[dy v,dy v];exact⟨_,rfl⟩
 ·rw[de v,de v];exact⟨_,rfl⟩
theorem Nl (hc:X.calm=true):bT X (.builtin "min") (fun xs H Q=> ∃i j,xs= [.int i,.int j]/\Q (.int (if j<i then j else i)) H):=by
 intro x s σ H xs us Q I r h;obtain⟨i,j,rfl,q⟩:=h;obtain⟨u,z,rfl,⟨t,rfl⟩,⟨t',rfl⟩⟩:=vals2 r;refine min_two_ints (I.ok.hd hc) fun y tk k=>⟨_,H,I.kept k,?_,q⟩;by_cases v:j<i
 ·rw[dy v,dy v];exact⟨_,rfl⟩
 ·rw[de v,de v];exact⟨_,rfl⟩
end
end
structure Kc (h:Heap) (x dx C:Addr) (mA:Str->Option Value):Prop where
 obj:h.get? x=some (W.instObj C dx)
 ns:h.Ns1 dx mA
 ne:dx≠x
theorem Ec {h:Heap} (n:h.Ns1 dx mA):∃od,h.get? dx=some od/\∀name,W.lookIn name od=some (mA name):=by
 obtain⟨o,es,C,ho,hd,hk,_,hm⟩:=n;refine⟨o,ho,fun name=>?_⟩;have e:=hm name;unfold nsFind findBy at e;rw[<-Array.find?_toList] at e;unfold W.lookIn;rw[hd];dsimp only;split
 ·simp_all
 ·rename_i q;rw[q] at e;have a:es.toList.any (·.refKey)=false:=by
   rw[List.any_eq_false];intro y x;obtain⟨z,t,i⟩:=hk y (Array.mem_toList_iff.mp x);simp[DictEntry.refKey,i]
  have v: ¬es.toList.any (·.refKey)=true:=by lia
  rw[de v];exact aaq _ e
theorem Kc.look (I:Kc h x dx C mA):∃od,W.InstAt h x (W.instObj C dx) C (some od)/\∀name,W.lookIn name od=some (mA name):=
 let ⟨od,ho,hl⟩:=Ec I.ns
 ⟨od,⟨I.obj,rfl,rfl,ho⟩,hl⟩
section
variable {K:W.Frag}
theorem get_map (X:K.In s.heap) (I:Kc s.heap x dx C mA) (hg:W.plainGet K C name=true) (hh:W.hasDictIn K C=true) (ha:W.findIn K (.ref C) name=some none) (y:mA name=some v) (i:W.handedIn v=true) (h:Q v {s with toks:=s.toks+1}):
  wpAny (model prog w) A (getAttr (.ref x) name expr) Q E s:=by
 obtain⟨od,J,hl⟩:=I.look;exact W.get_value X J (W.plainGet_of hg).1 (W.findObj_own hh ha rfl (by simp_all)) i h
theorem Pp (X:K.In s.heap) (I:Kc s.heap x dx C mA) (hg:W.plainGet K C name=true) (hf:W.findIn K (.ref C) name=some (some (.ref f))) (ht:W.isFn K (.ref f)=true) (i:mA name=none) (h:Q (.ref f,[.ref x]) s):
  wpAny (model prog w) A (getMethod (.ref x) name pl) Q E s:=by
 obtain⟨od,J,hl⟩:=I.look;exact W.method_fn X J (W.plainGet_of hg).1 (W.plainGet_of hg).2 hf (ZS.mp ht) (by show(W.lookIn _ od).map _=some _;rw[hl,i];rfl) h
theorem QW (X:K.In s.heap) (I:Kc s.heap x dx C mA) (hs:W.findIn K (.ref C) "__setattr__" = some (some (.builtin "object.__setattr__"))) (hp:W.plainOver K C=true) (ht:W.takerIn K C name=some none) (hh:W.hasDictIn K C=true) (hw:PySem.Within mA ns) (hsz:ns.length<=sizeLine) (h:∀F,Kc F x dx C (fun y=>if y=name then some v else mA y)->Heap.SameBut dx s.heap F->Q () {s with heap:=F,toks:=s.toks+2}):
  wpAny (model prog w) A (setAttr (.ref x) name v) Q E s:=by
 obtain⟨od,J,hl⟩:=I.look;refine W.set_plain X J hs (W.osa_open X J hp ht fun b=>?_);obtain⟨cd,hc,O⟩:=W.any_some hh;have hx:=I.obj;refine c8 (fg (c8 (c8 (aaI hx (c8 (W.Looks.here (W.looks_clsIn X hc) ?_))))));rw[O];refine fg (c8 (fg (c8 ?_)));refine wpAny_nsSet1 I.ns fun F z i=>?_;obtain⟨oD,Z,epD,G,P,U⟩:=z.count (PySem.Within.cons _ v hw);refine c8 (wpAny_lookBehind G (by rw[P];exact pastItsLine_dict (h7 U (by simp_all))) ?_);exact fg (h _ ⟨(i.2 _ (L3 I.ne)).trans I.obj,z,I.ne⟩ i)
theorem O2 (X:K.In s.heap) (hm:W.makesIn K C=true) (i:W.findIn K (.ref C) "__init__" = some (some (.ref f))) (hf:W.typeIn K (.ref f)=some (.type "function")) (h:codeAny (model prog w) (A.under (.builtin "type.__call__" ⟨.ref C::vs,kw⟩)) (.call (.ref f) ⟨.ref (s.heap.objs.size+1)::vs,kw⟩) (W.InitBack (s.heap.objs.size+1) R)
   {s with heap:=(s.heap.push W.emptyDict).push (W.instObj C s.heap.objs.size)}):
  codeAny (model prog w) A (.call (.ref C) ⟨vs,kw⟩) R s:=by
 exact W.make_core (W.makes_of X hm) (Z_ X i) (fun self=>W.bind_fn X _ hf) (.inl rfl) h
theorem MM (X:K.In s.heap) (hm:W.makesIn K C=true) (v:W.findIn K (.ref C) "__init__" = some (some (.builtin "object.__init__"))) (i:∀self,W.Looks (model prog w) s.heap (bindSpecial (.builtin "object.__init__") self) (.builtin "object.__init__",[self])) (h:codeAny (model prog w) (A.under (.builtin "type.__call__" ⟨[.ref C],[]⟩)) (.call (.builtin "object.__init__") ⟨[.ref (s.heap.objs.size+1)],[]⟩) (W.InitBack (s.heap.objs.size+1) R)
   {s with heap:=(s.heap.push W.emptyDict).push (W.instObj C s.heap.objs.size)}):
  codeAny (model prog w) A (.call (.ref C) ⟨[],[]⟩) R s:=by
 exact W.make_core (W.makes_of X hm) (Z_ X v) i (.inr ⟨rfl,rfl⟩) h
end
mutual
noncomputable def aV (f:Str) (v:V):List (Str×V)->List (Str×V)
 | []=>[(f,v)]
 |(g,x)::r=>if g=f then(g,v)::r else(g,x)::aV f v r
theorem Ae (f g:Str) (v:V):∀fs:List (Str×V),(aV f v fs).lookup g=if g=f then some v else fs.lookup g
 | []=>by
  show List.lookup g [(f,v)]=_;by_cases h:g=f
  ·simp_all
  ·simp_all
 |(k,x)::r=>by
  have y:=Ae f g v r;rw[show aV f v _=(if k=f then(k,v)::r else(k,x)::aV f v r) from rfl];by_cases hk:k=f
  ·rw[dy hk];by_cases h:g=k
   ·simp_all
   ·have i:=ZQ.mpr h;simp only[List.lookup,i,de (fun e:g=f=>h (e.trans hk.symm))]
  ·rw[de hk];by_cases h:g=k
   ·simp_all
   ·have i:=ZQ.mpr h;simp only[List.lookup,i];exact y
theorem zq (f:Str) (v:V):∀fs:List (Str×V),f∈(aV f v fs).map (·.1)/\∀g,g∈fs.map (·.1)->g∈(aV f v fs).map (·.1)
 | []=>⟨by simp[aV],fun g h=>by simp_all⟩
 |(k,x)::r=>by
  obtain⟨i,i2⟩:=zq f v r;rw[show aV f v _=(if k=f then(k,v)::r else(k,x)::aV f v r) from rfl];by_cases hk:k=f
  ·simp_all
  ·grind
theorem Af (f:Str) (v:V):∀fs:List (Str×V),(aV f v fs).length<=fs.length+1
 | []=>by simp[aV]
 |(k,x)::r=>by
  have i:=Af f v r;rw[show aV f v _=(if k=f then(k,v)::r else(k,x)::aV f v r) from rfl];by_cases hk:k=f
  ·simp_all
  ·simp_all
theorem rE.some_of (r:rE (some v) o):∃u,o=some u/\RelV v u:=by
 cases o with
 |none=>trivial
 |some u=>exact⟨u,rfl,r⟩
theorem rE.none_of (r:rE none o):o=none:=by
 cases o with
 |none=>rfl
 |some u=>trivial
theorem En (r:RelV v u):W.handedIn u=true:=by
 cases v with
 |non=>cases((r));rfl
 |bl b=>cases((r));rfl
 |int i=>obtain⟨t,e⟩:=((r));cases e;rfl
 |str x=>obtain⟨t,e⟩:=((r));cases e;rfl
 |byt b=>obtain⟨t,e⟩:=((r));cases e;rfl
 |flt b=>obtain⟨t,e⟩:=((r));cases e;rfl
 |ref a=>cases((r));rfl
 |ty n=>cases((r));rfl
end
section
theorem BF (hok:xi P w H h) (e:H a=some (.ins C dx fs)):∃i,Kc h a dx C i/\(∀f,rE (fs.lookup f) (i f))/\PySem.Within i (fs.map (·.1))/\fs.length<=1000/\H dx=some (.own a):=by
 obtain⟨d,z,ne,ob,i,n,r,q⟩:=((hok a _ e));exact⟨i,⟨ob,n,ne⟩,r,q,z,d⟩
end
structure TX (K:W.Frag) (C:Addr):Prop where
 pg:W.plainGet K C Str.empty=true
 hd:W.hasDictIn K C=true
 po:W.plainOver K C=true
 sa:W.findIn K (.ref C) "__setattr__" = some (some (.builtin "object.__setattr__"))
theorem TX.get {K:W.Frag} (c:TX K C) (f:Str):W.plainGet K C f=true:=c.pg
def aO (K:W.Frag) (C:Addr) (f:Str):Prop:=W.findIn K (.ref C) f=some none
theorem aO.taker {K:W.Frag} (n:aO K C f):W.takerIn K C f=some none:=by
 unfold W.takerIn;rw[(n)];rfl
structure Meth (K:W.Frag) (C:Addr) (m:Str) (f:Addr):Prop where
 at_:W.findIn K (.ref C) m=some (some (.ref f))
 fn:W.isFn K (.ref f)=true
 kp:W.keepIn K (.ref f)=true
section
theorem Cw (I:Inv X pins σ H s) (e:H a=some (.ins C dx fs)) (c:TX X.K C) (n:aO X.K C f) (l:fs.lookup f=some v) (h:∀u x,Inv X pins σ H x->RelV v u->Q u x):wpAny (model X.prog X.w) A (getAttr (.ref a) f b) Q E s:=by
 obtain⟨z,O,r,_,_,_⟩:=BF I.hok e;obtain⟨u,y,i⟩:=rE.some_of (by rw[<-l];exact r f);exact get_map I.nO O (c.get f) c.hd n y (En i) (h u _ (I.tok _) i)
theorem m7 (I:Inv X pins σ H s) (e:H a=some (.ins C dx fs)) (c:TX X.K C) (k:Meth X.K C m g) (l:fs.lookup m=none) (h:Q (.ref g,[.ref a]) s):wpAny (model X.prog X.w) A (getMethod (.ref a) m pl) Q E s:=by
 obtain⟨i,O,r,_,_,_⟩:=BF I.hok e;have hn:=rE.none_of (by rw[<-l];exact r m);exact Pp I.nO O (c.get m) k.at_ k.fn hn h
theorem vX (I:Inv X pins σ H s) (e:H a=some (.ins C dx fs)) (c:TX X.K C) (n:aO X.K C f) (hl:fs.length<1000) (x:RelV y u) (h:∀v,Inv X pins σ (upd H a (.ins C dx (aV f y fs))) v->Q () v):wpAny (model X.prog X.w) A (setAttr (.ref a) f u) Q E s:=by
 obtain⟨G,O,r,wi,_,ho⟩:=BF I.hok e;have J:(fs.map (·.1)).length<=sizeLine:=by rw[cz,gn];lia
 refine QW I.nO O c.sa c.po n.taker c.hd wi J fun U i P=>h _ ?_;have hd:∃o,U.get? dx=some o:=let ⟨o,_,_,e',_⟩:=i.ns;⟨o,e'⟩;refine I.write (by rw[e];exact True.intro) (.inr ho) (fun b q F z=>(P.2 b F).trans z) hd ?_;refine⟨by rw[ag O.ne];exact ho,?_,O.ne,i.obj,_,i.ns,fun g=>?_,fun g hg=>?_⟩
 ·have:=Af f y fs;lia
 ·rw[Ae];by_cases q:g=f
  ·rw[dy q,dy q];exact x
  ·simp_all
 ·by_cases q:g=f
  ·rw[q];exact(zq f y fs).1
  ·refine(zq f y fs).2 g (wi g fun z=>hg ?_);show(if g=f then some u else G g)=none;rw[de q];exact z
theorem Inv.made (I:Inv X pins σ H s):Inv X pins σ (upd (upd H s.heap.objs.size (.own (s.heap.objs.size+1))) (s.heap.objs.size+1) (.ins C s.heap.objs.size []))
  {s with heap:=(s.heap.push W.emptyDict).push (W.instObj C s.heap.objs.size)}:=by
 have e1:(s.heap.push _).get? _=some W.emptyDict:=ke _ rfl;have e2:=by
  have:=ke (s.heap.push W.emptyDict) (o:=W.instObj C s.heap.objs.size) rfl;rwa [Heap.size_push] at this
 have e3:(s.heap.push _).Ns _ _:=⟨_,#[],_,e1,rfl,(fun e he=>absurd he (by simp)),fun _=>rfl⟩;have v:=I.laid (o:= .own (s.heap.objs.size+1)) (t':=s.toks) (fun b u q=>ej _ q) (cv _) ⟨_,e1⟩;refine v.laid (fun b u q=>ej _ q) (Nat.le_of_eq (Heap.size_push _ _)) ?_;have ne:s.heap.objs.size≠s.heap.objs.size+1:=kv (Nat.lt_succ_self _);refine⟨by rw[ag ne,aa],lp _,ne,e2,_,(Heap.Ns1.of_empty e3).at fun o q=>ej _ q,fun _=>True.intro,fun y i=>absurd rfl i⟩
theorem Ls (v:attributeBase e f env (eval e env)=eval e env) (h:wpAny (model prog w) A (eval e env) (fun o i=>wpAny (model prog w) A (getAttr o f true) Q E i) E s):wpAny (model prog w) A (eval (.Attribute e f pos) env) Q E s:=
 Attribute_any_ h (by rw[arm_eval_Attribute,v])
end
section
inductive yD (K:W.Frag) (H:Hp):V->Value->Prop where
 |non:yD K H .non (.type "NoneType")
 |bl (x:Bool):yD K H (.bl x) (.type "bool")
 |int (i:Int):yD K H (.int i) (.type "int")
 |str (x:Str):yD K H (.str x) (.type "str")
 |flt (x:UInt64):yD K H (.flt x) (.type "float")
 |lst {a:Addr} {xs:List V} (e:H a=some (.lst xs)):yD K H (.ref a) (.type "list")
 |frz {a:Addr} {o:Obj} {xs:List V} (e:H a=some (.frz o (.lst xs))):yD K H (.ref a) (.type "list")
 |tup {a:Addr} {xs:List V} (e:H a=some (.tup xs)):yD K H (.ref a) (.type "tuple")
 |dK {a:Addr} {kvs:List (Key×V)} (e:H a=some (.dK kvs)):yD K H (.ref a) (.type "dict")
 |dT {a:Addr} {kvs:List (List Key×V)} (e:H a=some (.dT kvs)):yD K H (.ref a) (.type "dict")
 |
   ins {a C dx:Addr} {fs:List (Str×V)} (e:H a=some (.ins C dx fs)) (cl:TX K C) (ha:W.findIn K (.ref C) "__class__" = some (some (.builtin "object.__class__")))
   (hn:W.specialIn K (.builtin "object.__class__") "__get__" = some (some (.builtin "getset_descriptor.__get__"))) (htk:W.takesIn K (.builtin "object.__class__")=some true)
   (hm:W.mroIn K C (.type "object")=some true):yD K H (.ref a) (.ref C)
theorem MY (I:Inv X pins σ H s) (F:RelV x u) (ty:yD X.K H x t) (e:W.kitOne X.K t c=some b) (h:∀tk,Q (.bool b) {s with toks:=tk}):
  wpAny (model X.prog X.w) A (call (.builtin "isinstance") [u,c]) Q E s:=by
 cases ty with
 |non=>cases((F));exact Z9 W.kitx_none I.nO True.intro e (fun z=>nomatch z) h
 |bl y=>cases((F));exact Z9 W.kitx_bool I.nO True.intro e (fun z=>nomatch z) h
 |int i=>obtain⟨t,q⟩:=((F));cases q;exact Z9 W.kitx_int I.nO True.intro e (fun z=>nomatch z) h
 |str y=>obtain⟨t,q⟩:=((F));cases q;exact Z9 W.kitx_str I.nO True.intro e (fun z=>nomatch z) h
 |flt y=>obtain⟨t,q⟩:=((F));cases q;exact Z9 W.kitx_float I.nO True.intro e (fun z=>nomatch z) h
 | @lst a xs v=>
  cases((F));obtain⟨_,_,n,_,G⟩:=((I.hok a _ v));exact Z9 W.kitx_list I.nO ⟨_,G,rfl⟩ e (fun z=>nomatch z) h
 | @frz a ob xs v=>
  cases((F));obtain⟨_,_,_,n,_,G⟩:=((I.hok a _ v));exact Z9 W.kitx_list I.nO ⟨_,G,rfl⟩ e (fun z=>nomatch z) h
 | @tup a xs v=>
  cases((F));obtain⟨_,_,_,p⟩:=((I.hok a _ v));obtain⟨o,G,P,_⟩:=p;exact Z9 W.kitx_tuple I.nO ⟨o,G,P⟩ e (fun z=>nomatch z) h
 | @dK a U v=>
  cases((F));obtain⟨_,_,vs,_,p⟩:=((I.hok a _ v));obtain⟨o,es,Z,G,P,_⟩:=p;exact Z9 W.kitx_dict I.nO ⟨o,G,P.1⟩ e (fun z=>nomatch z) h
 | @dT a U v=>
  cases((F));obtain⟨_,_,xs,_,o,es,Z,G,P,_⟩:=((I.hok a _ v));exact Z9 W.kitx_dict I.nO ⟨o,G,P.1⟩ e (fun z=>nomatch z) h
 | @ins a C dx fs v cl ha hn htk hm=>
  cases((F));obtain⟨mA,O,_⟩:=BF I.hok v;obtain⟨od,J,_⟩:=O.look;exact Z9 (W.kitx_own (cl.get _) cl.hd ha hn htk hm) I.nO J e (fun z=>nomatch z) h
end
mutual
structure dC (k:Nat) (A:Around):Prop where
 hd:A.handled=none
 dp:A.depth+3*k+5<recursionLimit
 un:A.units+16*k+200<cLine
theorem dC.mono (r:dC k A) (h:j<=k):dC j A:=⟨r.hd,by have:=r.dp;lia,by have:=r.un;lia⟩
theorem dC.deeper (r:dC (k+1) A) (env:Env):dC k (A.deeper env):=
 ⟨r.hd,by have:=r.dp;show A.depth+1+3*k+5<_;lia,by have:=r.un;show A.units+3+16*k+200<_;lia⟩
theorem JJ {A:Around}:(A.under (.builtin "type.__call__" ⟨.ref C::us,kw⟩)).depth=A.depth+1:=rfl
theorem JI {A:Around}:(A.under (.builtin "type.__call__" ⟨.ref C::us,kw⟩)).units=A.units+1:=rfl
theorem dC.make (r:dC (k+1) A) (C:Addr) (us:List Value) (kw:List (Str×Value)):dC k (A.under (.builtin "type.__call__" ⟨.ref C::us,kw⟩)):=
 ⟨r.hd,by have:=r.dp;rw[JJ];lia,by have:=r.un;rw[JI];lia⟩
theorem dC.depth (r:dC k A):A.depth<recursionLimit:=by have:=r.dp;lia
theorem dC.units (r:dC k A):A.units+64<cLine:=by have:=r.un;lia
def yM:TA:=fun _ H Q=>Q [] H
def rG (v:TE) (y:TA):TA:=fun σ H Q=>v σ H fun x i=>y σ i fun xs z=>Q (x::xs) z
end
section
theorem gN:PA X [] yM:=fun _ _ _ _ H Q I h=>Calls.spliced_nil ⟨[],H,I,.nil,h⟩
theorem KQ (ha:PE X e te) (hr:PA X es t) (hs:autoParam (starEach (e::es) X.env=(false,eval e X.env)::starEach es X.env) qqr):PA X (e::es) (rG te t):=by
 intro pos i s σ H Q I h;rw[hs];refine Calls.spliced_cons (gQ (ha _ s σ H _ I h) fun u s1 x C z v F=>?_);exact gQ (hr _ _ s1 σ C _ z F) fun us s2 xs J G r2 y=>⟨_,J,G,.cons v r2,y⟩
def T5 (t:TA):TE:=fun σ H Q=>t σ H fun xs i=>xs.length<=sizeLine/\∀p,i p=none->Q (.ref p) (upd i p (.tup xs))
def Ua (t:TA):TE:=fun σ H Q=>t σ H fun xs i=>xs.length<=sizeLine/\∀p,i p=none->Q (.ref p) (upd i p (.lst xs))
theorem ba {x1} (h:PA X es t):PE X (.Tuple es x1 pos) (T5 t):=by
 intro v s σ H Q I x;refine wpAny_Tuple_spliced (thn (h _ _ s σ H _ I x) fun us s1 ⟨xs,y,i,r,z,q⟩=>⟨by rw[<-r.length];exact z,?_⟩);have hf:=i.hok.fresh (cv _);refine⟨.ref _,_,i.laid (fun b u e=>ej _ e) (cv _) ?_,rfl,q _ hf⟩;exact⟨z,us,r,⟨_,ke _ rfl,rfl,_,rfl⟩⟩
theorem cq (h:PA X es t):PE X (.List es pos) (Ua t):=by
 intro v s σ H Q I x;refine wpAny_List_spliced (thn (h _ _ s σ H _ I x) fun us s1 ⟨xs,y,i,r,z,q⟩=>⟨by rw[<-r.length];exact z,?_⟩);have hf:=i.hok.fresh (cv _);refine⟨.ref _,_,i.laid (fun b u e=>ej _ e) (cv _) ?_,rfl,q _ hf⟩;exact⟨z,us,0,r,ke _ rfl⟩
end
mutual
noncomputable abbrev Sp:=List V->Hp->VK->XK->Prop
noncomputable abbrev IL:=List Env->Hp->Shared->XK->Value->Shared->Prop
structure Kf (P:Program) (w:World) (K:W.Frag) (mg:Str->Option Value) (base:Heap) (A:Around) (outer:List Env) (s:Shared) (H:Hp):Prop where
 frames:A.frames=some outer
 mod:Mod K mg base
 bs:∀b o,base.get? b=some o->s.heap.get? b=some o/\H b=none
 bsz:base.objs.size<=s.heap.objs.size
 funs:s.heap.FunFrames base outer
 frf:∀b∈frs outer,H b=none
 hok:xi P w H s.heap
 bare:AllBare s.gens
def CE (outer:List Env) (P:Program) (w:World) (H:Hp) (s:Shared) (Q:VK) (u:Value) (i:Shared):Prop:=
 ∃v H',i.os=s.os/\AllBare i.gens/\Un (frs outer) [] H H' s.heap i.heap/\xi P w H' i.heap/\RelV v u/\Q v H'
def CR (CX:IL) (outer:List Env) (P:Program) (w:World) (H:Hp) (s:Shared) (Q:VK) (E:XK) (r:Result) (i:Shared):Prop:=
 match r with
 | .ok (.ret u)=>CE outer P w H s Q u i
 | .ok _=>False
 | .error e=>CX outer H s E e i
structure yH (P:Program) (w:World) (K:W.Frag) (mg:Str->Option Value) (base:Heap) (CX:IL) (k:Nat) (f:Addr) (fd:FuncData) (ps:List Str) (sp:Sp):Prop where
 len:∀vs H Q E,sp vs H Q E->vs.length=ps.length
 run:∀(A:Around) (outer:List Env) (s:Shared) (H:Hp) (args:Args) (us:List Value) (vs:List V) (Q:VK) (E:XK),dC k A->Kf P w K mg base A outer s H->BindsTo s fd args (ps.zip us)->Vals vs us->sp vs H Q E->
  codeAny (model P w) A (.call (.ref f) args) (CR CX outer P w H s Q E) s
theorem Kf.make {K:W.Frag} (e:Kf P w K mg base A outer s H) (C:Addr) (us:List Value) (kw:List (Str×Value)):
  Kf P w K mg base (A.under (.builtin "type.__call__" ⟨.ref C::us,kw⟩)) outer s H:=⟨by first|exact e.frames|rfl,e.mod,e.bs,e.bsz,e.funs,e.frf,e.hok,e.bare⟩
end
section
theorem Inv.Sw (I:Inv X pins σ H s):Kf X.prog X.w X.K X.mg X.base X.A X.stack s H:=
 ⟨I.ok.frames,I.ok.mod,I.bs,h7 I.ok.bsz I.sz,I.stack,I.Bu,I.hok,I.bare⟩
theorem Inv.after (I:Inv X pins σ H s) (h:CE X.stack X.prog X.w H s Q u s'):EP X pins σ Q u s':=by
 obtain⟨v,H',os,bare,un,hok,r,q⟩:=h;obtain⟨hh,g,d,t,i⟩:=s';obtain rfl:i=s.os:=os;exact⟨v,H',I.call un hok bare (fun b z=>absurd z (by simp)),r,q⟩
end
def G0 (sp:Sp) (i:List V) (E:XK) (t:TA):TE:=fun σ H Q=>t σ H fun vs v=>sp (vs++i) v Q E
def NL (C:Addr) (sp:Sp) (y:List V) (E:XK) (t:TA):TE:=fun σ H Q=>t σ H fun vs i=> ∀x dx,i x=none->i dx=none->dx≠x->
 sp (.ref x::(vs++y)) (upd (upd i dx (.own x)) x (.ins C dx [])) (fun v z=>v = .non/\Q (.ref x) z) E
def Binds (K:W.Frag) (v:FuncData) (i:List Str) (ds:List Value):Prop:=
 ∀(s:Shared) (us:List Value),K.In s.heap->(us++ds).length=i.length->BindsTo s v ⟨us,[]⟩ (i.zip (us++ds))
theorem Binds.all {K:W.Frag} (h:∀us:List Value,us.length=ps.length->bindArgs fd ⟨us,[]⟩=pure (ps.zip us)):Binds K fd ps []:=fun s us _ hl=>by
 rw[aad] at hl⊢;exact .of_eq (h us hl)
def Passes (CX:IL) (X:Cx) (E:XK):Prop:= ∀(i:List (Addr×Obj)) (σ:St) (H:Hp) (s:Shared) (e:Value) (v:Shared),Inv X i σ H s->CX X.stack H s E e v->X.xe e v
section
theorem Fb (F:yH X.prog X.w X.K X.mg X.base CX k f fd ps sp) (hr:dC k X.A) (y:Binds X.K fd ps ds) (hd:Vals dvs ds) (hx:Passes CX X E) (I:Inv X pins σ H s) (r:Vals vs us) (h:sp (vs++dvs) H Q E):wpAny (model X.prog X.w) X.A (call (.ref f) us) (EP X pins σ Q) X.xe s:=by
 have r2:=r.append hd;have hl:(us++ds).length=ps.length:=by rw[<-r2.length];exact F.len _ _ _ _ h
 refine aar (aaE (F.run _ _ s H _ _ _ Q E hr I.Sw (y s us I.nO hl) r2 h) fun r v i=>?_);cases r with
 |error e=>exact hx _ σ H s e v I i
 |ok x=>
  cases x with
  |ret u=>exact I.after i
  |next=>trivial
  |brk=>trivial
  |cont=>trivial
theorem RH (F:yH X.prog X.w X.K X.mg X.base CX k f fd ps sp) (hr:dC k X.A) (hg:Gl X x) (hm:X.mg x=some (.ref f)) (hk:W.keepIn X.K (.ref f)=true) (C:Binds X.K fd ps ds) (hd:Vals dvs ds) (hx:Passes CX X E) (ha:PA X (e::es) t) (i:(x == ("__debug__":Str))=false:=by decide) (he:autoParam (starEach (e::es) X.env=(false,eval e X.env)::starEach es X.env) qqr) (v:autoParam ((backTo pos (starEach es X.env)).any (·.1)=false) qqr):
  PE X (.Call (.Name x p) (e::es) [] pos) (G0 sp dvs E t):=by
 intro z s σ H Q I h;refine ZK (mw I hg hm ?_ i);refine aaF I.ok.mod.kin hk (gQ (ha _ _ s σ H _ I h) fun us s1 vs G y r q=>⟨y.nO,?_⟩) he v;exact Fb F hr C hd hx y r q
structure Mk (K:W.Frag) (C f:Addr):Prop where
 makes:W.makesIn K C=true
 init:W.findIn K (.ref C) "__init__" = some (some (.ref f))
 fn:W.isFn K (.ref f)=true
 kp:W.keepIn K (.ref C)=true
theorem N0 (M:Mk X.K C f) (F:yH X.prog X.w X.K X.mg X.base CX k f fd ps sp) (hr:dC (k+1) X.A) (U:Binds X.K fd ps ds) (hd:Vals dvs ds) (hx:Passes CX X E) (I:Inv X pins σ H s) (r:Vals vs us) (h:∀x dx,H x=none->H dx=none->dx≠x->sp (.ref x::(vs++dvs)) (upd (upd H dx (.own x)) x (.ins C dx [])) (fun v H2=>v = .non/\Q (.ref x) H2) E):
  wpAny (model X.prog X.w) X.A (call (.ref C) us) (EP X pins σ Q) X.xe s:=by
 have z:=h _ _ (I.hok.fresh (vr _)) (I.hok.fresh (cv _)) (kv (Nat.lt_succ_self _));have y:=Inv.made (C:=C) I;have r2:Vals (V.ref (s.heap.objs.size+1)::(vs++dvs)) _:= .cons rfl (r.append hd);have hl:=by
  have e:=r2.length;rw[F.len _ _ _ _ z] at e;exact e.symm
 refine aar (O2 I.nO M.makes M.init (ZS.mp M.fn) (aaE (F.run _ _ _ _ _ _ _ _ E (hr.make C us [])
  (y.Sw.make C us []) (U _ _ y.nO hl) r2 z) fun r G i=>?_))
 cases r with
 |error e=>exact hx _ σ _ _ e G y i
 |ok O=>
  cases O with
  |ret u=>
   obtain⟨v,H',J,Z,ev,P⟩:=y.after i;subst ev;exact⟨Z,⟨V.ref _,H',J,rfl,P⟩⟩
  |next=>trivial
  |brk=>trivial
  |cont=>trivial
theorem RB (M:Mk X.K C f) (F:yH X.prog X.w X.K X.mg X.base CX k f fd ps sp) (hr:dC (k+1) X.A) (hg:Gl X x) (hm:X.mg x=some (.ref C)) (G:Binds X.K fd ps ds) (hd:Vals dvs ds) (hx:Passes CX X E) (ha:PA X (e::es) t) (i:(x == ("__debug__":Str))=false:=by decide) (he:autoParam (starEach (e::es) X.env=(false,eval e X.env)::starEach es X.env) qqr) (v:autoParam ((backTo pos (starEach es X.env)).any (·.1)=false) qqr):
  PE X (.Call (.Name x p) (e::es) [] pos) (NL C sp dvs E t):=by
 intro z s σ H Q I h;refine ZK (mw I hg hm ?_ i);refine aaF I.ok.mod.kin M.kp (gQ (ha _ _ s σ H _ I h) fun us s1 vs J y r q=>⟨y.nO,?_⟩) he v;exact N0 M F hr G hd hx y r q
end
def PK (X:Cx) (v:List Keyword) (t:TA):Prop:=
 ∀(pos:Pos) (i:List (Addr×Obj)) (s:Shared) (σ:St) (H:Hp) (Q:List V->Hp->Prop),Inv X i σ H s->t σ H Q->wpAny (model X.prog X.w) X.A (evalAll ((backToKw pos (keywordEach v X.env)).map (·.2))) (AP X i σ Q) X.xe s
section
theorem Uz:PK X [] yM:=fun _ _ _ _ H Q I h=>wpAny_evalAll_nil ⟨[],H,I,.nil,h⟩
theorem Rn (ha:PE X e te) (hr:PK X kws t):PK X (⟨nm,e,kpos⟩::kws) (rG te t):=by
 intro pos i s σ H Q I h;refine wpAny_evalAll_cons (c8 (gQ (ha _ s σ H _ I h) fun u s1 x C z v F=>c8 (aaw (fg ?_))));exact gQ (hr _ _ s1 σ C _ z F) fun us s2 xs J G r2 y=>⟨_,J,G,.cons v r2,y⟩
end
mutual
structure kC (N P:List Str) (sc:Scope):Prop where
 kind:sc.kind = .function
 co:sc.isCoroutine=false
 gen:sc.isGenerator=false
 nd:N.Nodup
 pre:N.take P.length=P
 par:∀x∈P,sc.names.lookup x=some .local\/sc.names.lookup x=some .cell
 nofree:∀y∈sc.names,y.2≠ .free
theorem EK {kindOf:Str->Option NameKind}:∀{binds:List (Str×Value)} {m:Str->Option Value},(∀v,(x,v) ∉ binds)->bindL kindOf binds m x=m x
 | [],_,_=>rfl
 |(n,v)::r,m,h=>by
  unfold bindL;rw[EK fun w hw=>h w (sh _ hw)];split
  ·grind
  ·rfl
theorem EM {kindOf:Str->Option NameKind}:∀{binds:List (Str×Value)} {m:Str->Option Value},(∀v,(x,v) ∉ binds)->bindC kindOf binds m x=m x
 | [],_,_=>rfl
 |(n,v)::r,m,h=>by
  unfold bindC;rw[EM fun w hw=>h w (sh _ hw)];split
  ·rfl
  ·grind
theorem EL {kindOf:Str->Option NameKind}:∀{P:List Str} {vs:List Value} {i:Nat} {m:Str->Option Value},P.Nodup->P[i]?=some x->vs[i]?=some v->kindOf x=some .local->
  bindL kindOf (P.zip vs) m x=some v
 | [],_,_,_,_,h,_,_=>by trivial
 |_::_,[],_,_,_,_,h,_=>by trivial
 |p::P,w::vs,0,m,nd,h1,h2,hk=>by
  simp at h1 h2;subst h1;subst h2;show bindL _ ((p,w)::P.zip vs) m p=_;unfold bindL;rw[EK fun v y=>(Z6.mp nd).1 (List.of_mem_zip y).1,dy hk];simp
 |p::P,w::vs,i+1,m,nd,h1,h2,hk=>by
  unfold bindL;exact EL (Z6.mp nd).2 (‹_›) (‹_›) hk
theorem EN {kindOf:Str->Option NameKind}:∀{P:List Str} {vs:List Value} {i:Nat} {m:Str->Option Value},P.Nodup->P[i]?=some x->vs[i]?=some v->kindOf x≠some .local->
  bindC kindOf (P.zip vs) m x=some v
 | [],_,_,_,_,h,_,_=>by trivial
 |_::_,[],_,_,_,_,h,_=>by trivial
 |p::P,w::vs,0,m,nd,h1,h2,hk=>by
  simp at h1 h2;subst h1;subst h2;show bindC _ ((p,w)::P.zip vs) m p=_;unfold bindC;rw[EM fun v y=>(Z6.mp nd).1 (List.of_mem_zip y).1,de hk];simp
 |p::P,w::vs,i+1,m,nd,h1,h2,hk=>by
  unfold bindC;exact EN (Z6.mp nd).2 (‹_›) (‹_›) hk
noncomputable def start (N:List Str) (vs:List V):St:=vs.map some++List.replicate (N.length-vs.length) none
noncomputable def C5 (CX:IL) (P:Program) (w:World) (K:W.Frag) (mg:Str->Option Value) (base:Heap) (N:List Str) (qual:Str) (scope:Scope) (f:Addr) (cd:Value) (A:Around) (outer:List Env) (s:Shared) (H:Hp) (E:XK):Cx where
 prog:=P
 w:=w
 K:=K
 mg:=mg
 base:=base
 A:=A.deeper (envOfC qual scope s.heap.objs.size f cd)
 N:=N
 s₀:=s
 H₀:=H
 env:=envOfC qual scope s.heap.objs.size f cd
 outer:=outer
 stack:=envOfC qual scope s.heap.objs.size f cd::outer
 ex:=[]
 calm:=true
 fn:=fun _=>true
 pn:=[]
 xe:=fun e v=>wpAny (model P w) (A.deeper (envOfC qual scope s.heap.objs.size f cd)) (leaving (envOfC qual scope s.heap.objs.size f cd) e) (fun _ i=>CX outer H s E e i) (fun x i=>CX outer H s E x i) v
theorem Iq {sc:Scope} {n:Nat} {x:Str} (h:sc.names.lookup x=some .cell):∃c,(cellsFrom n sc.names []).lookup x=some c:=by
 have q:=W.cellsFrom_some _ n [] (.inl h);exact ZY.mp q
theorem M6 {CX:IL} {P:Program} {w:World} {K:W.Frag} {mg:Str->Option Value} {base:Heap} {N F:List Str} {qual:Str} {scope:Scope} {f:Addr} {cd:Value} {A:Around} {outer:List Env} {s s1:Shared} {H:Hp} {E:XK} {us:List Value} {vs:List V}
  (S:kC N F scope) (hd:A.handled=none) (e0:Kf P w K mg base A outer s H) (hl:vs.length=F.length) (r:Vals vs us)
  (x:InCallC s s.heap.objs.size (bindL (envOfC qual scope s.heap.objs.size f cd).kindOf (F.zip us) fun _=>none) (cellsFrom (s.heap.objs.size+1) scope.names []) (bindC (envOfC qual scope s.heap.objs.size f cd).kindOf (F.zip us) fun _=>none) s1):
  Inv (C5 CX P w K mg base N qual scope f cd A outer s H E) [] (start N vs) H s1:=by
 have Z:F.length<=N.length:=by have:=aaq List.length S.pre;rw[z1] at this;lia
 obtain⟨O,tk,rfl,hk⟩:=x.done;have G:∀b,b ∉ (C5 CX P w K mg base N qual scope f cd A outer s H E).ex:=fun b z=>absurd (show b∈([]) from z) (by simp);refine⟨⟨e0.mod,S.kind,rfl,rfl,cv _,fun y z c O C=>?_,fun y I=>?_,fun y c _ h=>?_,fun _=>hd,Around.frames_deeper e0.frames,.inr ⟨rfl,rfl⟩,fun b z=>absurd z (G b),e0.bs,e0.bsz,fun b _ _=>G b,fun b z=>absurd z (G b),e0.funs,e0.frf⟩,
  rfl,e0.bare,Un.kept hk,⟨_,x.toInCall.ns,fun i y v O C h3=>?_⟩,fun y c h=>⟨_,x.cell y c h⟩,e0.hok.fresh (cv _),fun y c h=>?_,fun p hp=>absurd (show p∈([]) from hp) (by simp),e0.hok.kept hk,?_⟩
 ·exact name_of_addr x.apart (ZJ O) (ZJ C)
 ·rcases I with I|I
  ·exact Iq I
  ·exact absurd rfl (S.nofree _ (ZJ I))
 ·exact Nat.le_of_lt (x.above y c (ZJ h))
 ·have Q:i<vs.length:=by
   unfold start at C;by_cases Q:i<vs.length
   ·exact Q
   ·rw[List.getElem?_append_right (by simpa using Q)] at C;rw[List.getElem?_replicate] at C;split at C<;>cases C
  have ha:vs[i]?=some v:=by
   unfold start at C;rw[List.getElem?_append_left (by simpa using Q)] at C;cases e:vs[i]?<;>simp_all
  obtain⟨u,U,X⟩:=r.get ha;have hp:F[i]?=some y:=by
   rw[<-S.pre,List.getElem?_take_of_lt (by lia)];exact O
  have J:F.Nodup:=by rw[<-S.pre];exact S.nd.sublist (List.take_sublist _ _)
  refine⟨u,X,?_⟩;rcases S.par y (ni hp) with k|k
  ·exact .inl ⟨k,EL J hp U k⟩
  ·obtain⟨c,e⟩:=Iq k;refine .inr ⟨.inl k,c,e,?_⟩;have q:=x.cell y c e;rw[EN J hp U (by show scope.names.lookup y≠_;rw[k];decide)] at q;exact q
 ·exact e0.hok.fresh (Nat.le_of_lt (x.above y c (ZJ h)))
 ·unfold start;show _=N.length;rw[ib,cz,aam];lia
theorem K_ {CX:IL} {P:Program} {w:World} {K:W.Frag} {mg:Str->Option Value} {base:Heap} {k:Nat} {f:Addr} {name qual:Str} {params:Arguments} {body:List Stmt} {scope:Scope} {dV kV doc pm i ct oc:Value} {an od:Option Addr}
  {Z:Array (Option Value)} {N G:List Str} {sp:Sp} (lk:K.lookup f=some ⟨oc,od,.func (W.fnOf name qual params body scope dV kV doc pm an i ct),Z⟩) (X:W.codeIn K i qual=true) (S:kC N G scope)
  (len:∀vs H Q E,sp vs H Q E->vs.length=G.length)
  (
   hbody:∀(A:Around) (outer:List Env) (s:Shared) (H:Hp) (vs:List V) (Q:VK) (E:XK),dC k (A.deeper (envOfC qual scope s.heap.objs.size f i))->sp vs H Q E->
   ∃t,Br (C5 CX P w K mg base N qual scope f i A outer s H E) body t/\t {nx:=fun _ H'=>Q .non H',rt:=Q} (start N vs) H):
  yH P w K mg base CX (k+1) f (W.fnOf name qual params body scope dV kV doc pm an i ct) G sp:=by
 refine⟨len,fun A outer s H args us vs Q E hr e0 hb r F=>?_⟩;have hl:=len _ _ _ _ F;have KX:=e0.mod.kin.keeps fun b o e=>(e0.bs b o e).1;have lim:=e0.mod.nolimit.keeps fun b o e=>(e0.bs b o e).1;have C:∀y∈G.zip us,scope.names.lookup y.1=some _\/(scope.names.lookup y.1=some _/\((cellsFrom (s.heap.objs.size+1) _ []).lookup y.1).isSome=true):=fun⟨n,v⟩ hy=>by
  rcases S.par n (List.of_mem_zip hy).1 with q|q
  ·exact .inl q
  ·exact .inr ⟨q,W.cellsFrom_some _ _ _ (.inl q)⟩
 refine codeAny_call_function hr.depth (KX _ _ lk) rfl S.co S.gen rfl (W.codeRec_of KX X) (hb _ _ _ _ ?_);refine wpAny_newFunctionEnv_cells S.kind C fun env he s1 x=>?_;subst he;refine⟨lim.keeps x.toInCall.keep,codeAny_func ?_⟩;obtain⟨t,ht,hq⟩:=hbody A _ s H vs Q E (hr.deeper _) F;have I:Inv (C5 CX P w K mg _ N _ _ f _ A _ s H E) [] _ H s1:=M6 S hr.hd e0 hl r x;refine z4 (ht [] s1 _ H _ I hq) (fun fl O hs=>?_) fun e O hs=>hs;have fin:∀{z:St} {H':Hp} {v:V} {u:Value},Inv (C5 CX P w K mg base N qual scope f i A _ s H E) [] z H' O->RelV v u->Q v H'->CE outer P w H s Q u O:=
  fun{z H' v u} J U q=>⟨v,H',J.os,J.bare,J.base,J.hok,U,q⟩
 cases fl with
 |ret u=>
  obtain⟨v,z,H',J,U,q⟩:=hs;exact fin J U q
 |next=>
  obtain⟨z,H',J,q⟩:=hs;exact fin (v:=V.non) J rfl q
 |brk=>
  obtain⟨_,_,_,q⟩:=hs;exact False.elim q
 |cont=>
  obtain⟨_,_,_,q⟩:=hs;exact False.elim q
end
section
def V3 (r:List V->Hp->VK->Prop) (t:TA):TE:=fun σ H Q=>t σ H fun vs i=>r vs i Q
theorem OH {X:Cx} {x:Str} {p pos:Pos} {e:Expr} {es:List Expr} {t:TA} {id:String} {r:List V->Hp->VK->Prop} (hc:bT X (.builtin id) r) (hg:Gl X x) (hm:X.mg x=none) (C:bootBuiltins x=some (.builtin id)) (ha:PA X (e::es) t) (hn:x≠ "__name__" :=by decide) (i:(x == ("__debug__":Str))=false:=by decide)
  (he:autoParam (starEach (e::es) X.env=(false,eval e X.env)::starEach es X.env) qqr) (v:autoParam ((backTo pos (starEach es X.env)).any (·.1)=false) qqr):PE X (.Call (.Name x p) (e::es) [] pos) (V3 r t):=by
 intro y s σ H Q I h;refine ZK (ri I hg hm C ?_ hn i);exact PyProof.Rows.callWith_builtin1 (gQ (ha _ _ s σ H _ I h) fun us s1 vs G F z J=>hc _ s1 σ G vs us Q F z J) he v
theorem Mu (hc:bT X (.type T) r) (hg:Gl X x) (hm:X.mg x=none) (C:bootBuiltins x=some (.type T)) (ha:PA X (e::es) t) (hn:x≠ "__name__" :=by decide) (i:(x == ("__debug__":Str))=false:=by decide) (he:autoParam (starEach (e::es) X.env=(false,eval e X.env)::starEach es X.env) qqr) (v:autoParam ((backTo pos (starEach es X.env)).any (·.1)=false) qqr):PE X (.Call (.Name x p) (e::es) [] pos) (V3 r t):=by
 intro y s σ H Q I h;refine ZK (ri I hg hm C ?_ hn i);exact ZH (gQ (ha _ _ s σ H _ I h) fun us s1 vs G F z J=>hc _ s1 σ G vs us Q F z J) he v
end
end Lake
namespace HT
open PySem PyProof.Rows
section
open PySem.SeqAt
open PySem.AutoSeq1 (wpAny_loadPart')
open PySem.MeetsSeq PySem.MeetsSeq2 PySem.MeetsSeq3
end
section
mutual
theorem SJ (ht:IsTup s.heap t vs.toArray) (C:IsTup s.heap b ws.toArray) (O:vs≠[]) (z:ws= []->Q (.ref t) s) (G:ws≠[]->Q (.ref s.heap.objs.size) {s with heap:=s.heap.push {cls:= .type "tuple",data:= .seq (vs++ws).toArray}}) (hsz:vs.length+ws.length<=sizeLine):wpAny (model prog w) A (binaryOp .Add (.ref t) (.ref b)) Q E s:=by
 obtain⟨⟨cls,dd,data,sl⟩,ho,hc,n,hd⟩:=id ht;obtain⟨⟨y,I,data2,J⟩,i,v,x,hd2⟩:=id C;subst hc hd v hd2;have e:vs.toArray++ws.toArray=(vs++ws).toArray:=by simp
 by_cases hw:ws= []
 ·exact concat_meets ⟨_,ho,rfl⟩ ⟨_,i,rfl⟩ noFill_tuple_add seq_tuple_add PySem.F.slot_tuple_add PySem.F.entry_tuple_add (PySem.F.args_tuple_add_2 _ _)
   (tuple_addW1 t b _ _ n x dd _ sl _ (by simp_all) (by simp_all)) ⟨ho,i,z hw⟩
 ·refine concat_meets ⟨_,ho,rfl⟩ ⟨_,i,rfl⟩ noFill_tuple_add seq_tuple_add PySem.F.slot_tuple_add PySem.F.entry_tuple_add (PySem.F.args_tuple_add_2 _ _)
   (tuple_addW2 t b _ _ n x dd _ sl _ (by simp_all) (by simp_all) (by trivial)) ⟨ho,i,?_⟩
  rw[e];exact G hw
def uH (n d:Nat):Option Int->Nat
 |none=>d
 |some v=>if v<0 then(v+(n:Int)).toNat else min v.toNat n
theorem YA (n d:Nat) (hd:d<=n) (o:Option Int):uH n d o<=n:=by
 cases o with
 |none=>exact hd
 |some v=>
  show(if v<0 then(v+(n)).toNat else min _ n)<=n;by_cases i:v<0
  ·lia
  ·rw[de i];exact Nat.min_le_right _ _
theorem Ll (v:Int) (n d:Nat):(if v<0 then max (v+(n:Int)) 0 else min v (n:Int))=((uH n d (some v):Nat):Int):=by
 show _=((if v<0 then(v+(n)).toNat else min v.toNat n:Nat):Int);by_cases i:v<0
 ·rw[dy i,dy i];exact (Int.toNat_eq_max _).symm
 ·rw[de i,de i];obtain⟨k,rfl⟩:=Int.eq_ofNat_of_zero_le (Int.not_lt.mp i);show min (k:Int) n=((min k n:Nat):Int);omega
theorem Ka (lo i:Option Int) (n:Nat):Builtin.Slice.sliceAdjust lo i 1 (n:Int)=(((uH n 0 lo:Nat):Int),((uH n n i:Nat):Int)):=by
 refine Prod.ext ?_ ?_
 ·cases lo with
  |none=>rfl
  |some v=>exact Ll v n 0
 ·cases i with
  |none=>rfl
  |some v=>exact Ll v n n
theorem Jk (i j:Nat):Builtin.Slice.slicePlaces (i:Int) (j:Int) 1=j-i:=by
 unfold Builtin.Slice.slicePlaces;have v:(1:Int) > 0:=by lia
 simp;split<;>lia
theorem BU (p:IsPart v o) (h:Q o s):wpAny (model prog w) A (Builtin.Slice.slicePartIndex v) Q E s:=by
 cases p with
 |none=>exact slicePart_none h
 |int i t=>exact slicePart_int h
theorem yQ {lo:Option Int} {Q:Int×Int×Nat->Shared->Prop} (hs:s.heap.IsSliceOf sl vl vu .none) (pl:IsPart vl lo) (pu:IsPart vu hi) (h:Q (((uH n 0 lo:Nat):Int),1,uH n n hi-uH n 0 lo) s):wpAny (model prog w) A (Builtin.Slice.sliceApplied (.ref sl) (pure (n:Int))) Q E s:=by
 obtain⟨os,v,y,i⟩:=id hs;refine c8 (c8 (aag v i (x:=vl) rfl (c8 (aag v i (x:=vu) rfl (c8 (aag v i rfl (fg ?_)))))));refine c8 (slicePart_none ?_);refine c8 (BU pl (c8 (BU pu (c8 (fg ?_)))));show wpAny _ _ (match Builtin.Slice.sliceAdjust lo hi 1 _ with|(lo,hi)=>pure (lo,(1:Int),Builtin.Slice.slicePlaces lo hi 1)) _ _ s
 rw[Ka lo hi n];show wpAny _ _ (pure _) _ _ s;rw[Jk];exact fg h
theorem OB (xs:Array Value) (i k:Nat):((List.range k).filterMap fun(m:Nat)=>xs[((i:Int)+(m:Int)*1).toNat]?).toArray=((xs.toList.drop i).take k).toArray:=by
 have e:(fun(m:Nat)=>xs[((i)+(m:Int)*1).toNat]?)=fun m=>xs[i+m]?:=by
  grind
 rw[e];have:=pick_run xs i k;rw[List.filterMap_map] at this;have e2:((fun x=>xs[x]?)∘fun x=>i+x)=fun m=>xs[i+m]?:=rfl;rw[e2] at this;rw[this]
theorem x6 {lo:Option Int} (ht:IsTup s.heap t items) (hs:s.heap.IsSliceOf sl vl vu .none) (pl:IsPart vl lo) (pu:IsPart vu v) (hw: ¬(uH items.size 0 lo=0/\uH items.size items.size v=items.size)) (h:Q (.ref s.heap.objs.size) {s with heap:=s.heap.push {cls:= .type "tuple",data:= .seq ((items.toList.drop (uH items.size 0 lo)).take (uH items.size items.size v-uH items.size 0 lo)).toArray}}) (hsz:items.size<=sizeLine):wpAny (model prog w) A (getItem (.ref t) (.ref sl)) Q E s:=by
 have i:=by
  show((items.toList.drop (uH items.size 0 lo)).take (uH items.size items.size v-uH items.size 0 lo)).toArray.size<=sizeLine;rw[ny,z1,aaM,Z1];exact h7 (Nat.min_le_right _ _) (h7 (Nat.sub_le _ _) hsz)
 obtain⟨os,C,z,F⟩:=id hs;have x:s.TypeIs (.ref sl) _:=⟨os,C,z⟩;unfold getItem
 try with_reducible refine Z0 ?_
 refine c8 (wpAny_sequenceKey ht.typeIs (rfl) ?_);refine c8 (wpAny_callSpecial?_slot ht.typeIs PyProof.Rows.slot_tuple_getitem
  (wpAny_call_entry PyProof.Rows.slot_tuple_getitem ht.typeIs entry_tuple_getitem ?_ (args_tuple_getitem _ _)))
 show wpAny _ _ (Builtin.Tuple.tupleItemsOf _ >>= _) _ _ s;refine c8 (tupleItemsOf_ ht ?_);refine c8 (wpAny_typeOf x ?_);refine c8 (yQ hs pl pu ?_);have y: ¬((((uH items.size 0 lo):Int) == 0&&(1:Int) == 1&&(uH items.size items.size v-uH items.size 0 lo) == items.size)=true):=by
  simp_all
 show wpAny _ _ (if(((uH _ 0 lo):Int) == 0&&(1) == 1&&(uH _ _ v-uH _ 0 lo) == items.size)=true then _ else _) _ _ s;rw[de y,OB]
 first
  |omega
  |exact c8 (aaL (c8 (fg (fg ⟨_,rfl,fg h⟩))) i)
  |rfl
  |rfl
end
end
end HT
namespace Lake
open PySem PySem.Spec PyProof.Rows
noncomputable abbrev TO:=St->Hp->(Option Int->Hp->Prop)->Prop
def PO (X:Cx) (e:Option Expr) (t:TO):Prop:=
 ∀(i:List (Addr×Obj)) (s:Shared) (σ:St) (H:Hp) (Q:Option Int->Hp->Prop),Inv X i σ H s->t σ H Q->
  wpAny (model X.prog X.w) X.A (evalPart e X.env) (fun u v=> ∃o H',Inv X i σ H' v/\IsPart u o/\Q o H') X.xe s
def Kh:TO:=fun _ H Q=>Q none H
def Tb (t:TE):TO:=fun σ H Q=>t σ H fun x v=> ∃i,x = .int i/\Q (some i) v
section
mutual
theorem KI:PO X none Kh:=by
 intro i s σ H Q I h;exact fg ⟨_,H,I,.none,h⟩
theorem uK (h:PE X e te):PO X (some e) (Tb te):=by
 intro v s σ H Q I hw;refine gQ (h _ s σ H _ I hw) fun u s1 x C z y F=>?_;obtain⟨i,rfl,q⟩:=F;obtain⟨t,rfl⟩:=y;exact⟨_,C,z,.int i t,q⟩
def Lw (X:Cx) (r:V->Option Int->Option Int->Hp->VK->Prop):Prop:=
 ∀(i:List (Addr×Obj)) (s:Shared) (σ:St) (H:Hp) (x:V) (v y z:Value) (lo C:Option Int) (sl:Addr) (Q:VK),Inv X i σ H s->RelV x v->s.heap.IsSliceOf sl y z .none->IsPart y lo->IsPart z C->r x lo C H Q->
  ∃T id,typeLookup (.type T) "__getitem__" = pure (some (.builtin id))/\s.TypeIs v T/\wpAny (model X.prog X.w) X.A (getItem v (.ref sl)) (EP X i σ Q) X.xe s
theorem Lw.or (h:Lw X r) (G:Lw X r'):Lw X (fun x lo i H Q=>r x lo i H Q\/r' x lo i H Q):=by
 intro F s σ H x v z y lo i sl Q I C hs pl pu q;rcases q with q|q
 ·exact h _ s σ H x v z y lo i sl Q I C hs pl pu q
 ·exact G _ s σ H x v z y lo i sl Q I C hs pl pu q
def Zc (r:V->Option Int->Option Int->Hp->VK->Prop) (te:TE) (tl v:TO):TE:=fun σ H Q=>te σ H fun x i=>tl σ i fun l z=>v σ z fun u y=>r x l u y Q
theorem xG {X:Cx} {e:Expr} {te:TE} {lo z:Option Expr} {tl F:TO} {pos p2:Pos} {r:V->Option Int->Option Int->Hp->VK->Prop} (hr:Lw X r) (he:PE X e te) (hl:PO X lo tl) (O:PO X z F):PE X (.Subscript e (.Slice lo z none p2) pos) (Zc r te tl F):=by
 intro G s σ H Q I h;refine Subscript_ (gQ (he _ s σ H _ I h) fun v s1 x H1 I1 Z q1=>?_);refine wpAny_Slice (gQ (hl _ s1 σ H1 _ I1 q1) fun C s2 l H2 I2 pl q2=>gQ (O _ s2 σ H2 _ I2 q2) fun y s3 u i J pu P=>?_);refine fg ?_;have I4:Inv X _ σ i {s3 with heap:=s3.heap.push {cls:= .type "slice",data:= .fields #[C,y,.none]}}:=J.kept fun b ob q=>ej _ q;obtain⟨T,id,U,ht,hg⟩:=hr _ _ σ i x v C y l u _ Q I4 Z (Heap.IsSliceOf.new ..) pl pu P;exact tail_any ht U hg (rfl)
noncomputable def xa (xs:List V) (lo i:Option Int):List V:=(xs.drop (HT.uH xs.length 0 lo)).take (HT.uH xs.length xs.length i-HT.uH xs.length 0 lo)
theorem AJ (xs:List V) (lo i:Option Int):(xa xs lo i).length<=xs.length:=by
 unfold xa;rw[z1,aaM];exact h7 (Nat.min_le_right _ _) (Nat.sub_le _ _)
def Wr (K:W.Frag):V->Option Int->Option Int->Hp->VK->Prop:=fun x lo i H Q=> ∃a xs,x = .ref a/\c6 K H a xs/\
 ¬(HT.uH xs.length 0 lo=0/\HT.uH xs.length xs.length i=xs.length)/\∀p,H p=none->Q (.ref p) (upd H p (.tup (xa xs lo i)))
theorem Uc:Lw X (Wr X.K):=by
 intro y s σ H x v J G lo z sl Q I F hs pl pu h;obtain⟨a,xs,rfl,hx,hw,q⟩:=h;cases F;obtain⟨i,r,ht,C⟩:=I.tuple hx;have hlen:i.toArray.size=xs.length:=by exact r.length.symm
 refine⟨_,_,rfl,ht.typeIs,?_⟩;refine HT.x6 ht hs pl pu (by rw[hlen];exact hw) ?_ (by simp_all);rw[hlen];refine⟨.ref _,_,I.laid (fun b ob q=>ej _ q) (cv _) ?_,rfl,q _ (I.hok.fresh (cv _))⟩;exact⟨h7 (AJ xs lo z) C,_,(r.drop _).take _,IsTup.new _ _⟩
def Ot (K:W.Frag):R2:=fun x y H Q=> ∃a b xs ys,x = .ref a/\y = .ref b/\c6 K H a xs/\c6 K H b ys/\xs≠[]/\xs.length+ys.length<=sizeLine/\
 (ys= []->Q (.ref a) H)/\(ys≠[]->∀p,H p=none->Q (.ref p) (upd H p (.tup (xs++ys))))
theorem Vals.FU (r:Vals xs us):us= []↔xs= []:=by
 cases r<;>simp_all
theorem RM:iH X (binaryOp .Add) (Ot X.K):=by
 intro F s σ H x y v u Q I rx G h;obtain⟨a,b,xs,ys,rfl,rfl,ha,O,hx,U,q1,Z⟩:=h;cases rx;cases G;obtain⟨its,i,J,_⟩:=I.tuple ha;obtain⟨C,r2,P,_⟩:=I.tuple O;refine HT.SJ J P (fun z=>hx (i.FU.mp z)) (fun z=>⟨.ref a,H,I,rfl,q1 (r2.FU.mp z)⟩) (fun z=>?_) (by rw[<-i.length,<-r2.length];exact U);refine⟨.ref _,_,I.laid (fun b ob q=>ej _ q) (cv _) ?_,rfl,Z (fun w=>z (r2.FU.mpr w)) _ (I.hok.fresh (cv _))⟩;exact⟨by simp_all,_,i.append r2,IsTup.new _ _⟩
end
end
mutual
noncomputable def Qo (n:Nat) (i:Int):Option Nat:=if 0<=i then(if i<n then some i.toNat else none) else if -(n:Int)<=i then some (i+n).toNat else none
noncomputable def kB {α:Type} (xs:List α) (i:Int):Option α:=(Qo xs.length i).bind fun j=>xs[j]?
theorem R_ (h:Qo n i=some j):seqIndex? i n=some j/\j<n/\-(n:Int)<=i/\i<n:=by
 unfold Qo at h;by_cases x:0<=i
 ·rw[dy x] at h;by_cases v:i<n
  ·rw[dy v] at h;have e:=Zz h;exact⟨by rw[seqIndex_of x v,e],by lia,by lia,v⟩
  ·simp_all
 ·rw[de x] at h;by_cases v : -(n)<=i
  ·rw[dy v] at h;have e:=Zz h;exact⟨by rw[seqIndex_neg (by lia) v,e],by lia,v,by lia⟩
  ·simp_all
theorem GI {v:α} (h:kB xs i=some v):∃j,seqIndex? i xs.length=some j/\xs[j]?=some v/\j<xs.length/\-(xs.length:Int)<=i/\i<xs.length:=by
 unfold kB at h;cases e:Qo xs.length i with
 |none=>simp_all
 |some j=>
  rw[e] at h;obtain⟨z,x,y,C⟩:=R_ e;exact⟨j,z,h,x,y,C⟩
theorem SN {j:Nat} {v:α} (h:xs[j]?=some v):kB xs (j:Int)=some v:=by
 have i:=(i4.mp h).1;have e:Qo xs.length (j)=some j:=by
  unfold Qo;rw[dy (by lia),dy (by lia)];simp
 unfold kB;rw[e];exact h
def GL (b:Expr):Prop:= ∀o i,subscripted b false o i=operate [o,i] (getItem o i)
def IF (X:Cx) (r:R2):Prop:=
 ∀(value slice:Expr) (i:List (Addr×Obj)) (s:Shared) (σ:St) (H:Hp) (x y:V) (v u:Value) (Q:VK),Inv X i σ H s->RelV x v->RelV y u->r x y H Q->
  subscripted slice false v u=operate [v,u] (getItem v u)->wpAny (model X.prog X.w) X.A (subscriptTail value slice v u) (EP X i σ Q) X.xe s
def Qi (X:Cx) (id:String) (r:V->List V->Hp->VK->Prop):Prop:=
 ∀(i:List (Addr×Obj)) (s:Shared) (σ:St) (H:Hp) (x:V) (xs:List V) (v:Value) (us:List Value) (Q:VK),Inv X i σ H s->RelV x v->Vals xs us->r x xs H Q->
  wpAny (model X.prog X.w) X.A (call (.builtin id) (v::us)) (EP X i σ Q) X.xe s
end
section
mutual
variable {X:Cx} {o:Expr} {to:TE} {name:Str} {apos cpos:Pos} {T id:String} {r:V->List V->Hp->VK->Prop}
theorem IF.or {r C:R2} (h:IF X r) (G:IF X C):IF X (fun x y H Q=>r x y H Q\/C x y H Q):=by
 intro value slice F s σ H x y v u Q I z i q hs;rcases q with q|q
 ·exact h _ _ _ s σ H x y v u Q I z i q hs
 ·exact G _ _ _ s σ H x y v u Q I z i q hs
theorem Tp {a b:Expr} {i tb:TE} {pos:Pos} {r:R2} (hr:IF X r) (ha:PE X a i) (F:PE X b tb) (hs:GL b):PE X (.Subscript a b pos) (II r i tb):=by
 intro z s σ H Q I h;exact Subscript_ (VS ha F I h fun v u s2 x y O J G C q=>hr a b _ s2 σ O x y v u Q J G C q (hs _ _))
def Wz (K:W.Frag):R2:=fun x y H Q=> ∃p xs i v,x = .ref p/\y = .int i/\bC K H p xs/\kB xs i=some v/\Q v H
def Wx (K:W.Frag):R2:=fun x y H Q=> ∃p xs i v,x = .ref p/\y = .int i/\c6 K H p xs/\kB xs i=some v/\Q v H
def Wy:R2:=fun x y H Q=> ∃z i c,x = .str z/\y = .int i/\z.length<=sizeLine/\kB z.cps.toList i=some c/\Q (.str ⟨#[c]⟩) H
theorem R8:IF X (Wz X.K):=by
 intro value slice U s σ H x y v u Q I rx Z h hs;obtain⟨p,xs,i,z,rfl,rfl,hq,he,q⟩:=h;cases rx;obtain⟨t,rfl⟩:=Z;obtain⟨G,r,pl,hz⟩:=I.list hq;obtain⟨j,C,h2,h3,h4,h5⟩:=GI he;obtain⟨w,P,F⟩:=r.get h2;have hl:=r.length;have hn:=Cq;have fin:EP X _ σ Q w s:=⟨z,H,I,F,q⟩;by_cases O:0<=i
 ·have J:=by
   rw[seqIndex_of O h5] at C;exact Zz C
  exact item_listR pl.isList O (by lia) (by rw[J];simpa using P) fin hs
 ·have J:(i+(G.toArray.size)).toNat=j:=by
   rw[seqIndex_neg (by lia) h4] at C;rw[ny,<-hl];exact Zz C
  exact subscriptTail_builtinR pl.isList.typeIs slot_list_getitem.lookup
   (wpAny_getItem_list_neg pl.isList (by lia) (by simp_all) (by lia) (by rw[J];simpa using P) ⟨rfl,fin⟩) hs
theorem Vf:IF X (Wx X.K):=by
 intro value slice F s σ H x y v u Q I U G h hs;obtain⟨p,xs,i,z,rfl,rfl,J,he,q⟩:=h;cases U;obtain⟨t,rfl⟩:=G;obtain⟨Z,r,pl,hz⟩:=I.tuple J;obtain⟨j,h1,O,h3,h4,h5⟩:=GI he;obtain⟨w,P,C⟩:=r.get O;have hl:=r.length;have hn:=Cq;have fin:EP X _ σ Q w s:=⟨z,H,I,C,q⟩;exact subscriptTail_builtinR pl.typeIs slot_tuple_getitem.lookup
  (getItem_tuple (j:=j) pl (by lia) (by lia) (by simp_all) (by simpa using P) ⟨rfl,fin⟩) hs
theorem Vg:IF X Wy:=by
 intro value slice F s σ H x y v u Q I U G h hs;obtain⟨z,i,c,rfl,rfl,Z,he,q⟩:=h;obtain⟨t,rfl⟩:=U;obtain⟨t',rfl⟩:=G;obtain⟨j,C,P,h3,J,O⟩:=GI he;have hl:z.cps.toList.length=z.length:=rfl;rw[hl] at C J O;have hn:=Cq;exact tail_any (typeIs_str s z t) slot_str_getitem.lookup (getItem_str (by
  lia) (by rw[C];simpa using P) ⟨.str _,H,I.tok _,⟨_,rfl⟩,q⟩) hs
def Zs (K:W.Frag):R2:=fun x y H Q=>Wz K x y H Q\/Wx K x y H Q\/Wy x y H Q
theorem Vh:IF X (Zs X.K):=R8.or (Vf.or Vg)
theorem qqz (i:Int) (n:Nat):max 0 (min (if i<0 then i+n else i) n)=if i<0 then max (i+n) 0 else min i n:=by
 by_cases h:i<0
 ·rw[dy h,dy h,Int.min_eq_left (by omega),Int.max_comm]
 ·rw[de h,de h,Int.max_eq_right (Int.le_min.mpr ⟨Int.not_lt.mp h,Int.natCast_nonneg n⟩)]
theorem E7 (lo v:Option Int) (n:Nat):(sliceBounds lo v none n).1=((HT.uH n 0 lo:Nat):Int)/\(sliceBounds lo v none n).2.1=((HT.uH n n v:Nat):Int)/\(sliceBounds lo v none n).2.2=1:=by
 refine⟨?_,?_,rfl⟩
 ·cases lo with
  |none=>rfl
  |some i=>rw[<-HT.Ll i n 0];simp only[sliceBounds,Option.getD_none,show(1:Int) > 0 by decide,aax];exact qqz i n
 ·cases v with
  |none=>rfl
  |some i=>rw[<-HT.Ll i n n];simp only[sliceBounds,Option.getD_none,show(1:Int) > 0 by decide,aax];exact qqz i n
theorem Di (i:List Value) (lo v:Option Int):slicePick i.toArray lo v none=((i.drop (HT.uH i.length 0 lo)).take (HT.uH i.length i.length v-HT.uH i.length 0 lo)).toArray:=by
 obtain⟨z,x,y⟩:=E7 lo v _;unfold slicePick;rw[z,x,y];simp only[sliceRange_one,pick_run]<;>rfl
def YE (K:W.Frag):V->Option Int->Option Int->Hp->VK->Prop:=fun x lo i H Q=> ∃a xs,x = .ref a/\bC K H a xs/\∀p,H p=none->Q (.ref p) (upd H p (.lst (xa xs lo i)))
theorem QU:Lw X (YE X.K):=by
 intro i s σ H x v J G lo y sl Q I C hs pl pu h;obtain⟨a,xs,rfl,hx,q⟩:=h;cases C;obtain⟨F,r,ht,z⟩:=I.list hx;have hlen:=r.length;refine⟨_,_,rfl,ht.isList.typeIs,?_⟩;refine wpAny_getItem_list_slice ht.isList hs pl pu .none (by simp) ?_ (by simp_all);rw[Di,<-hlen];refine⟨.ref _,_,I.laid (fun b ob q=>ej _ q) (cv _) ?_,rfl,q _ (I.hok.fresh (cv _))⟩;exact⟨h7 (AJ xs lo y) z,_,0,(r.drop _).take _,ke _ rfl⟩
noncomputable def rY:V->Bool
 | .non=>true
 | .bl _=>true
 | .int _=>true
 | .str _=>true
 |_=>false
noncomputable def Sv:V->V->Bool
 | .non,.non=>true
 | .bl a,.bl b=>a == b
 | .bl a,.int b=>(if a then 1 else 0) == b
 | .int a,.bl b=>a == (if b then 1 else 0)
 | .int a,.int b=>a == b
 | .str a,.str b=>a == b
 |_,_=>false
theorem VF (z:RelV y u) (i:RelV x v) (F:rY y=true) (C:rY x=true):SeqAt.EqAt A s u v (Sv y x):=by
 cases y with
 |non=>
  cases z;cases x with
  |non=>cases i;exact SeqAt.EqAt.same _
  |bl b=>cases i;exact SeqAt.EqAt.none_bool b
  |int b=>obtain⟨t,rfl⟩:=i;exact SeqAt.EqAt.none_int b t
  |str b=>obtain⟨t,rfl⟩:=i;exact SeqAt.EqAt.none_str b t
  |_=>trivial
 |bl a=>
  cases z;cases x with
  |non=>cases i;exact SeqAt.EqAt.bool_none a
  |bl b=>cases i;exact SeqAt.EqAt.bool_bool a b
  |int b=>obtain⟨t,rfl⟩:=i;exact SeqAt.EqAt.bool_int a b t
  |str b=>obtain⟨t,rfl⟩:=i;exact SeqAt.EqAt.bool_str a b t
  |_=>trivial
 |int a=>
  obtain⟨t',rfl⟩:=z;cases x with
  |non=>cases i;exact SeqAt.EqAt.int_none a t'
  |bl b=>cases i;exact SeqAt.EqAt.int_bool a t' b
  |int b=>obtain⟨t,rfl⟩:=i;exact SeqAt.EqAt.int_int a t' b t
  |str b=>obtain⟨t,rfl⟩:=i;exact SeqAt.EqAt.int_str a t' b t
  |_=>trivial
 |str a=>
  obtain⟨t',rfl⟩:=z;cases x with
  |non=>cases i;exact SeqAt.EqAt.str_none a t'
  |bl b=>cases i;exact SeqAt.EqAt.str_bool a t' b
  |int b=>obtain⟨t,rfl⟩:=i;exact SeqAt.EqAt.str_int a t' b t
  |str b=>obtain⟨t,rfl⟩:=i;exact SeqAt.EqAt.str_str a t' b t
  |_=>trivial
 |_=>trivial
noncomputable def XH (x:V) (u:Value):Bool:=match u with
 | .none=>Sv .non x
 | .bool b=>Sv (.bl b) x
 | .int i _=>Sv (.int i) x
 | .str z _=>Sv (.str z) x
 |_=>false
theorem PD (r:RelV y u) (f:rY y=true):XH x u=Sv y x:=by
 cases y with
 |non=>cases r;rfl
 |bl b=>cases r;rfl
 |int i=>obtain⟨t,rfl⟩:=r;rfl
 |str z=>obtain⟨t,rfl⟩:=r;rfl
 |_=>trivial
theorem GJ:∀{xs:List V} {us:List Value},Vals xs us->xs.all rY=true->us.any (XH x)=xs.any fun y=>Sv y x
 |_,_,.nil,_=>rfl
 |y::xs,u::us,.cons r t,f=>by
  rw[List.all_cons,fx] at f;rw[ZD,ZD,PD r f.1,GJ t f.2]
theorem Co (z:RelV x v) (C:rY x=true):∀{xs:List V} {us:List Value},Vals xs us->xs.all rY=true->∀u∈us,SeqAt.EqAt A s u v (XH x u)
 |_,_,.nil,_=>fun u i=>by cases i
 |y::xs,u::us,.cons r t,f=>fun F i=>by
  rw[List.all_cons,fx] at f;rcases fy.mp i with rfl|i
  ·rw[PD r f.1];exact VF r z f.1 C
  ·exact Co z C t f.2 F i
noncomputable def Du (x:V) (xs:List V):Bool:=xs.any fun y=>Sv y x
def Zt (K:W.Frag) (neg:Bool):R2:=fun x y H Q=> ∃p xs,y = .ref p/\(bC K H p xs\/c6 K H p xs)/\rY x=true/\xs.all rY=true/\Q (.bl (if neg then !Du x xs else Du x xs)) H
theorem My:iH X (compareOp .In) (Zt X.K false):=by
 intro G s σ H x y v u Q I F J h;obtain⟨p,xs,rfl,z,C,fs,q⟩:=h;cases J;rcases z with z|z
 ·obtain⟨i,r,pl,O⟩:=I.list z;refine SeqAt.in_listAt _ pl.isList (fun w hw=>Co F C r fs w (by simp_all)) ⟨.bl _,H,I,rfl,?_⟩;rw[show i.toArray.any _=i.any (XH x) by simp,GJ r fs];exact q
 ·obtain⟨i,r,pl,O⟩:=I.tuple z;refine SeqAt.in_tupleAt _ pl (fun w hw=>Co F C r fs w (by simp_all)) ⟨.bl _,H,I,rfl,?_⟩;rw[show i.toArray.any _=i.any (XH x) by simp,GJ r fs];exact q
theorem GA:bT X (.builtin "len") (fun xs H Q=> ∃p ys,xs= [.ref p]/\(bC X.K H p ys\/c6 X.K H p ys)/\Q (.int ys.length) H):=by
 intro y s σ H xs us Q I r h;obtain⟨p,ys,rfl,i,q⟩:=h;obtain⟨u,rfl,C⟩:=vals1 r;cases C;have hn:=Cq;rcases i with i|i
 ·obtain⟨x,v,pl,z⟩:=I.list i;have hlen:=v.length;exact Calls.call_len_list pl.isList (by simp only[ny]<;>lia) ⟨.int _,H,I.tok _,⟨s.toks+1,by simp_all⟩,q⟩
 ·obtain⟨x,v,pl,z⟩:=I.tuple i;have hlen:=v.length;exact len_tuple pl (by simp only[ny]<;>lia) ⟨.int _,H,I.tok _,⟨s.toks+1,by simp_all⟩,q⟩
theorem Gz:bT X (.builtin "len") (fun xs H Q=> ∃z,xs= [.str z]/\z.length<=sizeLine/\Q (.int z.length) H):=by
 intro i s σ H xs us Q I r h;obtain⟨z,rfl,v,q⟩:=h;obtain⟨u,rfl,t,rfl⟩:=vals1 r;have hn:=Cq;exact len_str (by lia) ⟨.int _,H,I.tok _,⟨_,rfl⟩,q⟩
theorem bT.or {f:Value} {r v:List V->Hp->VK->Prop} (h:bT X f r) (x:bT X f v):bT X f (fun xs H Q=>r xs H Q\/v xs H Q):=by
 intro i s σ H xs us Q I rs q;rcases q with q|q
 ·exact h _ s σ H xs us Q I rs q
 ·exact x _ s σ H xs us Q I rs q
theorem Gy:bT X (.type "list") (fun xs H Q=> ∃p ys,xs= [.ref p]/\(bC X.K H p ys\/c6 X.K H p ys)/\∀l,H l=none->Q (.ref l) (upd H l (.lst ys))):=by
 intro G s σ H xs us Q I r h;obtain⟨p,ys,rfl,z,q⟩:=h;obtain⟨u,rfl,J⟩:=vals1 r;cases J;have fin:∀i,Vals ys i->ys.length<=sizeLine->∀v y,(∀b F,s.heap.get? b=some F->v.get? b=some F)->
   v.get? s.heap.objs.size=some _->EP X _ σ Q _ {s with heap:=v}:=fun i x C v y kp e=>
  ⟨.ref _,_,I.laid kp (cv _) (show dZ _ _ _ v _ (.lst ys) from⟨C,i,y,x,e⟩),rfl,q _ (I.hok.fresh (cv _))⟩
 rcases z with z|z
 ·obtain⟨i,x,pl,C⟩:=I.list z;have hlen:=x.length;obtain⟨o,ho,hc,n,hd⟩:=pl.isList;exact call_list_seq p (.inl rfl) ho hc hd (fun v y kp e=>fin _ x C v y kp e) (by simp_all)
 ·obtain⟨i,x,pl,C⟩:=I.tuple z;have hlen:=x.length;obtain⟨o,ho,hc,n,hd⟩:=pl;exact call_list_seq p (.inr rfl) ho hc hd (fun v y kp e=>fin _ x C v y kp e) (by simp_all)
theorem DP:bT X (.type "tuple") (fun xs H Q=> ∃p ys,xs= [.ref p]/\((bC X.K H p ys/\∀l,H l=none->Q (.ref l) (upd H l (.tup ys)))\/(c6 X.K H p ys/\Q (.ref p) H))):=by
 intro C s σ H xs us Q I r h;obtain⟨p,ys,rfl,h⟩:=h;obtain⟨u,rfl,F⟩:=vals1 r;cases F;rcases h with⟨v,q⟩|⟨v,q⟩
 ·obtain⟨i,x,pl,y⟩:=I.list v;have hlen:=x.length;refine call_tuple_list pl.isList (fun J kp=>?_) (by simp_all);have z:=I.kept (t':=s.toks) kp;have G:=
   z.laid (t':=s.toks) (fun b o e=>ej _ e) (cv _) (show dZ _ _ _ _ _ (.tup ys) from⟨y,i,x,IsTup.new _ _⟩)
  exact⟨.ref _,_,G,rfl,q _ (z.hok.fresh (cv _))⟩
 ·obtain⟨i,x,pl,y⟩:=I.tuple v;exact call_tuple_same pl ⟨.ref p,H,I,rfl,q⟩
def TZ (K:W.Frag) (T:String) (x:V) (H:Hp):Prop:=match x with
 | .str _=>T = "str"
 | .int _=>T = "int"
 |
   .ref p=>(T = "list" /\∃xs,bC K H p xs)\/(T = "tuple" /\∃o,K.lookup p=some o/\o.cls = .type "tuple" /\o.dict=none)\/
   (T = "dict" /\((∃i,H p=some (.dK i))\/∃i,H p=some (.dT i)))\/(T = "set" /\∃S n,H p=some (.set S n))
 |_=>False
theorem NH (I:Inv X pins σ H s) (r:RelV x v) (ty:TZ X.K T x H):
  s.TypeIs v T/\∀a,v = .ref a->∃ob,s.heap.get? a=some ob/\ob.dict=none:=by
 cases x with
 |str z=>
  obtain⟨t,rfl⟩:=r;cases((ty));exact⟨rfl,fun _ e=>nomatch e⟩
 |int i=>
  obtain⟨t,rfl⟩:=r;cases((ty));exact⟨rfl,fun _ e=>nomatch e⟩
 |ref p=>
  cases r;rcases ty with⟨rfl,xs,C⟩|⟨rfl,o,hk,hc,hd⟩|⟨rfl,hk⟩|⟨rfl,S,n,hk⟩
  ·obtain⟨F,_,pl,_⟩:=I.list C;refine⟨pl.isList.typeIs,fun a e=>?_⟩;cases e;obtain⟨o,n,e,c,hd,_⟩:=pl;exact⟨o,e,hd⟩
  ·refine⟨⟨o,I.nO p o hk,hc⟩,fun a e=>?_⟩;cases e;exact⟨o,I.nO _ o hk,hd⟩
  ·have z:∃o,s.heap.get? p=some o/\o.ExactDict:=by
    rcases hk with⟨y,hk⟩|⟨y,hk⟩
    ·obtain⟨_,_,_,_,o,_,_,e,ex,_⟩:=I.hok p _ hk;exact⟨o,e,ex⟩
    ·obtain⟨_,_,_,_,o,_,_,e,ex,_⟩:=I.hok p _ hk;exact⟨o,e,ex⟩
   obtain⟨o,e,ex⟩:=z;refine⟨⟨o,e,ex.1⟩,fun a e2=>?_⟩;cases e2;exact⟨o,e,ex.2.1⟩
  ·obtain⟨o,_,_,_,e,ex,_⟩:=I.hok p _ hk;refine⟨⟨o,e,ex.1⟩,fun a e2=>?_⟩;cases e2;exact⟨o,e,ex.2.1⟩
 |_=>trivial
def QQ (K:W.Frag) (T:String) (r:V->List V->Hp->VK->Prop) (to:TE):TE:=fun σ H Q=>to σ H fun x i=>TZ K T x i/\r x [] i Q
def Wk (K:W.Frag) (T:String) (r:V->List V->Hp->VK->Prop) (to:TE) (t:TA):TE:=fun σ H Q=>to σ H fun x i=>TZ K T x i/\t σ i fun xs v=>r x xs v Q
theorem OI (pa:PlainAttrs T) (slot:Slot T name id) (z:typeOf (.builtin id)=pure (.type "method_descriptor")) (hm:Qi X id r) (ho:PE X o to)
  (i:autoParam (attributeBase o name X.env (eval o X.env)=eval o X.env) qqr) (y:autoParam ((apos.endLine == cpos.line)=true) qqr):PE X (.Call (.Attribute o name apos) [] [] cpos) (QQ X.K T r to):=by
 intro G s σ H Q I h;refine wpAny_Call_method0_late i y (thn (ho _ s σ H _ I h) fun v s1 ⟨x,P,F,C,ty,U⟩=>?_);obtain⟨J,O⟩:=NH F C ty;exact⟨T,id,pa,slot,z,J,O,Calls.callWith_builtin rfl (PySem.evalArgs_none (hm _ s1 σ P x [] v [] Q F C .nil U))⟩
theorem Ho {e:Expr} {es:List Expr} {t:TA} (pa:PlainAttrs T) (slot:Slot T name id) (C:typeOf (.builtin id)=pure (.type "method_descriptor")) (hm:Qi X id r) (ho:PE X o to) (ha:PA X (e::es) t)
  (i:autoParam (attributeBase o name X.env (eval o X.env)=eval o X.env) qqr)
  (
   hfew:((backTo cpos (starEach (e::es) X.env)).all (fun x=>!x.1)&&(backToKw cpos (keywordEach [] X.env)).all (fun x=>x.1.isSome)
   &&decide ((e::es).length+([]:List Keyword).length+(if([]:List Keyword).isEmpty then 0 else 1)<30))=true:=by rfl)
  (y:autoParam ((apos.endLine == cpos.line)=true) qqr) (hs:autoParam (starEach (e::es) X.env=(false,eval e X.env)::starEach es X.env) qqr) (z:autoParam ((backTo cpos (starEach es X.env)).any (·.1)=false) qqr):
  PE X (.Call (.Attribute o name apos) (e::es) [] cpos) (Wk X.K T r to t):=by
 intro O s σ H Q I h;refine wpAny_Call_method_late i hfew y rfl (thn (ho _ s σ H _ I h) fun v s1 ⟨x,H1,J,F,ty,q1⟩=>?_);obtain⟨P,U⟩:=NH J F ty;refine⟨T,id,pa,slot,C,P,U,?_⟩;have G:=ha cpos _ s1 σ H1 _ J q1;rw[hs] at G⊢;refine Calls.callWith_builtin (‹_›) (Calls.evalArgs_plain ?_);exact thn G fun us s2 ⟨vs,Z,I2,r2,q2⟩=>hm _ s2 σ Z x vs v us Q I2 F r2 q2
end
end
def Y8 (X:Cx) (id:String) (r:V->List V->Hp->VK->Prop):Prop:=
 ∀(i:List (Addr×Obj)) (s:Shared) (σ:St) (H:Hp) (x:V) (xs:List V) (v:Value) (us:List Value) (Q:VK),Inv X i σ H s->RelV x v->Vals xs us->r x xs H Q->
  wpAny (model X.prog X.w) X.A (call (.builtin id) (v::us)) (EP X i σ Q) X.xe s
theorem Vals.one:∀{x:V} {us:List Value},Vals [x] us->∃u,us= [u]/\RelV x u
 |_,_,.cons r .nil=>⟨_,rfl,r⟩
theorem Vals.zero:∀{us:List Value},Vals [] us->us= []
 |_,.nil=>rfl
section
theorem Inv.lset {i:List Value} (I:Inv X pins σ H s) (C:H l=some (.lst xs)) (e:s.heap.get? l=some {cls:= .type "list",data:= .seq i.toArray n}) (hf:f i.toArray=its'.toArray) (z:Vals ys its') (y:ys.length<=sizeLine):
  Inv X pins σ (upd H l (.lst ys)) {s with heap:=s.heap.update l (Obj.mapSeq f),toks:=t'}:=by
 have q:=PySem.IsL.update e f;rw[hf] at q;refine I.write (by rw[C];exact trivial) (.inl rfl) (fun F u x v=>(n8 _ _ (L3 x)).trans v) ⟨_,q⟩ ?_;exact⟨y,_,_,z,q⟩
theorem Inv.lnew (I:Inv X pins σ H s) (x:Vals ys i) (v:ys.length<=sizeLine):
  Inv X pins σ (upd H s.heap.objs.size (.lst ys)) {s with heap:=s.heap.push {cls:= .type "list",data:= .seq i.toArray},toks:=t'}:=
 I.laid (fun _ _ q=>ej _ q) (cv _) ⟨v,i,0,x,ke _ rfl⟩
theorem Inv.fresh (I:Inv X pins σ H s):H s.heap.objs.size=none:=I.hok.fresh (cv _)
theorem Inv.MN (I:Inv X pins σ H s) (v:H l=some (.lst xs)):xs.length<=sizeLine/\∃(i:List Value) (n:Nat),Vals xs i/\xs.length=i.length/\s.heap.get? l=some {cls:= .type "list",data:= .seq i.toArray n}:=by
 obtain⟨z,i,n,r,e⟩:=I.hok l _ v;exact⟨z,i,n,r,r.length,e⟩
theorem OT (h:n<=sizeLine):Builtin.List.listTooLong n=false:=by
 exact gk (by lia)
end
section
mutual
def Rh:V->List V->Hp->VK->Prop:=fun x vs H Q=> ∃l xs y,x = .ref l/\vs= [y]/\H l=some (.lst xs)/\xs.length<sizeLine/\Q .non (upd H l (.lst (xs++ [y])))
theorem MI:Y8 X "list.append" Rh:=by
 intro C s σ H x vs v us Q I O G h;obtain⟨l,xs,y,rfl,rfl,i,U,q⟩:=h;cases O;obtain⟨u,rfl,J⟩:=G.one;obtain⟨z,P,n,r,hl,e⟩:=I.MN i;refine call_meets F.slot_list_append ⟨_,e,rfl⟩ F.entry_list_append (F.args_list_append_2 _ _) (PySem.list_append l _ n u (by simp_all)) ⟨e,?_⟩;refine⟨.non,_,I.lset i e (by simp) (r.append (.cons J .nil)) ?_,rfl,q⟩;rw[ib,ZU];lia
def Rc:V->List V->Hp->VK->Prop:=fun x vs H Q=> ∃l b xs zs,x = .ref l/\vs= [.ref b]/\H l=some (.lst xs)/\H b=some (.lst zs)/\xs.length+zs.length<=sizeLine/\Q .non (upd H l (.lst (xs++zs)))
theorem zm:Y8 X "list.extend" Rc:=by
 intro J s σ H x vs v us Q I rx P h;obtain⟨l,b,xs,zs,rfl,rfl,G,hB,hz,q⟩:=h;cases rx;obtain⟨u,rfl,Z⟩:=P.one;cases Z;obtain⟨z,C,n,r,hl,e⟩:=I.MN G;obtain⟨z2,i,O,r2,U,e2⟩:=I.MN hB;have hsz:C.toArray.size+i.toArray.size<=sizeLine:=by simp_all
 have y: ¬(!C.toArray.isEmpty&&Builtin.List.listTooLong (C.toArray.size+i.toArray.size))=true:=by
  rw[OT hsz,Bool.and_false];exact Z4
 refine call_meets F.slot_list_extend ⟨_,e,rfl⟩ F.entry_list_extend (F.args_list_extend_2 _ _)
  (AutoSeq1.list_extend_list_list_0 l _ n b _ O y (by simp_all) (by lia)) ⟨e,e2,?_⟩
 refine⟨.non,_,I.lset G e (by simp) (r.append r2) ?_,rfl,q⟩;rw[ib];lia
def Ur:V->List V->Hp->VK->Prop:=fun x vs H Q=> ∃l xs,x = .ref l/\vs= []/\H l=some (.lst xs)/\Q .non (upd H l (.lst []))
theorem OZ:Y8 X "list.clear" Ur:=by
 intro G s σ H x vs v us Q I O J h;obtain⟨l,xs,rfl,rfl,C,q⟩:=h;cases O;have i:=J.zero;subst i;obtain⟨z,y,n,r,hl,e⟩:=I.MN C;refine call_meets F.slot_list_clear ⟨_,e,rfl⟩ F.entry_list_clear (F.args_list_clear_1 _) (AutoSeq1.list_clear_list_0 l y.toArray n (by rw[ny];lia)) ⟨e,?_⟩;exact⟨.non,_,I.lset (its':=[]) (ys:=[]) C e rfl .nil (lp _),rfl,q⟩
def Us:R2:=fun x y H Q=> ∃l b xs zs,x = .ref l/\y = .ref b/\H l=some (.lst xs)/\H b=some (.lst zs)/\xs.length+zs.length<=sizeLine/\∀p,H p=none->Q (.ref p) (upd H p (.lst (xs++zs)))
theorem US:iH X (binaryOp .Add) Us:=by
 intro F s σ H x y v u Q I Z G h;obtain⟨l,b,xs,zs,rfl,rfl,O,hB,hz,q⟩:=h;cases Z;cases G;obtain⟨z,C,n,r,hl,e⟩:=I.MN O;obtain⟨z2,i,n2,r2,U,e2⟩:=I.MN hB;refine PySem.P.add_list e e2 ?_ (by simp_all);have J:C.toArray++i.toArray=(C++i).toArray:=by simp
 rw[J];exact⟨.ref _,_,I.lnew (r.append r2) (by simp_all),rfl,q _ I.fresh⟩
end
end
end Lake
namespace Att
open PySem PySem.W PySem.Calls PyProof.Rows
theorem Bf:∀(ns:List Int) (vs:List Value),WellAll P h vs (ns.map WData.int)->IntsAre vs ns:=by
 intro ns
 induction ns with
 |nil=>
  intro vs w;cases w;exact .nil
 |cons n ns i=>
  intro vs w;cases w with
  |cons a b=>
   cases a;exact .cons _ _ (i _ b)
theorem LR {l:OpenLaw} {vals:List Value} (hn:l.most=some n) (i:l.row.toRowW.claim.pre args=true) (y:WellAll P h vals args):
  ∃a vs ns,vals= [Value.ref a]/\args= [WData.list (ns.map WData.int)]/\h.get? a=some {cls:= .type "list",data:= .seq vs.toArray}/\IntsAre vs ns/\ns.length<=n:=by
 have z:=(pre_splitW i).1;have hc:=(pre_splitW i).2;obtain⟨d,r,rfl,C,F⟩:=hasAllW_cons z;obtain rfl:=hasAllW_nil F;obtain⟨xs,rfl,I⟩:=hasW_list C;obtain⟨ns,rfl⟩:=items_int I;have hlen:ns.length<=n:=by
  have x:=by
   have x:=(holds_andW hc).1;rw[hn] at x;exact x
  have J:=condW_of x (w_not (w_lt w_lit (w_len_list (w_arg rfl))))
  first
   |simp_all
   |simp_all
 cases y with
 |cons G w2=>
  cases w2;cases G with
  |list ho v=>exact⟨_,_,ns,rfl,rfl,ho,Bf ns _ v,hlen⟩
theorem Mq (l:OpenLaw) (args:List WData):l.row.toRowW.claim.post args (.bool true) args=true:=
 postW_of
  ((rfl))
  ((w_eq_bool (w_res rfl) w_lit)) rfl
theorem IB {l:OpenLaw} (hn:l.most=some n) (J:d.params.defaults= []) (call:∀(w:World) (s₀ i:Shared) (mg F:Str->Option Value) (fa:Addr) (o:Obj) (pm cd doc:Value) (a:Addr) (vs:List Value) (ns:List Int),
   Ground q loose [] XP w s₀ mg F i.heap->YP w i.heap->
   i.heap.get? fa=some o->o.data = .func (docDef d.name d.params d.body d.scope pm cd doc)->i.heap.CodeRec cd d.name->mg d.name=some (.ref fa)->
   i.heap.get? a=some {cls:= .type "list",data:= .seq vs.toArray}->IntsAre vs ns->ns.length<=n->i.gens = #[]->
   codeAny (model l.prog w) callerA (.call (.ref fa) ⟨[.ref a],[]⟩) (fun r y=>r = .ok (.ret (.bool true))/\OldK i.heap y.heap/\y.os=i.os/\AllBare y.gens) i):
  WalkO q loose XP YP l.row.toRowW d [] (fun f vs=>PySem.call f vs):=by
 intro w s₀ i mg F G Y fa o pm cd doc dV kV ho hd I hD C hg args vals as x O hrd z P;obtain rfl:dV = .none:=Dflts.none hD J;obtain rfl:kV = .none:=Dflts.noKw hD;obtain⟨a,vs,ns,rfl,rfl,v,hints,hlen⟩:=LR hn x z;refine enter_call (aaE (call w _ _ mg F fa o pm cd _ a vs ns G Y ho (fd_plain hd) I C v hints hlen hg) fun r y U=>?_);obtain⟨rfl,X,Z,Q⟩:=U;exact⟨.inl ⟨_,_,[],rfl,fun _=>rfl,.bool _,Mq l _,fun _=>⟨List.Pairwise.nil,fun _ hm=>(nomatch hm)⟩⟩,X,Z,Q⟩
end Att
namespace Lake
open PySem PySem.Spec PyProof.Rows
theorem DY:∀{vs:List Value} {ns:List Int},IntsAre vs ns->Vals (ns.map V.int) vs
 |_,_,.nil=> .nil
 |_,_,.cons n t h=> .cons ⟨t,rfl⟩ (DY h)
def Qh (H:Hp):Prop:= ∀b,H b=none\/∃o xs,H b=some (.frz o (.lst xs))
theorem O8 {K:W.Frag} (KX:K.In s₁.heap) (J:s₁.heap.Ns mainGlobals mg) (I:s₁.heap.Ns builtinsNs mb) (Z:∀x:Str,x≠ "__name__" ->mb x=bootBuiltins x) (Q:s₁.heap.NoLimit) (hg:s₁.gens = #[]) (ha:s₁.heap.get? a=some {cls:= .type "list",data:= .seq vs.toArray}) (hi:IntsAre vs ns) (hl:ns.length<=sizeLine) (hr:dC k callerA) (F:∀base:Heap,K.In base->base.Ns mainGlobals mg->yH P w K mg base CX k fa fd [x] sp) (G:∀(s:Shared) (u:Value),BindsTo s fd ⟨[u],[]⟩ [(x,u)]) (hsp:∀H:Hp,Qh H->bC K H a (ns.map V.int)->sp [.ref a] H (fun v _=>v = .bl true) fun _ _ _=>False) (hCX:∀H e y,CX [] H s₁ (fun _ _ _=>False) e y->False):
  codeAny (model P w) callerA (.call (.ref fa) ⟨[.ref a],[]⟩) (fun r y=>r = .ok (.ret (.bool true))/\OldK s₁.heap y.heap/\y.os=s₁.os/\AllBare y.gens) s₁:=by
 have rv:=DY hi;have lenV:=hi.length
 have core:∀H,Qh H->bC K H a (ns.map V.int)->xi P w H s₁.heap->(∀b,H b≠none->b=a)->(H a≠none->K.lookup a=none)->
   codeAny (model P w) callerA (.call (.ref fa) ⟨[.ref a],[]⟩) (fun r y=>r = .ok (.ret (.bool true))/\OldK s₁.heap y.heap/\y.os=s₁.os/\AllBare y.gens) s₁:=by
  intro H hO hS hok hA hK;have i:∀{b:Addr} {o:Obj},s₁.heap.get? b=some o->H b=none->(M_ _ H).get? b=some o:=fun e n=>Pj e n;have noA:∀{b:Addr} {o:Obj} {es:Array _} {X:Nat},s₁.heap.get? b=some o->o.data = .dict es X->H b=none:=fun{b o es X} e d=>by
   grind
  have C:∀{b:Addr} {m:Str->Option _},s₁.heap.Ns b m->(M_ _ H).Ns b m:=fun{b m} ⟨o,es,X,e,d,r⟩=>⟨o,es,X,i e (noA e d),d,r⟩;have O:=fun b o e=>i (KX b o e) (by
   grind)
  have hM:Mod K mg _:=⟨O,C J,⟨mb,C I,Z⟩,let ⟨mc,h1,h2⟩:=Q;⟨mc,C h1,h2⟩⟩;have e0:Kf P w K mg _ callerA [] _ H:=⟨rfl,hM,fun b o e=>RU e,Nat.le_of_eq (M9 _ _),trivial,fun b I=>absurd (show b∈([]) from I) (by simp),hok,.of_eq hg⟩;refine aaE ((F _ O (C J)).run _ [] _ H _ [.ref a] [.ref a] _ _ hr e0 (G _ _) (.cons rfl .nil) (hsp H hO hS)) fun r y h=>?_;cases r with
  |error e=>exact(hCX H e y h).elim
  |ok fl=>
   cases fl with
   |next=>trivial
   |brk=>trivial
   |cont=>trivial
   |ret u=>
    obtain⟨v,H',os,bare,un,U,r',q⟩:=h;have q':=q;subst q';obtain rfl:u=Value.bool _:=r';refine⟨rfl,OldK.of_keep fun b o e=>?_,os,bare⟩;cases q:H b with
    |none=>exact un.keep b o e q (by intro z;exact absurd (show b∈([]) from z) (by simp)) (by simp)
    |some u=>
     rcases hO b with z|⟨ob,xs,z⟩
     ·simp_all
     ·have z2:=un.frzs b ob _ z;obtain⟨e1,_⟩:=hok b _ z;obtain⟨e2,_⟩:=U b _ z2;rw[e] at e1;cases e1;exact e2
 cases hk:K.lookup a with
 |some o=>
  have e:=KX a o hk;rw[ha] at e;cases e;refine core _ (fun _=> .inl rfl) (.inr ⟨_,_,_,hk,rfl,rfl,rfl,by simp_all,by trivial⟩) (fun b u z=>by trivial) (fun b z=>absurd rfl z) fun z=>absurd rfl z
 |none=>
  refine core (fun b=>if b=a then some _ else none) (fun b=>?_) (.inl (.inr ⟨{cls:= .type "list",data:= .seq vs.toArray},dy rfl⟩)) (fun b u z=>?_) (fun b z=>?_) fun _=>hk
  ·grind
  ·by_cases I:b=a
   ·have z':=(dy I).symm.trans z;cases z';subst I;exact⟨ha,by simp_all,vs,_,rv,ha⟩
   ·simp_all
  ·simp_all
theorem QB {l:W.OpenLaw} {K:Params->W.Frag} {CX:World->IL} {sp:World->Sp} (hn:l.most=some n) (J:n<=sizeLine) (P:d.params.defaults= []) (hr:dC k callerA) (hY:∀(w:World) (h:Heap),YP w h->(K w.params).In h) (F:∀(w:World) (mg:Str->Option Value) (fa:Addr) (h:Heap),(K w.params).In h->h.Ns mainGlobals mg->mg d.name=some (.ref fa)->
   ∃O:FuncData,(∀(s:Shared) (u:Value),BindsTo s O ⟨[u],[]⟩ [(x,u)])/\
    ∀base:Heap,(K w.params).In base->base.Ns mainGlobals mg->yH l.prog w (K w.params) mg base (CX w) k fa O [x] (sp w)) (y:∀(w:World) (H:Hp) (a:Addr) (ns:List Int),ns.length<=n->Qh H->bC (K w.params) H a (ns.map V.int)->sp w [.ref a] H (fun v _=>v = .bl true) fun _ _ _=>False) (z:∀(w:World) (H:Hp) (s:Shared) (e:Value) (C:Shared),CX w [] H s (fun _ _ _=>False) e C->False):
  W.WalkO q loose XP YP l.row.toRowW d [] (fun f vs=>PySem.call f vs):=by
 refine Att.IB hn P fun w s₀ U mg mb fa o pm cd doc a vs ns G Y ho hd hcd I i hints hlen hg=>?_;have Q:=hY w _ Y;obtain⟨O,Z,hF⟩:=F w mg fa _ Q G.T.g I;exact O8 Q G.T.g G.T.b G.T.builtins G.T.nolimit hg i hints (h7 hlen J) hr hF Z (fun H X hS=>y w H a ns hlen X hS) fun H e C=>z w H _ e C
theorem NB {l:W.OpenLaw} {K:Params->W.Frag} {sp:W.Frag->Sp} (hn:l.most=some n) (C:n<=sizeLine) (G:d.params.defaults= []) (hr:dC k callerA) (Q:∀(w:World) (h:Heap),YP w h->(K w.params).In h) (F:∀(w:World) (mg:Str->Option Value) (fa:Addr) (h:Heap),(K w.params).In h->h.Ns mainGlobals mg->mg d.name=some (.ref fa)->
   ∃I:FuncData,(∀(s:Shared) (u:Value),BindsTo s I ⟨[u],[]⟩ [(x,u)])/\
    ∀base:Heap,(K w.params).In base->base.Ns mainGlobals mg->yH l.prog w (K w.params) mg base CX k fa I [x] (sp (K w.params))) (i:∀(K:W.Frag) (H:Hp) (a:Addr) (ns:List Int),ns.length<=n->Qh H->bC K H a (ns.map V.int)->sp K [.ref a] H (fun v _=>v = .bl true) fun _ _ _=>False) (y:∀(H:Hp) (s:Shared) (e:Value) (z:Shared),CX [] H s (fun _ _ _=>False) e z->False):
  W.WalkO q loose XP YP l.row.toRowW d [] (fun f vs=>PySem.call f vs):=
 QB hn C G hr Q F (fun w H a ns J O P=>i _ H a ns J O P) fun _ H s e z=>y H s e z
end Lake
namespace Lake
mutual
open PySem PySem.Spec PyProof.Rows
noncomputable def inClass (s:Stmt) (j:Nat):Stmt:=match s with
 | .ClassDef _ _ _ body _ _ _ _ _ _ _=>body.getD j (.Pass ⟨0,0,0,0⟩)
 |_=> .Pass ⟨0,0,0,0⟩
noncomputable def fH (s:Stmt):Arguments:=match s with
 | .FunctionDef _ a _ _ _ _ _ _ _ _=>a
 |_=>{posonlyargs:=[],args:=[],vararg:=none,kwonlyargs:=[],kw_defaults:=[],kwarg:=none,defaults:=[]}
noncomputable def dB (s:Stmt):List Stmt:=match s with
 | .FunctionDef _ _ b _ _ _ _ _ _ _=>b
 |_=>[]
noncomputable def a9 (s:Stmt):Scope:=match s with
 | .FunctionDef _ _ _ _ _ _ sc _ _ _=>sc
 |_=>{kind:= .function,names:=[],isGenerator:=false,isCoroutine:=false}
abbrev Wd:IL:=fun _ _ _ _ _ _=>False
abbrev E0:XK:=fun _ _ _=>False
theorem WG:Passes Wd X E0:=fun _ _ _ _ _ _ _ h=>h.elim
structure Yh (K:W.Frag) (x qual:Str) (st:Stmt) (f:Addr) (fd:FuncData):Prop where
 ex:∃(oc:Value) (od:Option Addr) (kV doc pm:Value) (an:Option Addr) (cdv ct:Value) (osl:Array (Option Value)),
  fd=W.fnOf x qual (fH st) (dB st) (a9 st) .none kV doc pm an cdv ct/\K.lookup f=some ⟨oc,od,.func fd,osl⟩/\W.codeIn K cdv qual=true
 kp:W.keepIn K (.ref f)=true
end
section
variable {K:W.Frag}
theorem Yh.binds {st:Stmt} (F:Yh K x qual st f fd) (h:∀(kV doc pm:Value) (an:Option Addr) (i ct:Value) (us:List Value),us.length=ps.length->bindArgs (W.fnOf x qual (fH st) (dB st) (a9 st) .none kV doc pm an i ct) ⟨us,[]⟩=pure (ps.zip us)):Binds K fd ps []:=by
 obtain⟨oc,od,kV,doc,pm,an,i,ct,v,rfl,lk,y⟩:=F.ex;exact .all (h kV _ pm an _ ct)
theorem Pu {st:Stmt} {kV:Value} (l:K.lookup f=some ⟨oc,od,.func (W.fnOf x qual (fH st) (dB st) (a9 st) .none kV doc pm an cdv ct),osl⟩) (c:W.codeIn K cdv qual=true) (k:W.keepIn K (.ref f)=true):Yh K x qual st f (W.fnOf x qual (fH st) (dB st) (a9 st) .none kV doc pm an cdv ct):=⟨⟨oc,od,kV,doc,pm,an,cdv,ct,osl,rfl,l,c⟩,k⟩
end
section
theorem pv (i:Nat) (y:autoParam (X.N[i]?=some x) qqr) (z:Ys X.env.scope x:=by first|exact Or.inl rfl|exact Or.inr (.inl rfl)|exact Or.inr (.inr rfl)) (hd:(x == ("__debug__":Str))=false:=by decide) (v:(x == ("__classdict__":Str))=false:=by decide):PE X (.Name x pos) (EY i):=UE y z hd v
end
def aA (H H':Hp):Prop:= ∀b o,H b=some o->H' b=some o
theorem aA.refl (H:Hp):aA H H:=fun _ _ h=>h
theorem aA.trans (a:aA H H1) (b:aA H1 H2):aA H H2:=fun c o h=>b c o (a c o h)
section
mutual
variable {κ:Type} [DecidableEq κ]
noncomputable def bh (i:List (κ×V)) (k:κ):Option V:=(i.find? fun v=>decide (v.1=k)).map (·.2)
noncomputable def putK (i:List (κ×V)) (k:κ) (v:V):List (κ×V):=
 if(i.any fun x=>decide (x.1=k))=true then i.map (fun x=>if x.1=k then(x.1,v) else x) else i++ [(k,v)]
noncomputable def tZ (i:List (κ×V)) (k:κ):List (κ×V):=i.filter fun v=>decide (v.1≠k)
theorem fK {k:κ} (e:p.1=k):bh (p::r) k=some p.2:=by simp[bh,e]
theorem fL {k:κ} (e: ¬p.1=k):bh (p::r) k=bh r k:=by simp[bh,e]
theorem pB (k:κ):∀i:List (κ×V),(i.any fun v=>decide (v.1=k))=(bh i k).isSome
 | []=>rfl
 |p::r=>by
  rw[ZD];by_cases e:p.1=k
  ·simp only[fK e,n9 e,Bool.true_or,Option.isSome_some]
  ·rw[fL e,gk e];exact pB k r
theorem GS (k j:κ) (y:V):∀i:List (κ×V),bh (i.map fun v=>if v.1=k then(v.1,y) else v) j=(bh i j).map fun x=>if j=k then y else x
 | []=>rfl
 |p::r=>by
  have C:=GS k j y r;rw[K5];by_cases h:p.1=k
  ·rw[dy h];by_cases e:p.1=j
   ·rw[fK (p:=(p.1,y)) e,fK e,Option.map_some,dy (e.symm.trans h)]
   ·rw[fL (p:=(p.1,y)) e,fL e,C]
  ·rw[de h];by_cases e:p.1=j
   ·rw[fK e,fK e,Option.map_some,de (fun z=>h (e.trans z))]
   ·rw[fL e,fL e,C]
theorem DZ (k j:κ) (y:V):∀i:List (κ×V),bh i k=none->bh (i++ [(k,y)]) j=if j=k then some y else bh i j
 | [],_=>by
  by_cases e:k=j
  ·rw[dy e.symm];exact fK e
  ·rw[de (fun z=>e z.symm)];exact fL e
 |p::r,hn=>by
  rw[List.cons_append];have hk: ¬p.1=k:=fun z=>by rw[fK z] at hn;cases hn
  rw[fL hk] at hn;have v:=DZ k j y r hn;by_cases e:p.1=j
  ·rw[fK e,fK e,de (fun z=>hk (e.trans z))]
  ·rw[fL e,fL e,v]
theorem xo (i:List (κ×V)) (k j:κ) (y:V):bh (putK i k y) j=if j=k then some y else bh i j:=by
 unfold putK;by_cases a:(i.any fun v=>decide (v.1=k))=true
 ·rw[dy a,GS];rw[pB] at a;by_cases e:j=k
  ·obtain⟨x,hx⟩:=ZY.mp a;rw[dy e,e,hx,Option.map_some,dy rfl]
  ·simp_all
 ·rw[de a];refine DZ k j y _ ?_;rw[pB] at a;cases q:bh _ k<;>simp_all
theorem kG (i:List (κ×V)) (k:κ) (v:V):(putK i k v).length<=i.length+1:=by
 unfold putK;split
 ·simp_all
 ·simp_all
theorem Hi {k:κ} (v:V) (h:bh kvs k=none):putK kvs k v=kvs++ [(k,v)]:=by
 unfold putK;rw[pB,h];exact de (by decide)
theorem rE.qa (r:rE o u):o.isSome=u.isSome:=by
 cases o with
 |none=>cases u with
  |none=>rfl
  |some _=>trivial
 |some _=>cases u with
  |none=>trivial
  |some _=>rfl
theorem KV.val (r:KV kvs vs) (k:κ):rE (bh kvs k) (valueAt vs k):=by
 induction r with
 |nil=>trivial
 | @cons p q C qs h t x=>
  obtain⟨v,y⟩:=h;by_cases e:p.1=k
  ·have i:=v.symm.trans e;have b:valueAt (q::qs) k=some q.2:=by simp[valueAt,i]
   rw[fK e,b];exact y
  ·have i: ¬q.1=k:=fun z=>e (v.trans z);have b:valueAt (q::qs) k=valueAt qs k:=by simp[valueAt,i]
   rw[fL e,b];exact x
theorem KV.any (r:KV kvs vs) (k:κ):(kvs.any fun i=>decide (i.1=k))=vs.any fun i=>decide (i.1=k):=by
 induction r<;>simp_all
theorem KV.repl (r:KV kvs vs) (k:κ) (x:RelV y u):
  KV (kvs.map fun i=>if i.1=k then(i.1,y) else i) (vs.map fun i=>if i.1=k then(i.1,u) else i):=by
 induction r with
 |nil=>exact .nil
 | @cons p q z qs h t v=>
  refine .cons ?_ v;by_cases e:p.1=k
  ·simp_all
  ·simp_all
theorem KV.put (r:KV kvs vs) (k:κ) (i:RelV y u):KV (putK kvs k y) (stored vs k u):=by
 unfold putK stored;rw[r.any k];by_cases e:(vs.any fun v=>decide (v.1=k))=true
 ·rw[dy e,dy e];exact r.repl k i
 ·rw[de e,de e];exact Paired.snoc r ⟨rfl,i⟩
theorem KV.drop (r:KV kvs vs) (k:κ):KV (tZ kvs k) (without vs k):=by
 unfold tZ without
 induction r with
 |nil=>exact .nil
 | @cons p q y qs h t i=>
  obtain⟨x,v⟩:=h;rw[ZI,ZI];by_cases e:p.1=k
  ·simp_all
  ·have a:decide (p.1≠k)=true:=by simp[e]
   have b:decide (q.1≠k)=true:=by simp_all
   rw[dy a,dy b];exact .cons ⟨x,v⟩ i
theorem KV.length {i:List (κ×V)} {vs:List (κ×Value)} (r:KV i vs):i.length=vs.length:=ZM r
theorem PF (i:List (κ×V)) (k:κ):(tZ i k).length<=i.length:=me _ _
end
end
mutual
theorem Ee (r:RelV (kV k) u):(gg P w).is k u=true:=by
 cases k with
 |inl i=>obtain⟨t,e⟩:=((r));subst e;exact HD P w i t
 |inr x=>obtain⟨t,e⟩:=((r));subst e;exact HB P w x t
theorem Eg:∀{ks:List Key} {us:List Value},Vals (ks.map kV) us->ItemsAre (gg P w) ks us
 | [],_,r=>by cases r;exact .nil
 |k::ks,_,r=>by
  cases r with
  |cons h t=>exact .cons (Ee h) (Eg t)
abbrev KT (H:Hp):List (List Key×V)->List (List Key×Addr×Value)->Prop:=Paired fun p q=>p.1=q.1/\H q.2.1=some (.tup (p.1.map kV))/\RelV p.2 q.2.2
theorem KT.val (r:KT H kvs xs) (k:List Key):rE (bh kvs k) ((atKey xs k).map (·.2)):=by
 induction r with
 |nil=>trivial
 | @cons p q C qs h t x=>
  obtain⟨v,_,y⟩:=h;by_cases e:p.1=k
  ·have i:=v.symm.trans e;have b:atKey (q::qs) k=some q.2:=by simp[atKey,i]
   rw[fK e,b];exact y
  ·have i: ¬q.1=k:=fun z=>e (v.trans z);have b:atKey (q::qs) k=atKey qs k:=by simp[atKey,i]
   rw[fL e,b];exact x
theorem KT.repl (r:KT H kvs xs) (k:List Key) (x:RelV y u):
  KT H (kvs.map fun i=>if i.1=k then(i.1,y) else i) (xs.map (putAt k u)):=by
 induction r with
 |nil=>exact .nil
 | @cons p q z qs h t v=>
  refine .cons ?_ v;unfold putAt;by_cases e:p.1=k
  ·simp_all
  ·simp_all
theorem KT.put (r:KT H kvs xs) (k:List Key) (x:H b=some (.tup (k.map kV))) (i:RelV y u):
  KT H (putK kvs k y) (storedH xs k b u):=by
 have e:(kvs.any fun v=>decide (v.1=k))=(atKey xs k).isSome:=by
  rw[pB,(r.val k).qa,aai]
 unfold putK storedH;rw[e];by_cases q:(atKey xs k).isSome=true
 ·rw[dy q,dy q];exact r.repl k i
 ·rw[de q,de q];exact Paired.snoc r ⟨rfl,x,i⟩
theorem KT.keeps (r:KT H kvs xs) (ht:∀b ys,H b=some (.tup ys)->H' b=some (.tup ys)):KT H' kvs xs:=
 Paired.U3 r fun _ _ z=>⟨z.1,ht _ _ z.2.1,z.2.2⟩
end
section
theorem Tj (ok:xi P w H h) (e:Rd H a u):dZ P w H h a u:=e.ok ok
theorem Es (ok:xi P w H h) (e:Rd H a (.dK kvs)):kvs.length<=sizeLine/\(a == sysModules)=false/\∃vs,KV kvs vs/\h.DictOf (gg P w) a vs:=
 (Tj ok e)
theorem TK (ok:xi P w H h) (e:H a=some (.dK kvs)):kvs.length<=sizeLine/\(a == sysModules)=false/\∃vs,KV kvs vs/\h.DictOf (gg P w) a vs:=Es ok (.inl e)
theorem Cr (ok:xi P w H h) (e:H a=some (.tup (ks.map kV))):(tupleKind (gg P w)).is h ks a:=by
 obtain⟨_,y,r,o,x,i,n,v⟩:=((ok a _ e));exact⟨o,_,n,x,i,v,by simpa using Eg r⟩
theorem Er (ok:xi P w H h) (e:Rd H a (.dT kvs)):kvs.length<=sizeLine/\(a == sysModules)=false/\
  ∃xs,KT H kvs xs/\h.DictOfH (tupleKind (gg P w)) a xs:=by
 obtain⟨z,y,xs,r,o,es,i,v,G,I,C,F⟩:=((Tj ok e));refine⟨z,y,xs,r,o,es,i,v,G,I,C,fun x hx=>?_,F⟩;have all:∀{l:List _} {m:List _},KT H l m->∀x∈m,(tupleKind (gg P w)).is h x.1 x.2.1:=by
  intro l m q
  induction q with
  |nil=>intro x hx;exact nomatch hx
  | @cons p q Q qs O t J=>
   intro x hx;rcases fy.mp hx with e|hx
   ·exact Cr ok (by simp_all)
   ·exact J x hx
 exact all r x hx
theorem XI (ok:xi P w H h) (e:H a=some (.dT kvs)):kvs.length<=sizeLine/\(a == sysModules)=false/\
  ∃xs,KT H kvs xs/\h.DictOfH (tupleKind (gg P w)) a xs:=Er ok (.inl e)
end
def GN (H:Hp) (a:Addr) (y:V) (r:Option V):Prop:=
 (∃i k,Rd H a (.dK i)/\y=kV k/\r=bh i k)\/∃i k b,Rd H a (.dT i)/\y = .ref b/\H b=some (.tup (k.map kV))/\r=bh i k
def SU (H:Hp) (a:Addr) (y v:V) (H':Hp):Prop:=
 (∃i k,H a=some (.dK i)/\y=kV k/\i.length<sizeLine/\H'=upd H a (.dK (putK i k v)))\/
 ∃i k b,H a=some (.dT i)/\y = .ref b/\H b=some (.tup (k.map kV))/\i.length<sizeLine/\H'=upd H a (.dT (putK i k v))
theorem GN.k {k:Key} (e:H a=some (.dK kvs)):GN H a (kV k) (bh kvs k):= .inl ⟨kvs,k,.inl e,rfl,rfl⟩
theorem SU.k {k:Key} (e:H a=some (.dK kvs)) (hl:kvs.length<sizeLine):SU H a (kV k) v (upd H a (.dK (putK kvs k v))):= .inl ⟨kvs,k,e,rfl,hl,rfl⟩
section
mutual
theorem Inv.big (I:Inv X pins σ H s):sysModules<s.heap.objs.size:=by
 have h:=(I.mod.glob.keeps I.bk).lt;exact Nat.lt_trans (by decide) h
theorem Ni (P:A.units+1<cLine) (I:Inv X pins σ H s) (g:GN H a y (some v)) (O:RelV y u) (h:∀x J,Inv X pins σ H J->RelV v x->Q x J):
  wpAny (model X.prog X.w) A (getItem (.ref a) u) Q E s:=by
 rcases g with⟨F,k,e,G,l⟩|⟨F,k,b,e,G,U,l⟩
 ·subst G;obtain⟨z,hd,vs,rel,dd⟩:=Es I.hok e;obtain⟨x,hw,i⟩:=rE.some_of (by rw[l];exact rel.val k);exact wpAny_getItem_of (Ee O) dd.mapOf hw (h x _ (I.tok _) i)
 ·subst G;cases((O));obtain⟨z,hd,xs,rel,dd⟩:=Er I.hok e;obtain⟨x,hw,i⟩:=rE.some_of (by rw[l];exact rel.val k);obtain⟨p,hp,C⟩:=nc.mp hw;refine wpAny_getItem_heap (aaG P) (Cr I.hok U) dd hp ?_;rw[C];exact h x _ (I.tok _) i
theorem YU (F:A.units+1<cLine) (I:Inv X pins σ H s) (g:GN H a y o) (C:RelV y u) (h:∀x,Inv X pins σ H x->Q (.bool o.isSome) x):
  wpAny (model X.prog X.w) A (compareOp .In u (.ref a)) Q E s:=by
 rcases g with⟨i,k,e,v,l⟩|⟨i,k,b,e,v,G,l⟩
 ·subst v;obtain⟨z,hd,vs,rel,dd⟩:=Es I.hok e;refine wpAny_in_of (Ee C) hd dd.mapOf ?_;rw[<-(rel.val k).qa,<-l];exact h _ (I.tok _)
 ·subst v;cases((C));obtain⟨z,hd,xs,rel,dd⟩:=Er I.hok e;refine wpAny_in_heap (aaG F) (Cr I.hok G) hd dd ?_;have q:=(rel.val k).qa;rw[aai] at q;rw[<-q,<-l];exact h _ (I.tok _)
theorem SG (F:A.units+1<cLine) (I:Inv X pins σ H s) (g:GN H a y o) (C:RelV y u) (h:∀x,Inv X pins σ H x->Q (.bool (!o.isSome)) x):
  wpAny (model X.prog X.w) A (compareOp .NotIn u (.ref a)) Q E s:=by
 rcases g with⟨i,k,e,v,l⟩|⟨i,k,b,e,v,G,l⟩
 ·subst v;obtain⟨z,hd,vs,rel,dd⟩:=Es I.hok e;refine wpAny_notIn_of (Ee C) hd dd.mapOf ?_;rw[<-(rel.val k).qa,<-l];exact h _ (I.tok _)
 ·subst v;cases((C));obtain⟨z,hd,xs,rel,dd⟩:=Er I.hok e;refine wpAny_notIn_heap (aaG F) (Cr I.hok G) hd dd ?_;have q:=(rel.val k).qa;rw[aai] at q;rw[<-q,<-l];exact h _ (I.tok _)
theorem Gu {ob:HO} (I:Inv X pins σ H s) (v:Yb (H a)) (hs:Heap.SameBut a s.heap i) (he:∃q,i.get? a=some q) (new:dZ X.prog X.w (upd H a ob) i a ob):
  Inv X pins σ (upd H a ob) {s with heap:=i,toks:=t'}:=
 I.write v (.inl rfl) (fun b q x z=>(hs.2 b x).trans z) he new
theorem PN (z:kvs.length<=sizeLine) (hd:(a == sysModules)=false) (rel:KV kvs vs) (dd:h'.DictOf (gg P w) a vs):
  dZ P w H' h' a (.dK kvs):=⟨z,hd,vs,rel,dd⟩
theorem Nh (hu:A.units+1<cLine) (I:Inv X pins σ H s) (g:SU H a y v H') (O:RelV y u) (U:RelV v r) (h:∀J,Inv X pins σ H' J->Q () J):
  wpAny (model X.prog X.w) A (setItem (.ref a) u r) Q E s:=by
 rcases g with⟨i,k,e,G,l,F⟩|⟨i,k,b,e,G,P,l,F⟩
 ·subst G F;obtain⟨z,hd,vs,rel,dd⟩:=TK I.hok e;have hz:vs.length<=sizeLine:=by rw[<-rel.length];exact z
  have hl:(putK i k v).length<=sizeLine:=by have:=kG i k v;lia
  refine wpAny_setItem_pairs (Ee O) dd fun h' x hs=>h _ ?_;have he:∃q,h'.get? a=some q:=let ⟨q,_,_,C,_⟩:=x;⟨q,C⟩;exact Gu I (by rw[e];exact True.intro) hs he (PN hl hd (rel.put k U) x)
 ·subst G F;cases((O));obtain⟨z,hd,xs,rel,dd⟩:=XI I.hok e;have hz:xs.length<=sizeLine:=by rw[<-ZM rel];exact z
  have hl:(putK i k v).length<=sizeLine:=by have:=kG i k v;lia
  refine wpAny_setItem_heap (aaG hu) (Cr I.hok P) dd fun h' x hs=>h _ ?_;obtain⟨q,es,ep,C,h2,h3,h4,_,h5⟩:=x;refine Gu I (by rw[e];exact True.intro) hs ⟨q,C⟩ ⟨hl,hd,_,(rel.put k P U).keeps fun c ys Z=>?_,q,es,ep,C,h2,h3,h4,h5⟩;rw[ag (bN Z e (fun z=>nomatch z))];exact Z
end
end
section
theorem XN (I:Inv X pins σ H s) (e:H a=some (.dK kvs)) (G:RelV (kV k) u) (l:bh kvs k=some v) (hm:more= []\/∃x,more= [x]) (h:∀C O,Inv X pins σ (upd H a (.dK (tZ kvs k))) O->RelV v C->Q C O):wpAny (model X.prog X.w) A (call (.builtin "dict.pop") (.ref a::u::more)) Q E s:=by
 obtain⟨z,hd,vs,rel,dd⟩:=TK I.hok e;obtain⟨C,hw,J⟩:=rE.some_of (by rw[<-l];exact rel.val k);have hp:(keyPart u).isSome=true:=by
  cases k with
  |inl i=>obtain⟨t,q⟩:=((G));subst q;rfl
  |inr x=>obtain⟨t,q⟩:=((G));subst q;rfl
 have ha:argsOk "dict.pop" ⟨.ref a::u::more,[]⟩:=by
  rcases hm with q|⟨x,q⟩
  ·subst q;exact PySem.F.args_dict_pop_2 _ _
  ·subst q;exact PySem.F.args_dict_pop_3 _ _ _
 refine call_meetsIn PySem.F.slot_dict_pop dd.typeIs PySem.F.entry_dict_pop ha (meets_dict_pop_there _ a (Ee G) _ hm hp)
  ⟨vs,C,dd,by rw[<-rel.length];exact z,hw,fun P y hs=>h C _ ?_ J⟩
 have he:∃q,P.get? a=some q:=let ⟨q,_,_,hq,_⟩:=y;⟨q,hq⟩;exact Gu I (by rw[e];exact True.intro) hs he (PN (h7 (PF _ k) z) hd (rel.drop k) y)
end
def X_ (i:Expr):Prop:= ∀x v,subscripted i false x v=operate [x,v] (getItem x v)
theorem QR {prog:Program} {w:World} {A:Around} {E:Value->Shared->Prop} {s:Shared} {env:Env} {value slice:Expr} {pos:Pos} {T id:String} {Q:Value->Shared->Prop}
  (hl:typeLookup (.type T) "__getitem__" = pure (some (.builtin id))) (hs:X_ slice)
  (h:wpAny (model prog w) A (eval value env) (fun o C=>wpAny (model prog w) A (eval slice env) (fun i v=>v.TypeIs o T/\wpAny (model prog w) A (getItem o i) Q E v) E C) E s):
  wpAny (model prog w) A (eval (.Subscript value slice pos) env) Q E s:=by
 refine Subscript_ (z4 h (fun o C G=>z4 G (fun i v y=>?_) fun _ _ x=>x) fun _ _ x=>x);obtain⟨I,y⟩:=y;refine c8 ?_;refine c8 (wpAny_specialOf I hl ?_);have fin:wpAny (model prog w) A (subscripted slice false o i) (fun r z=>wpAny (model prog w) A (letTemporaryGo value o r >>= fun _=>pure r) Q E z) E v:=by
  rw[hs o i];exact wpAny_operating (z4 y (fun r z F=>c8 (wpAny_letTemporaryGo (fg F))) fun _ _ x=>x)
 first
  |exact fg (c8 fin)
  |rfl
  |rfl
theorem Im (I:Inv X pins σ H s) (g:GN H a y o):s.TypeIs (.ref a) "dict" :=by
 rcases g with⟨i,k,e,_,_⟩|⟨i,k,b,e,_,_,_⟩
 ·obtain⟨_,_,vs,_,dd⟩:=Es I.hok e;exact dd.typeIs
 ·obtain⟨_,_,xs,_,dd⟩:=Er I.hok e;exact dd.typeIs
theorem PQ (h:Heap) (i:sysModules<h.objs.size):dZ P w H (h.push {cls:= .type "dict",data:= .dict #[]}) h.objs.size (.dK []):=
 ⟨lp _,ZQ.mpr (L3 (kv i)),[],.nil,Heap.DictOf.new h⟩
def NP:TE:=fun _ H Q=> ∀p,H p=none->Q (.ref p) (upd H p (.dK []))
section
theorem xH:PE X (.Dict [] [] pos) NP:=fun i s σ H Q I h=>
 wpAny_Dict_empty ⟨.ref _,_,I.laid (fun _ _ q=>ej _ q) (cv _) (PQ _ I.big),rfl,h _ (I.hok.fresh (cv _))⟩
end
def Zw (H:Hp) (a:Addr):Prop:=(∃i,Rd H a (.dK i))\/∃i,Rd H a (.dT i)
theorem Vi (I:Inv X pins σ H s) (d:Zw H a):
  s.TypeIs (.ref a) "dict" /\(∀b,Value.ref a = .ref b->∃ob,s.heap.get? b=some ob/\ob.dict=none)/\(a == sysModules)=false:=by
 rcases d with⟨v,e⟩|⟨v,e⟩
 ·obtain⟨_,hd,vs,_,dd⟩:=Es I.hok e;refine⟨dd.typeIs,fun b q=>?_,hd⟩;cases q;obtain⟨ob,_,_,x,i,_⟩:=dd;exact⟨ob,x,i.2.1⟩
 ·obtain⟨_,hd,xs,_,dd⟩:=Er I.hok e;refine⟨dd.typeIs,fun b q=>?_,hd⟩;cases q;obtain⟨ob,_,_,x,i,_⟩:=dd;exact⟨ob,x,i.2.1⟩
section
variable {κ:Type} [DecidableEq κ]
theorem NC {k:κ} (h:bh kvs k=none): ¬k∈kvs.map (·.1):=by
 intro m;obtain⟨p,hp,e⟩:=h8.mp m;have q:(kvs.any fun i=>decide (i.1=k))=true:=List.any_eq_true.mpr ⟨p,hp,n9 e⟩;rw[pB,h] at q;exact absurd q (by simp)
theorem RX:∀{l:List κ} {k:κ},l.Nodup->¬k∈l->(l++ [k]).Nodup
 | [],k,_,_=>by simp
 |a::r,k,h,hk=>by
  grind
theorem RY {k:κ} (v:V) (hn:(kvs.map (·.1)).Nodup) (h:bh kvs k=none):((putK kvs k v).map (·.1)).Nodup:=by
 rw[Hi v h,n7];exact RX hn (NC h)
end
def FnAt (P:Program) (w:World) (K:W.Frag) (mg:Str->Option Value) (base:Heap) (CX:IL) (x:Str) (k:Nat) (y:List Str) (sp:Sp):Prop:=
 ∃f i,yH P w K mg base CX k f i y sp/\mg x=some (.ref f)/\W.keepIn K (.ref f)=true/\Binds K i y []/\∃oc od v,K.lookup f=some ⟨oc,od,.func i,v⟩
def AN (K:W.Frag) (mg:Str->Option Value) (x:Str) (st:Stmt):Prop:= ∃f i,Yh K x x st f i/\mg x=some (.ref f)
class Quiet (CX:IL):Prop where
 pass:∀(X:Cx),Passes CX X E0
noncomputable instance:Quiet Wd:=⟨fun _=>WG⟩
theorem PV {K:W.Frag} {st:Stmt} {kV:Value} (X:K.In h) (G:h.Ns mainGlobals mg) (a:W.nsIn K mainGlobals x=some (some (.ref f))) (l:K.lookup f=some ⟨oc,od,.func (W.fnOf x x (fH st) (dB st) (a9 st) .none kV doc pm an cdv ct),osl⟩) (c:W.codeIn K cdv x=true) (k:W.keepIn K (.ref f)=true):AN K mg x st:=
 ⟨f,_,Pu l c k,W.mg_of X G a⟩
section
theorem AN.fn {K:W.Frag} {st:Stmt} (F:AN K mg x st) (S:kC N ps (a9 st)) (G:∀(kV doc pm:Value) (an:Option Addr) (i ct:Value) (us:List Value),us.length=ps.length->bindArgs (W.fnOf x x (fH st) (dB st) (a9 st) .none kV doc pm an i ct) ⟨us,[]⟩=pure (ps.zip us)) (len:∀vs H Q E,sp vs H Q E->vs.length=ps.length) (v:∀(f:Addr) (i:Value) (A:Around) (outer:List Env) (s:Shared) (H:Hp) (vs:List V) (Q:VK) (E:XK),dC k (A.deeper (envOfC x (a9 st) s.heap.objs.size f i))->sp vs H Q E->
   ∃t,Br (C5 CX P w K mg base N x (a9 st) f i A outer s H E).nox (dB st) t/\t {nx:=fun _ H'=>Q .non H',rt:=Q} (start N vs) H):FnAt P w K mg base CX x (k+1) ps sp:=by
 obtain⟨f,I,F,hm⟩:=F;have bd:=F.binds G;have kp:=F.kp;obtain⟨oc,od,kV,doc,pm,an,i,ct,C,rfl,lk,z⟩:=F.ex;refine⟨f,_,K_ lk z S len fun A outer s H vs Q E hr y=>?_,hm,kp,bd,oc,od,C,lk⟩;obtain⟨t,h,q⟩:=v f _ A _ s H vs Q E hr y;exact⟨t,h.nox,q⟩
end
section
theorem WE [Quiet CX] (G:FnAt X.prog X.w X.K X.mg X.base CX x k ps sp) (hr:dC n X.A) (hk:k<=n) (hg:Gl X x) (ha:PA X (e::es) t) (v:(x == ("__debug__":Str))=false:=by decide) (he:autoParam (starEach (e::es) X.env=(false,eval e X.env)::starEach es X.env) qqr) (i:autoParam ((backTo pos (starEach es X.env)).any (·.1)=false) qqr):
  PE X (.Call (.Name x p) (e::es) [] pos) (G0 sp [] E0 t):=by
 obtain⟨f,y,F,hm,kp,b,_⟩:=G;exact RH F (hr.mono hk) hg hm kp b .nil (Quiet.pass X) ha v he i
def dG (mg:Str->Option Value) (x:Str) (v:V):Prop:= ∃u,mg x=some u/\RelV v u
theorem bw (hg:Gl X x) (h:dG X.mg x v) (hd:(x == ("__debug__":Str))=false:=by decide):PE X (.Name x pos) (tC v):=by
 obtain⟨u,hm,r⟩:=h;exact RD hg hm r hd
end
noncomputable def IG (lo c:Int) (n:Nat):It:=⟨fun i _=>i<n,fun i H x H'=>H'=H/\x = .int (lo+i*c),fun i _=>n<=i⟩
theorem GV {P:Program} {w:World} {K:W.Frag} {tg:Expr} (it:Addr) (lo c:Int) (n:Nat):Turn P w K tg (IG lo c n) [it] it (fun i h=>IsRangeIter h it (lo+(i:Nat)*c) ((n:Int)-(i:Nat)) c) where
 mem:=by simp
 obj:=fun i h st b x=>by
  simp_all
 keep:=fun i h O st k=>k it (by simp) _ st
 item:=by
  intro X U hw Z hc i z s σ H E I hf st hg;subst U hw Z;obtain⟨Q,G,f2,F,C,J⟩:=hf it (by simp);have W:=Walks.range (prog:=X.prog) (w:=X.w) (I.ok.hd hc) it lo c n;refine W.item i s _ _ hg st fun v O tk hv y kk=>?_;obtain⟨t,rfl⟩:=hv;have I1:Inv X _ σ H {s with heap:=O,toks:=tk}:=I.turned (fun b o x e=>kk b o (by simp_all) e) Q G F C J;exact⟨_,rfl,HQ y rfl rfl (by decide) ⟨.int _,H,I1,⟨t,rfl⟩,⟨rfl,rfl⟩,y,fun b x=>(hf b x).1⟩⟩
 done:=by
  intro X U hw Z hc i z s σ H E I hf st hg;obtain⟨Q,G,f2,F,C,J⟩:=hf it (by simp);exact wpAny_pyNext_range_end (I.ok.hd hc) st (by have:n<=i:=hg;lia) fun O eb=>⟨rfl,I.turned (fun b o x e=>eb b o x e) Q G F C J⟩
 self:=fun _ _ _ _ _ st h=>wpAny_pyIter_rangeiter st h
noncomputable def rcount (lo i c:Int):Nat:=(Builtin.Range.rangeSize lo i c).toNat
theorem G7 (lo i c:Int) (hc:0<c):0<=Builtin.Range.rangeSize lo i c:=by
 unfold Builtin.Range.rangeSize;rw[dy hc];split
 ·have:=Int.ediv_nonneg (a:=i-lo-1) (b:=c) (by lia) (by lia);lia
 ·trivial
theorem QT (ha : -(2 ^ 61)<=a) (x:a<2 ^ 61) (C : -(2 ^ 61)<=b) (i:b<2 ^ 61) (hc:0<c) (v:c<2 ^ 61):Builtin.Range.small a b c=true:=by
 have y:=G7 a b c hc;have z:Builtin.Range.rangeSize a b c<=2 ^ 62:=by
  unfold Builtin.Range.rangeSize;rw[dy hc];split
  ·have:=Int.ediv_le_self (a:=b-a-1) c (by lia);lia
  ·decide
 unfold Builtin.Range.small;simp only[Builtin.Range.rangeFitsLong,fx,aaz];rw[dy hc];simp only[fx,eM];lia
section
theorem LY {X:Cx} {z:Expr} {x:List (Addr×Obj)} {σ:St} {H:Hp} {s:Shared} {R:It->Hp->Prop} {E:Value->Shared->Prop} {lo i c:Int} {t u v:Tok} {tk:Nat} (I:Inv X x σ H s) (hs:Builtin.Range.small lo i c=true) (hc:0<c)
  (q:R (IG lo c (rcount lo i c)) H):wpAny (model X.prog X.w) X.A (pyIter (.ref s.heap.objs.size)) (Y6 X x σ z R) E {s with heap:=s.heap.push {cls:= .type "range",data:= .fields #[.int lo t,.int i u,.int c v]},toks:=tk}:=by
 refine wpAny_pyIter_range (IsRange.new ..) hs ?_;have y:Inv X _ σ H {s with heap:=s.heap.push {cls:= .type "range",data:= .fields #[.int lo t,.int i u,.int c v]},toks:=tk}:=I.kept fun b o e=>ej _ e;refine⟨_,_,_,_,H,rfl,
  y.kept fun b o e=>ej _ e,GV _ lo c _,?_,fun b C=>?_,q⟩
 ·have e1:lo+((0:Nat))*c=lo:=by simp
  have e2:((rcount lo i c))-((0:Nat))=Builtin.Range.rangeSize lo i c:=by
   have:=G7 lo i c hc;unfold rcount;lia
  rw[e1,e2];exact ke _ rfl
 ·have e:b=(s.heap.push {cls:= .type "range",data:= .fields #[.int lo t,.int i u,.int c v]}).objs.size:=by simp_all
  subst e;exact y.Ge (cv _) (y.hok.fresh (cv _))
end
theorem JT {lo:Int} {g:TG} {tb:TS} {D:Ends} (Pv:Nat->St->Hp->Prop) (F:Pv 0 σ H) (hs:∀(i:Nat) σ H,i<n->Pv i σ H->g (.int (lo+i*c)) σ H fun v z=>tb {D with nx:=Pv (i+1),ct:=Pv (i+1),bk:=D.nx} v z) (hd:∀σ H,Pv n σ H->D.nx σ H):
  ∃W:Nat->Nat->St->Hp->Prop,(∃m,W 0 m σ H)/\∀i m σ H,W i m σ H->
   ((IG lo c n).stop i H/\D.nx σ H)\/((IG lo c n).go i H/\∃N:St->Hp->Prop,(∀y H',N y H'->∃C,C<m/\W (i+1) C y H')/\∀x H',(IG lo c n).yld i H x H'->g x σ H' fun v z=>tb {D with nx:=N,ct:=N,bk:=D.nx} v z):=by
 refine⟨fun i m σ H=>i<=n/\m=n-i/\Pv i σ H,⟨n,lp _,rfl,F⟩,fun i m σ H ⟨G,hm,hp⟩=>?_⟩;by_cases e:i=n
 ·subst e;exact .inl ⟨cv _,hd σ H hp⟩
 ·refine .inr ⟨(by show i<n;lia),_,fun y H' h=>⟨_,by lia,by lia,rfl,h⟩,fun x H' ⟨e1,e2⟩=>?_⟩;subst e1 e2;exact hs i σ _ (by lia) hp
section
mutual
theorem Q_:Jg g (.int i) (.int j) H Q=Q (g i j) H:=rfl
theorem Uq:rI C g (.int i) (.int j) H Q=(C i j/\Q (g i j) H):=rfl
theorem Ul:rU f (.int i) H Q=Q (f i) H:=rfl
theorem XG {P:Bool->Prop}:(∃k,V.bl b = .bl k/\P k)=P b:=by
 simp_all
theorem Rg:WB (.int i) (.int j) H Q=Q (.bl (decide (i=j))) H:=by
 have e:decide (V.int i=V.int j)=decide (i=j):=by
  simp_all
 unfold WB;rw[e];apply propext;exact⟨fun h=>h.2,fun h=>⟨rfl,h⟩⟩
theorem Q1:Wu (.int i) (.int j) H Q=Q (.bl (!decide (i=j))) H:=by
 have e:decide (V.int i=V.int j)=decide (i=j):=by
  simp_all
 unfold Wu;rw[e];apply propext;exact⟨fun h=>h.2,fun h=>⟨rfl,h⟩⟩
theorem Rf:WB (.str a) (.str b) H Q=Q (.bl (decide (a=b))) H:=by
 have e:decide (V.str a=V.str b)=decide (a=b):=by
  simp_all
 unfold WB;rw[e];apply propext;exact⟨fun h=>h.2,fun h=>⟨rfl,h⟩⟩
theorem Q0:Wu (.str a) (.str b) H Q=Q (.bl (!decide (a=b))) H:=by
 have e:decide (V.str a=V.str b)=decide (a=b):=by
  simp_all
 unfold Wu;rw[e];apply propext;exact⟨fun h=>h.2,fun h=>⟨rfl,h⟩⟩
end
end
theorem iH.imp (h:iH X f r) (i:∀x y H Q,r' x y H Q->r x y H Q):iH X f r':=
 fun z s σ H x y v u Q I F C q=>h _ s σ H x y v u Q I F C (i _ _ _ _ q)
theorem bT.imp (h:bT X f r) (i:∀xs H Q,r' xs H Q->r xs H Q):bT X f r':=
 fun v s σ H xs us Q I rs q=>h _ s σ H xs us Q I rs (i _ _ _ q)
def tE (K:W.Frag):R2:=fun x y H Q=>match x,y with
 | .int i,.int j=>Q (.int (i+j)) H
 | .str a,.str b=>a.length+b.length<=sizeLine/\Q (.str (a++b)) H
 | .ref l,.ref b=>Us (.ref l) (.ref b) H Q\/Ot K (.ref l) (.ref b) H Q
 |_,_=>False
section
theorem RO:iH X (binaryOp .Add) (tE X.K):=by
 refine iH.imp (UT.or (Jp.or (US.or RM))) fun x y H Q h=>?_;unfold tE at h;split at h
 ·exact .inl h
 ·simp_all
 ·exact .inr (.inr h)
 ·trivial
def Qk (i j:Int):Prop:=(0<=j/\j<=1000000)/\-(2 ^ 512)<i/\i<2 ^ 512
theorem Qk.bits (h:Qk i j):(Builtin.Int.intBits i:Int)+j<=2 ^ 27:=by
 have y:Builtin.Int.intBits i<=512:=by
  unfold Builtin.Int.intBits;split
  ·lia
  ·rename_i x;have v:i≠0:=fun q=>x (by rw[q];rfl);have:i.natAbs.log2<512:=(aaS (by lia)).mpr (by have:=h.2;lia);lia
 have:=h.1.2;lia
theorem hJ:iH X (binaryOp .LShift) (rI Qk fun i j=> .int (i*2 ^ j.toNat)):=UU fun _ _ _ _ _ _ _ hc q=>lshift_int hc.1.1 hc.bits q
end
def z7 (K:W.Frag):List V->Hp->VK->Prop:=fun xs H Q=>match xs with
 | [.str z]=>z.length<=sizeLine/\Q (.int z.length) H
 | [.ref p]=> ∃ys,(bC K H p ys\/c6 K H p ys)/\Q (.int ys.length) H
 |_=>False
section
mutual
theorem Nn:bT X (.builtin "len") (z7 X.K):=by
 refine bT.imp (GA.or Gz) fun xs H Q h=>?_;unfold z7 at h;split at h
 ·exact .inr ⟨_,rfl,h.1,h.2⟩
 ·simp_all
 ·simp_all
def N7:List V->Hp->VK->Prop:=fun xs H Q=>match xs with
 | [.int i,.int j]=>Q (.int (if j<i then j else i)) H
 |_=>False
def N8:List V->Hp->VK->Prop:=fun xs H Q=>match xs with
 | [.int i,.int j]=>Q (.int (if i<j then j else i)) H
 |_=>False
theorem uR (hc:X.calm=true):bT X (.builtin "min") N7:=by
 refine bT.imp (Nl hc) fun xs H Q h=>?_;unfold N7 at h;split at h
 ·exact⟨_,_,rfl,h⟩
 ·trivial
theorem uS (hc:X.calm=true):bT X (.builtin "max") N8:=by
 refine bT.imp (Nm hc) fun xs H Q h=>?_;unfold N8 at h;split at h
 ·exact⟨_,_,rfl,h⟩
 ·trivial
noncomputable def WU:V->String->Option Bool
 | .int _,"int" =>some true
 | .int _,"bool" =>some false
 | .int _,"str" =>some false
 | .bl _,"int" =>some true
 | .bl _,"bool" =>some true
 | .str _,"str" =>some true
 | .str _,"int" =>some false
 |_,_=>none
def uY (K:W.Frag):List V->Hp->VK->Prop:=fun xs H Q=>match xs with
 | [x,.ty T]=>(match WU x T with
  |some b=>Q (.bl b) H
  |none=> ∃t b,yD K H x t/\W.kitOne K t (.type T)=some b/\Q (.bl b) H)
 |_=>False
theorem U7 (K:W.Frag):W.kitOne K (.type "int") (.type "int")=some true:=rfl
theorem U8 (K:W.Frag):W.kitOne K (.type "int") (.type "bool")=some false:=rfl
theorem kit_is (K:W.Frag):W.kitOne K (.type "int") (.type "str")=some false:=rfl
theorem U9 (K:W.Frag):W.kitOne K (.type "bool") (.type "int")=some true:=rfl
theorem U_ (K:W.Frag):W.kitOne K (.type "bool") (.type "bool")=some true:=rfl
theorem U5 (K:W.Frag):W.kitOne K (.type "str") (.type "str")=some true:=rfl
theorem U6 (K:W.Frag):W.kitOne K (.type "str") (.type "int")=some false:=rfl
theorem YN (K:W.Frag):W.kitOne K (.type "list") (.type "list")=some true:=rfl
theorem YM (K:W.Frag):W.kitOne K (.type "tuple") (.type "tuple")=some true:=rfl
theorem P_:bT X (.builtin "isinstance") (uY X.K):=by
 intro i s σ H xs us Q I rs q;unfold uY at q;split at q
 ·rename_i x T;obtain⟨u,c,rfl,v,rc⟩:=vals2 rs;obtain rfl:c=Value.type T:=rc;have key:∀{t b},yD _ H x t->W.kitOne _ t _=some b->Q _ H->wpAny _ X.A (call _ [u,.type T]) (EP X _ σ Q) X.xe s:=fun{t b} ty e h=>
   MY I v ty e fun tk=>⟨.bl b,H,I.tok tk,rfl,h⟩
  split at q
  ·rename_i b e;have h:=q;unfold WU at e;split at e<;>cases e
   ·exact key (.int _) (U7 _) h
   ·exact key (.int _) (U8 _) h
   ·exact key (.int _) (kit_is _) h
   ·exact key (.bl _) (U9 _) h
   ·exact key (.bl _) (U_ _) h
   ·exact key (.str _) (U5 _) h
   ·exact key (.str _) (U6 _) h
  ·obtain⟨t,b,ty,e,h⟩:=q;exact key ty e h
 ·trivial
theorem vv (hg:Gl X x) (hm:X.mg x=none) (i:bootBuiltins x=some (.type T)) (hn:x≠ "__name__" :=by decide) (hd:(x == ("__debug__":Str))=false:=by decide):PE X (.Name x pos) (tC (.ty T)):=
 RI hg hm i rfl hn hd
end
end
mutual
theorem dH:bootBuiltins "len" = some (.builtin "len"):=by decide+kernel
theorem GG:bootBuiltins "min" = some (.builtin "min"):=by decide+kernel
theorem z0:bootBuiltins "max" = some (.builtin "max"):=by decide+kernel
theorem VR:bootBuiltins "abs" = some (.builtin "abs"):=by decide+kernel
theorem VP:bootBuiltins "sum" = some (.builtin "sum"):=by decide+kernel
theorem GH:bootBuiltins "all" = some (.builtin "all"):=by decide+kernel
theorem cw:bootBuiltins "isinstance" = some (.builtin "isinstance"):=by decide+kernel
theorem VQ:bootBuiltins "int" = some (.type "int"):=by decide+kernel
theorem SM:bootBuiltins "bool" = some (.type "bool"):=by decide+kernel
theorem gP:bootBuiltins "str" = some (.type "str"):=by decide+kernel
theorem rB:bootBuiltins "list" = some (.type "list"):=by decide+kernel
theorem nJ:bootBuiltins "tuple" = some (.type "tuple"):=by decide+kernel
end
section
mutual
variable {K:W.Frag}
theorem Mo:tE K (.int i) (.int j) H Q=Q (.int (i+j)) H:=rfl
theorem D9:tE K (.str i) (.str j) H Q=(i.length+j.length<=sizeLine/\Q (.str (i++j)) H):=rfl
theorem pK:tE K (.ref a) (.ref b) H Q=(Us (.ref a) (.ref b) H Q\/Ot K (.ref a) (.ref b) H Q):=rfl
theorem Mc:z7 K [.str z] H Q=(z.length<=sizeLine/\Q (.int z.length) H):=rfl
theorem Md:z7 K [.ref p] H Q=(∃ys,(bC K H p ys\/c6 K H p ys)/\Q (.int ys.length) H):=rfl
theorem Q6:uY K [.int i,.ty "int"] H Q=Q (.bl true) H:=rfl
theorem Q7:uY K [.int i,.ty "bool"] H Q=Q (.bl false) H:=rfl
theorem Q5:uY K [.int i,.ty "str"] H Q=Q (.bl false) H:=rfl
theorem Q3:uY K [.str i,.ty "str"] H Q=Q (.bl true) H:=rfl
theorem Q4:uY K [.str i,.ty "int"] H Q=Q (.bl false) H:=rfl
theorem L8:N7 [.int i,.int j] H Q=Q (.int (if j<i then j else i)) H:=rfl
theorem L_:N8 [.int i,.int j] H Q=Q (.int (if i<j then j else i)) H:=rfl
end
end
mutual
theorem VM {CX:IL} {P:Program} {w:World} {K:W.Frag} {mg:Str->Option Value} {base:Heap} {N:List Str} {qual:Str} {scope:Scope} {f:Addr} {cd:Value} {A:Around} {outer:List Env} {s:Shared} {H:Hp} {E:XK}:
  (C5 CX P w K mg base N qual scope f cd A outer s H E).K=K:=rfl
theorem law_fin {K:W.Frag} {st:Stmt} (v:mg nm=some (.ref fa)) (D:AN K mg nm st) (I:∀(kV doc pm:Value) (an:Option Addr) (i ct:Value) (us:List Value),us.length=([x]:List Str).length->bindArgs (W.fnOf nm nm (fH st) (dB st) (a9 st) .none kV doc pm an i ct) ⟨us,[]⟩=pure (([x]:List Str).zip us)) (ok:∀base:Heap,FnAt P w K mg base CX nm k [x] sp):
  ∃C:FuncData,(∀(s:Shared) (u:Value),BindsTo s C ⟨[u],[]⟩ [(x,u)])/\∀base:Heap,K.In base->base.Ns mainGlobals mg->yH P w K mg base CX k fa C [x] sp:=by
 obtain⟨f,C,F,hm⟩:=D;rw[v] at hm;cases hm;obtain⟨oc,od,kV,doc,pm,an,i,ct,U,e,lk,Q⟩:=F.ex;refine⟨C,fun s u=>?_,fun base _ _=>?_⟩
 ·rw[e];exact .of_eq (I kV doc pm an i ct [u] rfl)
 ·obtain⟨Z,X,h,y,_,_,J,O,G,z⟩:=ok base;rw[v] at y;cases y;rw[lk] at z;cases z;exact h
def D4 (K:W.Frag):Sp:=fun vs H Q _=>match vs with
 | [.ref a]=> ∃ns:List Int,bC K H a (ns.map V.int)/\ns.length<=63/\Qh H/\∀H',Q (.bl true) H'
 |_=>False
theorem O7 {l:W.OpenLaw} {K:Params->W.Frag} (hn:l.most=some 63) (i:d.params.defaults= []) (hr:dC k callerA) (G:∀(w:World) (h:Heap),YP w h->(K w.params).In h) (F:∀(w:World) (mg:Str->Option Value) (fa:Addr) (h:Heap),(K w.params).In h->h.Ns mainGlobals mg->mg d.name=some (.ref fa)->
   ∃v:FuncData,(∀(s:Shared) (u:Value),BindsTo s v ⟨[u],[]⟩ [(x,u)])/\∀base:Heap,(K w.params).In base->base.Ns mainGlobals mg->yH l.prog w (K w.params) mg base Wd k fa v [x] (D4 (K w.params))):
  W.WalkO q loose XP YP l.row.toRowW d [] (fun f vs=>PySem.call f vs):=
 Lake.NB (n:=63) (CX:=Wd) (sp:=D4) hn (by decide) i hr G F (fun K H a ns hl y C=>⟨ns,C,hl,y,fun _=>rfl⟩) fun _ _ _ _ z=>z
noncomputable def Cx.comp (X:Cx) (scope:Scope) (cl:List (Str×Addr)) (C:Addr) (N:List Str) (s:Shared) (H:Hp) (ex:List Addr):Cx:=
 {prog:=X.prog,w:=X.w,K:=X.K,mg:=X.mg,base:=X.base,A:=X.A,N:=N,s₀:=s,H₀:=H,env:=compEnvC scope cl C X.env,outer:=X.stack,stack:=X.stack,ex:=ex,fn:=fun _=>false,calm:=X.calm,pn:=[],xe:=fun _ _=>False}
theorem J7 (h:∀y∈scope.names,y.2 = .free->∃c,env.cells.lookup y.1=some c):
  ∃cl,closureFor scope env=pure cl/\(∀y c,cl.lookup y=some c->env.cells.lookup y=some c)/\∀y∈scope.names,y.2 = .free->∃c,cl.lookup y.1=some c:=by
 have key:∀(l:List _) (acc:List (Str×Addr)),(∀y∈l,y.2 = .free->∃c,env.cells.lookup y.1=some c)->(∀y c,acc.lookup y=some c->env.cells.lookup y=some c)->
   ∃cl,(forIn l acc fun(x:Str×NameKind) (cs:List (Str×Addr))=>if(x.2 == NameKind.free)=true then do let a<-cellOf env x.1;pure (ForInStep.yield ((x.1,a)::cs)) else pure (ForInStep.yield cs))=(pure cl:Sem (List (Str×Addr)))/\
    (∀y c,cl.lookup y=some c->env.cells.lookup y=some c)/\(∀y c,acc.lookup y=some c->∃c,cl.lookup y=some c)/\∀y∈l,y.2 = .free->∃c,cl.lookup y.1=some c:=by
  intro l
  induction l with
  |nil=>intro acc _ ha;exact⟨acc,rfl,ha,fun y c e=>⟨c,e⟩,fun y i=>nomatch i⟩
  |cons x r I=>
   intro acc hl ha;obtain⟨n,k⟩:=x;by_cases hk:k = .free
   ·subst hk;obtain⟨c,hc⟩:=hl (n,.free) ZG rfl;have G:∀y d,((n,c)::acc).lookup y=some d->env.cells.lookup y=some d:=fun y d e=>by
     simp only[aat] at e;cases q:y == n<;>simp_all
    obtain⟨cl,e,v,F,C⟩:=I ((n,c)::acc) (fun y i=>hl y (sh _ i)) G;have top:∃d,cl.lookup n=some d:=F n c (by simp_all);refine⟨cl,?_,v,fun y d q=>?_,fun y i hf=>?_⟩
    ·rw[aaA];have O:cellOf env n=pure c:=by unfold cellOf;rw[hc]
     show((if(NameKind.free == NameKind.free)=true then(do let a<-cellOf env n;pure (ForInStep.yield ((n,a)::acc))) else _) >>= _)=_;rw[O];exact e
    ·cases z:y == n with
     |true=>simp_all
     |false=>exact F y d (by simp only[aat,z];exact q)
    ·rcases fy.mp i with rfl|i
     ·trivial
     ·exact C y i hf
   ·have J:(k == NameKind.free)=false:=by simpa using hk
    obtain⟨cl,e,v,F,C⟩:=I acc (fun y i=>hl y (sh _ i)) ha;refine⟨cl,?_,v,F,fun y i hf=>?_⟩
    ·rw[aaA];show((if(k == NameKind.free)=true then _ else pure (ForInStep.yield acc)) >>= _)=_;rw[J,de Z4];exact e
    ·rcases fy.mp i with rfl|i
     ·exact absurd hf hk
     ·exact C y i hf
 obtain⟨cl,e,v,_,C⟩:=key scope.names [] h (fun y c q=>by simp at q);refine⟨cl,?_,v,C⟩;unfold closureFor;exact(bind_congr (fun _=>rfl)).trans (by rw[e];rfl)
theorem qW (h:(relabel scope env).names.lookup x=some k):scope.names.lookup x=some k\/(scope.names.lookup x=some .free/\k = .cell):=by
 have key:∀l:List _,(l.map fun(n,k)=>if(k == NameKind.free&&env.scope.kind == .function&&env.kindOf n == some .cell) then(n,NameKind.cell) else(n,k)).lookup x=some k->l.lookup x=some k\/(l.lookup x=some .free/\k = .cell):=by
  intro l
  induction l with
  |nil=>simp
  |cons y r v=>
   obtain⟨n,j⟩:=y;intro h;rw[K5] at h;simp only[aat];cases q:x == n with
   |true=>
    by_cases hc:(j == NameKind.free&&env.scope.kind == .function&&env.kindOf n == some .cell)=true
    ·simp_all
    ·simp_all
   |false=>
    by_cases hc:(j == NameKind.free&&env.scope.kind == .function&&env.kindOf n == some .cell)=true
    ·simp only[hc,aax,aat,q] at h;exact v h
    ·have i:(j == NameKind.free&&env.scope.kind == .function&&env.kindOf n == some .cell)=false:=by simpa using hc
     simp only[i,ZV,aas,aat,q] at h;exact v h
 exact key _ h
theorem HE {h:Heap} (e:h.get? b=some o) (hn:h.objs.size<=n):b≠n:=kv (h9 (h6 e) hn)
structure De (X:Cx) (scope:Scope) (N:List Str) (nv:Nat) (ix:List Nat):Prop where
 kind:scope.kind = .function
 nocell:∀y∈scope.names,y.2≠ .cell
 names:∀y∈scope.names,y.2 = .local->scope.names.lookup y.1=some .local
 fre:∀y∈scope.names,y.2 = .free->X.env.kindOf y.1=some .cell\/X.env.kindOf y.1=some .free
 len:N.length=nv+ix.length
 at_:∀j y,N[nv+j]?=some y->∃i,ix[j]?=some i/\X.N[i]?=some y/\(X.env.kindOf y=some .cell\/X.env.kindOf y=some .free)/\scope.names.lookup y=some .free
noncomputable def iC (nv:Nat) (ix:List Nat) (σ:St):St:=List.replicate nv none++ix.map fun i=>(σ[i]?).join
end
section
theorem J3 {nv:Nat} (S:De X scope N nv ix) (I:Inv X pins σ H s) (F:∀y c,cl.lookup y=some c->X.env.cells.lookup y=some c) (O:∀y∈scope.names,y.2 = .free->∃c,cl.lookup y.1=some c) (J:∀b∈fp,Bs X pins H b) (hob:∀b∈fp,b<s.heap.objs.size) (hC:s.heap.objs.size<=C) (hD:s.heap.objs.size<=D) (hDC:D≠C) (old:∀b o,s.heap.get? b=some o->h1.get? b=some o) (hm:h1.Ns C m) (hoD:h1.get? D=some oD) (Z:∀v,oD.data≠ .cell v):
  Inv (X.comp scope cl C N s H fp) [(D,oD)] (iC nv ix σ) H {s with heap:=h1,toks:=tk}:=by
 refine⟨⟨I.ok.mod,S.kind,I.ok.glob,I.ok.blt,hC,fun x y c e1 e2=>I.ok.inj x y c (F x c e1) (F y c e2),fun x hx=>?_,fun _ _ z=>absurd z Z4,I.ok.hd,I.ok.frames,.inl rfl,fun b P=>⟨fun z=>?_,fun x c e=>(J b P).2.2.2.2.1 x c (F x c e)⟩,I.bs,
  h7 I.ok.bsz I.sz,fun b o e P=>?_,fun b P z=>?_,I.stack,I.Bu⟩,rfl,I.bare,Un.kept old,⟨m,hm,fun i x v e1 e2 e3=>?_⟩,fun x c e=>?_,I.hok.fresh hC,fun x c e=>I.md x c (F x c e),fun p hp=>?_,I.hok.kept old,?_⟩
 ·have hx':=hx;have fr:scope.names.lookup x=some .free:=by
   rcases hx' with z|z
   ·rcases qW z with q|q
    ·exact absurd rfl (S.nocell _ (ZJ q))
    ·exact q.1
   ·rcases qW z with q|q
    ·exact q
    ·simp_all
  exact O (x,.free) (ZJ fr) rfl
 ·exact kv (h9 (hob b P) hC) z
 ·rcases(J b P).2.2.2.1 with z|z
  ·exact I.ok.noex b o e z
  ·exact HE e (h7 I.ok.bsz z) rfl
 ·rcases fy.mp (I.BP b z) with q|q
  ·exact(J b P).2.1 q
  ·exact(J b P).2.2.1 q
 ·have e1':N[i]?=some x:=e1;by_cases hi:i<nv
  ·have G:(iC nv ix σ)[i]?=some (some v):=e2;unfold iC at G;rw[List.getElem?_append_left (by simp_all),List.getElem?_replicate,dy hi] at G;cases G
  ·obtain⟨j,rfl⟩:∃j,i=nv+j:=⟨i-nv,by omega⟩;obtain⟨k,hk,hN,hkd,hsc⟩:=S.at_ j x e1';have G:(iC nv ix σ)[nv+j]?=some (some v):=e2;unfold iC at G;rw[List.getElem?_append_right (by simp),aam,Nat.add_sub_cancel_left,j1,hk] at G;have e4:σ[k]?=some (some v):=by
    have e5:(σ[k]?).join=some v:=by simp_all
    cases q:σ[k]?<;>(simp_all)
   obtain⟨m0,_,hl⟩:=I.loc;have vis:Ys X.env.scope x:=by
    rcases hkd with z|z
    ·exact .inr (.inl z)
    ·exact .inr (.inr z)
   obtain⟨u,r,l⟩:=hl k x v hN e4 vis;refine⟨u,r,?_⟩;rcases l with⟨z,_⟩|⟨_,c,hc,Q⟩
   ·simp_all
   ·obtain⟨c',U⟩:=O (x,.free) (ZJ hsc) rfl;have:=F x c' U;rw[hc] at this;cases this;refine .inr ⟨?_,c,U,Q.keeps old⟩;rcases e3 with z|z|z
    ·rcases qW z with q|q
     ·simp_all
     ·cases q.2
    ·exact .inl z
    ·exact .inr z
 ·obtain⟨v,q⟩:=I.cell x c (F x c e);exact⟨v,q.keeps old⟩
 ·have hp':p∈[(D,oD)]:=hp;have e:p=(D,oD):=by simp_all
  subst e;refine⟨hoD,I.hok.fresh hD,hDC,fun z=>?_,Z⟩;rcases fy.mp (I.BP D z) with q|q
  ·exact aal (h9 I.lt hD) q
  ·exact I.nofs hD q
 ·show(iC nv ix σ).length=N.length;unfold iC;rw[ib,aam,cz,S.len]
theorem P6 {X:Cx} {i:List (Addr×Obj)} {σ:St} {H:Hp} {s:Shared} {scope:Scope} {N:List Str} {cl:List (Str×Addr)} {Z:List Addr} {C D:Addr} {x:List Value} {ys:List V} {n:Nat} {P:St} {H':Hp} {Q:Shared} (I:Inv X i σ H s) (G:∀b∈Z,Bs X i H b) (hD:s.heap.objs.size<=D)
  (J:Inv (X.comp scope cl C N s H Z) [(D,{cls:= .type "list",data:= .seq x.toArray n})] P H' Q) (r:Vals ys x) (hl:ys.length<=sizeLine):Inv X i σ (upd H' D (.lst ys)) Q:=by
 obtain⟨eD,F,_⟩:=J.pin (D,{cls:= .type "list",data:= .seq x.toArray n}) (by simp[Cx.comp]);have U:=J.base;have O:∀b o,s.heap.get? b=some o->b≠D:=fun b o e=>HE e hD;refine I.call' J.os ⟨U.keep,U.slot,fun b o e n hx=>?_,U.there,fun b xs e=>?_,fun b o xs e=>?_,fun b ps e=>?_⟩ (fun b u e=>?_) J.bare fun b y=>(G b y).2.2.2 |> fun z=>⟨z.1,(G b y).2.1,z.2.1,z.2.2⟩
 ·rw[ag (O b o e)];exact U.free b o e n hx
 ·have q:=U.tups b xs e;rw[ag (ao q F)];exact q
 ·have q:=U.frzs b o xs e;rw[ag (ao q F)];exact q
 ·obtain⟨more,q⟩:=U.tbls b ps e;exact⟨_,by rw[ag (ao q F)];exact q⟩
 ·by_cases y:b=D
  ·subst y;rw[aa] at e;cases e;exact⟨hl,x,n,r,eD⟩
  ·rw[ag y] at e;exact(J.hok b u e).stay (fun c v _ q=>q) (fun c q=>by rw[ag (ao q F)];exact q) fun c xs q=>by rw[ag (ao q F)];exact q
end
section
theorem Gv {prog:Program} {w:World} {A:Around} {R:Result->Shared->Prop} {s:Shared} {elt target iter:Expr} {ifs:List Expr} {scope:Scope} {pos:Pos} {it acc:Value} {env:Env} (I:Nat->Shared->Prop)
  (
   turn:∀n s,I n s->wpAny (model prog w) A (pyNext it) (fun r z=>match r with
   |none=>R (.ok .next) z
   |
     some v=>wpAny (model prog w) A (letOwnedTupleGo target it v) (fun _ s₀=>wpAny (model prog w) A (assign target env v) (fun _ J=>
     wpAny (model prog w) A (forIn ifs true fun c r=>if r=true then do let ok<-isTrue c env (eval c env);pure (ForInStep.yield ok) else pure (ForInStep.yield r)) (fun ok i=>
      if ok=true then wpAny (model prog w) A (eval elt env) (fun x F=>
       wpAny (model prog w) A (call (.builtin "list.append") [acc,x]) (fun _ G=> ∃m,m<n/\I m G) (fun _ _=>False) F) (fun _ _=>False) i
      else∃m,m<n/\I m i) (fun _ _=>False) J) (fun _ _=>False) s₀) (fun _ _=>False) z) (fun _ _=>False) s)
  (n:Nat) (h:I n s):
  codeAny (model prog w) A (.compLoop (.ListComp elt [⟨target,iter,ifs,0⟩] scope pos) 0 it acc env) R s:=by
 refine codeAny_loop rfl I (fun n s X=>?_) n h;refine wpAny_noted ?_;rw[compTurn_list];refine c8 (aaw (c8 (z4 (turn n s X) (fun r z O=>?_) fun _ _ y=>y.elim)));cases r with
 |none=>exact fg O
 |some v=>
  refine c8 (z4 O (fun _ s₀ h₀=>?_) fun _ _ y=>y.elim);refine c8 (z4 h₀ (fun _ J Q=>c8 (z4 Q (fun ok i C=>?_) fun _ _ y=>y.elim)) fun _ _ y=>y.elim);cases ok with
  |false=>exact fg ⟨rfl,C⟩
  |true=>
   exact c8 (c8 (z4 C (fun x F U=>c8 (z4 U (fun _ G P=>fg (fg ⟨rfl,P⟩)) fun _ _ y=>y.elim)) fun _ _ y=>y.elim))
end
def T2:TT:=fun _ H Q=>Q true H
def mh (J:It) (g:TG) (tt:TT) (te:TE) (F:St) (X:Hp) (Q:List V->Hp->Prop):Prop:=
 ∃W:Nat->Nat->List V->St->Hp->Prop,(∃m,W 0 m [] F X)/\∀i m ys I H',W i m ys I H'->
  (
   J.stop i H'/\Q ys H')\/(J.go i H'/\ys.length<sizeLine/\∃N:List V->St->Hp->Prop,(∀G C v,N G C v->∃P,P<m/\W (i+1) P G C v)/\
   ∀x v,J.yld i H' x v->g x I v fun z Z=>tt z Z fun b O=>if b=true then te z O fun y U=>N (ys++ [y]) z U else N ys z O)
def BN (nv:Nat) (ix:List Nat) (wi:TI) (g:TG) (tt:TT) (te:TE):TE:=fun σ H Q=>wi σ H fun J i=>mh J g tt te (iC nv ix σ) i fun ys H'=>ys.length<=sizeLine/\∀D,H' D=none->Q (.ref D) (upd H' D (.lst ys))
section
variable {X:Cx} {nv:Nat} {tt:TT}
def X9 (X:Cx) (ifs:List Expr) (tt:TT):Prop:=
 ∀(i:List (Addr×Obj)) (s:Shared) (σ:St) (H:Hp) (Q:Bool->Hp->Prop),Inv X i σ H s->tt σ H Q->
  wpAny (model X.prog X.w) X.A (forIn ifs true fun c r=>if r=true then do let ok<-isTrue c X.env (eval c X.env);pure (ForInStep.yield ok) else pure (ForInStep.yield r)) (TP X i σ Q) X.xe s
theorem cj:X9 X [] T2:=fun _ _ _ H _ I h=>wpAny_tests_nil ⟨H,I,h⟩
theorem nW {c:Expr} (h:PT X c tt):X9 X [c] tt:=fun i s σ H Q I hw=>wpAny_tests_one (h _ s σ H Q I hw)
theorem EH {tg elt iter:Expr} {ifs:List Expr} {scope:Scope} {N:List Str} {ix:List Nat} {pos:Pos} {wi:TI} {g:TG} {te:TE} {use:Option (Value->Sem Unit)} {Qv:Value->Shared->Prop} {pins:List (Addr×Obj)} {s:Shared} {σ:St} {H:Hp} {Q:List V->Hp->Prop} (hc:X.calm=true) (S:De X scope N nv ix) (hi:PI X tg iter wi)
  (hg:∀cl C s H ex,PG (X.comp scope cl C N s H ex) tg g) (ht:∀cl C s H ex,X9 (X.comp scope cl C N s H ex) ifs tt) (he:∀cl C s H ex,PE (X.comp scope cl C N s H ex) elt te) (I:Inv X pins σ H s)
  (h:wi σ H fun J H1=>mh J g tt te (iC nv ix σ) H1 fun ys H'=>ys.length<=sizeLine/\Q ys H')
  (fin:∀ys D C H' s' (s2:Shared) (σ2:St),Q ys H'->H' D=none->D≠C->Inv X pins σ (upd H' D (.lst ys)) s'->(∃m,s'.heap.Ns C m)->(∀H'',H'' C=none->Bs X pins H'' C)->H' C=none->compPost (model X.prog X.w) X.A X.xe use Qv (.ref D) C (.ok .next) s')
  (hs:∀x,foldedSetIterable iter X.env x=pure x):
  wpAny (model X.prog X.w) X.A (comprehension (.ListComp elt [⟨tg,iter,ifs,0⟩] scope pos) scope X.env (firstIterPos [⟨tg,iter,ifs,0⟩] pos) (newList []) false (eval iter X.env) use) Qv X.xe s:=by
 obtain⟨cl,hclos,hcl,hcl2⟩:=J7 (scope:=scope) fun y hy hf=>I.ok.has y.1 (S.fre y hy hf);refine wpAny_comprehension_free (use:=use) rfl hs hclos S.kind S.names (thn (hi pins s σ H _ I h) fun v s1 h1=>thn h1 fun itv s2 h2=>?_);obtain⟨it,fp,tn,J,H2,e,I2,T,st2,f2,W,⟨m0,w0⟩,turn⟩:=h2;subst e;refine aaL (wpAny_newFunctionEnv S.nocell (by simp_all) (fun U O G=>?_) S.kind);dsimp only at O G⊢;generalize hH2:s2.heap.push {cls:= .type "list",dict:=none,data:= .seq ([]:List Value).toArray}=G2 at O G⊢;have hC:G2.objs.size=s2.heap.objs.size+1:=by rw[<-hH2,Heap.size_push]
 have hDC:s2.heap.objs.size≠G2.objs.size:=by simp_all
 have old:∀b o,s2.heap.get? b=some o->U.get? b=some o:=fun b o e=>G.extBut b o (HE e (by simp_all)) (ej _ (hH2▸ej _ e));have hacc:U.get? s2.heap.objs.size=some {cls:= .type "list",data:= .seq ([]:List Value).toArray 0}:=G.extBut _ _ hDC (ej _ (hH2▸ke _ rfl));have hob:∀b∈fp,b<s2.heap.objs.size:=fun b P=>by
  obtain⟨o,e,_⟩:=T.obj _ _ st2 b P;exact h6 e
 have hCle:s2.heap.objs.size<=G2.objs.size:=by simp_all
 have I4:∀tk,Inv (X.comp scope cl G2.objs.size N s2 H2 fp) [(s2.heap.objs.size,{cls:= .type "list",data:= .seq ([]:List Value).toArray 0})] (iC nv ix σ) H2 {s2 with heap:=U,toks:=tk}:=fun tk=>
  J3 S I2 hcl hcl2 f2 hob hCle (cv _) hDC old O hacc (fun v z=>by cases z)
 have hst₁:tn 0 U:=T.keep _ _ _ st2 fun b _ o e=>old b o e;have stat:∀{H':Hp} {pns:List (Addr×Obj)},(∀p∈pns,p.1=s2.heap.objs.size)->(∀b∈fp,H' b=none)->∀b∈fp,Bs (X.comp scope cl G2.objs.size N s2 H2 fp) pns H' b:=fun{H' pns} hp hn b P=>by
  obtain⟨f0,f1,f3,f4,f5,f6⟩:=f2 b P;have hlt:=hob b P;refine⟨hn b P,fun z=>?_,fun z=>?_,.inl P,fun x c e=>f5 x c (hcl x c e),fun p hp' z=>?_⟩
  ·exact kv (h9 hlt hCle) z
  ·rcases fy.mp (I2.BP b z) with q|q
   ·trivial
   ·trivial
  ·have hp'':p∈pns:=‹_›;exact aal (by rw[hp p hp''];exact hlt) z
 have loop:∀s₃:Shared,s₃={s2 with heap:=U,toks:=s2.toks+([]:List (Str×Value)).length}->
   codeAny (model X.prog X.w) X.A (.compLoop (.ListComp elt [⟨tg,iter,ifs,0⟩] scope pos) 0 (.ref it) (.ref s2.heap.objs.size) (compEnvC scope cl G2.objs.size X.env))
    (compPost (model X.prog X.w) X.A X.xe use Qv (.ref s2.heap.objs.size) G2.objs.size) s₃:=by
  rintro s₃ rfl;refine Gv (fun n s'=> ∃i ys F Z H',Inv (X.comp scope cl G2.objs.size N s2 H2 fp) [(s2.heap.objs.size,{cls:= .type "list",data:= .seq F.toArray F.length})] Z H' s'/\tn i s'.heap/\(∀b∈fp,H' b=none)/\Vals ys F/\W i n ys Z H') ?_ m0
   ⟨0,[],[],_,H2,I4 _,hst₁,fun b P=>(f2 b P).1,.nil,w0⟩
  rintro n s' ⟨i,ys,F,Z,H',I',st',fr',rv,w'⟩;have pin1:∀{o:Obj},∀p∈[(s2.heap.objs.size,o)],p.1=s2.heap.objs.size:=fun{o} p hp=>by
   simp_all
  rcases turn i n ys Z H' w' with⟨stop,hl,qn⟩|⟨go,hlen,Nx,hN,step⟩
  ·refine thn (T.done (X.comp scope cl G2.objs.size N s2 H2 fp) rfl rfl rfl hc i _ s' Z H' (fun _ _=>False) I' (stat pin1 fr') st' stop) fun r s4 ⟨hr,I5⟩=>?_;subst hr;obtain⟨m5,hm5,_⟩:=I5.loc;have fD:=(I5.pin (s2.heap.objs.size,{cls:= .type "list",data:= .seq F.toArray F.length}) (yl _ (by simp))).2.1;exact fin ys _ _ H' s4 s2 Z qn fD hDC (P6 I2 f2 (cv _) I5 rv hl) ⟨m5,hm5⟩ (fun H'' hn=>I2.Ge hCle hn) I5.free
  ·refine thn (T.item (X.comp scope cl G2.objs.size N s2 H2 fp) rfl rfl rfl hc i _ s' Z H' (fun _ _=>False) I' (stat pin1 fr') st' go) fun r s4 ⟨u,hr,h4⟩=>?_;subst hr;refine thn h4 fun _ s5 ⟨x,H5,I5,r5,y5,st5,fr5⟩=>?_;have I5':=I5.pinned (stat pin1 fr5) (T.obj _ _ st5);refine thn (hg _ _ _ _ _ _ s5 Z H5 x u _ I5' r5 (step x H5 y5)) fun _ s6 ⟨σ6,H6,I6,q6⟩=>?_;refine thn (ht _ _ _ _ _ _ s6 σ6 H6 _ I6 q6) fun b s7 ⟨H7,I7,q7⟩=>?_;have back:∀{σ8:St} {H8:Hp} {s8:Shared},Inv (X.comp scope cl G2.objs.size N s2 H2 fp) ([(s2.heap.objs.size,{cls:= .type "list",data:= .seq F.toArray F.length})]++Fp fp s5.heap) σ8 H8 s8->tn (i+1) s8.heap/\∀b∈fp,H8 b=none:=fun{σ8 H8 s8} J=>
    ⟨
     T.keep _ _ _ st5 fun b P o e=>(J.pin (b,o) (yl _ (yl _ (rh P e)))).1,fun b P=>by
     obtain⟨o,e,d⟩:=T.obj _ _ st5 b P;exact(J.pin (b,o) (yl _ (yl _ (rh P e)))).2.1⟩
   cases b with
   |false=>
    rw[de Z4] at q7;obtain⟨m',hm,w7⟩:=hN _ _ _ q7;exact⟨m',hm,i+1,ys,F,σ6,H7,I7.unpinned,(back I7).1,(back I7).2,rv,w7⟩
   |true=>
    rw[dy rfl] at q7;refine gQ (he _ _ _ _ _ _ s7 σ6 H7 _ I7 q7) fun y s8 yv H8 I8 r8 q8=>?_;obtain⟨eD,fD,nD,nfD,dD⟩:=I8.pin (s2.heap.objs.size,{cls:= .type "list",data:= .seq F.toArray F.length}) (yl _ (by simp));refine append_at (hsz:=by rw[ny,<-rv.length];exact Nat.le_of_lt hlen) eD fun h₅ hs₅ hD₅=>?_;obtain⟨m',hm,w8⟩:=hN _ _ _ q8;have fpD:s2.heap.objs.size ∉ fp:=fun z=>Z7 _ (hob _ z);have I9:Inv (X.comp scope cl G2.objs.size N s2 H2 fp) [] σ6 H8 s8:=I8.BB fun p hp=>absurd hp (by simp);have fk:=I2.Ge (H':=H8) (cv _) fD;have I10:Inv (X.comp scope cl G2.objs.size N s2 H2 fp) [] σ6 H8 {s8 with heap:=h₅,toks:=s8.toks}:=
     I9.turned (it:=s2.heap.objs.size) (fun b o P e=>hs₅.extBut b o P e) fD nD (.inr (cv _)) (fun x c e=>fk.2.2.2.2.1 x c (hcl x c e)) (fun p hp=>absurd hp (by simp[Cx.comp]))
    refine⟨m',hm,i+1,ys++ [yv],F++ [y],σ6,H8,I10.BB fun p hp=>?_,?_,(back I8).2,rv.append (.cons r8 .nil),w8⟩
    ·have e:p=(s2.heap.objs.size,{cls:= .type "list",data:= .seq (F++ [y]).toArray (F++ [y]).length}):=by simpa using hp
     subst e;refine⟨?_,fD,nD,nfD,fun v z=>by cases z⟩;show h₅.get? s2.heap.objs.size=_;rw[hD₅,List.push_toArray,ib,ZU]
    ·exact T.keep _ _ _ (back I8).1 fun b P o e=>hs₅.extBut b o (fun z=>fpD (by have z':b=s2.heap.objs.size:=z;rw[<-z'];exact P)) e
 exact codeAny_compStart_list (loop _ rfl) (T.self _ 0 _ _ _ hst₁ (loop _ rfl))
theorem bL (hc:X.calm=true) (S:De X scope N nv ix) (F:PI X tg iter wi) (hg:∀cl C s H ex,PG (X.comp scope cl C N s H ex) tg g) (ht:∀cl C s H ex,X9 (X.comp scope cl C N s H ex) ifs tt) (he:∀cl C s H ex,PE (X.comp scope cl C N s H ex) elt te) (hs:∀x,foldedSetIterable iter X.env x=pure x:=by intro _;rfl):PE X (.ListComp elt [⟨tg,iter,ifs,0⟩] scope pos) (BN nv ix wi g tt te):=by
 intro y s σ H Q I h;refine EH (Q:=fun ys H'=> ∀D,H' D=none->Q (.ref D) (upd H' D (.lst ys))) hc S F hg ht he I ?_ (fun ys D C H' s' s2 σ2 q P v J hm G U=>?_) hs
 ·exact h
 ·obtain⟨m,hm⟩:=hm;refine⟨m,hm,fun h' sb=>⟨.ref D,_,?_,rfl,q D P⟩⟩;have i:upd H' D (.lst ys) C=none:=by rw[ag (L3 v)];exact U
  obtain⟨f0,Z,f2,f3,O,f5⟩:=G _ i;exact J.turned (fun b o z e=>sb.extBut b o z e) f0 Z f3 O f5
theorem Fl (hc:X.calm=true) (hN:X.N.Nodup) (Q:X.N[i]?=some x) (hx:X.env.scope.names.lookup x=some .local) (S:De X scope N nv ix) (hi:PI X tg iter wi) (hg:∀cl C s H ex,PG (X.comp scope cl C N s H ex) tg g) (ht:∀cl C s H ex,X9 (X.comp scope cl C N s H ex) ifs tt) (he:∀cl C s H ex,PE (X.comp scope cl C N s H ex) elt te) (F:autoParam (swapsWith (.ListComp elt [⟨tg,iter,ifs,0⟩] scope pos) (some (.Name x px)) spos.line X.env=pure true) qqr) (hs:∀x,foldedSetIterable iter X.env x=pure x:=by intro _;rfl):PS X (.Assign [.Name x px] (.ListComp elt [⟨tg,iter,ifs,0⟩] scope pos) spos) (G1 (BN nv ix wi g tt te) (ou i)):=by
 intro Z s σ H D I h;rw[exec_Assign_Name_used _ _ _ _ F];refine c8 (aaw (c8 ?_));refine c8 (thn (EH hc S hi hg ht he I h (fun ys l C H' s' s2 σ2 q fD O J hm fk fC=>?_) hs)
  fun _ s' hq=>fg (fg hq))
 obtain⟨m,hm⟩:=hm;have G:upd H' l (.lst ys) C=none:=by rw[ag (L3 O)];exact fC
 obtain⟨f0,f1,f2,f3,U,f5⟩:=fk _ G;refine wpAny_assign_Name (D3 J hN Q (.inl hx) (v:= .ref l) rfl (fun s'' J' ⟨a,sb,ha⟩=>?_) (.inr hx));have y:C≠a:=by
  rcases ha with z|z
  ·simp_all
  ·exact L3 (U x a z)
 refine⟨m,hm.sameBut sb y,fun h' P=>⟨_,_,?_,q l fD⟩⟩;exact J'.turned (fun b o hb e=>P.extBut b o hb e) f0 f1 f3 U f5
end
noncomputable def Zj (x:Str):It:=⟨fun i _=>i<x.cps.size,fun i H v H'=>H'=H/\∃c,x.cps[i]?=some c/\v = .str ⟨#[c]⟩,fun i _=>x.cps.size<=i⟩
theorem GU {P:Program} {w:World} {K:W.Frag} {tg:Expr} (it:Addr) (x:Str) (t:Tok) (T:String) (J:T = "str_ascii_iterator" \/T = "str_iterator"):Turn P w K tg (Zj x) [it] it (fun i h=>h.IsStrIter it T x t i) where
 mem:=by simp
 obj:=fun i h st b y=>by
  have e:b=it:=by simp_all
  subst e;obtain⟨o,e,c,d⟩:=st;exact⟨o,e,fun v z=>by simp_all⟩
 keep:=fun i h h' st k=>by
  obtain⟨o,e,r⟩:=st;exact⟨o,k it (by simp) o e,r⟩
 item:=by
  intro X hP hw hK hc i G s σ H E I hf st hg;subst hP hw hK;obtain⟨f0,U,f2,Q,O,Z⟩:=hf it (by simp);have C:=hg;have W:Walks X.prog X.w X.A it [it] [it] x.cps.size (SignAt x) (fun i h=>h.IsStrIter it T x t i):=by
   rcases J with rfl|rfl
   ·exact Walks.strAscii (I.ok.hd hc) it x t
   ·exact Walks.strWide (I.ok.hd hc) it x t
  refine W.item i s _ _ C st fun v h' tk hv F kk=>?_;obtain⟨c,u,hcx,rfl⟩:=hv;have I1:Inv X _ σ H {s with heap:=h',toks:=tk}:=I.turned (fun b o y e=>kk b o (by simp_all) e) f0 U Q O Z;obtain⟨o,e,c',d⟩:=id F;refine⟨_,rfl,HQ e c' d (by rcases J with rfl|rfl<;>decide) ⟨.str _,H,I1,⟨u,rfl⟩,⟨rfl,c,hcx,rfl⟩,F,fun b y=>(hf b y).1⟩⟩
 done:=by
  intro X hP hw hK hc i G s σ H E I hf st hg;obtain⟨f0,U,f2,Q,O,Z⟩:=hf it (by simp);have C:x.cps.size<=i:=hg;have he:x.cps[i]?=none:=by simp_all
  rcases J with rfl|rfl
  ·exact wpAny_pyNext_ascii_end (I.ok.hd hc) st he fun h' eb=>⟨rfl,I.turned (fun b o y e=>eb b o y e) f0 U Q O Z⟩
  ·exact wpAny_pyNext_wide_end (I.ok.hd hc) st he fun h' eb=>⟨rfl,I.turned (fun b o y e=>eb b o y e) f0 U Q O Z⟩
 self:=fun _ _ _ _ _ st h=>by
  rcases J with rfl|rfl
  ·exact wpAny_pyIter_striter_ascii st h
  ·exact wpAny_pyIter_striter_wide st h
def xA (K:W.Frag) (x:V) (i:Hp) (R:It->Hp->Prop):Prop:=match x with
 | .ref a=>(∃xs,bC K i a xs/\R (Ye K a) i)\/(∃xs,c6 K i a xs/\R (Yd K a) i)
 | .str z=>R (Zj z) i
 |_=>False
def Se (K:W.Frag) (tl:TE):TI:=fun σ H R=>tl σ H fun x i=>xA K x i R
theorem UA (hl:PE X l tl):PI X tg l (Se X.K tl):=by
 intro Q s σ H R I h;refine gQ (hl _ s σ H _ I h) fun v s1 x y i O C=>?_;cases x with
 |ref a=>
  cases O;rcases C with⟨xs,F,q⟩|⟨xs,F,q⟩
  ·obtain⟨G,Z,p,U⟩:=i.list F;refine wpAny_pyIter_list p.isList ?_;refine⟨_,_,_,_,y,rfl,i.kept fun b o e=>ej _ e,LD a _,⟨_,ke _ rfl,rfl,rfl⟩,fun b J=>?_,q⟩;have e:b=s1.heap.objs.size:=by simp_all
   subst e;exact i.Ge (cv _) (i.hok.fresh (cv _))
  ·obtain⟨G,Z,p,U⟩:=i.tuple F;refine wpAny_pyIter_tuple ((p)) ?_;refine⟨_,_,_,_,y,rfl,i.kept fun b o e=>ej _ e,IT a _,⟨_,ke _ rfl,rfl,rfl⟩,fun b J=>?_,q⟩;have e:b=s1.heap.objs.size:=by simp_all
   subst e;exact i.Ge (cv _) (i.hok.fresh (cv _))
 |str z=>
  obtain⟨t,rfl⟩:=O;have P:∀b∈[s1.heap.objs.size],Bs X _ y b:=fun b J=>by
   have e:b=s1.heap.objs.size:=by simp_all
   subst e;exact i.Ge (cv _) (i.hok.fresh (cv _))
  cases ha:z.cps.all _
  ·exact wpAny_pyIter_wide ha ⟨_,_,_,_,y,rfl,i.kept fun b o e=>ej _ e,GU _ z t _ (.inr rfl),⟨_,ke _ rfl,rfl,rfl⟩,P,C⟩
  ·exact wpAny_pyIter_ascii ha ⟨_,_,_,_,y,rfl,i.kept fun b o e=>ej _ e,GU _ z t _ (.inl rfl),⟨_,ke _ rfl,rfl,rfl⟩,P,C⟩
 |_=>exact C.elim
def forR (J:It) (g:TG) (tb:TS) (D:Ends) (σ:St) (H:Hp):Prop:= ∃W:Nat->Nat->St->Hp->Prop,(∃m,W 0 m σ H)/\∀i m σ H,W i m σ H->
 (J.stop i H/\D.nx σ H)\/(J.go i H/\∃N:St->Hp->Prop,(∀v H',N v H'->∃z,z<m/\W (i+1) z v H')/\∀x H',J.yld i H x H'->g x σ H' fun y C=>tb {D with nx:=N,ct:=N,bk:=D.nx} y C)
section
mutual
variable {K:W.Frag} {nv:Nat}
theorem NM:LM (Se K tl) g tb D σ H=tl σ H fun x v=>xA K x v fun J i=>forR J g tb D σ i:=rfl
theorem LN:BN nv ix (Se K tl) g tt te σ H Q=tl σ H fun x i=>xA K x i fun J v=>mh J g tt te (iC nv ix σ) v fun ys H'=>ys.length<=sizeLine/\∀l,H' l=none->Q (.ref l) (upd H' l (.lst ys)):=rfl
def D6 (vs:List V) (i:Hp) (R:It->Hp->Prop):Prop:=match vs with
 | [.int j]=>(-(2 ^ 62)<=j/\j<2 ^ 62)/\R (Nw 0 j.toNat) i
 |_=>False
def D5 (vs:List V) (v:Hp) (R:It->Hp->Prop):Prop:=match vs with
 | [.int i,.int j]=>(-(2 ^ 62)<=i/\i<2 ^ 62/\-(2 ^ 62)<=j/\j<2 ^ 62)/\R (Nw i (j-i).toNat) v
 |_=>False
def Pa (v:TA):TI:=fun σ H R=>v σ H fun vs i=>D6 vs i R
def O_ (v:TA):TI:=fun σ H R=>v σ H fun vs i=>D5 vs i R
def G8 (vs:List V) (v:Hp) (R:It->Hp->Prop):Prop:=match vs with
 | [.int i,.int j,.int c]=>(-(2 ^ 61)<=i/\i<2 ^ 61/\-(2 ^ 61)<=j/\j<2 ^ 61/\0<c/\c<1000000)/\R (IG i c (rcount i j c)) v
 |_=>False
def Tz (v:TA):TI:=fun σ H R=>v σ H fun vs i=>G8 vs i R
theorem LK:LM (Pa ta) g tb D σ H=ta σ H fun vs v=>D6 vs v fun J i=>forR J g tb D σ i:=rfl
theorem LJ:LM (O_ ta) g tb D σ H=ta σ H fun vs v=>D5 vs v fun J i=>forR J g tb D σ i:=rfl
theorem LI:LM (Tz ta) g tb D σ H=ta σ H fun vs v=>G8 vs v fun J i=>forR J g tb D σ i:=rfl
theorem IW:BN nv ix (Pa ta) g tt te σ H Q=ta σ H fun vs i=>D6 vs i fun J v=>mh J g tt te (iC nv ix σ) v fun ys H'=>ys.length<=sizeLine/\∀l,H' l=none->Q (.ref l) (upd H' l (.lst ys)):=rfl
theorem IV:BN nv ix (O_ ta) g tt te σ H Q=ta σ H fun vs i=>D5 vs i fun J v=>mh J g tt te (iC nv ix σ) v fun ys H'=>ys.length<=sizeLine/\∀l,H' l=none->Q (.ref l) (upd H' l (.lst ys)):=rfl
theorem LX:D6 [.int j] H R=((-(2 ^ 62)<=j/\j<2 ^ 62)/\R (Nw 0 j.toNat) H):=rfl
theorem LW:D5 [.int i,.int j] H R=((-(2 ^ 62)<=i/\i<2 ^ 62/\-(2 ^ 62)<=j/\j<2 ^ 62)/\R (Nw i (j-i).toNat) H):=rfl
theorem LV:G8 [.int i,.int j,.int c] H R=((-(2 ^ 61)<=i/\i<2 ^ 61/\-(2 ^ 61)<=j/\j<2 ^ 61/\0<c/\c<1000000)/\R (IG i c (rcount i j c)) H):=rfl
end
end
section
theorem gc (hg:Gl X "range") (hm:X.mg "range" = none) (ha:PA X [a] ta) (hs:autoParam (starEach [a] X.env= [(false,eval a X.env)]) qqr):PI X tg (.Call (.Name "range" p) [a] [] pos) (Pa ta):=by
 intro v s σ H R I h;refine Call_ (ri I hg hm boot_range (ZH (gQ (ha _ _ s σ H _ I h) fun us s1 vs F C x i=>?_) hs rfl));replace i:D6 vs F R:=i;unfold D6 at i;split at i
 ·obtain⟨⟨i,z⟩,q⟩:=i;cases x with
  |cons r y=>
   cases y;obtain⟨t,rfl⟩:=r;exact call_range_1 (G_ C (by lia) (by lia) i z (by simp_all))
 ·simp_all
theorem uL (hg:Gl X "range") (hm:X.mg "range" = none) (ha:PA X [a,b] ta) (hs:autoParam (starEach [a,b] X.env= [(false,eval a X.env),(false,eval b X.env)]) qqr) (x:autoParam (starEach [b] X.env= [(false,eval b X.env)]) qqr):
  PI X tg (.Call (.Name "range" p) [a,b] [] pos) (O_ ta):=by
 intro y s σ H R I h;refine Call_ (ri I hg hm boot_range (ZH (gQ (ha _ _ s σ H _ I h) fun us s1 vs P O C i=>?_) (by simp_all) (by rw[x];rfl)));replace i:D5 vs P R:=i;unfold D5 at i;split at i
 ·obtain⟨⟨i,F,z,G⟩,q⟩:=i;cases C with
  |cons r v=>
   cases v with
   |cons J v=>
    cases v;obtain⟨t,rfl⟩:=r;obtain⟨t',rfl⟩:=J;exact call_range_2 (G_ O i F z G q)
 ·trivial
theorem Mr (hg:Gl X "range") (hm:X.mg "range" = none) (ha:PA X [a,b,c] ta) (hs:autoParam (starEach [a,b,c] X.env= [(false,eval a X.env),(false,eval b X.env),(false,eval c X.env)]) qqr) (y:autoParam (starEach [b,c] X.env= [(false,eval b X.env),(false,eval c X.env)]) qqr):
  PI X tg (.Call (.Name "range" p) [a,b,c] [] pos) (Tz ta):=by
 intro C s σ H R I h;refine Call_ (ri I hg hm boot_range (ZH (gQ (ha _ _ s σ H _ I h) fun us s1 vs Z U G i=>?_) (by simp_all) (by rw[y];rfl)));replace i:G8 vs Z R:=i;unfold G8 at i;split at i
 ·obtain⟨⟨i,J,F,P,z,q6⟩,q⟩:=i;cases G with
  |cons r v=>
   cases v with
   |cons Q v=>
    cases v with
    |cons x v=>
     cases v;obtain⟨t,rfl⟩:=r;obtain⟨t',rfl⟩:=Q;obtain⟨O,rfl⟩:=x;exact call_range_3 (by lia) (LY U (QT i J F P z (by lia)) z q) (Or.inl (PyProof.noPylong_small (by lia)))
 ·trivial
end
section
variable {K:W.Frag}
theorem my (z:bC K H a xs) (Pv:Nat->St->Hp->Prop) (C:Pv 0 σ H) (hl:∀i σ H,i<=xs.length->Pv i σ H->bC K H a xs) (hs:∀i x σ H,xs[i]?=some x->Pv i σ H->g x σ H fun y v=>tb {D with nx:=Pv (i+1),ct:=Pv (i+1),bk:=D.nx} y v) (hd:∀σ H,Pv xs.length σ H->D.nx σ H):
  xA K (.ref a) H fun J v=>forR J g tb D σ v:= .inl ⟨xs,z,Px Pv C hl hs hd⟩
theorem Cz (z:c6 K H a xs) (Pv:Nat->St->Hp->Prop) (C:Pv 0 σ H) (hl:∀i σ H,i<=xs.length->Pv i σ H->c6 K H a xs) (hs:∀i x σ H,xs[i]?=some x->Pv i σ H->g x σ H fun y v=>tb {D with nx:=Pv (i+1),ct:=Pv (i+1),bk:=D.nx} y v) (hd:∀σ H,Pv xs.length σ H->D.nx σ H):
  xA K (.ref a) H fun J v=>forR J g tb D σ v:= .inr ⟨xs,z,Ss Pv C hl hs hd⟩
theorem Vt (Pv:Nat->St->Hp->Prop) (G:Pv 0 σ H) (hs:∀(i:Nat) (c:Nat) σ H,z.cps[i]?=some c->Pv i σ H->g (.str ⟨#[c]⟩) σ H fun C F=>tb {D with nx:=Pv (i+1),ct:=Pv (i+1),bk:=D.nx} C F) (hd:∀σ H,Pv z.cps.size σ H->D.nx σ H):
  xA K (.str z) H fun J F=>forR J g tb D σ F:=by
 refine⟨fun i m σ H=>m=z.cps.size-i/\i<=z.cps.size/\Pv i σ H,⟨_,rfl,lp _,G⟩,?_⟩;rintro i m σ H ⟨rfl,O,p⟩;by_cases v:i<z.cps.size
 ·refine .inr ⟨v,_,fun I H' p'=>⟨_,by lia,rfl,v,p'⟩,fun x H' y=>?_⟩;obtain⟨e,c,hc,rfl⟩:=y;subst e;exact hs i c σ _ hc p
 ·have e:i=z.cps.size:=by lia
  subst e;exact .inl ⟨cv _,hd σ H p⟩
theorem ro {g:TG} {tb:TS} {D:Ends} {σ:St} {H:Hp} {lo:Int} {n:Nat} (Pv:Nat->St->Hp->Prop) (x:Pv 0 σ H)
  (hs:∀(i:Nat) σ H,i<n->Pv i σ H->g (.int (lo+i)) σ H fun v y=>tb {D with nx:=Pv (i+1),ct:=Pv (i+1),bk:=D.nx} v y) (hd:∀σ H,Pv n σ H->D.nx σ H):
  forR (Nw lo n) g tb D σ H:=Nd Pv x hs hd
theorem Su {g:TG} {tb:TS} {D:Ends} {σ:St} {H:Hp} {lo c:Int} {n:Nat} (Pv:Nat->St->Hp->Prop) (x:Pv 0 σ H)
  (hs:∀(i:Nat) σ H,i<n->Pv i σ H->g (.int (lo+i*c)) σ H fun v y=>tb {D with nx:=Pv (i+1),ct:=Pv (i+1),bk:=D.nx} v y) (hd:∀σ H,Pv n σ H->D.nx σ H):
  forR (IG lo c n) g tb D σ H:=JT Pv x hs hd
end
section
mutual
variable {K:W.Frag}
theorem uQ {tt:TT} {te:TE} {H:Hp} {tail:St} {Q:List V->Hp->Prop} {p:V->Bool} {f:V->V} {J:It} {n:Nat} {xs:List V} (hn:xs.length=n) (U:n<=sizeLine) (go:∀i,i<n->J.go i H) (stop:J.stop n H) (O:∀i x H',i<n->J.yld i H x H'->H'=H/\xs[i]?=some x)
  (ht:∀x∈xs,∀Q:Bool->Hp->Prop,Q (p x) H->tt (some x::tail) H Q) (he:∀x∈xs,p x=true->∀Q:VK,Q (f x) H->te (some x::tail) H Q) (q:Q ((xs.filter p).map f) H):
  mh J (ou 0) tt te (none::tail) H Q:=by
 refine⟨fun i m ys I H'=>i<=n/\m=n-i/\ys=((xs.take i).filter p).map f/\(∃v,I=v::tail)/\H'=H,⟨n,lp _,rfl,rfl,⟨_,rfl⟩,rfl⟩,?_⟩;rintro i m ys I H' ⟨P,rfl,rfl,⟨v,rfl⟩,rfl⟩;by_cases e:i=n
 ·subst e;refine .inl ⟨stop,?_⟩;rw[Lo (by lia)];exact q
 ·have G:i<n:=by lia
  refine .inr ⟨go i G,?_,fun F z C=>F=((xs.take _).filter p).map f/\(∃v,z=v::tail)/\C=H',fun F z C ⟨a,b,c⟩=>⟨_,by lia,‹_›,rfl,a,b,c⟩,fun x C y=>?_⟩
  ·grind
  ·obtain⟨rfl,hx⟩:=O i x _ G y;have hm:=ni hx;have tk:xs.take (i+1)=xs.take i++ [x]:=by
    rw[List.take_succ,hx];rfl
   refine ht x hm _ ?_;cases hp:p x<;>simp_all
theorem rA (v:bC K H a xs) (z:xs.length<=sizeLine) (ht:∀x∈xs,∀Q:Bool->Hp->Prop,Q (p x) H->tt (some x::tail) H Q) (he:∀x∈xs,p x=true->∀Q:VK,Q (f x) H->te (some x::tail) H Q) (q:Q ((xs.filter p).map f) H):
  xA K (.ref a) H fun J C=>mh J (ou 0) tt te (none::tail) C Q:=
 .inl ⟨xs,v,uQ rfl z (fun i F=>⟨xs,xs[i],v,by simp_all⟩) ⟨xs,v,cv _⟩ (fun i x H' F y=>⟨y.1,y.2 xs v⟩) ht he q⟩
theorem xb (v:c6 K H a xs) (z:xs.length<=sizeLine) (ht:∀x∈xs,∀Q:Bool->Hp->Prop,Q (p x) H->tt (some x::tail) H Q) (he:∀x∈xs,p x=true->∀Q:VK,Q (f x) H->te (some x::tail) H Q) (q:Q ((xs.filter p).map f) H):
  xA K (.ref a) H fun J C=>mh J (ou 0) tt te (none::tail) C Q:=
 .inr ⟨xs,v,uQ rfl z (fun i F=>⟨xs,xs[i],v,by simp_all⟩) ⟨xs,v,cv _⟩ (fun i x H' F y=>⟨y.1,y.2 xs v⟩) ht he q⟩
noncomputable def fA (z:Str):List V:=z.cps.toList.map fun c=> .str ⟨#[c]⟩
theorem P7 (C:z.length<=sizeLine) (ht:∀x∈fA z,∀Q:Bool->Hp->Prop,Q (p x) H->tt (some x::tail) H Q) (he:∀x∈fA z,p x=true->∀Q:VK,Q (f x) H->te (some x::tail) H Q) (q:Q (((fA z).filter p).map f) H):
  xA K (.str z) H fun J F=>mh J (ou 0) tt te (none::tail) F Q:=by
 refine uQ (n:=z.cps.size) (by simp[fA]) C (fun i v=>v) (cv _) (fun i x H' v y=>?_) ht he q;obtain⟨e,c,hc,rfl⟩:=y;refine⟨e,?_⟩;unfold fA;rw[j1,Array.getElem?_toList,hc];rfl
noncomputable def pJ (lo:Int) (n:Nat):List V:=(List.range n).map fun i:Nat=> .int (lo+(i:Int))
theorem J5 {tt:TT} {te:TE} {H:Hp} {tail:St} {Q:List V->Hp->Prop} {p:V->Bool} {f:V->V} {lo:Int} {n:Nat} (z:n<=sizeLine) (ht:∀i:Nat,i<n->∀Q:Bool->Hp->Prop,Q (p (.int (lo+i))) H->tt (some (.int (lo+i))::tail) H Q) (he:∀i:Nat,i<n->p (.int (lo+i))=true->∀Q:VK,Q (f (.int (lo+i))) H->te (some (.int (lo+i))::tail) H Q)
  (q:Q (((pJ lo n).filter p).map f) H):mh (Nw lo n) (ou 0) tt te (none::tail) H Q:=by
 refine uQ (by simp[pJ]) z (fun i v=>v) (cv _) (fun i x H' v y=>?_) (fun x hx=>?_) (fun x hx=>?_) q
 ·obtain⟨e,rfl⟩:=y;refine⟨e,?_⟩;unfold pJ;rw[j1,List.getElem?_range v];rfl
 ·obtain⟨i,v,rfl⟩:=h8.mp hx;exact ht i (L1.mp v)
 ·obtain⟨i,v,rfl⟩:=h8.mp hx;exact he i (L1.mp v)
theorem J4:iC 1 ix σ=none::ix.map fun i=>(σ[i]?).join:=rfl
end
end
section
mutual
def YF (neg:Bool):R2:=fun x y H Q=>match y with
 | .bl b=>Q (.bl (if neg then !decide (x = .bl b) else decide (x = .bl b))) H
 |_=>False
theorem PY:decide (V.bl a=V.bl b)=decide (a=b):=by
 cases a<;>cases b<;>decide
theorem Jf:YF true (.bl a) (.bl b) H Q=Q (.bl (!decide (a=b))) H:=by
 show Q _ H=_;rw[dy rfl,PY]
def Mh (neg:Bool):R2:=fun x y H Q=>match y with
 | .non=>Q (.bl (if neg then !decide (x = .non) else decide (x = .non))) H
 |_=>False
theorem ky:iH X (compareOp .Is) (Mh false):=iH.imp UP fun x y H Q h=>by
 unfold Mh at h;split at h
 ·trivial
 ·trivial
theorem B7:iH X (compareOp .IsNot) (Mh true):=iH.imp RK fun x y H Q h=>by
 unfold Mh at h;split at h
 ·trivial
 ·trivial
theorem Uo:Mh false x .non H Q=Q (.bl (decide (x = .non))) H:=rfl
theorem Um:Mh true x .non H Q=Q (.bl (!decide (x = .non))) H:=rfl
def xD:V->List V->Hp->VK->Prop:=fun x vs H Q=>match x,vs with
 | .int i,[]=>Q (.int ((Builtin.Int.intBits i:Nat):Int)) H
 |_,_=>False
theorem MH:Qi X "int.bit_length" xD:=by
 intro y s σ H x vs v us Q I z C h;unfold xD at h;split at h
 ·obtain⟨t,rfl⟩:=z;have i:=Vals.zero C;subst i;exact call_gives F.slot_int_bit_length (typeIs_int s _ t) F.entry_int_bit_length (F.args_int_bit_length_1 _) (AutoIntG2.int_bit_length_int_0 _ t) ((⟨.int _,H,I.tok _,⟨_,rfl⟩,h⟩))
 ·trivial
theorem Mv (ho:PE X o to) (i:autoParam (attributeBase o "bit_length" X.env (eval o X.env)=eval o X.env) qqr) (v:autoParam ((apos.endLine == cpos.line)=true) qqr):
  PE X (.Call (.Attribute o "bit_length" apos) [] [] cpos) (QQ X.K "int" xD to):=
 OI F.plainAttrs_int F.slot_int_bit_length F.type_int_bit_length MH ho i v
theorem QG {K:W.Frag}:TZ K "int" (.int i) H=True:=by
 show("int" = "int")=True;simp
theorem QF {K:W.Frag}:TZ K "str" (.str z) H=True:=by
 show("str" = "str")=True;simp
theorem Hh:xD (.int i) [] H Q=Q (.int ((Builtin.Int.intBits i:Nat):Int)) H:=rfl
def YD:V->Option Int->Option Int->Hp->VK->Prop:=fun x lo i H Q=> ∃z,x = .str z/\z.length<=sizeLine/\Q (.str (Txt.slice z lo i)) H
theorem Hq (h:IsPart v o):∃l:Option (Int×Tok),v=partValue l/\l.map (·.1)=o:=by
 cases h with
 |none=>exact⟨none,rfl,rfl⟩
 |int i t=>exact⟨some (i,t),rfl,rfl⟩
theorem Ud:Lw X YD:=by
 intro y s σ H x v U P lo i sl Q I J hs pl pu h;obtain⟨z,rfl,G,q⟩:=h;obtain⟨t,rfl⟩:=J;obtain⟨l,rfl,el⟩:=Hq pl;obtain⟨u,rfl,O⟩:=Hq pu;refine⟨_,_,F.slot_str_getitem.lookup,typeIs_str _ _ _,wpAny_getItem_str_slice (st:=none) hs rfl ?_⟩;unfold sliceMade;have e:slicePicked z l u none=Builtin.Str.strSliceIndices lo i 1 z.length:=by
  unfold slicePicked;rw[el,O];rfl
 rw[e];have C:Txt.slice z lo i=if((1:Int) == 1&&(Builtin.Str.strSliceIndices lo i 1 z.length).length == z.length)=true then z else⟨((Builtin.Str.strSliceIndices lo i 1 z.length).filterMap (z.cps[·]?)).toArray⟩:=rfl;have hle:=Txt.slice_le z lo i;rw[C] at q hle;show(if((1:Int) == 1&&(Builtin.Str.strSliceIndices lo i 1 z.length).length == z.length)=true then Made.val (.str z t) else _).post _ s;by_cases c:((1:Int) == 1&&(Builtin.Str.strSliceIndices lo i 1 z.length).length == z.length)=true
 ·rw[dy c] at q⊢;exact⟨.str z,H,I,⟨t,rfl⟩,q⟩
 ·rw[de c] at q hle⊢;exact⟨h7 hle G,.str _,H,I.tok _,⟨_,rfl⟩,q⟩
def N4 (K:W.Frag):V->Option Int->Option Int->Hp->VK->Prop:=fun x lo i H Q=>match x with
 | .ref a=>(∃xs,bC K H a xs/\∀p,H p=none->Q (.ref p) (upd H p (.lst (xa xs lo i))))\/Wr K (.ref a) lo i H Q
 | .str z=>z.length<=sizeLine/\Q (.str (Txt.slice z lo i)) H
 |_=>False
theorem Lw.imp (h:Lw X r) (i:∀x lo y H Q,r' x lo y H Q->r x lo y H Q):Lw X r':=
 fun z s σ H x v F C lo y sl Q I G hs pl pu q=>h _ s σ H x v F C lo y sl Q I G hs pl pu (i _ _ _ _ _ q)
theorem Yy:Lw X (N4 X.K):=by
 refine Lw.imp (QU.or (Uc.or Ud)) fun x lo y H Q h=>?_;unfold N4 at h;split at h
 ·rcases h with⟨xs,v,i⟩|h
  ·exact .inl ⟨_,xs,rfl,v,i⟩
  ·simp_all
 ·exact .inr (.inr ⟨_,rfl,h.1,h.2⟩)
 ·trivial
theorem N3 {K:W.Frag} {lo:Option Int}:N4 K (.str z) lo hi H Q=(z.length<=sizeLine/\Q (.str (Txt.slice z lo hi)) H):=rfl
theorem D8 {K:W.Frag} {lo:Option Int} (i:bC K H a xs) (h:∀p,H p=none->Q (.ref p) (upd H p (.lst (xa xs lo hi)))):N4 K (.ref a) lo hi H Q:= .inl ⟨xs,i,h⟩
def Og (K:W.Frag) (neg:Bool):R2:=fun x y H Q=>match y with
 | .ref p=> ∃xs,(bC K H p xs\/c6 K H p xs)/\rY x=true/\xs.all rY=true/\Q (.bl (if neg then !Du x xs else Du x xs)) H
 | .str j=>(match x with
  | .str i=>Q (.bl (if neg then !(!(Builtin.Str.occurrences j i 0 j.length 1).isEmpty) else !(Builtin.Str.occurrences j i 0 j.length 1).isEmpty)) H
  |_=>False)
 |_=>False
theorem UQ:iH X (compareOp .In) (Og X.K false):=by
 refine iH.imp (iH.or My Mx) fun x y H Q h=>?_;unfold Og at h;split at h
 ·obtain⟨xs,z,i,v,C⟩:=h;exact .inl ⟨_,xs,rfl,z,i,v,C⟩
 ·split at h
  ·simp_all
  ·simp_all
 ·simp_all
theorem Of {K:W.Frag}:Og K neg x (.ref p) H Q=(∃xs,(bC K H p xs\/c6 K H p xs)/\rY x=true/\xs.all rY=true/\Q (.bl (if neg then !Du x xs else Du x xs)) H):=rfl
theorem Oe {K:W.Frag}:Og K neg (.str i) (.str j) H Q=Q (.bl (if neg then !(!(Builtin.Str.occurrences j i 0 j.length 1).isEmpty) else !(Builtin.Str.occurrences j i 0 j.length 1).isEmpty)) H:=rfl
end
end
inductive Dt where
 |non|int (i:Int)|str (z:Str)|l (ds:List Dt)|t (ds:List Dt)
theorem Paired.get:∀{xs:List α} {ys:List β} {i:Nat} {x:α},Paired F xs ys->xs[i]?=some x->∃y,ys[i]?=some y/\F x y
 |_,_,_,_,.nil,e=>by trivial
 |_,_,0,_,.cons r _,e=>by simp_all
 |_,_,i+1,x,.cons _ t,e=>by
  obtain⟨u,z,v⟩:=Paired.get t (‹_›);exact⟨u,‹_›,v⟩
open Classical in
theorem GK {α:Type} {xs ys:List α} (hl:xs.length=ys.length) (h:∀j a b,xs[j]?=some a->ys[j]?=some b->e j=decide (a=b)):(List.range xs.length).all e=decide (xs=ys):=by
 rw[L4,ON,eM];constructor
 ·intro q;refine List.ext_getElem hl fun j i v=>?_;have:=q j (L1.mpr i);rw[h j xs[j] ys[j] (by simp) (by simp_all),eM] at this;exact this
 ·simp_all
section
variable {X:Cx} {pins:List (Addr×Obj)} {σ:St} {H:Hp} {s:Shared}
open Classical in
theorem wz:∀{xs:List V} {ds es:List Dt},Paired F xs ds->Paired G xs es->(∀x d e,F x d->G x e->d=e)->ds=es
 |_,_,_,.nil,.nil,_=>rfl
 |_,_,_,.cons r t,.cons r' t',f=>by rw[f _ _ _ r r',wz t t' f]
theorem tO (I:Inv X pins σ H s) (h:bC X.K H a xs) (x:c6 X.K H a ys):False:=by
 obtain⟨y,_,p,_⟩:=I.list h;obtain⟨its',_,p',_⟩:=I.tuple x;obtain⟨o,n,e,c,_⟩:=p;obtain⟨C,v,i,_⟩:=p';rw[e] at v;cases v;rw[c] at i;injection i with z;exact absurd z (by decide)
theorem Kl {v i:List Value} (h: ¬v.length=i.length):(v.toArray.size != i.toArray.size)=true:=by
 simp_all
open Classical in
open Classical in
theorem uV {es:List Dt} (hn:n=ds.length) (hl:ds.length=es.length):(List.range n).all (fun j=>decide (ds[j]?=es[j]?))=decide (ds=es):=by
 subst hn;exact GK hl fun j a b ha i=>by
  simp_all
open Classical in
end
section
open Classical in
open Classical in
end
mutual
noncomputable def XQ (v scope:Scope) (x N:List Str) (nv:Nat) (ix:List Nat):Bool:=
 scope.kind == .function&&scope.names.all (fun y=>y.2 != .cell&&(y.2 != .local||scope.names.lookup y.1 == some .local)&&(y.2 != .free||(v.names.lookup y.1 == some .cell||v.names.lookup y.1 == some .free)))&&
  N.length == nv+ix.length&&(List.range ix.length).all fun j=>match N[nv+j]?,ix[j]? with
   |some y,some i=>x[i]? == some y&&(v.names.lookup y == some .cell||v.names.lookup y == some .free)&&scope.names.lookup y == some .free
   |_,_=>false
theorem c9 {nv:Nat} (h:XQ X.env.scope scope X.N N nv ix=true):De X scope N nv ix:=by
 unfold XQ at h;simp only[fx,ZS,ON,L1,aaz,bne_iff_ne] at h;obtain⟨⟨⟨F,v⟩,C⟩,G⟩:=h;refine⟨F,fun y i=>(v y i).1.1,fun y i hl=>?_,fun y i hf=>?_,C,fun j y e=>?_⟩
 ·rcases(v y i).1.2 with z|z
  ·trivial
  ·exact z
 ·rcases(v y i).2 with z|z
  ·trivial
  ·exact z
 ·have x:j<ix.length:=by
   have:=(i4.mp e).1;lia
  have q:=G j x;rw[e,mu x] at q;simp only[fx,ZS,aaz] at q;exact⟨_,mu x,q.1.1,q.1.2,q.2⟩
def TupAt (K:W.Frag) (mg:Str->Option Value) (x:Str) (vs:List V):Prop:=
 ∃(a:Addr) (o:Obj) (i:Array Value) (n:Nat),mg x=some (.ref a)/\K.lookup a=some o/\o.cls = .type "tuple" /\o.dict=none/\o.data = .seq i n/\i.size<=sizeLine/\Vals vs i.toList
def Yv (K:W.Frag) (vs:List V):TE:=fun _ H Q=> ∀a,(∀H,c6 K H a vs)->(∀H,TZ K "tuple" (.ref a) H)->Q (.ref a) H
theorem Rv (hg:Gl X x) (h:TupAt X.K X.mg x vs) (hd:(x == ("__debug__":Str))=false:=by decide):PE X (.Name x pos) (Yv X.K vs):=by
 obtain⟨a,o,y,n,hm,hk,hc,v,i,C,r⟩:=h;intro z s σ H Q I q;exact mw I hg hm ⟨.ref a,H,I,rfl,q a (fun H=> .inr ⟨o,y,n,hk,hc,i,C,r⟩) (fun H=> .inr (.inl ⟨rfl,o,hk,hc,v⟩))⟩ hd
theorem Bq (bs:List Bool):(List.range bs.length).all (fun i=>bs.getD i false)=bs.all id:=by
 rw[L4,ON,ON];constructor
 ·intro h b y;obtain⟨i,x,rfl⟩:=List.getElem_of_mem y;have:=h i (L1.mpr x);simpa [x] using this
 ·intro h i x;have v:=L1.mp x;have:=h _ (aaa v);simpa [v] using this
theorem preSum_eq (ns:List Int):∀n,n<=ns.length->preSum (fun i=>ns.getD i 0) n=(ns.take n).sum
 |0,_=>rfl
 |n+1,h=>by
  rw[preSum,preSum_eq ns n (by lia),List.take_succ,List.sum_append];simp[show n<ns.length by lia]
end
section
mutual
def Ri (K:W.Frag) (any:Bool):List V->Hp->VK->Prop:=fun xs H Q=>match xs with
 | [.ref p]=> ∃bs:List Bool,bC K H p (bs.map V.bl)/\Q (.bl (if any then bs.any id else bs.all id)) H
 |_=>False
theorem GX {bs:List Bool} (r:Vals (bs.map V.bl) its):TruthOf prog w A (fun i v=>its.toArray[i]?=some v) (fun i=>bs.getD i false):=by
 intro i v s Q E G z;have y:its[i]?=some v:=by simp_all
 have I:i<bs.length:=by
  have:=(i4.mp y).1;have l:=r.length;rw[cz] at l;lia
 obtain⟨u,C,F⟩:=r.get (i:=i) (x:= .bl bs[i]) (by simp_all);rw[y] at C;cases C;cases F;have e:bs.getD i false=bs[i]:=by simp_all
 replace z:Q (bs.getD i _) s:=z;rw[e] at z;exact ZC z
theorem Qa (hc:X.calm=true):bT X (.builtin "all") (Ri X.K false):=by
 intro v s σ H xs us Q I rs q;unfold Ri at q;split at q
 ·rename_i p;obtain⟨u,rfl,x⟩:=vals1 rs;cases x;obtain⟨bs,y,q⟩:=q;obtain⟨C,r,pl,F⟩:=I.list y;have i:p<s.heap.objs.size:=by obtain⟨o,e,_⟩:=pl.isList;exact h6 e
  have hlen:=r.length;rw[cz] at hlen;refine call_all_walk (wpAny_pyIter_list pl.isList ⟨_,_,_,_,_,_,_,rfl,Walks.list (A:=X.A.in1) (I.ok.hd hc) _ p (kv i) _,⟨⟨_,ke _ rfl,rfl,rfl⟩,pl.isList.push _⟩,GX r,fun G tk hk=>?_⟩);refine⟨_,H,I.kept fun b o e=>hk b o (fun z=>HE e (cv _) (hQ.mp z)) (ej _ e),?_,q⟩;rw[ny,<-hlen,Bq];rfl
 ·trivial
def QZ (K:W.Frag):List V->Hp->VK->Prop:=fun xs H Q=>match xs with
 | [.ref p]=> ∃ns:List Int,bC K H p (ns.map V.int)/\Q (.int ns.sum) H
 |_=>False
theorem P9 (hc:X.calm=true):bT X (.builtin "sum") (QZ X.K):=by
 intro O s σ H xs us Q I rs q;unfold QZ at q;split at q
 ·rename_i p;obtain⟨u,rfl,F⟩:=vals1 rs;cases F;obtain⟨ns,U,q⟩:=q;obtain⟨G,r,pl,hz⟩:=I.list U;have y:p<s.heap.objs.size:=by obtain⟨o,e,_⟩:=pl.isList;exact h6 e
  have hlen:=r.length;rw[cz] at hlen;refine call_sum_walkG (wpAny_pyIter_list pl.isList ⟨_,_,_,_,_,_,fun i=>ns.getD i 0,rfl,Walks.list (A:=X.A.in1) (I.ok.hd hc) _ p (kv y) _,⟨⟨_,ke _ rfl,rfl,rfl⟩,pl.isList.push _⟩,fun b Z=>?_,fun i v hv=>?_,fun h' tk t' hk=>?_⟩)
  ·have:b=s.heap.objs.size\/b=p:=by simp_all
   rw[Heap.size_push];rcases this with rfl|rfl
   ·simp_all
   ·exact Nat.lt_succ_of_lt y
  ·have C:G[i]?=some v:=by simp_all
   have P:i<ns.length:=by
    grind
   obtain⟨u,J,F⟩:=r.get (i:=i) (x:= .int ns[i]) (by simp);rw[C] at J;cases J;obtain⟨t,rfl⟩:=F;exact⟨t,by simp[P]⟩
  ·refine⟨.int _,H,I.kept fun b o e=>hk b o (fun z=>HE e (cv _) (hQ.mp z)) (ej _ e),⟨t',?_⟩,q⟩;rw[ny,<-hlen,preSum_eq ns _ (cv _),ZL]
 ·trivial
theorem Ov {K:W.Frag}:Ri K false [.ref p] H Q=(∃bs:List Bool,bC K H p (bs.map V.bl)/\Q (.bl (bs.all id)) H):=rfl
theorem N2 {K:W.Frag}:QZ K [.ref p] H Q=(∃ns:List Int,bC K H p (ns.map V.int)/\Q (.int ns.sum) H):=rfl
def wq (K:W.Frag):List V->Hp->VK->Prop:=fun xs H Q=>match xs with
 | [.ref p]=> ∃ys,(bC K H p ys\/c6 K H p ys)/\∀l,H l=none->Q (.ref l) (upd H l (.lst ys))
 |_=>False
theorem J9:bT X (.type "list") (wq X.K):=bT.imp Gy fun xs H Q h=>by
 unfold wq at h;split at h
 ·simp_all
 ·simp_all
def Bx (K:W.Frag):List V->Hp->VK->Prop:=fun xs H Q=>match xs with
 | [.ref p]=> ∃ys,(bC K H p ys/\∀l,H l=none->Q (.ref l) (upd H l (.tup ys)))\/(c6 K H p ys/\Q (.ref p) H)
 |_=>False
theorem Ir:bT X (.type "tuple") (Bx X.K):=bT.imp DP fun xs H Q h=>by
 unfold Bx at h;split at h
 ·simp_all
 ·simp_all
theorem Je {K:W.Frag}:wq K [.ref p] H Q=(∃ys,(bC K H p ys\/c6 K H p ys)/\∀l,H l=none->Q (.ref l) (upd H l (.lst ys))):=rfl
theorem Hc {K:W.Frag}:Bx K [.ref p] H Q=(∃ys,(bC K H p ys/\∀l,H l=none->Q (.ref l) (upd H l (.tup ys)))\/(c6 K H p ys/\Q (.ref p) H)):=rfl
def tD:V->List V->Hp->VK->Prop:=fun x vs H Q=>match x,vs with
 | .ref l,[y]=> ∃xs,H l=some (.lst xs)/\xs.length<sizeLine/\Q .non (upd H l (.lst (xs++ [y])))
 |_,_=>False
theorem JH:Qi X "list.append" tD:=by
 intro i s σ H x xs v us Q I C rs q;unfold tD at q;split at q
 ·obtain⟨ys,F,y,z⟩:=q;exact MI _ s σ H _ _ v us Q I C rs ⟨_,ys,_,rfl,rfl,F,y,z⟩
 ·trivial
theorem Mw (ho:PE X o to) (he:PE X e te) (v:autoParam (attributeBase o "append" X.env (eval o X.env)=eval o X.env) qqr) (z:((backTo cpos (starEach [e] X.env)).all (fun x=>!x.1)&&(backToKw cpos (keywordEach [] X.env)).all (fun x=>x.1.isSome)
   &&decide ([e].length+([]:List Keyword).length+(if([]:List Keyword).isEmpty then 0 else 1)<30))=true:=by rfl) (y:autoParam ((apos.endLine == cpos.line)=true) qqr) (hs:autoParam (starEach [e] X.env=(false,eval e X.env)::starEach [] X.env) qqr) (i:autoParam ((backTo cpos (starEach [] X.env)).any (·.1)=false) qqr):
  PE X (.Call (.Attribute o "append" apos) [e] [] cpos) (Wk X.K "list" tD to (rG te yM)):=
 Ho F.plainAttrs_list F.slot_list_append F.type_list_append JH ho (KQ he gN hs) v z y hs i
theorem cf {K:W.Frag} (h:bC K H a xs):TZ K "list" (.ref a) H:= .inl ⟨rfl,xs,h⟩
theorem Fh:tD (.ref l) [y] H Q=(∃xs,H l=some (.lst xs)/\xs.length<sizeLine/\Q .non (upd H l (.lst (xs++ [y])))):=rfl
def Wt:V->V->V->Hp->(Hp->Prop)->Prop:=fun o i v H Q=>match o,i with
 | .ref p,.int k=> ∃xs j,H p=some (.lst xs)/\Qo xs.length k=some j/\Q (upd H p (.lst (xs.set j v)))
 |_,_=>False
theorem L6:Wt (.ref p) (.int k) v H Q=(∃xs j,H p=some (.lst xs)/\Qo xs.length k=some j/\Q (upd H p (.lst (xs.set j v)))):=rfl
def AO (K:W.Frag):R2:=fun x y H Q=>match x,y with
 | .ref p,.int i=> ∃xs v,(bC K H p xs\/c6 K H p xs)/\kB xs i=some v/\Q v H
 | .str z,.int i=> ∃c,z.length<=sizeLine/\kB z.cps.toList i=some c/\Q (.str ⟨#[c]⟩) H
 |_,_=>False
theorem IF.imp (h:IF X r) (i:∀x y H Q,r' x y H Q->r x y H Q):IF X r':=fun value slice z s σ H x y v u Q I F C q hs=>h _ _ _ s σ H x y v u Q I F C (i _ _ _ _ q) hs
theorem YR:IF X (AO X.K):=IF.imp Vh fun x y H Q h=>by
 unfold AO at h;split at h
 ·obtain⟨xs,v,i,z,C⟩:=h;rcases i with i|i
  ·exact .inl ⟨_,xs,_,v,rfl,rfl,i,z,C⟩
  ·exact .inr (.inl ⟨_,xs,_,v,rfl,rfl,i,z,C⟩)
 ·obtain⟨c,i,z,C⟩:=h;exact .inr (.inr ⟨_,_,c,rfl,rfl,i,z,C⟩)
 ·trivial
theorem Ob {K:W.Frag}:AO K (.str z) (.int i) H Q=(∃c,z.length<=sizeLine/\kB z.cps.toList i=some c/\Q (.str ⟨#[c]⟩) H):=rfl
theorem Ct {K:W.Frag} (h:bC K H p xs) (e:kB xs i=some v) (q:Q v H):AO K (.ref p) (.int i) H Q:=⟨xs,v,.inl h,e,q⟩
theorem bV {K:W.Frag} (h:c6 K H p xs) (e:kB xs i=some v) (q:Q v H):AO K (.ref p) (.int i) H Q:=⟨xs,v,.inr h,e,q⟩
theorem Pb {K:W.Frag} {ns:List Int} (i:bC K H a (ns.map V.int)) (x:0<=k) (y:k<(ns.length:Int)) (q:Q (.int (ns.getD k.toNat 0)) H):AO K (.ref a) (.int k) H Q:=by
 refine Ct i ?_ q;obtain⟨j,rfl⟩:∃j:Nat,k=(j):=⟨k.toNat,by lia⟩;refine SN ?_;have v:j<ns.length:=by lia
 simp[v]
end
end
section
theorem JS:Pt t u (v::r) σ H Q=t v σ H fun i H'=>u r i H' Q:=by
 apply propext;constructor
 ·rintro⟨x,y,e,h⟩;cases e;exact h
 ·intro h;exact⟨v,r,rfl,h⟩
theorem Pr:XD [] σ H Q=Q σ H:=by
 apply propext;exact⟨fun h=>h.2,fun h=>⟨rfl,h⟩⟩
theorem Vz {P:Int->Prop}:(∃k,V.int i = .int k/\P k)=P i:=by
 simp_all
theorem I_ (h:n<=1000):(n<=sizeLine)=True:=by
 have:=gn;simp only[eq_iff_iff,iff_true];lia
theorem NV (h:n<=1000):(n<sizeLine)=True:=by
 have:=gn;simp only[eq_iff_iff,iff_true];lia
end
section
mutual
variable {X:Cx} (K:W.Frag) (h:X.K=K)
theorem RN (h:X.K=K):iH X (binaryOp .Add) (tE K):=h▸RO
theorem dO (h:X.K=K):bT X (.builtin "len") (z7 K):=h▸Nn
theorem ku (h:X.K=K):bT X (.builtin "isinstance") (uY K):=h▸P_
theorem B_ (h:X.K=K):iH X (compareOp .In) (Og K false):=h▸UQ
theorem QV (h:X.K=K):Lw X (N4 K):=h▸Yy
theorem WT (h:X.K=K):IF X (AO K):=h▸YR
theorem aR (h:X.K=K) (hl:PE X l tl):PI X tg l (Se K tl):=h▸UA hl
theorem uU (h:X.K=K) (hc:X.calm=true):bT X (.builtin "all") (Ri K false):=h▸Qa hc
theorem Nk (h:X.K=K) (hc:X.calm=true):bT X (.builtin "sum") (QZ K):=h▸P9 hc
theorem fW (h:X.K=K):bT X (.type "list") (wq K):=h▸J9
theorem AK (h:X.K=K):bT X (.type "tuple") (Bx K):=h▸Ir
theorem ek (h:X.K=K) (hg:Gl X x) (ht:TupAt K X.mg x vs) (hd:(x == ("__debug__":Str))=false:=by decide):PE X (.Name x pos) (Yv K vs):=by
 subst h;exact Rv hg ht hd
theorem Rt {es:List Expr} {k:Nat} {pos:Pos} {t:TR} {n:Nat} (h:X.K=K) (hc:X.calm=true) (hh:Qq X es t)
  (hn:autoParam ((assignEach es X.env).length=n) qqr) (i:autoParam ((assignEach es X.env).findIdx? (·.1)=none) qqr):PG X (.Tuple es k pos) (Vr K n t):=h▸UC hc hh hn i
theorem Jl (h:X.K=K) (ho:PE X o to) (i:autoParam (attributeBase o "bit_length" X.env (eval o X.env)=eval o X.env) qqr) (v:autoParam ((apos.endLine == cpos.line)=true) qqr):
  PE X (.Call (.Attribute o "bit_length" apos) [] [] cpos) (QQ K "int" xD to):=h▸Mv ho i v
theorem iA {o e:Expr} {es:List Expr} {to:TE} {t:TA} {name:Str} {apos i:Pos} {T id:String} {r:V->List V->Hp->VK->Prop} (h:X.K=K) (pa:PlainAttrs T) (slot:Slot T name id) (C:typeOf (.builtin id)=pure (.type "method_descriptor")) (hm:Qi X id r) (ho:PE X o to) (ha:PA X (e::es) t)
  (y:autoParam (attributeBase o name X.env (eval o X.env)=eval o X.env) qqr)
  (
   hfew:((backTo i (starEach (e::es) X.env)).all (fun x=>!x.1)&&(backToKw i (keywordEach [] X.env)).all (fun x=>x.1.isSome)
   &&decide ((e::es).length+([]:List Keyword).length+(if([]:List Keyword).isEmpty then 0 else 1)<30))=true:=by rfl)
  (z:autoParam ((apos.endLine == i.line)=true) qqr) (hs:autoParam (starEach (e::es) X.env=(false,eval e X.env)::starEach es X.env) qqr) (v:autoParam ((backTo i (starEach es X.env)).any (·.1)=false) qqr):
  PE X (.Call (.Attribute o name apos) (e::es) [] i) (Wk K T r to t):=h▸Ho pa slot C hm ho ha y hfew z hs v
theorem bZ (h:X.K=K) (ho:PE X o to) (he:PE X e te) (v:autoParam (attributeBase o "append" X.env (eval o X.env)=eval o X.env) qqr) (z:((backTo cpos (starEach [e] X.env)).all (fun x=>!x.1)&&(backToKw cpos (keywordEach [] X.env)).all (fun x=>x.1.isSome)
   &&decide ([e].length+([]:List Keyword).length+(if([]:List Keyword).isEmpty then 0 else 1)<30))=true:=by rfl) (y:autoParam ((apos.endLine == cpos.line)=true) qqr) (hs:autoParam (starEach [e] X.env=(false,eval e X.env)::starEach [] X.env) qqr) (i:autoParam ((backTo cpos (starEach [] X.env)).any (·.1)=false) qqr):
  PE X (.Call (.Attribute o "append" apos) [e] [] cpos) (Wk K "list" tD to (rG te yM)):=h▸Mw ho he v z y hs i
end
end
mutual
def Yw (t u:TS):TS:=fun D σ H=> ∃M:St->Hp->Prop,t {D with nx:=M} σ H/\∀i H',M i H'->u D i H'
theorem qY {st:Stmt} {rest:List Stmt} (z:PS X st t) (y:Br X rest u):Br X (st::rest) (Yw t u):=by
 intro i s σ H D I ⟨M,h,k⟩;refine wpAny_execs_cons (thn (z _ s σ H _ I h) fun f s1 q=>?_);cases f with
 |next=>
  obtain⟨C,H',x,q⟩:=q;exact y _ s1 _ H' D x (k _ H' q)
 |ret v=>exact q
 |brk=>exact q
 |cont=>exact q
noncomputable def isStar:Expr->Bool
 | .Starred .. =>true
 |_=>false
theorem cO (h:isStar e=false):starEach (e::es) env=(false,eval e env)::starEach es env:=by
 cases e<;>first|rfl|exact absurd h (by simp[isStar])
theorem n6 {pos:Pos} {env:Env}:∀{es:List Expr},es.any isStar=false->(backTo pos (starEach es env)).any (·.1)=false
 | [],_=>rfl
 |e::es,h=>by
  rw[ZD,ZA] at h;rw[cO h.1];show(false||(backTo _ _).any _)=false;rw[n6 h.2];rfl
theorem vI (h:isStar e=false):(assignEach (e::es) env).map (·.2)=assign e env::(assignEach es env).map (·.2):=by
 cases e<;>first|rfl|trivial
theorem nK {env:Env}:∀{es:List Expr},(assignEach es env).length=es.length
 | []=>rfl
 |e::es=>by
  have i:=@nK env es;cases e<;>(show(assignEach es _).length+1=es.length+1;rw[i])
theorem jt {env:Env}:∀{es:List Expr},es.any isStar=false->(assignEach es env).findIdx? (·.1)=none
 | [],_=>rfl
 |e::es,h=>by
  rw[ZD,ZA] at h;have i:=jt (env:=env) h.2;have e1:assignEach (e::es) env=(false,assign e env)::assignEach es env:=by
   have:=h.1;cases e<;>first|rfl|trivial
  rw[e1,List.findIdx?_cons,i];rfl
noncomputable def yV:Expr->Bool
 | .UnaryOp .Not _ _=>false
 | .BoolOp .. =>false
 | .IfExp .. =>false
 | .Compare .. =>false
 |_=>true
theorem M5 (h:yV e=true) (whole:Sem Value):isTrue e env whole=(do let v<-whole;standAt e.pos;holding [v] (truthy v)):=by
 cases e with
 |UnaryOp op a p=>cases op<;>first|rfl|trivial
 |BoolOp=>trivial
 |IfExp=>trivial
 |Compare=>exact absurd h (by simp[yV])
 |_=>rfl
end
section
mutual
theorem aZ (ha:PE X e te) (hr:PA X es t) (h:autoParam (isStar e=false) qqr):PA X (e::es) (rG te t):=KQ ha hr (cO h)
theorem UJ [Quiet CX] (G:FnAt X.prog X.w X.K X.mg X.base CX x k ps sp) (hr:dC n X.A) (hk:k<=n) (hg:Gl X x) (ha:PA X (e::es) t) (i:(x == ("__debug__":Str))=false:=by decide) (h:autoParam ((e::es).any isStar=false) qqr):PE X (.Call (.Name x p) (e::es) [] pos) (G0 sp [] E0 t):=by
 rw[ZD,ZA] at h;exact WE G hr hk hg ha i (cO h.1) (n6 h.2)
theorem aD {X:Cx} {x:Str} {p pos:Pos} {e:Expr} {es:List Expr} {t:TA} {id:String} {r:List V->Hp->VK->Prop} (hc:bT X (.builtin id) r) (hg:Gl X x) (hm:X.mg x=none) (v:bootBuiltins x=some (.builtin id)) (ha:PA X (e::es) t) (hn:x≠ "__name__" :=by decide) (i:(x == ("__debug__":Str))=false:=by decide)
  (h:autoParam ((e::es).any isStar=false) qqr):PE X (.Call (.Name x p) (e::es) [] pos) (V3 r t):=by
 rw[ZD,ZA] at h;exact OH hc hg hm v ha hn i (cO h.1) (n6 h.2)
theorem a_ (hc:bT X (.type T) r) (hg:Gl X x) (hm:X.mg x=none) (v:bootBuiltins x=some (.type T)) (ha:PA X (e::es) t) (hn:x≠ "__name__" :=by decide) (i:(x == ("__debug__":Str))=false:=by decide) (h:autoParam ((e::es).any isStar=false) qqr):PE X (.Call (.Name x p) (e::es) [] pos) (V3 r t):=by
 rw[ZD,ZA] at h;exact Mu hc hg hm v ha hn i (cO h.1) (n6 h.2)
theorem jw (v:PG X e g) (i:Qq X es u) (h:autoParam (isStar e=false) qqr):Qq X (e::es) (Pt g u):=OD v i (vI h)
theorem KJ (K:W.Frag) (i:X.K=K) (hc:X.calm=true) (hh:Qq X es u) (hn:autoParam (es.length=n) qqr) (h:autoParam (es.any isStar=false) qqr):PG X (.Tuple es j pos) (Vr K n u):=
 Rt K i hc hh (by rw[nK];exact hn) (jt h)
theorem mq (he:PE X e te) (h:autoParam (yV e=true) qqr):PT X e (tB te):=Uv he (M5 h)
end
end
noncomputable def lW:Expr->Bool
 | .ListComp .. =>true
 | .SetComp .. =>true
 | .DictComp .. =>true
 |_=>false
noncomputable def isTup:Expr->Bool
 | .Tuple .. =>true
 |_=>false
noncomputable def Pg:Expr->Bool
 | .Set .. =>true
 |_=>false
theorem mE (h:lW e=false):swapsWith e tg l env=pure false:=by
 cases e<;>first|rfl|exact absurd h (by simp[lW])
theorem LO (h:isTup e=false):swappedStores [tg] e env=pure none:=by
 cases tg<;>first|rfl|(cases e<;>first|rfl|cases h)
theorem jh (h:Pg b=false):behindInMarks op b=false:=by
 cases b<;>first|rfl|exact absurd h (by simp[Pg])
section
theorem Rm (he:PE X e te) (hg:PG X tg g) (x:autoParam (lW e=false) qqr) (i:autoParam (isTup e=false) qqr) (v:autoParam (isStar tg=false) qqr):PS X (.Assign [tg] e pos) (G1 te g):=
 Ux he hg (mE x) (LO i) (vI v)
theorem KD (v:X.N.Nodup) (y:X.N[i]?=some x) (hx:Loc X.env.scope x) (he:PE X e te) (h:autoParam (lW e=false) qqr) (hf:X.fn x=true\/X.env.scope.names.lookup x=some .local:=by walk_at "q"):
  PS X (.Assign [.Name x pos'] e pos) (G1 te (ou i)):=Uw v y hx he (mE h) hf
theorem aH (he:PE X e te) (h:autoParam (lW e=false) qqr):PS X (.Expr e pos) (NN te):=Rl he (mE h)
end
def Zr (vs:List V):TA:=fun _ H Q=>Q vs H
theorem GW {K:W.Frag} (X:K.In h) (G:h.Ns mainGlobals mg) (a:W.nsIn K mainGlobals x=some (some (.ref b))) (l:K.lookup b=some o) (c:o.cls = .type "tuple") (d:o.dict=none) (e:o.data = .seq its n) (z:its.size<=sizeLine) (r:Vals vs its.toList):TupAt K mg x vs:=
 ⟨b,o,its,n,W.mg_of X G a,l,c,d,e,z,r⟩
end Lake
namespace BitM
theorem Qs (a b:Nat):(a ^^^ b)+2*(a &&& b)=a+b:=by
 induction a using Nat.strongRecOn generalizing b with
 |_ a v=>
  by_cases h:a=0
  ·simp_all
  ·have i:=v (a / 2) (by lia) (b / 2);have z:(a ^^^ b) / 2=(a / 2) ^^^ (b / 2):=Nat.xor_div_two;have y:(a &&& b) / 2=(a / 2) &&& (b / 2):=Nat.and_div_two;have m1:(a ^^^ b) % 2=(a % 2+b % 2) % 2:=by
    have e:=Nat.xor_mod_two_pow (a:=a) (b:=b) (n:=1);simp only[Nat.pow_one] at e;rw[e];rcases(by lia:a % 2=0\/a % 2=1) with p|p<;>rcases(by lia:b % 2=0\/b % 2=1) with q|q<;>rw[p,q]<;>decide
   have x:(a &&& b) % 2=(a % 2)*(b % 2):=by
    have e:=Nat.and_mod_two_pow (a:=a) (b:=b) (n:=1);simp only[Nat.pow_one] at e;rw[e];rcases(by lia:a % 2=0\/a % 2=1) with p|p<;>rcases(by lia:b % 2=0\/b % 2=1) with q|q<;>rw[p,q]<;>decide
   rcases(by lia:a % 2=0\/a % 2=1) with p|p<;>rcases(by lia:b % 2=0\/b % 2=1) with q|q<;>rw[p,q] at m1 x<;>lia
theorem UN (a b:Nat):(a |||b)+(a &&& b)=a+b:=by
 induction a using Nat.strongRecOn generalizing b with
 |_ a v=>
  by_cases h:a=0
  ·simp_all
  ·have i:=v (a / 2) (by lia) (b / 2);have z:(a |||b) / 2=(a / 2) |||(b / 2):=Nat.or_div_two;have y:(a &&& b) / 2=(a / 2) &&& (b / 2):=Nat.and_div_two;have m1:(a |||b) % 2=(a % 2)+(b % 2)-(a % 2)*(b % 2):=by
    have e:=Nat.or_mod_two_pow (a:=a) (b:=b) (n:=1);rw[e];rcases(by lia:a % 2=0\/a % 2=1) with p|p<;>rcases(by lia:b % 2=0\/b % 2=1) with q|q<;>rw[p,q]<;>decide
   have x:(a &&& b) % 2=(a % 2)*(b % 2):=by
    have e:=Nat.and_mod_two_pow (a:=a) (b:=b) (n:=1);rw[e];rcases(by lia:a % 2=0\/a % 2=1) with p|p<;>rcases(by lia:b % 2=0\/b % 2=1) with q|q<;>rw[p,q]<;>decide
   rcases(by lia:a % 2=0\/a % 2=1) with p|p<;>rcases(by lia:b % 2=0\/b % 2=1) with q|q<;>rw[p,q] at m1 x<;>lia
end BitM
namespace Rem
theorem SE (a b:Nat) (k:Nat):(a ^^^ b) / 2 ^ k=(a / 2 ^ k) ^^^ (b / 2 ^ k):=by
 apply Nat.eq_of_testBit_eq;intro i;rw[Nat.testBit_xor,Nat.testBit_div_two_pow,Nat.testBit_div_two_pow,Nat.testBit_div_two_pow,Nat.testBit_xor]
theorem QH (h:2 ^ (k+8)<=n) (x:n<2 ^ (k+9)):n ^^^ (263*2 ^ k)<2 ^ (k+8):=by
 have e0:2 ^ (k+8)=256*2 ^ k:=by lia
 have v:2 ^ (k+9)=512*2 ^ k:=by lia
 have p:=aaO k;have hd:n / 2 ^ (k+8)=1:=by
  have a1:1<=n / 2 ^ (k+8):=(Nat.le_div_iff_mul_le (by lia)).mpr (by lia);have i:n / 2 ^ (k+8)<2:=(Nat.div_lt_iff_lt_mul (by lia)).mpr (by lia);lia
 have hd2:(263*2 ^ k) / 2 ^ (k+8)=1:=by
  have a1:1<=(263*2 ^ k) / 2 ^ (k+8):=(Nat.le_div_iff_mul_le (by lia)).mpr (by lia);have i:(263*2 ^ k) / 2 ^ (k+8)<2:=(Nat.div_lt_iff_lt_mul (by lia)).mpr (by lia);lia
 have hx:(n ^^^ (263*2 ^ k)) / 2 ^ (k+8)=0:=by
  rw[SE,hd,hd2];decide
 rcases Nat.div_eq_zero_iff.mp hx with q|q
 ·lia
 ·exact q
end Rem
namespace BitI
open PySem Lake
theorem not_eq (x:Int):Builtin.bitNot x = -x-1:=by unfold Builtin.bitNot;lia
theorem Lv (a b:Nat):Builtin.bitAnd (a:Int) (b:Int)=((a &&& b:Nat):Int):=rfl
theorem Fs (a b:Nat):Builtin.bitOr (a:Int) (b:Int)=((a |||b:Nat):Int):=by
 unfold Builtin.bitOr;rw[PyProof.Rows.bitAnd_nn (by rw[not_eq];lia) (by rw[not_eq];lia)];have e:∀n,(Builtin.bitNot (Builtin.bitNot (n)))=(n):=fun n=>by rw[not_eq,not_eq];lia
 rw[e a,e b,e];simp
theorem Qr (a b:Nat):Builtin.bitXor (a:Int) (b:Int)=((a ^^^ b:Nat):Int):=by
 unfold Builtin.bitXor;rw[Fs,Lv];have i:=BitM.Qs a b;have v:=BitM.UN a b;lia
theorem Qc {n:Nat} (h:0<n):Builtin.Int.intBits (n:Int)=n.log2+1:=by
 unfold Builtin.Int.intBits;rw[de]
 ·simp
 ·lia
end BitI
namespace RemM
open Rem
theorem OL (h:b<2 ^ p):(a*2 ^ p) |||b=a*2 ^ p+b:=by
 rw[<-Nat.shiftLeft_eq,Nat.shiftLeft_add_eq_or_of_lt h]
end RemM
namespace Held
noncomputable def gZ:Int->List Int->Bool
 |_,[]=>true
 |l,x::xs=>decide (l+1<=x)&&decide (x<=15)&&gZ x xs
theorem zr:∀{l:Int} {xs:List Int},gZ l xs=true↔(xs.Pairwise (· < ·)/\∀x∈xs,l<x/\x<=15)
 |l,[]=>by simp[gZ]
 |l,x::xs=>by
  have v:=@zr x xs;simp only[gZ,fx,eM,v,List.pairwise_cons,fy];constructor
  ·rintro⟨⟨a,b⟩,c,d⟩;refine⟨⟨fun y i=>(d y i).1,c⟩,?_⟩;rintro y (rfl|i)
   ·lia
   ·have:=d y i;lia
  ·rintro⟨⟨a,c⟩,d⟩;have:=d x (.inl rfl);exact⟨⟨by lia,this.2⟩,c,fun y i=>⟨a y i,(d y (.inr i)).2⟩⟩
noncomputable def ones:List Int:=(List.range 15).map fun i:Nat=>(1:Int)+i
theorem Hr:ones.Pairwise (· < ·):=by decide
theorem O0:z∈ones↔(0<z/\z<=15):=by
 unfold ones;rw[h8];constructor
 ·rintro⟨i,v,rfl⟩;have:=L1.mp v;lia
 ·intro h;exact⟨(z-1).toNat,L1.mpr (by lia),by lia⟩
theorem JP (hx:hs[i]?=some x) (e:gZ 0 hs=gZ l (hs.drop i)):gZ 0 hs=(decide (l+1<=x)&&decide (x<=15)&&gZ x (hs.drop (i+1))):=by
 have v:=(i4.mp hx).1;rw[e,List.drop_eq_getElem_cons v];have:=(i4.mp hx).2;rw[this];rfl
end Held
namespace Com
mutual
open PySem Lake
theorem aj (h:H p=none):aA H (upd H p o):=fun b u e=>by rw[ag (ao e h)];exact e
theorem aM (h:H p=some x) (hn:H q=none):upd H q o p=some x:=by rw[ag (ao h hn)];exact h
theorem nL (x:H l=some (.lst xs)) (i:H b=some (.lst zs)) (v:xs.length+zs.length<=sizeLine) (q:∀p,H p=none->Q (.ref p) (upd H p (.lst (xs++zs)))):tE K (.ref l) (.ref b) H Q:=
 .inl ⟨l,b,xs,zs,rfl,rfl,x,i,v,q⟩
theorem tL {ns:List Int} {i:Nat} (h:(ns.map V.int)[i]?=some x):∃c,x = .int c/\ns[i]?=some c:=by
 cases e:ns[i]?<;>simp_all
theorem cshl (x:0<=j) (v:j<=1000000) (y:0<=i) (z:i<2 ^ 256):Qk i j:=by
 exact⟨⟨x,v⟩,by lia,by lia⟩
theorem ax (h:n<=1000):n<=sizeLine:=by rw[gn];lia
theorem Pc (h:H a=some (.lst xs)) (q:Q (.bl true) H):uY K [.ref a,.ty "list"] H Q:=⟨_,_,.lst h,rfl,q⟩
theorem BE (h:H a=some (.tup xs)) (q:Q (.bl true) H):uY K [.ref a,.ty "tuple"] H Q:=⟨_,_,.tup h,rfl,q⟩
theorem fresh_ne (h:upd H p o q=none):q≠p:=fun e=>by
 subst e;rw[aa] at h;cases h
theorem zu (h:upd H p o q=none):H q=none:=by
 rw[ag (fresh_ne h)] at h;exact h
theorem sS {F:Prop} (i:b=false->F) (v:b=true->G):if b=true then G else F:=by
 simp_all
theorem NR {F:Prop} (i:b=false->F) (v:b=true->G):if b=false then F else G:=by
 simp_all
theorem LU:pJ 1 15=((List.range 15).map fun i:Nat=>(1:Int)+i).map V.int:=rfl
theorem Ik {ns:List Int}:((ns.map V.int).filter p).map (fun x=>x)=(ns.filter fun i=>p (.int i)).map V.int:=by
 rw[List.map_id',aae];rfl
end
end Com
namespace Lake
open PySem PySem.Spec PyProof.Rows
structure dF (K:W.Frag) (mg:Str->Option Value) (x:Str) (C:Addr):Prop where
 U2:mg x=some (.ref C)
 cl:TX K C
 mks:W.makesIn K C=true
 kp:W.keepIn K (.ref C)=true
def MethAt (K:W.Frag) (C:Addr) (m q:Str) (st:Stmt):Prop:= ∃f i,Yh K m q st f i/\Meth K C m f
def yG (P:Program) (w:World) (K:W.Frag) (mg:Str->Option Value) (base:Heap) (CX:IL) (C:Addr) (m:Str) (k:Nat) (v:List Str) (sp:Sp):Prop:=
 ∃f i,yH P w K mg base CX k f i v sp/\Meth K C m f/\Binds K i v []
theorem O9 {K:W.Frag} (X:K.In h) (G:h.Ns mainGlobals mg) (a:W.nsIn K mainGlobals x=some (some (.ref C))) (pg:W.plainGet K C Str.empty=true) (hd:W.hasDictIn K C=true) (po:W.plainOver K C=true) (sa:W.findIn K (.ref C) "__setattr__" = some (some (.builtin "object.__setattr__"))) (mk:W.makesIn K C=true) (kc:W.keepIn K (.ref C)=true):dF K mg x C:=
 ⟨W.mg_of X G a,⟨pg,hd,po,sa⟩,mk,kc⟩
theorem MK {K:W.Frag} {st:Stmt} {kV:Value} (a:W.findIn K (.ref C) m=some (some (.ref f))) (i:W.isFn K (.ref f)=true) (l:K.lookup f=some ⟨oc,od,.func (W.fnOf m q (fH st) (dB st) (a9 st) .none kV doc pm an cdv ct),osl⟩) (c:W.codeIn K cdv q=true) (k:W.keepIn K (.ref f)=true):MethAt K C m q st:=
 ⟨f,_,Pu l c k,⟨a,i,k⟩⟩
section
theorem MethAt.fn {K:W.Frag} {st:Stmt} (F:MethAt K C m q st) (S:kC N ps (a9 st)) (z:∀(kV doc pm:Value) (an:Option Addr) (i ct:Value) (us:List Value),us.length=ps.length->bindArgs (W.fnOf m q (fH st) (dB st) (a9 st) .none kV doc pm an i ct) ⟨us,[]⟩=pure (ps.zip us)) (len:∀vs H Q E,sp vs H Q E->vs.length=ps.length) (v:∀(f:Addr) (i:Value) (A:Around) (outer:List Env) (s:Shared) (H:Hp) (vs:List V) (Q:VK) (E:XK),dC k (A.deeper (envOfC q (a9 st) s.heap.objs.size f i))->sp vs H Q E->
   ∃t,Br (C5 CX P w K mg base N q (a9 st) f i A outer s H E).nox (dB st) t/\t {nx:=fun _ H'=>Q .non H',rt:=Q} (start N vs) H):yG P w K mg base CX C m (k+1) ps sp:=by
 obtain⟨f,I,F,hm⟩:=F;have bd:=F.binds z;obtain⟨oc,od,kV,doc,pm,an,i,ct,G,rfl,lk,y⟩:=F.ex;refine⟨f,_,K_ lk y S len fun A outer s H vs Q E hr x=>?_,hm,bd⟩;obtain⟨t,h,q⟩:=v f _ A _ s H vs Q E hr x;exact⟨t,h.nox,q⟩
end
mutual
def Rb (C:Addr) (f:Str) (x:V) (H:Hp) (Q:VK):Prop:=match x with
 | .ref a=> ∃dx fs,H a=some (.ins C dx fs)/\∃v,fs.lookup f=some v/\Q v H
 |_=>False
theorem Ra (h:Rb C f x H Q):∃a,x = .ref a/\∃dx fs,H a=some (.ins C dx fs)/\∃v,fs.lookup f=some v/\Q v H:=by
 unfold Rb at h;split at h
 ·exact⟨_,rfl,h⟩
 ·exact h.elim
def Kj (C:Addr) (f:Str) (v:TE):TE:=fun σ H Q=>v σ H fun x i=>Rb C f x i Q
def Kt (C:Addr) (f:Str) (y x:V) (H:Hp) (N:Hp->Prop):Prop:=match x with
 | .ref a=> ∃dx fs,H a=some (.ins C dx fs)/\fs.length<1000/\N (upd H a (.ins C dx (aV f y fs)))
 |_=>False
theorem Hd (h:Kt C f y x H N):∃a,x = .ref a/\∃dx fs,H a=some (.ins C dx fs)/\fs.length<1000/\N (upd H a (.ins C dx (aV f y fs))):=by
 unfold Kt at h;split at h
 ·exact⟨_,rfl,h⟩
 ·exact h.elim
def Kq (C:Addr) (f:Str) (z v:TE):TS:=fun D σ H=>v σ H fun y i=>z σ i fun x F=>Kt C f y x F (D.nx σ)
def KA (C:Addr) (f:Str) (x:V) (H:Hp) (K:V->(V->Hp->Prop)->Prop) (N:Hp->Prop):Prop:=match x with
 | .ref a=> ∃dx fs,H a=some (.ins C dx fs)/\∃v,fs.lookup f=some v/\
 K v fun z y=> ∃i fs',y a=some (.ins C i fs')/\fs'.length<1000/\N (upd y a (.ins C i (aV f z fs')))
 |_=>False
theorem Ou {K:V->(V->Hp->Prop)->Prop} (h:KA C f x H K N):∃a,x = .ref a/\∃dx fs,H a=some (.ins C dx fs)/\∃v,fs.lookup f=some v/\K v fun z y=> ∃i fs',y a=some (.ins C i fs')/\fs'.length<1000/\N (upd y a (.ins C i (aV f z fs'))):=by
 unfold KA at h;split at h
 ·exact⟨_,rfl,h⟩
 ·exact h.elim
def Tg (C:Addr) (f:Str) (F z:TE) (rd:R2):TS:=fun D σ H=>F σ H fun x i=>KA C f x i (fun v R=>z σ i fun y G=>rd v y G R) (D.nx σ)
def Wv (C:Addr) (m:Str) (x:V) (H:Hp) (N:Prop):Prop:=match x with
 | .ref a=> ∃dx fs,H a=some (.ins C dx fs)/\fs.lookup m=none/\N
 |_=>False
theorem Ff (h:Wv C m x H N):∃a,x = .ref a/\∃dx fs,H a=some (.ins C dx fs)/\fs.lookup m=none/\N:=by
 unfold Wv at h;split at h
 ·exact⟨_,rfl,h⟩
 ·exact h.elim
def NK (C:Addr) (m:Str) (sp:Sp) (v:TE) (t:TA):TE:=fun σ H Q=>v σ H fun x i=>Wv C m x i (t σ i fun vs y=>sp (x::vs) y Q E0)
theorem Oi:Rb C f (.ref a) H Q= ∃dx fs,H a=some (.ins C dx fs)/\∃v,fs.lookup f=some v/\Q v H:=rfl
theorem LZ:Kt C f y (.ref a) H N= ∃dx fs,H a=some (.ins C dx fs)/\fs.length<1000/\N (upd H a (.ins C dx (aV f y fs))):=rfl
theorem Mn {K:V->(V->Hp->Prop)->Prop}:KA C f (.ref a) H K N= ∃dx fs,H a=some (.ins C dx fs)/\∃v,fs.lookup f=some v/\
  K v fun z x=> ∃i fs',x a=some (.ins C i fs')/\fs'.length<1000/\N (upd x a (.ins C i (aV f z fs'))):=rfl
theorem Q2:Wv C m (.ref a) H N= ∃dx fs,H a=some (.ins C dx fs)/\fs.lookup m=none/\N:=rfl
theorem VA {N:Addr->List (Str×V)->Prop}:(∃dx fs,some (HO.ins C d l)=some (HO.ins C dx fs)/\N dx fs)=N d l:=by
 lia
theorem Vx {N:V->Prop}:(∃v,some x=some v/\N v)=N x:=by
 simp_all
theorem MC {K:W.Frag} (h:W.findIn K (.ref C) f=some none):aO K C f:=h
theorem cH (nx:H x=none) (nd:H dx=none):aA H (upd (upd H dx (.own x)) x (.ins C dx fs)):=fun b o e=>by
 rw[ag (ao e nx),ag (ao e nd)];exact e
theorem NF (h:H p=some o):upd H p o=H:=by
 funext b;unfold upd;split
 ·simp_all
 ·rfl
end
section
theorem RF (he:PE X e ta) (c:dF X.K X.mg x C) (nn:aO X.K C f) (y:attributeBase e f X.env (eval e X.env)=eval e X.env):PE X (.Attribute e f pos) (Kj C f ta):=by
 intro i s σ H Q I h;refine Ls y (gQ (he _ s σ H _ I h) fun u s1 x P O G J=>?_);obtain⟨a,ex,dx,fs,z,v,l,q⟩:=Ra J;subst ex;obtain rfl:u=Value.ref a:=G;exact Cw O z c.cl nn l fun Z s2 U F=>⟨v,P,U,F,q⟩
theorem az (ha:PE X o ta) (G:PE X value tv) (c:dF X.K X.mg x C) (nn:aO X.K C f) (hs:autoParam (lW value=false) qqr):PS X (.Assign [.Attribute o f pos'] value pos) (Kq C f ta tv):=by
 intro i s σ H D I h;refine ZX (gQ (G _ s σ H _ I h) fun u s1 y U Q z q=>gQ (ha _ s1 σ U _ Q q) fun Z s2 x H2 I2 O P=>?_) (mE hs);obtain⟨a,ex,dx,fs,F,l,J⟩:=Hd P;subst ex;obtain rfl:Z=Value.ref a:=O;exact vX I2 F c.cl nn l z fun s3 v=>⟨σ,_,v,J⟩
theorem mr (ha:PE X o ta) (hv:PE X value tv) (c:dF X.K X.mg x C) (nn:aO X.K C f) (i:iH X (inplaceOp op) rd):PS X (.AugAssign (.Attribute o f tpos) op value pos) (Tg C f ta tv rd):=by
 intro G s σ H D I h;refine wpAny_AugAssign_AttributeAny (gQ (ha _ s σ H _ I h) fun ov s1 x H1 I1 rx qq=>?_);obtain⟨a,ex,dx,fs,ea,v,l,q⟩:=Ou qq;subst ex;obtain rfl:ov=Value.ref a:=rx;refine Cw I1 ea c.cl nn l fun u s2 I2 ru=>gQ (hv _ s2 σ H1 _ I2 q) fun U s3 y H2 J P Q=>thn (i _ s3 σ H2 v y u U _ J ru P Q) fun w4 s4 ⟨z,H3,I4,rz,Z,fs',F,l',q4⟩=>?_;exact vX I4 F c.cl nn l' rz fun s5 O=>⟨σ,_,O,q4⟩
theorem UH [Quiet CX] (he:PE X o ta) (c:dF X.K X.mg x C) (G:yG X.prog X.w X.K X.mg X.base CX C m k ps sp) (hr:dC n X.A) (hk:k<=n) (ha:PA X (e::es) t) (i:autoParam ((e::es).any isStar=false) qqr) (ht:eval (.Call (.Attribute o m apos) (e::es) [] pos) X.env=(do
   let ov<-eval o X.env
   standAt apos.atName
   let (f,first)<-holding [ov] (getMethod ov m pl)
   callWith pos f first (backTo pos (starEach (e::es) X.env)) (backToKw pos (keywordEach [] X.env))):=by rfl):
  PE X (.Call (.Attribute o m apos) (e::es) [] pos) (NK C m sp ta t):=by
 obtain⟨f,Z,F,hm,b⟩:=G;rw[ZD,ZA] at i;intro y s σ H Q I h;refine aaB (gQ (he _ s σ H _ I h) fun u s1 x U v O P=>?_) ht;obtain⟨a,ex,dx,fs,J,l,q⟩:=Ff P;subst ex;obtain rfl:u=Value.ref a:=O;refine m7 v J c.cl hm l ?_;refine aaF I.ok.mod.kin hm.kp (gQ (ha _ _ s1 σ U _ v q) fun us s2 vs H2 z r q2=>⟨z.nO,?_⟩) (cO i.1) (n6 i.2);exact Fb (vs:= .ref a::vs) F (hr.mono hk) b .nil (Quiet.pass X) z (.cons rfl r) (by simp_all)
theorem Rx [Quiet CX] (he:PE X o ta) (c:dF X.K X.mg x C) (G:yG X.prog X.w X.K X.mg X.base CX C m k ps sp) (hr:dC n X.A) (hk:k<=n) (ht:eval (.Call (.Attribute o m apos) [] [] pos) X.env=(do
   let ov<-eval o X.env
   standAt apos.atName
   let (f,first)<-holding [ov] (getMethod ov m pl)
   callWith pos f first (backTo pos (starEach [] X.env)) (backToKw pos (keywordEach [] X.env))):=by rfl):
  PE X (.Call (.Attribute o m apos) [] [] pos) (NK C m sp ta yM):=by
 obtain⟨f,O,F,hm,b⟩:=G;intro v s σ H Q I h;refine aaB (gQ (he _ s σ H _ I h) fun u s1 x P i z J=>?_) ht;obtain⟨a,ex,dx,fs,y,l,q⟩:=Ff J;subst ex;obtain rfl:u=Value.ref a:=z;refine m7 i y c.cl hm l ?_;exact W.callWith_K0 i.nO hm.kp (Fb (vs:=[.ref a]) F (hr.mono hk) b .nil (Quiet.pass X) i (.cons rfl .nil) q)
theorem o7 [Quiet CX] (c:dF X.K X.mg x C) (G:yG X.prog X.w X.K X.mg X.base CX C "__init__" k ps sp) (hr:dC n X.A) (hk:k+1<=n) (hg:Gl X x) (ha:PA X (e::es) t) (i:(x == ("__debug__":Str))=false:=by decide) (h:autoParam ((e::es).any isStar=false) qqr):PE X (.Call (.Name x p) (e::es) [] pos) (NL C sp [] E0 t):=by
 obtain⟨f,v,F,hm,b⟩:=G;rw[ZD,ZA] at h;exact RB ⟨c.mks,hm.at_,hm.fn,c.kp⟩ F (hr.mono hk) hg c.U2 b .nil (Quiet.pass X) ha i (cO h.1) (n6 h.2)
end
mutual
def V7 (K:W.Frag) (p:Addr) (i:Int) (H:Hp) (Q:VK):Option HO->Prop
 |some (.lst xs)=> ∃v,kB xs i=some v/\Q v H
 |some (.tup xs)=> ∃v,kB xs i=some v/\Q v H
 |_=>AO K (.ref p) (.int i) H Q
def Oa (K:W.Frag):R2:=fun x y H Q=>match x,y with
 | .ref p,.int i=>V7 K p i H Q (H p)
 |x,y=>AO K x y H Q
theorem N_ {K:W.Frag}:Oa K (.ref p) (.int i) H Q=V7 K p i H Q (H p):=rfl
theorem N9 {K:W.Frag}:Oa K (.str z) (.int i) H Q=AO K (.str z) (.int i) H Q:=rfl
theorem K3 {K:W.Frag}:V7 K p i H Q (some (.lst xs))= ∃v,kB xs i=some v/\Q v H:=rfl
theorem F9 {K:W.Frag}:V7 K p i H Q (some (.tup xs))= ∃v,kB xs i=some v/\Q v H:=rfl
theorem R9 {K:W.Frag} (h:V7 K p i H Q (H p)):AO K (.ref p) (.int i) H Q:=by
 unfold V7 at h;split at h
 ·rename_i xs e;obtain⟨v,a,b⟩:=h;exact Ct (bC.of e) a b
 ·rename_i xs e;obtain⟨v,a,b⟩:=h;exact bV (c6.of e) a b
 ·exact h
theorem YQ (K:W.Frag) (h:X.K=K):IF X (Oa K):=IF.imp (WT K h) fun x y H Q h=>by
 unfold Oa at h;split at h
 ·exact R9 h
 ·exact h
theorem sJ {i:Nat} {x:α} (h:xs[i]?=some x):kB xs (i:Int)=some x:=by
 have hl:=(i4.mp h).1;unfold kB Qo;rw[dy (by lia),dy (by lia)];exact h
theorem ER {l:List α}:kB (a::l) 0=some a:=sJ (i:=0) rfl
theorem IC {l:List α}:kB (a::b::l) 1=some b:=sJ (i:=1) rfl
theorem TN {l:List α}:kB (a::b::c::l) 2=some c:=sJ (i:=2) rfl
theorem TM {l:List α}:kB (a::b::c::d::l) 3=some d:=sJ (i:=3) rfl
theorem XZ {l:List α}:kB (a::b::c::d::e::l) 4=some e:=sJ rfl
theorem XY {l:List α}:kB (a::b::c::d::e::f::l) 5=some f:=sJ rfl
def O6 (K:W.Frag) (p:Addr) (H:Hp) (Q:VK):Option HO->Prop
 |some (.lst xs)=>Q (.int xs.length) H
 |some (.tup xs)=>Q (.int xs.length) H
 |_=>z7 K [.ref p] H Q
def Kw (K:W.Frag):List V->Hp->VK->Prop:=fun xs H Q=>match xs with
 | [.ref p]=>O6 K p H Q (H p)
 |xs=>z7 K xs H Q
theorem Mb {K:W.Frag}:Kw K [.ref p] H Q=O6 K p H Q (H p):=rfl
theorem Ma {K:W.Frag}:Kw K [.str z] H Q=z7 K [.str z] H Q:=rfl
theorem O5 {K:W.Frag}:O6 K p H Q (some (.lst xs))=Q (.int xs.length) H:=rfl
theorem O4 {K:W.Frag}:O6 K p H Q (some (.tup xs))=Q (.int xs.length) H:=rfl
theorem eI (K:W.Frag) (h:X.K=K):bT X (.builtin "len") (Kw K):=bT.imp (dO K h) fun xs H Q h=>by
 unfold Kw at h;split at h
 ·unfold O6 at h;split at h
  ·rename_i xs e;exact⟨xs,.inl (bC.of e),h⟩
  ·rename_i xs e;exact⟨xs,.inr (c6.of e),h⟩
  ·exact h
 ·exact h
def MZ (K:W.Frag) (p:Addr) (n:String) (H:Hp) (Q:VK):Option HO->Prop
 |some (.lst _)=>if n = "list" then Q (.bl true) H else uY K [.ref p,.ty n] H Q
 |some (.tup _)=>if n = "tuple" then Q (.bl true) H else uY K [.ref p,.ty n] H Q
 |_=>uY K [.ref p,.ty n] H Q
def He (K:W.Frag):List V->Hp->VK->Prop:=fun xs H Q=>match xs with
 | [.ref p,.ty n]=>MZ K p n H Q (H p)
 |xs=>uY K xs H Q
theorem uT (K:W.Frag) (h:X.K=K):bT X (.builtin "isinstance") (He K):=bT.imp (ku K h) fun xs H Q h=>by
 unfold He at h;split at h
 ·unfold MZ at h;split at h
  ·rename_i xs e;split at h
   ·rename_i c;subst c;exact Com.Pc e h
   ·exact h
  ·rename_i xs e;split at h
   ·rename_i c;subst c;exact Com.BE e h
   ·exact h
  ·exact h
 ·exact h
theorem Mg {K:W.Frag}:He K [.ref p,.ty n] H Q=MZ K p n H Q (H p):=rfl
theorem Pd {K:W.Frag}:MZ K p "tuple" H Q (some (.tup xs))=Q (.bl true) H:=by simp[MZ]
theorem Pe {K:W.Frag}:MZ K p "list" H Q (some (.lst xs))=Q (.bl true) H:=rfl
theorem Q9 {K:W.Frag}:He K [.int i,.ty n] H Q=uY K [.int i,.ty n] H Q:=rfl
theorem Q8 {K:W.Frag}:He K [.str i,.ty n] H Q=uY K [.str i,.ty n] H Q:=rfl
theorem Vy {N:List V->Prop}:(∃xs,some (HO.lst l)=some (HO.lst xs)/\N xs)=N l:=by
 simp_all
def cI (p:Addr) (H H':Hp):Prop:= ∀b o,H b=some o->b≠p->H' b=some o
theorem cI.refl:cI p H H:=fun _ _ h _=>h
theorem cI.upd {p:Addr} {H:Hp} {o:HO}:cI p H (upd H p o):=fun b x v i=>by rw[ag i];exact v
theorem cI.write (h:cI p H H'):cI p H (Lake.upd H' p o):=fun b x v i=>by rw[ag i];exact h b x v i
theorem cI.new (h:cI p H H') (y:H' q=none):cI p H (Lake.upd H' q o):=fun b x v i=>by
 rw[ag (ao (h b x v i) y)];exact h b x v i
theorem cI.trans (h:cI p H H1) (v:cI p H1 H2):cI p H H2:=fun b x y i=>v b x (h b x y i) i
theorem cI.same (h:cI p H H1) (v:aA H1 H2):cI p H H2:=fun b x y i=>v b x (h b x y i)
end
end Lake
namespace MeterM
mutual
noncomputable def mn (a b:Int):Int:=if b<a then b else a
noncomputable def hf (w:Int):Int:=if 1<w / 2 then w / 2 else 1
def k1 (m k:Int) (s:Int×Int):Int×Int:=if s.1=m then s else if s.1<k then(s.1+1,s.2) else if s.2+1=s.1 then(s.1+1,0) else(s.1,s.2+1)
def kn (m k:Int):Nat->Int×Int->Int×Int
 |0,s=>s
 |n+1,s=>k1 m k (kn m k n s)
theorem WZ (v:1<=w) (i:w<=m):1<=hf w/\hf w<=m:=by
 unfold hf;split<;>lia
def V1 (m:Int) (s:Int×Int):Prop:=1<=s.1/\s.1<=m/\0<=s.2/\s.2<s.1
theorem YS (s:Int×Int) (h:V1 m s):V1 m (k1 m k s):=by
 obtain⟨w,c⟩:=s;unfold V1 k1 at*
 (grind)<;>simp only<;>lia
theorem inb:∀(n:Nat) (s:Int×Int),V1 m s->V1 m (kn m k n s)
 |0,s,h=>h
 |n+1,s,h=>YS _ (inb n s h)
end
end MeterM
namespace WaysM
mutual
def lb (x:Nat):Nat:=x-(x &&& (x-1))
theorem SQ (a b:Nat):(a &&& b) % 2=(a % 2)*(b % 2):=by
 have e:=Nat.and_mod_two_pow (a:=a) (b:=b) (n:=1);rw[e];rcases(by lia:a % 2=0\/a % 2=1) with p|p<;>rcases(by lia:b % 2=0\/b % 2=1) with q|q<;>rw[p,q]<;>decide
theorem UL (a b:Nat) (h:(a |||b) % 2=1):a % 2=1\/b % 2=1:=by
 simp_all
theorem R6 (x:Nat) (h:0<x):∃k,lb x=2 ^ k/\x % 2 ^ k=0/\x / 2 ^ k % 2=1:=by
 induction x using Nat.strongRecOn with
 |_ x i=>
  have d:(x &&& (x-1)) / 2=(x / 2) &&& ((x-1) / 2):=Nat.and_div_two;have m:=SQ x (x-1);rcases(by lia:x % 2=0\/x % 2=1) with p|p
  ·obtain⟨k,z,v,y⟩:=i (x / 2) (by lia) (by lia);rw[show(x-1) / 2=x / 2-1 by lia] at d;rw[p] at m;refine⟨k+1,?_,?_,?_⟩
   ·unfold lb at z⊢;rw[Nat.pow_succ];have le:(x / 2 &&& (x / 2-1))<=x / 2:=Nat.and_le_left;lia
   ·rw[Nat.pow_succ,Nat.mul_comm,Nat.mod_mul];rw[v];lia
   ·rw[Nat.pow_succ,Nat.mul_comm,<-Nat.div_div_eq_div_mul];exact y
  ·refine⟨0,?_,by lia,by simpa using p⟩;unfold lb;rw[show(x-1) / 2=x / 2 by lia,Nat.and_self] at d;rw[p,show(x-1) % 2=0 by lia] at m;lia
theorem UM (a b k:Nat):(a |||b) / 2 ^ k=a / 2 ^ k |||b / 2 ^ k:=by
 rw[<-Nat.shiftRight_eq_div_pow,<-Nat.shiftRight_eq_div_pow,<-Nat.shiftRight_eq_div_pow];exact Nat.shiftRight_or_distrib
noncomputable def low (t b:Int):Int×Int:=(t / (lb (t.toNat |||b.toNat):Nat),b / (lb (t.toNat |||b.toNat):Nat))
structure Yg (t b t' b' s:Int):Prop where
 s0:0<s
 tt:t=s*t'
 bb:b=s*b'
 t0:0<=t'
 b0:0<b'
 od: ¬(t' % 2=0/\b' % 2=0)
 tl:t'<=t
 bl:b'<=b
theorem KS (t b:Nat) (y:0<b):∃k,lb (t |||b)=2 ^ k/\t % 2 ^ k=0/\b % 2 ^ k=0/\(t / 2 ^ k % 2=1\/b / 2 ^ k % 2=1):=by
 have hx:0<t |||b:=by
  simp_all
 obtain⟨k,x,v,i⟩:=R6 _ hx;have e:(t % 2 ^ k) |||(b % 2 ^ k)=0:=by rw[<-Nat.or_mod_two_pow];exact v
 have e1:t % 2 ^ k<=(t % 2 ^ k) |||(b % 2 ^ k):=Nat.left_le_or;have e2:b % 2 ^ k<=(t % 2 ^ k) |||(b % 2 ^ k):=Nat.right_le_or;refine⟨k,x,by lia,by lia,?_⟩;rw[UM] at i;exact UL _ _ i
theorem p9 (ht:0<=t) (v:0<b):∃s,Yg t b (low t b).1 (low t b).2 s:=by
 obtain⟨t,rfl⟩:=ZP ht;obtain⟨b,rfl⟩:=ZP (tH v);obtain⟨k,i,x,y,C⟩:=KS t b (by lia);have hp:=aaO k;have t1:=Nat.div_add_mod t (2 ^ k);have b1:=Nat.div_add_mod b (2 ^ k);rw[x,Nat.add_zero] at t1;rw[y,Nat.add_zero] at b1;have e1:(low (t) (b)).1=((t / 2 ^ k:Nat)):=by simp[low,i]
 have e2:(low (t) (b)).2=((b / 2 ^ k:Nat)):=by simp[low,i]
 rw[e1,e2];have F:=Nat.div_le_self t (2 ^ k);have l2:=Nat.div_le_self b (2 ^ k);have z:0<b / 2 ^ k:=by
  lia
 generalize t / 2 ^ k=t' at*
 generalize b / 2 ^ k=G at*
 generalize 2 ^ k=s at*
 refine⟨(s),⟨by lia,?_,?_,by lia,by lia,by lia,by lia,by lia⟩⟩
 ·rw[<-aaP,t1]
 ·rw[<-aaP,b1]
theorem tF:∀(n:Nat) (s b:Int),0<s->0<b->2 ^ n=s*b->∃j,j<=n/\b=2 ^ j
 |
   0,s,b,hs,hb,h=>⟨0,cv _,by
   have x:s*b=1:=by simp_all
   have:b∣1:=⟨s,by rw[aaH];exact x.symm⟩;have:=Int.le_of_dvd (by decide) this;lia⟩
 |n+1,s,b,hs,hb,h=>by
  by_cases i:b % 2=0
  ·obtain⟨c,rfl⟩:∃c,b=2*c:=⟨b / 2,by lia⟩;have:(2:Int) ^ n=s*c:=by
    lia
   obtain⟨j,v,e⟩:=tF n s c hs (by lia) this;exact⟨j+1,by lia,by rw[e,Int.pow_succ,aaH]⟩
  ·by_cases y:s % 2=0
   ·obtain⟨c,rfl⟩:∃c,s=2*c:=⟨s / 2,by lia⟩;have:(2:Int) ^ n=c*b:=by
     lia
    obtain⟨j,v,e⟩:=tF n c b (by lia) hb this;exact⟨j,by lia,e⟩
   ·have e1:(s*b) % 2=1:=by rw[Int.mul_emod];rw[show s % 2=1 by lia,show b % 2=1 by lia];decide
    rw[<-h] at e1;lia
end
end WaysM
namespace Lake
mutual
open PySem PySem.Spec PyProof.Rows
def Bd (n:Nat) (x:Int):Prop:=x.natAbs<2 ^ n
theorem Bd.mul (h:Bd a x) (i:Bd b y):Bd (a+b) (x*y):=by
 unfold Bd;rw[Int.natAbs_mul,Nat.pow_add];exact Nat.mul_lt_mul'' h i
theorem Bd.up (h:Bd a x) (i:a<=b):Bd b x:=h9 h (aau (by decide) i)
theorem Bd.add (h:Bd a x) (i:Bd a y):Bd (a+1) (x+y):=by
 unfold Bd at*
 have:=Int.natAbs_add_le x y;lia
theorem Bd.sub (h:Bd a x) (i:Bd a y):Bd (a+1) (x-y):=by
 unfold Bd at*
 omega
theorem Bd.of (i:0<=x) (h:x<2 ^ a):Bd a x:=by
 unfold Bd;have e:((2 ^ a:Nat):Int)=2 ^ a:=rfl;lia
theorem Bd.le (h:Bd a y) (i:0<=x) (hl:x<=y):Bd a x:=by
 unfold Bd at *;omega
theorem Bd.bits (h:Bd n x):Builtin.Int.intBits x<=n:=by
 unfold Builtin.Int.intBits;split
 ·lia
 ·have hx:x.natAbs≠0:=by simp_all
  have:=(aaS hx).mpr h;lia
def Ql (i j:Int):Prop:=Qm i j\/(Bd 8000 i/\Bd 8000 j)
def Qn (_ j:Int):Prop:=0<j/\Bd 8000 j
theorem nY:iH X (binaryOp .Mult) (rI Ql fun i j=> .int (i*j)):=UU fun _ _ _ _ _ _ _ hc q=>mul_int q (by
 rcases hc with hc|⟨x,v⟩
 ·exact hc.ok
 ·exact IntMulOk.of_bits (h7 x.bits (by decide)) (h7 v.bits (by decide)))
theorem Ca:iH X (binaryOp .FloorDiv) (rI Qn fun i j=> .int (i / j)):=UU fun i j _ _ _ _ _ hc q=>by
 have e:=Int.fdiv_eq_ediv_of_nonneg i (tH hc.1);rw[<-e] at q;refine floordiv_int (Int.ne_of_gt hc.1) q (.inl (PyProof.noPylong_of_log2 ?_));have hx:j.natAbs≠0:=by have:=hc.1;lia
 exact h9 ((aaS hx).mpr hc.2) (by decide)
theorem U1 (h : -(2 ^ 64)<i/\i<2 ^ 64):Ql i j:= .inl (.inl h)
theorem wJ (h:Bd a i) (x:Bd b j) (ha:a<=8000) (v:b<=8000):Ql i j:= .inr ⟨h.up ha,x.up v⟩
theorem VI (v:0<j) (h:Bd a j) (ha:a<=8000):Qn i j:=⟨v,h.up ha⟩
end
end Lake
namespace Lake
theorem Y1 (x:Int):(if x<0 then -x else x)=(x.natAbs:Int):=by split<;>lia
theorem Bd.abs (h:Bd n x):Bd n (x.natAbs:Int):=by unfold Bd at *;simpa using h
theorem Bd.c {k:Nat} (h:k<2 ^ n):Bd n (k:Int):=by unfold Bd;simpa using h
end Lake
namespace WaysI
open PySem Lake
theorem lowbit (ht:0<=t) (i:0<b):Builtin.bitAnd (Builtin.bitOr t b) (-(Builtin.bitOr t b))=(WaysM.lb (t.toNat |||b.toNat):Nat):=by
 obtain⟨t,rfl⟩:=ZP ht;obtain⟨b,rfl⟩:=ZP (tH i);rw[BitI.Fs];have hx:0<t |||b:=by
  simp_all
 rw[PyProof.Rows.bitAnd_pn (by lia) (by lia)];have e:(Builtin.bitNot (-((t |||b:Nat)))).toNat=(t |||b)-1:=by rw[BitI.not_eq];lia
 rw[e];simp only[qF,WaysM.lb];have le:((t |||b) &&& ((t |||b)-1))<=t |||b:=Nat.and_le_left;lia
theorem U4 {t:Int} (ht:0<=t) (v:0<b):0<((WaysM.lb (t.toNat |||b.toNat):Nat):Int)/\((WaysM.lb (t.toNat |||b.toNat):Nat):Int)<=b:=by
 obtain⟨t,rfl⟩:=ZP ht;obtain⟨b,rfl⟩:=ZP (tH v);obtain⟨k,x,y,i,z⟩:=WaysM.KS t b (by lia);simp only[qF];rw[x];have hp:=aaO k;have:=Nat.le_of_dvd (by lia) (Nat.dvd_of_mod_eq_zero i);lia
end WaysI
namespace Lake
mutual
open PySem PySem.Spec PyProof.Rows
theorem Cu:∀{ns:List Int} {i:List Value},Vals (ns.map V.int) i->IntsAre i ns
 | [],_,.nil=> .nil
 |n::ns,_,.cons r rr=>by
  obtain⟨t,rfl⟩:=r;exact .cons n t (Cu rr)
def Tn (K:W.Frag):List V->Hp->VK->Prop:=fun xs H Q=>match xs with
 | [.int i,.int j]=>Q (.int (if i<j then j else i)) H
 | [.ref p]=> ∃ns:List Int,bC K H p (ns.map V.int)/\0<ns.length/\∀M,M∈ns->(∀a,a∈ns->a<=M)->Q (.int M) H
 |_=>False
theorem EJ (K:W.Frag) (P:X.K=K) (hc:X.calm=true):bT X (.builtin "max") (Tn K):=by
 subst P;intro y s σ H xs us Q I rs q;unfold Tn at q;split at q
 ·exact uS hc _ s σ H _ us Q I rs q
 ·obtain⟨u,rfl,G⟩:=vals1 rs;cases G;obtain⟨ns,J,z,q⟩:=q;obtain⟨O,r,pl,hz⟩:=I.list J;have x:=Cu r;have hl:=pl.isList;obtain⟨xs,e⟩:=x.allInts.items;have i:ns=xs.toList.map (·.1):=by rw[<-x.numsOf,<-nums_intItems,<-e]
  have hsz:0<xs.size:=by
   simp_all
  rw[e] at hl;refine max_intList (I.ok.hd hc) hl hsz fun v h' tk F hk=>?_;obtain⟨t,rfl⟩:=intItems_at F;obtain⟨Z,C⟩:=argBest_gt (numAt xs) (xs.size-1);refine⟨.int _,H,I.kept hk,⟨t,rfl⟩,q _ ?_ fun a ha=>?_⟩
  ·rw[i,numAt_eq];exact getD_mem (by rw[cz,Z1];omega)
  ·rw[i] at ha;obtain⟨j,U,rfl⟩:=mem_getD ha;rw[cz,Z1] at U;rw[<-numAt_eq];exact C j (by omega)
 ·trivial
noncomputable abbrev ik (i:Int):Key:=Sum.inl i
def PR (neg:Bool) (i:Int) (H:Hp) (Q:VK):Option HO->Prop
 |some (.dK kvs)=>Q (.bl (if neg then !(bh kvs (ik i)).isSome else(bh kvs (ik i)).isSome)) H
 |_=>False
def Oq (neg:Bool):R2:=fun y x H Q=>match y,x with
 | .int i,.ref a=>PR neg i H Q (H a)
 |_,_=>False
theorem Oo:Oq neg (.int i) (.ref a) H Q=PR neg i H Q (H a):=rfl
theorem VJ:PR true i H Q (some (.dK kvs))=Q (.bl (!(bh kvs (ik i)).isSome)) H:=rfl
theorem VL:PR false i H Q (some (.dK kvs))=Q (.bl (bh kvs (ik i)).isSome) H:=rfl
def Yr (i:Int) (H:Hp) (Q:VK):Option HO->Prop
 |some (.dK kvs)=> ∃v,bh kvs (ik i)=some v/\Q v H
 |_=>False
def Kz:R2:=fun x y H Q=>match x,y with
 | .ref a,.int i=>Yr i H Q (H a)
 |_,_=>False
theorem Mm:Kz (.ref a) (.int i) H Q=Yr i H Q (H a):=rfl
theorem XM:Yr i H Q (some (.dK kvs))= ∃v,bh kvs (ik i)=some v/\Q v H:=rfl
def Yq (a:Addr) (i:Int) (v:V) (H:Hp) (N:Hp->Prop):Option HO->Prop
 |some (.dK kvs)=>kvs.length<sizeLine/\N (upd H a (.dK (putK kvs (ik i) v)))
 |_=>False
def Kx (x y v:V) (H:Hp) (N:Hp->Prop):Prop:=match x,y with
 | .ref a,.int i=>Yq a i v H N (H a)
 |_,_=>False
def NZ (to F z:TE):TS:=fun D σ H=>z σ H fun v i=>to σ i fun x G=>F σ G fun y C=>Kx x y v C (D.nx σ)
theorem Mj:Kx (.ref a) (.int i) v H N=Yq a i v H N (H a):=rfl
theorem XJ:Yq a i v H N (some (.dK kvs))=(kvs.length<sizeLine/\N (upd H a (.dK (putK kvs (ik i) v)))):=rfl
def Sa:Option HO->Prop
 |some (.dK _)=>True
 |_=>False
def Sz (a:Addr) (i:Int) (H:Hp) (Q:VK):Option HO->Prop
 |some (.dK kvs)=> ∃v,bh kvs (ik i)=some v/\Q v (upd H a (.dK (tZ kvs (ik i))))
 |_=>False
def Ky (x y:V) (H:Hp) (Q:VK):Prop:=match x,y with
 | .ref a,.int i=>Sz a i H Q (H a)
 |_,_=>False
def Up (x:V) (H:Hp):Prop:=match x with
 | .ref a=>Sa (H a)
 |_=>False
def NO (to v:TE):TE:=fun σ H Q=>to σ H fun x i=>Up x i/\v σ i fun y z=>Ky x y z Q
theorem Od:Up (.ref a) H=Sa (H a):=rfl
theorem Vj:Sa (some (.dK kvs))=True:=rfl
theorem Ml:Ky (.ref a) (.int i) H Q=Sz a i H Q (H a):=rfl
theorem VG:Sz a i H Q (some (.dK kvs))= ∃v,bh kvs (ik i)=some v/\Q v (upd H a (.dK (tZ kvs (ik i)))):=rfl
end
section
mutual
theorem Et (q:Oq neg y x H Q):∃j a i,y = .int j/\x = .ref a/\H a=some (.dK i)/\Q (.bl (if neg then !(bh i (ik j)).isSome else(bh i (ik j)).isSome)) H:=by
 unfold Oq at q;split at q
 ·rename_i j a;unfold PR at q;split at q
  ·rename_i i e1;exact⟨j,a,i,rfl,rfl,e1,q⟩
  ·trivial
 ·trivial
theorem OJ (hu:X.A.units+64<cLine) (F:PE X i ti) (ho:PE X o to):PC X .In i o (II (Oq false) ti to):=by
 intro z s σ H Q I h;have v:X.A.units+1<cLine:=by lia
 refine gQ (F _ s σ H _ I h) fun iv s1 y Z U C q1=>gQ (ho _ s1 σ Z _ U q1) fun u s2 x J I2 P O=>?_;obtain⟨j,a,kvs,rfl,rfl,e1,q⟩:=Et O;obtain rfl:u=Value.ref a:=P;exact YU v I2 (GN.k (k:=ik j) e1) C fun s' G=>⟨.bl _,J,G,rfl,q⟩
theorem Jm (hu:X.A.units+64<cLine) (F:PE X i ti) (ho:PE X o to):PC X .NotIn i o (II (Oq true) ti to):=by
 intro z s σ H Q I h;have v:X.A.units+1<cLine:=by lia
 refine gQ (F _ s σ H _ I h) fun iv s1 y Z U C q1=>gQ (ho _ s1 σ Z _ U q1) fun u s2 x J I2 P O=>?_;obtain⟨j,a,kvs,rfl,rfl,e1,q⟩:=Et O;obtain rfl:u=Value.ref a:=P;exact SG v I2 (GN.k (k:=ik j) e1) C fun s' G=>⟨.bl _,J,G,rfl,q⟩
theorem PU (q:Kz x y H Q):∃j a i v,y = .int j/\x = .ref a/\H a=some (.dK i)/\bh i (ik j)=some v/\Q v H:=by
 unfold Kz at q;split at q
 ·unfold Yr at q;split at q
  ·simp_all
  ·simp_all
 ·simp_all
theorem OG (hu:X.A.units+64<cLine) (ho:PE X o to) (U:PE X i ti) (hs:X_ i):PE X (.Subscript o i pos) (II Kz to ti):=by
 intro G s σ H Q I h;have z:X.A.units+1<cLine:=by lia
 refine QR PySem.F.slot_dict_getitem.lookup hs (gQ (ho _ s σ H _ I h) fun u s1 x H1 I1 rx q1=>gQ (U _ s1 σ H1 _ I1 q1) fun iv s2 y Z J P q2=>?_);obtain⟨j,a,kvs,v,rfl,rfl,e1,e2,q⟩:=PU q2;obtain rfl:u=Value.ref a:=rx;have g:=e2▸GN.k e1;exact⟨Im J g,Ni z J g P fun w' s3 O C=>⟨v,Z,O,C,q⟩⟩
theorem PJ (q:Kx x y v H N):∃j a i,y = .int j/\x = .ref a/\H a=some (.dK i)/\i.length<sizeLine/\N (upd H a (.dK (putK i (ik j) v))):=by
 unfold Kx at q;split at q
 ·unfold Yq at q;split at q
  ·simp_all
  ·simp_all
 ·simp_all
theorem Fm (hu:X.A.units+64<cLine) (ho:PE X o to) (O:PE X i ti) (Q:PE X value tv) (hs:autoParam (lW value=false) qqr):PS X (.Assign [.Subscript o i pos'] value pos) (NZ to ti tv):=by
 intro C s σ H D I h;have z:X.A.units+1<cLine:=by lia
 refine wpAny_Assign_Subscript (gQ (Q _ s σ H _ I h) fun r s1 v H1 I1 U q1=>gQ (ho _ s1 σ H1 _ I1 q1) fun u s2 x P I2 rx Z=>gQ (O _ s2 σ P _ I2 Z) fun iv s3 y H3 F G J=>?_) (mE hs);obtain⟨j,a,kvs,rfl,rfl,e1,hl,q⟩:=PJ J;obtain rfl:u=Value.ref a:=rx;exact Nh z F (SU.k (k:=ik j) e1 hl) G U fun s4 I4=>⟨σ,_,I4,q⟩
theorem Ng (q:Ky x y H Q):∃j a i v,y = .int j/\x = .ref a/\H a=some (.dK i)/\bh i (ik j)=some v/\Q v (upd H a (.dK (tZ i (ik j)))):=by
 unfold Ky at q;split at q
 ·unfold Sz at q;split at q
  ·simp_all
  ·simp_all
 ·simp_all
theorem RG {X:Cx} {o e:Expr} {to te:TE} {apos i:Pos} (ho:PE X o to) (he:PE X e te) (hb:autoParam (attributeBase o "pop" X.env (eval o X.env)=eval o X.env) qqr)
  (
   hfew:((backTo i (starEach [e] X.env)).all (fun x=>!x.1)&&(backToKw i (keywordEach [] X.env)).all (fun x=>x.1.isSome)
   &&decide (([e]:List Expr).length+([]:List Keyword).length+(if([]:List Keyword).isEmpty then 0 else 1)<30))=true:=by rfl)
  (C:autoParam ((apos.endLine == i.line)=true) qqr) (ht:autoParam (backTo i (starEach [e] X.env)= [(false,eval e X.env)]) qqr):PE X (.Call (.Attribute o "pop" apos) [e] [] i) (NO to te):=by
 intro U s σ H Q I h;refine wpAny_Call_method hb hfew C PySem.F.plainAttrs_dict PySem.F.slot_dict_pop PySem.F.type_dict_pop (thn (ho _ s σ H _ I h) fun u s1 ⟨x,P,O,rx,hd,q1⟩=>?_);obtain⟨a,z,rfl,e0⟩:∃a z,x = .ref a/\P a=some (.dK z):=by
  unfold Up at hd;split at hd
  ·unfold Sa at hd;split at hd
   ·simp_all
   ·simp_all
  ·simp_all
 obtain rfl:u=Value.ref a:=rx;obtain⟨t1,t2,_⟩:=Vi O (.inl ⟨z,.inl e0⟩);refine⟨t1,t2,?_⟩;rw[ht];refine Calls.callWith_builtin rfl (Calls.evalArgs_plain (Calls.spliced_cons (gQ (he _ s1 σ P _ O q1) fun iv s2 y H2 I2 ry q2=>Calls.spliced_nil ?_)));obtain⟨j,a',J,v,rfl,ea,e1,e2,q⟩:=Ng q2;cases ea;exact XN I2 e1 (k:=ik j) ry e2 (.inl rfl) fun w' s3 Z G=>⟨v,_,Z,G,q⟩
end
end
mutual
def Ku (vs:List V) (H:Hp) (Q:VK):Prop:=match vs with
 | [.int i,.int j]=>(-(2 ^ 62)<=i/\i<2 ^ 62/\-(2 ^ 62)<=j/\j<2 ^ 62)/\∀p,H p=none->Q (.ref p) (upd H p (.rng i j))
 |_=>False
def S_ (v:TA):TE:=fun σ H Q=>v σ H fun vs i=>Ku vs i Q
theorem L7:Ku [.int i,.int j] H Q=((-(2 ^ 62)<=i/\i<2 ^ 62/\-(2 ^ 62)<=j/\j<2 ^ 62)/\∀p,H p=none->Q (.ref p) (upd H p (.rng i j))):=rfl
theorem Rw (hg:Gl X "range") (hm:X.mg "range" = none) (ha:PA X [a,b] ta) (hs:autoParam (starEach [a,b] X.env= [(false,eval a X.env),(false,eval b X.env)]) qqr) (x:autoParam (starEach [b] X.env= [(false,eval b X.env)]) qqr):
  PE X (.Call (.Name "range" p) [a,b] [] pos) (S_ ta):=by
 intro z s σ H Q I h;refine Call_ (ri I hg hm boot_range (ZH (gQ (ha _ _ s σ H _ I h) fun us s1 vs F y C v=>?_) (by simp_all) (by rw[x];rfl)));replace v:Ku vs F Q:=v;unfold Ku at v;split at v
 ·rename_i i j;obtain⟨G,J,rfl,⟨t,rfl⟩,⟨t',rfl⟩⟩:=vals2 C;refine call_range_2 ?_;exact⟨.ref _,_,y.laid (fun b u e=>ej _ e) (cv _) (show dZ _ _ _ _ _ (.rng i j) from⟨_,_,_,ke _ rfl⟩),rfl,v.2 _ (y.hok.fresh (cv _))⟩
 ·trivial
def KU (K:W.Frag) (p:Addr) (H:Hp) (Q:VK):Option HO->Prop
 |some (.rng i j)=>(-(2 ^ 62)<=i/\i<2 ^ 62/\-(2 ^ 62)<=j/\j<2 ^ 62)/\(j-i).toNat<=1000000/\∀l,H l=none->Q (.ref l) (upd H l (.lst (pJ i (j-i).toNat)))
 |_=>wq K [.ref p] H Q
def Jd (K:W.Frag):List V->Hp->VK->Prop:=fun xs H Q=>match xs with
 | [.ref p]=>KU K p H Q (H p)
 |xs=>wq K xs H Q
theorem Jc {K:W.Frag}:Jd K [.ref p] H Q=KU K p H Q (H p):=rfl
theorem MP {K:W.Frag}:KU K p H Q (some (.rng i j))=((-(2 ^ 62)<=i/\i<2 ^ 62/\-(2 ^ 62)<=j/\j<2 ^ 62)/\(j-i).toNat<=1000000/\∀l,H l=none->Q (.ref l) (upd H l (.lst (pJ i (j-i).toNat)))):=rfl
theorem Kg:∀{xs:List V} {us:List Value},xs.length=us.length->(∀(k:Nat) x u,xs[k]?=some x->us[k]?=some u->RelV x u)->Vals xs us
 | [],[],_,_=> .nil
 | [],_::_,h,_=>by trivial
 |_::_,[],h,_=>by trivial
 |x::xs,u::us,h,hr=> .cons (hr 0 x u rfl rfl) (Kg (by simpa using h) fun k a b ha i=>hr (k+1) a b (‹_›) (‹_›))
theorem JM (h:ItemsOf (fun k v=> ∃t,v = .int (i+k*1) t) acc n):Vals (pJ i n) acc.toList:=by
 refine Kg (by simp[pJ,h.1]) fun k x u hx y=>?_;have hk:=by
  have:=(i4.mp hx).1;simpa [pJ] using this
 obtain⟨t,rfl⟩:=h.2 k u (by simp_all);have:=by
  unfold pJ at hx;rw[j1,List.getElem?_range hk] at hx;exact(Zz hx).symm
 rw[this];exact⟨t,by simp_all⟩
theorem J8 (K:W.Frag) (z:X.K=K) (hc:X.calm=true):bT X (.type "list") (Jd K):=by
 intro y s σ H xs us Q I rs q;unfold Jd at q;split at q
 ·rename_i p;unfold KU at q;split at q
  ·rename_i i j e;obtain⟨u,rfl,F⟩:=vals1 rs;cases F;obtain⟨⟨b1,O,G,P⟩,hn,q⟩:=q;obtain⟨t,u,v,hr⟩:=((I.hok p _ e));refine call_list_range (n:=(j-i).toNat) (I.ok.hd hc) hr (small_one b1 O G P) (by rw[rangeSize_one];split<;>lia) (by lia) fun U tk x J kp e1 it=>?_
   have C:=JM it;exact⟨.ref _,_,I.laid kp (cv _) (show dZ _ _ _ U _ (.lst _) from⟨by rw[gn];simp[pJ];lia,_,J,C,‹_›⟩),rfl,q _ (I.hok.fresh (cv _))⟩
  ·exact fW K z _ s σ H _ us Q I rs q
 ·exact fW K z _ s σ H _ us Q I rs q
noncomputable def Zk (a:Addr):It:=
 ⟨fun i H=> ∃xs x,H a=some (.lst xs)/\xs[i]?=some x,fun i H v H'=> ∃p x,(∀xs,H a=some (.lst xs)->xs[i]?=some x)/\H p=none/\v = .ref p/\H'=upd H p (.tup [.int i,x]),fun i H=> ∃xs,H a=some (.lst xs)/\xs.length<=i⟩
end
section
theorem Inv.tupd {ch:List Addr} (I:Inv X pins σ H s) (k:∀b o,b ∉ ch->s.heap.get? b=some o->C.get? b=some o) (f:∀b∈ch,Bs X pins H b) (hp:s.heap.objs.size<=p) (new:dZ X.prog X.w (upd H p (.tup xs)) C p (.tup xs)):Inv X pins σ (upd H p (.tup xs)) {s with heap:=C,toks:=t'}:=by
 have hn:=I.hok.fresh hp;have i:∀b u,H b=some u->b ∉ ch:=fun b u q z=>by rw[(f b z).1] at q;cases q
 refine I.step (g':=s.gens) (d':=s.drawn) (ch:=ch) (fun b x=>?_) (fun b o _ _ hc q _=>k b o hc q) (fun b o _ _ hc q _=>⟨o.slots,k b o hc q⟩)
  (fun b o _ q n=>by rw[ag (kv (h9 (h6 q) hp))];exact n)
  (fun b o hc q=>⟨o,k b o hc q⟩) (fun b xs q=>by rw[ag (ao q hn)];exact q) (fun b u xs q=>by rw[ag (ao q hn)];exact q) (fun b G q=>⟨#[],by rw[ag (ao q hn),q];simp⟩) (fun m hm=>?_) (fun b u q=>?_) I.bare
 ·obtain⟨e0,e1,e2,e3,e4,e5⟩:=f b x;exact⟨e3,e1,e4,e5⟩
 ·obtain⟨o,es,F,ho,r⟩:=hm;exact⟨o,es,F,k _ o (fun z=>(f _ z).2.1 rfl) ho,r⟩
 ·by_cases x:b=p
  ·subst x;rw[aa] at q;cases q;exact new
  ·rw[ag x] at q;refine(I.hok b u q).stay (fun c v hc y=>?_) (fun c q=>by rw[ag (ao q hn)];exact q) fun c xs q=>by rw[ag (ao q hn)];exact q
   rcases hc with z|z
   ·subst z;exact k _ v (i _ u q) y
   ·exact k c v (i c _ z) y
end
theorem LF {P:Program} {w:World} {K:W.Frag} {elts:List Expr} {x1} {pos:Pos} (a e it:Addr) (ne:e≠it):Turn P w K (.Tuple elts x1 pos) (Zk a) [e,it] e (fun i h=>(∃old,IsEnum h e it ((i:Nat):Int) old)/\h.IsListIter it a i) where
 mem:=by simp
 obj:=fun i h st b C=>by
  obtain⟨⟨old,he⟩,⟨o,ho,c,d⟩⟩:=st;have q:b=e\/b=it:=by simpa using C
  rcases q with rfl|rfl
  ·exact⟨_,he,fun v z=>by cases z⟩
  ·exact⟨o,ho,fun v z=>by rw[d] at z;cases z⟩
 keep:=fun i h h' st k=>⟨st.1.elim fun old he=>⟨old,k e (by simp) _ he⟩,st.2.at fun o q=>k it (by simp) o q⟩
 item:=by
  intro X hP hw Z hc i J s σ H E I hf st hg;subst hP hw Z;obtain⟨⟨old,he⟩,hit⟩:=st;obtain⟨xs,x,O,hx⟩:=hg;obtain⟨z,U,n,r,eo⟩:=I.hok a _ O;obtain⟨u,hu,ru⟩:=r.get hx;have fe:=hf e (by simp);have fi:=hf it (by simp);have G:e<s.heap.objs.size:=h6 he;have Q:it<s.heap.objs.size:=by obtain⟨o,ho,_⟩:=hit;exact h6 ho
  have hp:=I.hok.fresh (cv s.heap.objs.size);refine wpAny_pyNext_enum_item he hit ⟨_,eo,rfl,n,rfl⟩ (x:=u) (by simpa using hu) ne fun h1 heo F ht1 hz1 hk1=>⟨_,rfl,wpAny_letOwnedTupleGo_enum heo fun h2 he2 y=>?_⟩;replace y:Heap.SameBut e h1 h2:=y;have ht2:h2.get? s.heap.objs.size=some {cls:= .type "tuple",data:= .seq #[.int i s.toks,u]}:=(y.2 _ (aal G)).trans ht1;refine⟨.ref s.heap.objs.size,upd H s.heap.objs.size (.tup [.int i,x]),?_,rfl,⟨_,x,fun ys hy=>by rw[O] at hy;cases hy;exact hx,hp,rfl,rfl⟩,⟨⟨u,?_⟩,?_⟩,fun b C=>?_⟩
  ·refine I.tupd (s:=s) (t':=s.toks+1) (ch:=[e,it]) (fun b o bn q=>(y.2 b (fun z=>bn (by simp[z]))).trans (hk1 b o (fun z=>bn (by simp[z])) (fun z=>bn (by simp[z])) q)) hf (cv _) ⟨by show 2<=sizeLine;rw[gn];decide,[.int i s.toks,u],.cons ⟨_,rfl⟩ (.cons ru .nil),?_⟩;exact⟨_,ht2,rfl,_,rfl⟩
  ·have:((i+1:Nat):Int)=(i:Int)+1:=by push_cast;rfl
   rw[this];exact he2
  ·exact F.extBut y.extBut (L3 ne)
  ·have q:b=e\/b=it:=by simpa using C
   rcases q with rfl|rfl
   ·rw[ag (kv G)];exact fe.1
   ·rw[ag (kv Q)];exact fi.1
 done:=by
  intro X hP hw Z hc i J s σ H E I hf st hg;subst hP hw Z;obtain⟨⟨old,he⟩,hit⟩:=st;obtain⟨xs,O,hx⟩:=hg;obtain⟨z,U,n,r,eo⟩:=I.hok a _ O;have hl:=r.length;obtain⟨f0,f1,f2,f3,f4,f5⟩:=hf it (by simp);exact wpAny_pyNext_enum_end (I.ok.hd hc) he hit ⟨_,eo,rfl,n,rfl⟩ (by simp;lia) fun h' eb=>⟨rfl,I.turned (t':=s.toks) (fun b o C q=>eb b o C q) f0 f1 f3 f4 f5⟩
 self:=fun _ _ _ _ _ st h=>st.1.elim fun old he=>wpAny_pyIter_enum he h
theorem boot_enumerate:bootBuiltins "enumerate" = some (.type "enumerate"):=by decide+kernel
def V_ (x:V) (i:Hp) (R:It->Hp->Prop):Prop:=match x with
 | .ref a=> ∃xs,i a=some (.lst xs)/\R (Zk a) i
 |_=>False
def K0 (v:TA):TI:=fun σ H R=>v σ H fun vs i=>match vs with
 | [x]=>V_ x i R
 |_=>False
section
theorem Fn (hg:Gl X "enumerate") (hm:X.mg "enumerate" = none) (ha:PA X [a] ta) (hs:autoParam (starEach [a] X.env= [(false,eval a X.env)]) qqr):PI X (.Tuple elts x1 tpos) (.Call (.Name "enumerate" p) [a] [] pos) (K0 ta):=by
 intro y s σ H R I h;refine Call_ (ri I hg hm boot_enumerate (ZH (gQ (ha pos y s σ H _ I h) fun us s1 vs C v G i=>?_) hs rfl));cases G with
 |nil=>exact i.elim
 | @cons x u xs us r J=>
  cases J with
  |cons _ _=>exact i.elim
  |nil=>
   replace i:V_ x C R:=i;unfold V_ at i;split at i
   ·rename_i b;obtain⟨ys,F,q⟩:=i;cases r;obtain⟨z,O,n,U,P⟩:=v.hok b _ F;refine call_enumerate_1 P fun Z he hit Q hk=>?_;refine wpAny_pyIter_enum he ?_;refine⟨_,[s1.heap.objs.size+1,s1.heap.objs.size],_,_,C,rfl,v.kept (t':=s1.toks) fun b o e=>hk b o e,LF b (s1.heap.objs.size+1) s1.heap.objs.size (Nat.succ_ne_self _),⟨⟨_,he⟩,hit⟩,fun c hc=>?_,q⟩;have e:c=s1.heap.objs.size+1\/c=s1.heap.objs.size:=by simpa using hc
    rcases e with rfl|rfl
    ·exact v.Ge (vr _) (v.hok.fresh (vr _))
    ·exact v.Ge (cv _) (v.hok.fresh (cv _))
   ·exact i.elim
end
section
theorem LL {σ:St} {H:Hp} {g:TG} {tb:TS} {D:Ends} {i:TA}:LM (K0 i) g tb D σ H=i σ H fun vs v=>match vs with
 | [x]=>V_ x v fun J y=>forR J g tb D σ y
 |_=>False:=rfl
theorem Gf (P:H a=some (.lst xs)) (Pv:Nat->St->Hp->Prop) (I:Pv 0 σ H) (hl:∀i σ H,i<=xs.length->Pv i σ H->H a=some (.lst xs)) (hs:∀i x p σ H,xs[i]?=some x->Pv i σ H->H p=none->g (.ref p) σ (upd H p (.tup [.int i,x])) fun F G=>tb {D with nx:=Pv (i+1),ct:=Pv (i+1),bk:=D.nx} F G) (hd:∀σ H,Pv xs.length σ H->D.nx σ H):
  V_ (.ref a) H fun J G=>forR J g tb D σ G:=by
 refine⟨xs,P,fun i m σ H=>m=xs.length-i/\i<=xs.length/\Pv i σ H,⟨_,rfl,lp _,I⟩,?_⟩;rintro i m σ H ⟨rfl,C,p⟩;by_cases z:i<xs.length
 ·refine .inr ⟨⟨xs,_,hl i σ H C p,mu z⟩,Pv (i+1),fun Q H' p'=>⟨xs.length-(i+1),by lia,rfl,z,p'⟩,fun v H' y=>?_⟩;obtain⟨q,x,hx,O,rfl,rfl⟩:=y;exact hs i x q σ H (hx xs (hl i σ H C p)) p O
 ·have e:i=xs.length:=by lia
  subst e;exact .inl ⟨⟨xs,hl _ σ H C p,cv _⟩,hd σ H p⟩
end
section
structure QE (X:Cx) (e:Expr) (t:TE):Prop where
 h:PE X e t
structure QS (X:Cx) (st:Stmt) (t:TS):Prop where
 h:PS X st t
structure SR (X:Cx) (l:List Stmt) (t:TS):Prop where
 h:Br X l t
theorem Fj {st:Stmt} (i:QS X st t):SR X [st] t:=⟨ah i.h⟩
theorem i9 {st:Stmt} {rest:List Stmt} (v:QS X st t) (i:SR X rest u):SR X (st::rest) (T6 t u):=⟨ae v.h i.h⟩
theorem KC (v:X.N.Nodup) (y:X.N[i]?=some x) (hx:Loc X.env.scope x) (he:QE X e te) (h:autoParam (lW e=false) qqr) (hf:X.fn x=true\/X.env.scope.names.lookup x=some .local:=by walk_at "q"):
  QS X (.Assign [.Name x pos'] e pos) (G1 te (ou i)):=⟨KD v y hx he.h h hf⟩
end
section
theorem IX {σ:St} {H:Hp} {nv:Nat} {ix:List Nat} {g:TG} {tt:TT} {te:TE} {i:TA} {Q:VK}:BN nv ix (K0 i) g tt te σ H Q=i σ H fun vs v=>match vs with
 | [x]=>V_ x v fun J y=>mh J g tt te (iC nv ix σ) y fun ys H'=>ys.length<=sizeLine/\∀l,H' l=none->Q (.ref l) (upd H' l (.lst ys))
 |_=>False:=by
 unfold BN K0;rfl
end
section
theorem J6 (Pv:Nat->List V->St->Hp->Prop) (O:Pv 0 [] σ H) (hz:n<=sizeLine) (hl:∀i ys σ H,Pv i ys σ H->ys.length<=i) (go:∀i ys σ H,i<n->Pv i ys σ H->J.go i H) (stop:∀ys σ H,Pv n ys σ H->J.stop n H) (step:∀i ys σ H x v,i<n->Pv i ys σ H->J.yld i H x v->g x σ v fun z X=>tt z X fun b G=>if b=true then te z G fun y P=>Pv (i+1) (ys++ [y]) z P else Pv (i+1) ys z G) (q:∀ys σ H,Pv n ys σ H->Q ys H):mh J g tt te σ H Q:=by
 refine⟨fun i m ys F H'=>i<=n/\m=n-i/\Pv i ys F H',⟨n,lp _,rfl,O⟩,?_⟩;rintro i m ys F H' ⟨Z,rfl,hp⟩;by_cases e:i=n
 ·subst e;exact .inl ⟨stop _ _ _ hp,q _ _ _ hp⟩
 ·have C:i<n:=by omega
  refine .inr ⟨go i _ _ _ C hp,by grind,_,fun U I v p'=>⟨_,by omega,by omega,rfl,p'⟩,fun x v y=>step i ys _ H' x _ C hp y⟩
theorem SI {lo:Int} (Pv:Nat->List V->St->Hp->Prop) (F:Pv 0 [] σ H) (J:n<=sizeLine) (hl:∀i ys σ H,Pv i ys σ H->ys.length<=i) (step:∀(i:Nat) ys σ H,i<n->Pv i ys σ H->g (.int (lo+i)) σ H fun v O=>tt v O fun b C=>if b=true then te v C fun y G=>Pv (i+1) (ys++ [y]) v G else Pv (i+1) ys v C) (q:∀ys σ H,Pv n ys σ H->Q ys H):mh (Nw lo n) g tt te σ H Q:=by
 refine J6 Pv F J hl (fun i _ _ _ z _=>z) (fun _ _ _ _=>cv _) (fun i ys σ H x I z hp y=>?_) q;obtain⟨e,rfl⟩:=y;subst e;exact step i ys σ _ z hp
theorem g8 {K:W.Frag} (U:bC K H a xs) (P:xs.length<=sizeLine) (Pv:Nat->List V->St->Hp->Prop) (F:Pv 0 [] σ H) (hl:∀i ys σ H,Pv i ys σ H->ys.length<=i) (hk:∀i ys σ H,Pv i ys σ H->bC K H a xs) (step:∀(i:Nat) x ys σ H,xs[i]?=some x->Pv i ys σ H->g x σ H fun v z=>tt v z fun b C=>if b=true then te v C fun y G=>Pv (i+1) (ys++ [y]) v G else Pv (i+1) ys v C) (q:∀ys σ H,Pv xs.length ys σ H->Q ys H):xA K (.ref a) H fun J z=>mh J g tt te σ z Q:=by
 refine .inl ⟨xs,U,J6 Pv F P hl (fun i ys σ H I hp=>⟨xs,xs[i],hk _ _ _ _ hp,by simp_all⟩) (fun ys σ H hp=>⟨xs,hk _ _ _ _ hp,cv _⟩) (fun i ys σ H x O I hp y=>?_) q⟩;obtain⟨e,hx⟩:=y;subst e;exact step i x ys σ _ (hx xs (hk _ _ _ _ hp)) hp
end
def Qj (h:Heap) (e:Addr) (cls:Value) (dx tb:Option Addr):Prop:=
 ∃i vs,h.get? e=some i/\i.cls=cls/\i.dict=dx/\i.data = .fields vs/\1<vs.size/\(match tb with
  |none=>vs[1]?=some .none
  |some T=>vs[1]?=some (.ref T)/\T≠e/\∃v ts,h.get? T=some v/\v.data = .fields ts/\ts[3]?=some .none)
structure Yc (S:List Addr) (e:Addr) (tb:Option Addr) (h h':Heap):Prop where
 keep:∀b o,b ∉ S->b≠e->(∀T,tb=some T->b≠T)->h.get? b=some o->h'.get? b=some o
 slot:∀b o,b∈S->h.get? b=some o->∃sl,h'.get? b=some {o with slots:=sl}
 there:∀b o,h.get? b=some o->∃o',h'.get? b=some o'
section
theorem CU (f:Array Value->Array Value) (o:Obj):(Obj.mapFields f o).dict=o.dict:=by
 unfold Obj.mapFields;split<;>rfl
noncomputable abbrev Uj (top:Value) (L:Addr) (i:List Value):Obj:={cls:= .type "traceback",dict:=none,data:= .fields ([top,.ref L,.none,rawInt L,.none]++(if i.isEmpty then List.replicate 6 Value.none else i)).toArray}
theorem Lc {top:Value} (O:A.frames=some (env::outer)) (hl:s.heap.FunFrames base (env::outer)) (hf:env.frame=some L) (he:s.heap.get? e=some oe) (hd:oe.data = .fields vs) (hsz:1<vs.size) (h:∀J,Qj J e oe.cls oe.dict (some s.heap.objs.size)->Yc ((env::outer).filterMap (·.frame)) e none s.heap J->Q () {s with heap:=J}):
  wpAny M A (do let a<-frameOf env;let pl<-entryPlaceOf L had;let b<-EntryCells.newEntry top a .none (rawInt L) .none pl;setField (.ref e) 1 b) (fun _ X=>wpAny M A (setFlight (.ref e) none) Q E X) E s:=by
 have out:e ∉ (env::outer).filterMap _:=fun hm=>by
  obtain⟨_,o',y,no⟩:=hl.mem hm;cases he.symm.trans y;exact no vs hd
 refine c8 (wpAny_frameOf_fun O hl hf fun k ks=>c8 (wpAny_entryPlaceOf fun G C=>?_));refine c8 (aaL ?_ (C.sizeOk5 _ _ _ _ _));have U:=(ks.2.1 e out).trans he;have i:=aal (h6 U);have P:=ks.1;have I:=Obj.data_mapFields hd (·.setIfInBounds 1 (Value.ref k.objs.size));have e1:=ej (Uj top L G) U;have e2:=ZW _ e1 (Obj.isFreed_of_fields I);have r2:=(n8 (k.push (Uj top L G)) (Obj.mapFields (·.setIfInBounds 1 (Value.ref k.objs.size))) (L3 i)).trans (ke k rfl);refine wpAny_setField e1 hd hsz ?_;refine c8 (aag e2 I (x:= .ref k.objs.size) (by simp[hsz]) ?_);have Z:=ZW (Obj.mapFields (·.setIfInBounds 3 ((none).elim Value.none fun f=>rawInt f))) r2 (Obj.isFreed_of_fields (Obj.data_mapFields rfl _));refine wpAny_setField r2 rfl (by simp_all) (h _ ?_ ?_)
 ·rw[<-P];refine⟨_,_,?_,Obj.cls_mapFields _ _,CU _ _,I,by simp[hsz],by simp[hsz],i,_,_,Z,rfl,?_⟩
  ·rw[n8 _ _ i];exact e2
  ·rfl
 ·have keep:∀b o,b≠e->k.get? b=some o->(((k.push (Uj top L G)).update e (Obj.mapFields (·.setIfInBounds 1 (Value.ref k.objs.size)))).update _ (Obj.mapFields (·.setIfInBounds 3 ((none).elim Value.none fun f=>rawInt f)))).get? b=some o:=fun b o ne v=>by
   rw[n8 _ _ (aal (h6 v)),n8 _ _ (L3 ne)];exact ej _ v
  refine⟨fun b o F ne _ v=>keep b o ne ((ks.2.1 b F).trans v),fun b o F v=>?_,fun b o v=>?_⟩
  ·obtain⟨sl,q⟩:=ks.2.2 b o v;exact⟨sl,keep b _ (fun z=>out (z▸F)) q⟩
  ·by_cases z:b=e
   ·subst z;rw[n8 _ _ i];exact⟨_,e2⟩
   ·obtain⟨sl,q⟩:=ks.2.2 b o v;exact⟨_,keep b _ z q⟩
theorem OS (C:A.frames=some (env::outer)) (hl:s.heap.FunFrames base (env::outer)) (hf:env.frame=some L) (hx:Qj s.heap e cls dx tb) (h:∀y,Qj y e cls dx (some s.heap.objs.size)->Yc ((env::outer).filterMap (·.frame)) e tb s.heap y->Q () {s with heap:=y}):wpAny M A (noteFrame (.ref e) env) (fun _ O=>wpAny M A (setFlight (.ref e) none) Q E O) E s:=by
 obtain⟨oe,vs,he,rfl,rfl,hd,hsz,ht⟩:=hx;unfold noteFrame;simp only[hf];cases tb with
 |none=>
  refine c8 (aag he hd ht ?_);exact Lc C hl hf he hd hsz h
 |some T=>
  obtain⟨P,ne,Z,ts,I,dT,J⟩:=ht;have apart:∀b o,s.heap.get? b=some o->(∀ws,o.data≠ .fields ws)->b≠T:=fun b o v no z=>by
   simp_all
  have out:T ∉ (env::outer).filterMap _:=fun hm=>by
   obtain⟨_,U,G,no⟩:=hl.mem hm;exact apart T U G no rfl
  refine c8 (aag he hd P ?_);refine c8 (aag I dT J ?_);refine c8 (wpAny_setField I dT (Array.getElem?_eq_some_iff.mp J).1 ?_);have i:∀b,b≠T->(s.heap.update T (Obj.mapFields (·.setIfInBounds 3 Value.none))).get? b=s.heap.get? b:=fun b z=>n8 _ _ (L3 z);have self:=ZW (Obj.mapFields (·.setIfInBounds 3 Value.none)) I (Obj.isFreed_of_fields (Obj.data_mapFields dT _));have fr:=hl.of_keeps fun b o v no=>⟨o,(i b (apart b o v no)).trans v,rfl⟩;refine Lc C fr hf ((i e (L3 ne)).trans he) hd hsz fun y x k=>?_;have sz:(s.heap.update T (Obj.mapFields (·.setIfInBounds 3 Value.none))).objs.size=s.heap.objs.size:=Heap.size_update ..;rw[sz] at x;refine h y x ⟨fun b o F z X v=>k.keep b o F z (fun _ q=>by cases q) ((i b (X T rfl)).trans v),fun b o F v=>k.slot b o F ((i b (fun q=>out (q▸F))).trans v),fun b o v=>?_⟩;by_cases q:b=T
  ·exact q▸k.there _ _ self
  ·exact k.there b o ((i b q).trans v)
theorem MQ (v:A.frames=some (env::outer)) (hl:s.heap.FunFrames base (env::outer)) (hf:env.frame=some L) (hx:Qj s.heap e cls dx tb) (h:∀i,Qj i e cls dx (some s.heap.objs.size)->Yc ((env::outer).filterMap (·.frame)) e tb s.heap i->Q () {s with heap:=i}):wpAny M A (leaving env (.ref e)) Q E s:=c8 (OS v hl hf hx h)
end
def IH (P:Program) (w:World):IL:=fun outer H s E e i=> ∃v cls dx T H',e = .ref v/\i.os=s.os/\AllBare i.gens/\Un (frs outer) [] H H' s.heap i.heap/\xi P w H' i.heap/\Qj i.heap v cls dx (some T)/\
 (s.heap.get? v=none/\s.heap.get? T=none/\H' v=none/\H' T=none)/\E cls dx H'
noncomputable instance {P:Program} {w:World}:Quiet (IH P w):=⟨fun X pins σ H s e s' I h=>by
 obtain⟨_,_,_,_,_,_,_,_,_,_,_,_,h⟩:=h;exact h.elim⟩
structure TV (X:Cx) (pins:List (Addr×Obj)) (σ:St) (H:Hp) (s:Shared) (ea:Addr) (cls:Value) (dx tb:Option Addr):Prop where
 inv:Inv X pins σ H s
 ex:Qj s.heap ea cls dx tb
 n0:X.s₀.heap.get? ea=none
 nH:H ea=none
 tbs:∀T,tb=some T->X.s₀.heap.get? T=none/\H T=none
 apart:∀p∈X.pn++pins,p.1≠ea/\∀T,tb=some T->p.1≠T
def Rz (X:Cx) (E:XK):Prop:= ∀i σ H s v cls dx tb,TV X i σ H s v cls dx tb->E cls dx H->X.xe (.ref v) s
section
theorem z6 {H:Hp} {s:Shared} {P:Program} {w:World} {K:W.Frag} {mg:Str->Option Value} {base:Heap} {N:List Str} {qual:Str} {scope:Scope} {f:Addr} {cd:Value} {A:Around} {outer:List Env} {E:XK}:Rz (C5 (IH P w) P w K mg base N qual scope f cd A outer s H E) E:=by
  intro pins σ Z s1 y cls dx tb F hE;have I:=F.inv;refine MQ (by have:=I.ok.frames;exact this) (by have:=I.stack;exact this) rfl F.ex fun h' hx hk=>?_;have x:=I.Bu;have X:∀b,b∈(envOfC qual scope _ f cd::outer).filterMap (·.frame)->b=s.heap.objs.size\/b∈frs _:=fun b v=>by
    exact(fy.mp v).elim .inl .inr
  have O:∀b o,s.heap.get? b=some o->b≠y/\(∀T,tb=some T->b≠T)/\b≠s.heap.objs.size:=fun b o e=>
    ⟨
     fun q=>(by have G:s.heap.get? y=none:=F.n0;rw[q,G] at e;cases e),
     fun T C q=>(by have G:s.heap.get? T=none:=(F.tbs T C).1;rw[q,G] at e;cases e),
     kv (h6 e)⟩
  have B:=I.base;refine⟨y,cls,dx,_,Z,rfl,I.os,I.bare,⟨fun b o q n v hx=>?_,fun b o q n v hx=>?_,B.free,fun b o q hx=>?_,B.tups,B.frzs,B.tbls⟩,fun b o q=>?_,hx,⟨F.n0,?_,F.nH,I.hok.fresh (cv _)⟩,hE⟩
  ·
    obtain⟨n1,n2,n3⟩:=O b o q;exact hk.keep b o (fun hm=>(X b hm).elim n3 v) n1 n2 (B.keep b o q n v hx)
  ·
    obtain⟨sl,e⟩:=B.slot b o q n v hx;obtain⟨U,e'⟩:=hk.slot b _ (by exact sh _ v) e;exact⟨U,e'⟩
  ·
    obtain⟨o',e⟩:=B.there b o q hx;exact hk.there b o' e
  · have i:∀c u,Z c=some u->c ∉ (envOfC _ _ _ f cd::outer).filterMap _/\c≠y/\∀T,tb=some T->c≠T:=fun c u e=>
      ⟨fun hm=>(by rw[x c hm] at e;cases e),fun z=>(by rw[z,F.nH] at e;cases e),fun T C z=>(by rw[z,(F.tbs T C).2] at e;cases e)⟩
    refine(I.hok b o q).stay (fun c u hc e=>?_) (fun c e=>e) (fun c xs e=>e);rcases hc with z|z
    ·
      obtain⟨m1,J,Q⟩:=i b o q;subst z;exact hk.keep _ u m1 J Q e
    ·
      obtain⟨m1,J,Q⟩:=i c _ z;exact hk.keep c u m1 J Q e
  · exact aan I.sz
end
section
theorem Py (hex:X.ex= []) (I:Inv X pins σ H s) (h:IH X.prog X.w X.stack H s E e s'):∃i cls dx T H',e = .ref i/\TV X pins σ H' s' i cls dx (some T)/\E cls dx H':=by
 obtain⟨i,cls,dx,T,H',rfl,os,bare,un,hok,hx,⟨n1,C,G,J⟩,v⟩:=h;have F:=I.call' os un hok bare (fun b z=>absurd z (by simp));have old:∀b,s.heap.get? b=none->X.s₀.heap.get? b=none:=fun b x=>by
  cases q:X.s₀.heap.get? b with
  |none=>rfl
  |some o=>
   obtain⟨O,e⟩:=I.base.there b o q (by simp_all);rw[x] at e;cases e
 refine⟨i,cls,dx,T,H',rfl,⟨F,hx,old i n1,G,(fun y e=>by simp_all),fun p hp=>⟨fun z=>?_,fun y e z=>?_⟩⟩,v⟩
 ·have q:=(I.pin p hp).1;rw[z,n1] at q;cases q
 ·cases e;have q:=(I.pin p hp).1;rw[z,C] at q;cases q
theorem Rz.passes (hex:X.ex= []) (h:Rz X E):Passes (IH X.prog X.w) X E:=fun i σ H s e x I q=>by
 obtain⟨y,cls,dx,T,H',rfl,F,v⟩:=Py hex I q;exact h _ _ _ _ _ _ _ _ F v
end
theorem AN.fnX {K:W.Frag} {st:Stmt} (F:AN K mg x st) (S:kC N ps (a9 st)) (G:∀(kV doc pm:Value) (an:Option Addr) (i ct:Value) (us:List Value),us.length=ps.length->bindArgs (W.fnOf x x (fH st) (dB st) (a9 st) .none kV doc pm an i ct) ⟨us,[]⟩=pure (ps.zip us)) (len:∀vs H Q E,sp vs H Q E->vs.length=ps.length) (v:∀(f:Addr) (i:Value) (A:Around) (outer:List Env) (s:Shared) (H:Hp) (vs:List V) (Q:VK) (E:XK),dC k (A.deeper (envOfC x (a9 st) s.heap.objs.size f i))->sp vs H Q E->
   ∃t,Br (C5 CX P w K mg base N x (a9 st) f i A outer s H E) (dB st) t/\t {nx:=fun _ H'=>Q .non H',rt:=Q} (start N vs) H):FnAt P w K mg base CX x (k+1) ps sp:=by
 obtain⟨f,I,F,hm⟩:=F;have bd:=F.binds G;have kp:=F.kp;obtain⟨oc,od,kV,doc,pm,an,i,ct,C,rfl,lk,z⟩:=F.ex;exact⟨f,_,K_ lk z S len fun A outer s H vs Q E hr y=>v f _ A _ s H vs Q E hr y,hm,kp,bd,oc,od,C,lk⟩
theorem dZ.there (x:dZ P w H h a o):∃u,h.get? a=some u:=by
 cases o with
 |lst xs=>obtain⟨_,_,_,_,e⟩:=x;exact⟨_,e⟩
 |tup xs=>obtain⟨_,_,_,⟨o,e,_⟩⟩:=x;exact⟨_,e⟩
 |dK i=>obtain⟨_,_,_,_,o,_,_,e,_⟩:=x;exact⟨_,e⟩
 |dT i=>obtain⟨_,_,_,_,o,_,_,e,_⟩:=x;exact⟨_,e⟩
 |set S n=>obtain⟨o,_,_,_,e,_⟩:=x;exact⟨_,e⟩
 |ins C dx fs=>obtain⟨_,_,_,e,_⟩:=x;exact⟨_,e⟩
 |own y=>trivial
 |xd fs=>obtain⟨_,⟨_,_,_,e,_⟩,_⟩:=x;exact⟨_,e⟩
 |rng lo z=>obtain⟨_,_,_,e⟩:=x;exact⟨_,e⟩
 |frz ob u=>obtain⟨e,_⟩:=x;exact⟨_,e⟩
 |tbl F=>exact⟨_,((x))⟩
 |met f y=>exact⟨_,((x))⟩
 |ext v=>obtain⟨_,e,_⟩:=x;exact e
noncomputable abbrev EW:List Value:=[.type "ValueError",.type "Exception",.type "BaseException",.type "object"]
structure ID (K:W.Frag) (mg:Str->Option Value) (x:Str) (C R:Addr) (ini:Option Value):Prop where
 U2:mg x=some (.ref C)
 cls:∃N nm q bs sn sub ab col dd k0 k1 k2 k3 k5,K.lookup C=some (excClassObj nm q C N bs (.ref R::EW) true sn sub ab col dd k0 k1 k2 k3 k5 "ValueError.__new__")/\W.nsOkIn K N=true/\W.nsIn K N "__init__" = some ini/\W.nsIn K N "__setattr__" = some none
 road:∃c0 dd cd sl,K.lookup R=some {cls:=c0,dict:=dd,data:= .cls cd,slots:=sl}/\W.nsOkIn K cd.ns=true/\W.nsIn K cd.ns "__init__" = some none/\W.nsIn K cd.ns "__setattr__" = some none
theorem Qy {K:W.Frag} {k1:Option Value} (X:K.In h) (G:h.Ns mainGlobals mg) (a:W.nsIn K mainGlobals x=some (some (.ref C))) (l:K.lookup C=some (excClassObj nm q C N bs (.ref R::EW) true sn sub ab col dd k0 k1 k2 k3 k5 "ValueError.__new__")) (o:W.nsOkIn K N=true) (i:W.nsIn K N "__init__" = some ini) (t:W.nsIn K N "__setattr__" = some none) (l':K.lookup R=some {cls:=c0,dict:=ddR,data:= .cls cd,slots:=sl}) (v:W.nsOkIn K cd.ns=true) (y:W.nsIn K cd.ns "__init__" = some none) (t':W.nsIn K cd.ns "__setattr__" = some none):ID K mg x C R ini:=
 ⟨W.mg_of X G a,⟨N,nm,q,bs,sn,sub,ab,col,dd,k0,k1,k2,k3,k5,l,o,i,t⟩,⟨c0,ddR,cd,sl,l',v,y,t'⟩⟩
theorem ID.tail {K:W.Frag} (c:ID K mg x C R ini) (X:K.In h):OwnTail h EW (.ref R::EW):=by
 obtain⟨v,dd,cd,sl,l,o,i,_⟩:=c.road;exact .own (X _ _ l) (.of_isNs (W.isNs_of_in X o)) (W.nsMap_none_of_in X o i) .base
section
def QO (E:XK) (C:Addr):TS:=fun _ _ H=>E (.ref C) none H
end
section
theorem Wn {K:W.Frag} (X:K.In s.heap) (hx:s.heap.get? x=some ⟨.ref C,none,.fields vs,#[]⟩) (hc:W.clsIn K C=some cd) (hm:cd.mro = .ref C :: .ref R::EW) (hd:cd.hasDict=true) (hs:W.findIn K (.ref C) "__setattr__" = some (some (.builtin "object.__setattr__"))) (ha:W.findIn K (.ref C) name=some none) (h:∀i t',i.get? x=some ⟨.ref C,some s.heap.objs.size,.fields vs,#[]⟩->i.Ns1 s.heap.objs.size (fun y=>if y=name then some v else none)->(∀b o,b≠x->s.heap.get? b=some o->i.get? b=some o)->Q () {s with heap:=i,toks:=t'}):
  wpAny (model prog w) A (setAttr (.ref x) name v) Q E s:=by
 have I:W.InstAt s.heap x ⟨.ref C,none,.fields vs,#[]⟩ C none:=⟨hx,rfl,rfl,True.intro⟩;have F:=PySem.F.store_object;have lc:W.Looks (model prog w) s.heap (classData C) cd:=W.looks_clsIn X hc;have sub:W.Looks (model prog w) s.heap (isInstance (.ref x) (.type "object")) true:=I.type.andThen (aac X (by unfold W.mroIn;rw[hc,Option.bind_some,hm];rfl));have mro:W.Looks (model prog w) s.heap (mroOf (.ref C)) cd.mro:=lc.andThen .now;refine W.set_plain X I hs ?_;refine Z8 F.slot.plain F.entry ?_;refine @W.check_slot (model prog w) _ _ {s with toks:=s.toks+1} "object.__setattr__" "object" "__setattr__" (.ref x) [.str name s.toks,v] [] _ F.kind F.split sub (F.args (.ref x) (.str name s.toks) v) ?_;rw[W.osa_eq,refuse_eq];refine c8 (c8 (I.type.here (s:={s with toks:=s.toks+1}) (c8 (mro.here (s:={s with toks:=s.toks+1}) ?_))));rw[hm,refuseLoop_ref,refuseLoop_ref,PySem.F.store_ValueError.passes];refine fg (c8 (I.type.here (s:={s with toks:=s.toks+1}) (c8 ((Z_ X ha).here (s:={s with toks:=s.toks+1}) (c8 (fg ?_))))));refine c8 (fg (c8 (c8 (aaI (s:={s with toks:=s.toks+1}) hx (c8 (lc.here (s:={s with toks:=s.toks+1}) ?_))))));rw[hd,de (by decide)];have sx:x≠s.heap.objs.size:=kv (h6 hx);have P:(s.heap.push {cls:= .type "dict",data:= .dict #[]}).get? x=some ⟨.ref C,none,.fields vs,#[]⟩:=ej _ hx;have h2:=ZW (fun o:Obj=>{cls:=o.cls,dict:=some s.heap.objs.size,data:=o.data,slots:=o.slots}) P rfl;have h3:((s.heap.push {cls:= .type "dict",data:= .dict #[]}).update x fun o=>{cls:=o.cls,dict:=some s.heap.objs.size,data:=o.data,slots:=o.slots}).get? s.heap.objs.size=some {cls:= .type "dict",data:= .dict #[]}:=
  (n8 _ _ sx).trans (ke _ rfl)
 have hn:((s.heap.push {cls:= .type "dict",data:= .dict #[]}).update x fun o=>{cls:=o.cls,dict:=some s.heap.objs.size,data:=o.data,slots:=o.slots}).Ns s.heap.objs.size (fun _=>none):=
  ⟨_,#[],_,h3,rfl,fun e he=>absurd he (by simp),fun _=>rfl⟩
 show wpAny _ _ (alloc {cls:= .type "dict",data:= .dict #[]} >>= fun d=>update x (fun o=>{cls:=o.cls,dict:=some d,data:=o.data,slots:=o.slots}) >>= fun _=>dictMade (.ref C) x d) _ _ _;refine c8 (wpAny_alloc ?_);refine c8 (wpAny_update (s:={s with heap:=s.heap.push {cls:= .type "dict",data:= .dict #[]},toks:=s.toks+1}) P ?_);refine fg ?_;show wpAny _ _ (Builtin.ObjectAttr.storeInDict s.heap.objs.size (.str name s.toks) name v) _ _ _;unfold Builtin.ObjectAttr.storeInDict Builtin.ObjectAttr.newKeyGuard;refine c8 (fg (c8 (wpAny_nsSet1 (Heap.Ns1.of_empty hn) fun i U Z=>?_)));obtain⟨oD,esD,epD,z,G,J⟩:=U.count (PySem.Within.cons name v PySem.Within.nil);refine c8 (wpAny_lookBehind z (by rw[G];exact pastItsLine_dict (h7 J (by rw[nS,aaC,gn];lia))) ?_);refine fg (h i _ ((Z.2 x sx).trans h2) ?_ fun b o ne O=>?_)
 ·obtain⟨o',es,ep,e1,e2,e3,eu,e4⟩:=U;exact⟨o',es,ep,e1,e2,e3,eu,fun y=>by rw[e4 y]⟩
 ·exact(Z.2 b (kv (h6 O))).trans ((n8 _ _ (L3 ne)).trans (ej _ O))
end
section
variable {os:OsState} {K:W.Frag} {k1:Option Value}
theorem QM {rest:List Value} (X:K.In h) (T:OwnTail h EW bm) (i:h.get? C=some (excClassObj nm q C N bs bm hdct sn sub ab col dd k0 k1 k2 k3 k5 "ValueError.__new__")) (O:W.findIn K (.ref C) "__init__" = some (some (.ref fI))) (hf:W.typeIn K (.ref fI)=some (.type "function")) (hr:rest.length<=sizeLine) (J:∀G e,Heap.MadeExcOf h G e (.ref C) rest->wpAny (model prog w) A (call (.ref fI) (.ref e::rest)) (fun r v=>r = .none/\Q (.done (.ret (.ref e))) v) E ⟨G,g,d,t,os⟩):
  wpAny (model prog w) A (Builtin.«type.__call__» ⟨.ref C::rest,[]⟩) Q E ⟨h,g,d,t,os⟩:=by
 have F:=PySem.F.excBase_ValueError
 repeat (first|with_reducible refine aaj i ?_|with_reducible refine wpAny_madeBy_exc i ?_|wp_step)
 refine codeAny_call_builtin_code (Code.quiet_builtin _ F.quiet) (wpAny_check_new_subT F T i ?_);refine codeAny_exc_new_subT F T i ?_ hr;show wpAny _ _ _ _ _ _;have up:∀b o,h.get? b=some o->((h.push {cls:= .type "tuple",data:= .seq rest.toArray}).push {cls:= .ref C,data:= .fields #[.ref h.objs.size,.none,.none,.none,.bool false,.none]}).get? b=some o:=fun b o e=>ej _ (ej _ e);have P:=up _ _ i;have y:=X.keeps up;have e2:((h.push {cls:= .type "tuple",data:= .seq rest.toArray}).push {cls:= .ref C,data:= .fields #[.ref h.objs.size,.none,.none,.none,.bool false,.none]}).get? (h.objs.size+1)=some {cls:= .ref C,data:= .fields #[.ref h.objs.size,.none,.none,.none,.bool false,.none]}:=by heap_get
 have t2:((h.push {cls:= .type "tuple",data:= .seq rest.toArray}).push {cls:= .ref C,data:= .fields #[.ref h.objs.size,.none,.none,.none,.bool false,.none]}).get? h.objs.size=some {cls:= .type "tuple",data:= .seq rest.toArray}:=ej _ (Heap.get?_push_at rfl rfl);have made:Heap.MadeExcOf h ((h.push {cls:= .type "tuple",data:= .seq rest.toArray}).push {cls:= .ref C,data:= .fields #[.ref h.objs.size,.none,.none,.none,.bool false,.none]}) (h.objs.size+1) (.ref C) rest:=
  ⟨up,aan (vr _),h.objs.size,e2,aan (cv _),t2⟩
 have U:=J _ _ made;have Z:(Value.ref C::bm).contains (.ref C)=true:=by simp
 generalize(h.push {cls:= .type "tuple",data:= .seq rest.toArray}).push {cls:= .ref C,data:= .fields #[.ref h.objs.size,.none,.none,.none,.bool false,.none]}=x at*
 unfold isInstance
 repeat (first|with_reducible refine aaj e2 ?_|(with_reducible refine wpAny_isSubtype_exc P ?_;rw[Z])|wp_step)
 show wpAny _ _ (typeLookup (.ref C) _) _ _ _;refine(Z_ y O).here (s:=⟨x,g,d,t,os⟩) ?_;refine Z0 (c8 ((W.bind_fn y _ hf).here (s:=⟨x,g,d,t,os⟩) (c8 (z4 U (fun r v hr=>?_) fun _ _ z=>z))));obtain⟨rfl,I⟩:=hr
 wp_walk
 exact I
theorem VO {rest:List Value} (X:K.In h) (T:OwnTail h EW bm) (i:h.get? C=some (excClassObj nm q C N bs bm hdct sn sub ab col dd k0 k1 k2 k3 k5 "ValueError.__new__")) (z:W.findIn K (.ref C) "__init__" = some (some (.ref fI))) (hf:W.typeIn K (.ref fI)=some (.type "function")) (hr:rest.length<=sizeLine) (y:∀v e,Heap.MadeExcOf h v e (.ref C) rest->wpAny (model prog w) (A.under (.builtin "type.__call__" ⟨.ref C::rest,[]⟩)) (call (.ref fI) (.ref e::rest)) (fun r x=>r = .none/\Q (.ref e) x) E ⟨v,g,d,t,os⟩):
  wpAny (model prog w) A (call (.ref C) rest) Q E ⟨h,g,d,t,os⟩:=by
 have G:=tc_lookup;have F:=tc_bind (.ref C);have I:(⟨h,g,d,t,os⟩:Shared).TypeIs (.ref C) "type" :=⟨_,i,rfl⟩;refine aar (codeAny_of_tree ?_);show wpAny _ _ (callAny (.ref C) _) _ _ _
 repeat (any_goals (first|assumption|with_reducible refine aaj i ?_|wp_step))
 refine⟨rfl,?_⟩;refine codeAny_call_builtin_at (Code.quiet_builtin _ (by decide+kernel)) entry_typeCall (wpAny_check_type_call_sub i (QM X T i z hf hr fun v e hm=>?_));exact y v e hm
theorem QY {prog:Program} {w:World} {A:Around} {E:Value->Shared->Prop} {nm q:Str} {C N:Addr} {bs bm:List Value} {hdct:Bool} {sn:List Str} {sub:List Value} {ab:Bool} {col:Option Bool} {dd:Option Addr} {k0 k2 k3 k5:Option Value} {s:Shared} {env:Env} {x:Sem Value} {Q:Flow->Shared->Prop} (y:bm.contains (.type "BaseException")=true) (hh:A.handled=none)
  (hx:wpAny (model prog w) A x (fun v i=> ∃e dx vs,v = .ref e/\i.heap.get? C=some (excClassObj nm q C N bs bm hdct sn sub ab col dd k0 k1 k2 k3 k5 "ValueError.__new__")/\i.heap.get? e=some ⟨.ref C,dx,.fields vs,#[]⟩/\vs[1]?=some .none/\E (.ref e) i) E s):
  wpAny (model prog w) A (raiseStmt env (some x) none) Q E s:=by
 have J:(Value.ref C::bm).contains (.type "BaseException")=true:=by rw[List.contains_cons,y,Bool.or_true]
 unfold raiseStmt;refine c8 (z4 hx (fun v i z=>?_) fun _ _ x=>x);obtain⟨e,dx,vs,rfl,F,he,I,G⟩:=z;obtain⟨hp,g,d,tk,os⟩:=i
 repeat (first|with_reducible refine aaj he ?_|with_reducible refine aaj F ?_|(with_reducible refine wpAny_isSubtype_exc F ?_;rw[J])|wp_step)
 rw[I];refine fg ?_;rw[de (by decide)];exact fg (wpAny_raiseNew_none hh G)
end
def vA (e C:Addr) (dx:Option Addr):Heap->Prop:=fun h=> ∃vs:Array Value,h.get? e=some ⟨.ref C,dx,.fields vs,#[]⟩/\1<vs.size/\vs[1]?=some .none
theorem Pz (x:vA e C dx h):dZ P w H h e (.ext (vA e C dx)):=
 ⟨x,x.elim fun vs q=>⟨_,q.1⟩,fun y v i k=>by obtain⟨vs,q,r⟩:=i;exact⟨vs,k _ q,r⟩⟩
noncomputable def oy (H:Hp) (e:Addr):Hp:=fun b=>if b=e then none else H b
theorem g7 (n:b≠e):oy H e b=H b:=by unfold oy;rw[de n]
theorem CQ:oy H e e=none:=by unfold oy;rw[dy rfl]
section
theorem Inv.drop (I:Inv X pins σ H s) (h:H e=some (.ext φ)):Inv X pins σ (oy H e) s:=by
 have ne:∀{b:Addr} {o:HO},H b=some o->(∀i,o≠ .ext i)->b≠e:=fun{b o} q n z=>by
  grind
 refine I.un ⟨fun b o q n _ _=>q,fun b o q n _ _=>⟨_,q⟩,fun b o q n _=>?_,fun b o q _=>⟨o,q⟩,fun b xs q=>?_,fun b o u q=>?_,fun b v q=>⟨#[],?_⟩⟩ fun b o q=>?_
 ·unfold oy;split
  ·rfl
  ·exact n
 ·rw[g7 (ne q (by simp))];exact q
 ·rw[g7 (ne q (by simp))];exact q
 ·rw[g7 (ne q (by simp)),q];simp
 ·have nb:b≠e:=fun z=>by rw[z,CQ] at q;cases q
  rw[g7 nb] at q;exact(I.hok b o q).stay (fun c u _ z=>z) (fun c z=>by rw[g7 (ne z (by simp))];exact z) fun c xs z=>by rw[g7 (ne z (by simp))];exact z
theorem Inv.setx (I:Inv X pins σ H s) (P:H e=some (.ext (vA e C none))) (he:i.get? e=some ⟨.ref C,some s.heap.objs.size,.fields vs,#[]⟩) (F:1<vs.size) (x:vs[1]?=some .none) (hn:i.Ns1 s.heap.objs.size (fun z=>if z=f then some u else none)) (k:∀b o,b≠e->s.heap.get? b=some o->i.get? b=some o) (J:RelV y u):
  Inv X pins σ (upd (upd H s.heap.objs.size (.xd [(f,y)])) e (.ext (vA e C (some s.heap.objs.size)))) {s with heap:=i,toks:=t'}:=by
 have O:=I.hok.fresh (cv _);have nn:∀{b:Addr} {o:HO},H b=some o->b≠s.heap.objs.size:=fun{b o} q z=>by simp_all
 have ne:∀{b:Addr} {o:HO},H b=some o->(∀G,o≠ .ext G)->b≠e:=fun{b o} q n z=>by
  grind
 have fr:∀b,H b=none->b≠e:=fun b q z=>by lia
 refine I.un ⟨fun b o q n _ _=>k b o (fr b n) q,fun b o q n _ _=>⟨_,k b o (fr b n) q⟩,fun b o q n _=>?_,fun b o q _=>?_,fun b xs q=>?_,fun b o u q=>?_,fun b Q q=>⟨#[],?_⟩⟩ fun b o q=>?_
 ·rw[ag (fr b n),ag (kv (h6 q))];exact n
 ·grind
 ·rw[ag (ne q (by simp)),ag (nn q)];exact q
 ·rw[ag (ne q (by simp)),ag (nn q)];exact q
 ·rw[ag (ne q (by simp)),ag (nn q),q];simp
 ·by_cases z:b=e
  ·subst z;rw[aa] at q;cases q;exact Pz ⟨vs,he,F,x⟩
  ·rw[ag z] at q;by_cases v:b=s.heap.objs.size
   ·subst v;rw[aa] at q;cases q;refine⟨_,hn,fun g=>?_⟩;by_cases c:g=f
    ·rw[c];simp only[List.lookup,BEq.rfl];exact J
    ·rw[de c];have:=ZQ.mpr c;simp only[List.lookup,this];exact True.intro
   ·rw[ag v] at q;refine(I.hok b o q).stay (fun c u hc g=>?_) (fun c g=>by rw[ag (ne g (by simp)),ag (nn g)];exact g) fun c xs g=>by rw[ag (ne g (by simp)),ag (nn g)];exact g
    rcases hc with r|r
    ·exact k c u (r▸z) g
    ·exact k c u (ne r (by simp)) g
end
structure C_ (K:W.Frag) (C:Addr) (f:Str):Prop where
 sa:W.findIn K (.ref C) "__setattr__" = some (some (.builtin "object.__setattr__"))
 no:W.findIn K (.ref C) f=some none
def NY (C:Addr) (F z:TE) (f:Str):TS:=fun D σ H=>z σ H fun y v=>F σ v fun x i=> ∃e,x = .ref e/\i e=some (.ext (vA e C none))/\∀dx,i dx=none->D.nx σ (upd (upd i dx (.xd [(f,y)])) e (.ext (vA e C (some dx))))
section
theorem ID.cd {K:W.Frag} (c:ID K mg x C R ini):∃cd:ClassData,W.clsIn K C=some cd/\cd.mro = .ref C :: .ref R::EW/\cd.hasDict=true:=by
 obtain⟨N,nm,q,bs,sn,sub,ab,col,dd,k0,k1,k2,k3,k5,l,_⟩:=c.cls;unfold W.clsIn;rw[l];exact⟨_,rfl,rfl,rfl⟩
theorem Rk (c:ID X.K X.mg x C R ini) (m:C_ X.K C f) (ha:PE X o ta) (P:PE X value tv) (hs:autoParam (lW value=false) qqr):PS X (.Assign [.Attribute o f pos'] value pos) (NY C ta tv f):=by
 intro z s σ H D I h;obtain⟨cd,hc,hm,hd⟩:=c.cd;refine ZX (gQ (P _ s σ H _ I h) fun u s1 y H1 I1 G q=>thn (ha _ s1 σ H1 _ I1 q) fun ov s2 ⟨x,H2,i,Z,e,ex,v,U⟩=>?_) (mE hs);subst ex;obtain rfl:ov=Value.ref e:=Z;obtain⟨⟨vs,he,J,F⟩,_⟩:=i.hok e _ v;refine Wn i.nO he hc hm hd m.sa m.no fun h' t' Q O g3=>⟨σ,_,i.setx v Q J F O g3 G,U _ (i.hok.fresh (cv _))⟩
end
def EZ (C:Addr) (sp:Sp) (E:XK) (y:TA):TS:=fun _ σ H=>y σ H fun vs i=> ∀e,i e=none->sp (.ref e::vs) (upd i e (.ext (vA e C none))) (fun v x=>v = .non/\∃dx,x e=some (.ext (vA e C dx))/\E (.ref C) dx (oy x e)) E0
section
theorem Inv.newx (I:Inv X pins σ H s) (he:H e=none) (hm:Heap.MadeExcOf s.heap v e (.ref C) args):Inv X pins σ (upd H e (.ext (vA e C none))) {s with heap:=v}:=by
 obtain⟨t,i,_,_⟩:=hm.there;have ne:∀{b:Addr} {o:HO},H b=some o->b≠e:=fun{b o} q z=>by simp_all
 refine I.un ⟨fun b o q n _ _=>hm.keeps b o q,fun b o q n _ _=>⟨_,hm.keeps b o q⟩,fun b o q n _=>?_,fun b o q _=>⟨o,hm.keeps b o q⟩,fun b xs q=>?_,fun b o u q=>?_,fun b x q=>⟨#[],?_⟩⟩ fun b o q=>?_
 ·rw[ag (fun z=>by rw[z,hm.new] at q;cases q)];exact n
 ·rw[ag (ne q)];exact q
 ·rw[ag (ne q)];exact q
 ·rw[ag (ne q),q];simp
 ·by_cases z:b=e
  ·subst z;rw[aa] at q;cases q;exact Pz ⟨_,i,by show 1<6;decide,rfl⟩
  ·rw[ag z] at q;exact(I.hok b o q).stay (fun c u _ g=>hm.keeps c u g) (fun c g=>by rw[ag (ne g)];exact g) fun c xs g=>by rw[ag (ne g)];exact g
theorem Mp [Quiet CX] (c:ID X.K X.mg x C R ini) (G:yG X.prog X.w X.K X.mg X.base CX C "__init__" k ps sp) (kp:W.keepIn X.K (.ref C)=true) (hr:dC (k+1) X.A) (hz:Rz X E) (hc:X.calm=true) (hex:X.ex= []) (hg:Gl X x) (ha:PA X (a::es) ta) (Q:(x == ("__debug__":Str))=false:=by decide) (he:autoParam (starEach (a::es) X.env=(false,eval a X.env)::starEach es X.env) qqr) (hpl:autoParam ((backTo cpos (starEach es X.env)).any (·.1)=false) qqr) (hlen:∀us:List Value,us.length+1=ps.length->us.length<=sizeLine:=by intro us h;simp at h;rw[gn];lia):
  PS X (.Raise (some (.Call (.Name x np) (a::es) [] cpos)) none pos) (EZ C sp E ta):=by
 intro pins s σ H D I h;obtain⟨f,fd,F,M,hb⟩:=G;obtain⟨N,nm,q,bs,sn,sub,ab,col,dd,k0,k1,k2,k3,k5,l,_⟩:=c.cls;refine c8 (aaw ?_);refine QY (nm:=nm) (q:=q) (C:=C) (N:=N) (bs:=bs) (hdct:=true) (sn:=sn) (sub:=sub) (ab:=ab) (col:=col) (dd:=dd) (k0:=k0) (k1:=k1) (k2:=k2) (k3:=k3) (k5:=k5) ((c.tail I.nO).hasType (rfl)) (I.ok.hd hc) ?_;refine c8 (z4 (ZK (mw I hg c.U2 (aaF I.ok.mod.kin kp (gQ (ha _ _ s σ H _ I h) fun us s1 vs H1 i r q1=>⟨i.nO,?_⟩) he hpl) Q)) (fun v s₃ J=>c8 (aaw (fg J))) fun _ _ z=>z);have T:=c.tail i.nO;have hC:=i.nO _ _ l;have U:=by
  have e0:=(q1 _ (i.hok.fresh (cv _)));have e1:=F.len _ _ _ _ e0;have e2:=r.length;rw[nS] at e1;exact hlen us (by lia)
 refine VO i.nO T hC M.at_ (ZS.mp M.fn) U fun h' e hm=>?_;have e0:H1 e=none:=by
  cases z:H1 e with
  |none=>rfl
  |some u=>
   obtain⟨o',O⟩:=(i.hok e u z).there;rw[hm.new] at O;cases O
 have n0:X.s₀.heap.get? e=none:=by
  cases z:X.s₀.heap.get? e with
  |none=>rfl
  |some o=>
   obtain⟨o',O⟩:=i.base.there e o z (by simp_all);rw[hm.new] at O;cases O
 have P:=i.newx e0 hm;have hq:=q1 e e0;have r2:Vals (V.ref e::vs) _:= .cons rfl r;have hl:(Value.ref e::us++ []).length=ps.length:=by
  have z:=F.len _ _ _ _ hq;rw[aad,<-r2.length];exact z
 refine aar (aaE (F.run _ _ _ _ _ _ _ _ E0 (hr.make C us []) (P.Sw.make C us []) (by have z:=hb _ _ P.nO hl;rw[aad] at z;exact z) r2 hq) fun r s' y=>?_);cases r with
 |error x=>exact Quiet.pass X _ σ _ _ x s' P y
 |ok fl=>
  cases fl with
  |ret u=>
   obtain⟨v,H',Z,rv,ev,dx,eH,hE⟩:=P.after y;subst ev;obtain⟨⟨ws,oe,w1,w2⟩,_⟩:=Z.hok e _ eH;exact⟨rv,e,dx,ws,rfl,Z.nO _ _ l,oe,w2,hz _ _ _ _ _ _ _ none ⟨Z.drop eH,⟨_,ws,oe,rfl,rfl,rfl,w1,w2⟩,n0,CQ,(fun T z=>by cases z),fun p hp=>⟨fun z=>(by have q:=(i.pin p hp).1;rw[z,hm.new] at q;cases q),fun T z=>by cases z⟩⟩ hE⟩
  |next=>trivial
  |brk=>trivial
  |cont=>trivial
end
def xk (e:Addr) (cls:Value) (dx:Option Addr):Heap->Prop:=fun h=> ∃i vs,h.get? e=some i/\i.cls=cls/\i.dict=dx/\i.data = .fields vs
theorem VE (x:xk e cls dx h):dZ P w H h e (.ext (xk e cls dx)):=
 ⟨x,x.elim fun i q=>q.elim fun vs q=>⟨_,q.1⟩,fun z y v k=>by obtain⟨i,vs,q,r⟩:=v;exact⟨i,vs,k _ q,r⟩⟩
def VD (T:Addr):Heap->Prop:=fun h=> ∃o,h.get? T=some o
theorem JY (x:VD e h):dZ P w H h e (.ext (VD e)):=
 ⟨x,x,fun y v i k=>by obtain⟨o,q⟩:=i;exact⟨o,k _ q⟩⟩
section
theorem Inv.track (I:Inv X pins σ H s) (n:H a=none) (n0:X.s₀.heap.get? a=none) (G:∀p∈X.pn++pins,p.1≠a) (ho:∃o vs,s.heap.get? a=some o/\o.data = .fields vs) (k:dZ X.prog X.w (upd H a (.ext φ)) s.heap a (.ext φ)):Inv X pins σ (upd H a (.ext φ)) s:=by
 obtain⟨o,vs,ho,hd⟩:=ho;have ne:∀{b:Addr} {u:HO},H b=some u->b≠a:=fun{b u} q z=>by simp_all
 have nl:X.env.locals≠a:=fun z=>by
  obtain⟨m,⟨J,es,Q,e1,e2,_⟩,_⟩:=I.loc;rw[z,ho] at e1;cases e1;rw[hd] at e2;cases e2
 have F:∀x c,X.env.cells.lookup x=some c->c≠a:=fun x c e z=>by
  obtain⟨v,J,e1,e2⟩:=I.cell x c e;rw[z,ho] at e1;cases e1;rw[hd] at e2;cases e2
 refine⟨I.ok,I.os,I.bare,⟨I.base.keep,I.base.slot,fun b u q m hx=>?_,I.base.there,fun b xs q=>?_,fun b o u q=>?_,fun b O q=>?_⟩,I.loc,I.cell,?_,fun x c e=>?_,fun p hp=>?_,fun b u q=>?_,I.len⟩
 ·rw[ag (fun z=>by simp_all)];exact I.base.free b u q m hx
 ·have i:=I.base.tups b xs q;rw[ag (ne i)];exact i
 ·have i:=I.base.frzs b o u q;rw[ag (ne i)];exact i
 ·obtain⟨more,i⟩:=I.base.tbls b O q;exact⟨_,by rw[ag (ne i)];exact i⟩
 ·rw[ag nl];exact I.free
 ·rw[ag (F x c e)];exact I.md x c e
 ·obtain⟨y,C,P⟩:=I.pin p hp;exact⟨y,by rw[ag (G p hp)];exact C,P⟩
 ·by_cases z:b=a
  ·subst z;rw[aa] at q;cases q;exact k
  ·rw[ag z] at q;exact(I.hok b u q).stay (fun c v _ g=>g) (fun c g=>by rw[ag (ne g)];exact g) fun c xs g=>by rw[ag (ne g)];exact g
theorem Inv.left (I:Inv X pins σ H s) (G:∀t,T=some t->H t=some (.ext (VD t))) (he:H ea=some (.ext (VD ea))) (hk:Yc (frs X.stack) ea T s.heap C) (hx:xk ea cls dx C):
  Inv X pins σ (upd H ea (.ext (xk ea cls dx))) {s with heap:=C}:=by
 have ne:∀{b:Addr} {o:HO},H b=some o->(∀F,o≠ .ext F)->b≠ea/\∀t,T=some t->b≠t:=fun{b o} q n=>⟨fun z=>by
  grind,fun t ht z=>by
  grind⟩
 have fr:∀b,H b=none->b≠ea/\∀t,T=some t->b≠t:=fun b q=>⟨(fun z=>by lia),fun t ht z=>by grind⟩;refine I.call' (ch:=[]) rfl ⟨fun b o q n v _=>?_,fun b o q n v _=>hk.slot b o v q,fun b o q n _=>?_,fun b o q _=>hk.there b o q,fun b xs q=>?_,fun b o u q=>?_,fun b O q=>⟨#[],?_⟩⟩ (fun b o q=>?_) I.bare (fun b z=>absurd z (by simp))
 ·exact hk.keep b o v (fr b n).1 (fr b n).2 q
 ·rw[ag (fr b n).1];exact n
 ·rw[ag (ne q (by simp)).1];exact q
 ·rw[ag (ne q (by simp)).1];exact q
 ·rw[ag (ne q (by simp)).1,q];simp
 ·by_cases z:b=ea
  ·subst z;rw[aa] at q;cases q;exact VE hx
  ·rw[ag z] at q;by_cases x:T=some b
   ·have i:=G b x;rw[q] at i;injection i with i;subst i;obtain⟨⟨o,e1⟩,_⟩:=((I.hok b _ q));obtain⟨J,e2⟩:=hk.there b o e1;exact JY ⟨J,e2⟩
   ·have y:∀{c:Addr} {u:HO},H c=some u->c ∉ frs _:=fun{c u} g m=>by rw[I.Bu c m] at g;cases g
    refine(I.hok b o q).stay (fun c u hc g=>?_) (fun c g=>by rw[ag (ne g (by simp)).1];exact g) fun c xs g=>by rw[ag (ne g (by simp)).1];exact g
    rcases hc with r|r
    ·rw[r] at g⊢;exact hk.keep b u (y q) z (fun t ht e=>x (e▸ht)) g
    ·exact hk.keep c u (y r) (ne r (by simp)).1 (ne r (by simp)).2 g
theorem TV.land (F:TV X pins σ H s ea cls dx tb) (hk:Yc (frs X.stack) ea tb s.heap C) (hx:Qj C ea cls dx (some T')):Inv X pins σ (upd H ea (.ext (xk ea cls dx))) {s with heap:=C}:=by
 obtain⟨I,vs,he,hc,hd,i,hsz,x⟩:=F.ex;have v:xk ea cls dx C:=by obtain⟨o,ws,e1,e2,e3,e4,_⟩:=hx;exact⟨o,ws,e1,e2,e3,e4⟩
 have J:=F.inv.track F.nH F.n0 (fun p hp=>(F.apart p hp).1) ⟨I,vs,he,i⟩ (JY ⟨I,he⟩);cases tb with
 |none=>
  have y:=J.left (fun t z=>by cases z) aa hk v;have e:upd (upd H ea (.ext (VD ea))) ea (.ext (xk ea cls dx))=upd H ea (.ext (xk ea cls dx)):=by
   funext b;unfold upd;split<;>rfl
  rw[e] at y;exact y
 |some T=>
  obtain⟨U,ne,G,ts,x,dT,Z⟩:=x;obtain⟨t0,Q⟩:=F.tbs T rfl;have y:=J.track (by rw[ag ne];exact Q) t0 (fun p hp=>(F.apart p hp).2 T rfl) ⟨G,ts,x,dT⟩ (JY ⟨G,x⟩);have P:=y.left (fun t z=>by cases z;exact aa) (by rw[ag (L3 ne)];exact aa) hk v;have O:=P.drop (by rw[ag ne];exact aa);have e:oy (upd (upd (upd H ea (.ext (VD ea))) T (.ext (VD T))) ea (.ext (xk ea cls dx))) T=upd H ea (.ext (xk ea cls dx)):=by
   funext b;unfold oy upd;by_cases z:b=T
   ·simp_all
   ·simp_all
  rw[e] at O;exact O
theorem Sg {h:Heap} (e:h.get? a=some o):h.objs[a]?=some o:=by
 unfold Heap.get? at e;split at e
 ·cases e
 ·exact e
theorem Cv {h:Heap} (e:h.get? a=some o) (i:f o=o):h.update a f=h:=by
 have x:=Sg e;obtain⟨objs,l⟩:=h;have:objs.modify a f=objs:=by
  apply Array.ext (by simp);intro j y v;rw[Array.getElem_modify];split
  ·simp_all
  ·rfl
 show(⟨_,l⟩:Heap)=_;rw[this]
theorem HV (hx:Qj s.heap ea cls dx (some T)) (h:Q () s):wpAny M A (setFlight (.ref ea) none) Q E s:=by
 obtain⟨z,vs,he,_,_,hd,hsz,i,ne,x,ts,v,dT,y⟩:=hx;refine c8 (aag he hd i ?_);refine wpAny_setField v dT (Array.getElem?_eq_some_iff.mp y).1 ?_;rw[Cv v]
 ·exact h
 ·obtain⟨c,d,dt,sl⟩:=x;obtain rfl:dt = .fields ts:=dT;show Obj.mk c d _ sl=_;congr 1;congr 1;apply Array.ext (by simp);intro j i C;rw[Array.getElem_setIfInBounds];split
  ·simp_all
  ·rfl
end
noncomputable abbrev Cx.yL (X:Cx) (pn:List (Addr×Obj)) (σ:St) (E:XK):Cx:={X with pn:=X.pn++pn,xe:=fun e s=> ∃i cls dx tb H',e = .ref i/\TV X pn σ H' s i cls dx tb/\E cls dx H'}
noncomputable abbrev Cx.hand (X:Cx) (e:Value):Cx:={X with A:=X.A.mark (some e),calm:=false,xe:=fun _ _=>False}
section
mutual
variable {X:Cx} {pn:List (Addr×Obj)}
theorem Cx.Ok.yL (ok:X.Ok):(X.yL pn σ E).Ok:=
 ⟨ok.mod,ok.kind,ok.glob,ok.blt,ok.above,ok.inj,ok.has,ok.cab,ok.hd,ok.frames,ok.stk,ok.exf,ok.bs,ok.bsz,ok.noex,ok.exfs,ok.funs,ok.frf⟩
theorem Cx.Ok.untry (ok:(X.yL pn σ E).Ok):X.Ok:=
 ⟨ok.mod,ok.kind,ok.glob,ok.blt,ok.above,ok.inj,ok.has,ok.cab,ok.hd,ok.frames,ok.stk,ok.exf,ok.bs,ok.bsz,ok.noex,ok.exfs,ok.funs,ok.frf⟩
theorem Cx.Ok.hand (ok:X.Ok):(X.hand e).Ok:=
 ⟨ok.mod,ok.kind,ok.glob,ok.blt,ok.above,ok.inj,ok.has,ok.cab,(fun z=>by cases z),ok.frames,ok.stk,ok.exf,ok.bs,ok.bsz,ok.noex,ok.exfs,ok.funs,ok.frf⟩
theorem Inv.yL (I:Inv X pn σ H s):Inv (X.yL pn σ0 E) [] σ H s:=⟨I.ok.yL,I.os,I.bare,I.base,I.loc,I.cell,I.free,I.md,fun p hp=>I.pin p (by simp_all),I.hok,I.len⟩
theorem Inv.untry (I:Inv (X.yL pn σ0 E) pins σ H s):Inv X pn σ H s:=⟨I.ok.untry,I.os,I.bare,I.base,I.loc,I.cell,I.free,I.md,fun p hp=>I.pin p (aao _ hp),I.hok,I.len⟩
theorem Inv.hand (I:Inv X pins σ H s):Inv (X.hand e) pins σ H s:=⟨I.ok.hand,I.os,I.bare,I.base,I.loc,I.cell,I.free,I.md,I.pin,I.hok,I.len⟩
theorem Inv.unhand (ok:X.Ok) (I:Inv (X.hand e) pins σ H s):Inv X pins σ H s:=⟨ok,I.os,I.bare,I.base,I.loc,I.cell,I.free,I.md,I.pin,I.hok,I.len⟩
theorem TV.untry (F:TV (X.yL pn σ0 E) pins σ H s ea cls dx tb):TV X pn σ H s ea cls dx tb:=⟨F.inv.untry,F.ex,F.n0,F.nH,F.tbs,fun p hp=>F.apart p (aao _ hp)⟩
theorem SP.untry (h:SP (X.yL pn σ0 E) pins D f s'):SP X pn D f s':=by
 cases f with
 |next=>obtain⟨i,H',I,q⟩:=h;exact⟨i,H',I.untry,q⟩
 |brk=>obtain⟨i,H',I,q⟩:=h;exact⟨i,H',I.untry,q⟩
 |cont=>obtain⟨i,H',I,q⟩:=h;exact⟨i,H',I.untry,q⟩
 |ret u=>obtain⟨v,i,H',I,r,q⟩:=h;exact⟨v,i,H',I.untry,r,q⟩
def IE (CX:IL) (X:Cx) (σ:St) (E:XK):Prop:= ∀(i:List (Addr×Obj)) (H:Hp) (s:Shared) (e:Value) (v:Shared),Inv X i σ H s->CX X.stack H s E e v->X.xe e v
theorem xJ (hex:X.ex= []):IE (IH X.prog X.w) (X.yL pn σ E) σ E:=fun i H s e y I h=>by
 obtain⟨x,cls,dx,T,H',rfl,F,v⟩:=Py (X:=X.yL pn σ E) hex I h;exact⟨x,cls,dx,_,H',rfl,F.untry,v⟩
end
end
def NQ (i:St) (sp:Sp) (E:XK) (t:TA):TE:=fun σ H Q=>σ=i/\t σ H fun vs v=>sp vs v Q E
def T_ (y:St) (C:Addr) (sp:Sp) (E:XK) (t:TA):TE:=fun σ H Q=>σ=y/\t σ H fun vs i=> ∀x dx,i x=none->i dx=none->dx≠x->
 sp (.ref x::vs) (upd (upd i dx (.own x)) x (.ins C dx [])) (fun v z=>v = .non/\Q (.ref x) z) E
def T9 (i:St) (C:Addr) (m:Str) (sp:Sp) (E:XK) (y:TE) (t:TA):TE:=fun σ H Q=>σ=i/\y σ H fun x v=>Wv C m x v (t σ v fun vs z=>sp (x::vs) z Q E)
section
theorem E_ (F:yH X.prog X.w X.K X.mg X.base CX k f fd ps sp) (hr:dC k X.A) (y:Binds X.K fd ps []) (hx:IE CX X σ0 E) (I:Inv X pins σ0 H s) (r:Vals vs us) (h:sp vs H Q E):wpAny (model X.prog X.w) X.A (call (.ref f) us) (EP X pins σ0 Q) X.xe s:=by
 have hl:(us++ []).length=ps.length:=by rw[aad,<-r.length];exact F.len _ _ _ _ h
 refine aar (aaE (F.run _ _ s H _ us vs Q E hr I.Sw (by have z:=y s us I.nO hl;rw[aad] at z;exact z) r h) fun r v i=>?_);cases r with
 |error e=>exact hx _ H s e v I i
 |ok x=>
  cases x with
  |ret u=>exact I.after i
  |next=>trivial
  |brk=>trivial
  |cont=>trivial
theorem UI (G:FnAt X.prog X.w X.K X.mg X.base CX x k ps sp) (hr:dC n X.A) (hk:k<=n) (hg:Gl X x) (hx:IE CX X σ0 E) (ha:PA X (e::es) t) (i:(x == ("__debug__":Str))=false:=by decide) (he:autoParam (starEach (e::es) X.env=(false,eval e X.env)::starEach es X.env) qqr) (v:autoParam ((backTo pos (starEach es X.env)).any (·.1)=false) qqr):
  PE X (.Call (.Name x p) (e::es) [] pos) (NQ σ0 sp E t):=by
 obtain⟨f,C,F,hm,kp,b,_⟩:=G;intro z s σ H Q I ⟨hσ,h⟩;subst hσ;refine ZK (mw I hg hm ?_ i);refine aaF I.ok.mod.kin kp (gQ (ha _ _ s σ H _ I h) fun us s1 vs J y r q=>⟨y.nO,?_⟩) he v;exact E_ F (hr.mono hk) b hx y r q
theorem UG (he:PE X o ta) (c:dF X.K X.mg x C) (G:yG X.prog X.w X.K X.mg X.base CX C m k ps sp) (hr:dC n X.A) (hk:k<=n) (hx:IE CX X σ0 E) (ha:PA X (e::es) t) (i:autoParam ((e::es).any isStar=false) qqr) (ht:eval (.Call (.Attribute o m apos) (e::es) [] pos) X.env=(do
   let ov<-eval o X.env
   standAt apos.atName
   let (f,first)<-holding [ov] (getMethod ov m pl)
   callWith pos f first (backTo pos (starEach (e::es) X.env)) (backToKw pos (keywordEach [] X.env))):=by rfl):
  PE X (.Call (.Attribute o m apos) (e::es) [] pos) (T9 σ0 C m sp E ta t):=by
 obtain⟨f,fd,F,hm,b⟩:=G;rw[ZD,ZA] at i;intro y s σ H Q I ⟨hσ,h⟩;subst hσ;refine aaB (gQ (he _ s σ H _ I h) fun u s1 x Z v P U=>?_) ht;obtain⟨a,ex,dx,fs,J,l,q⟩:=Ff U;subst ex;obtain rfl:u=Value.ref a:=P;refine m7 v J c.cl hm l ?_;refine aaF I.ok.mod.kin hm.kp (gQ (ha _ _ s1 σ Z _ v q) fun us s2 vs H2 z r O=>⟨z.nO,?_⟩) (cO i.1) (n6 i.2);exact E_ (vs:= .ref a::vs) F (hr.mono hk) b hx z (.cons rfl r) O
end
structure C9 (K:W.Frag) (mg:Str->Option Value) (x:Str) (C:Addr):Prop where
 U2:mg x=some (.ref C)
 ty:W.typeIn K (.ref C)=some (.type "type")
 ex:W.mroIn K C (.type "BaseException")=some true
noncomputable def isx (K:W.Frag) (cls:Value) (C:Addr):Option Bool:=match cls with
 | .ref D=>W.mroIn K D (.ref C)
 |_=>none
def Nv (o:Option Bool) (p q:Prop):Prop:=match o with
 |some true=>p
 |some false=>q
 |none=>False
theorem WV:Nv (some true) p q=p:=rfl
theorem WW:Nv (some false) p q=q:=rfl
section
theorem xmatch {K:W.Frag} (X:K.In s.heap) (he:s.heap.get? e=some oe) (m:C9 K mg x C) (i:isx K oe.cls C=some b) (h:Q b s):
  wpAny (model prog w) A (excMatches (.ref e) (.ref C)) Q E s:=by
 have F:W.Looks (model prog w) _ (isInstance _ _) _:=(W.looks_typeIn X m.ty).andThen (W.Looks.of_pure tc_notTuple);have y:W.Looks (model prog w) _ _ _:=aac X m.ex;have Lake:W.Looks (model prog w) s.heap (isType (.ref C)) true:=by
  have z:=m.ex;obtain⟨cd,hc,_⟩:=Option.bind_eq_some_iff.mp z;unfold W.clsIn at hc;split at hc
  ·rename_i ho;intro O J P I k q;exact c8 (aaI (k _ _ (X _ _ ho)) (fg q))
  ·cases hc
 have v:W.Looks (model prog w) _ (typeOf (.ref e)) _:=(W.Looks.ld he).andThen .now;have G:W.Looks (model prog w) s.heap (isSubtype oe.cls (.ref C)) b:=by
  unfold isx at i;split at i
  ·rename_i D hD;rw[hD];exact aac X i
  ·cases i
 refine c8 (F.here ?_);dsimp only;refine c8 (fg ?_);refine c8 (c8 (c8 ?_));refine c8 (Lake.here ?_);refine y.here ?_;refine fg ?_;refine fg ?_;refine c8 (v.here ?_);refine c8 (c8 (c8 (G.here ?_)));cases b with
 |true=>exact fg (fg (fg h))
 |false=>
  refine fg ?_;exact fg (fg h)
end
section
theorem uE (I:Inv X pins σ H s) (hN:X.N.Nodup) (G:X.N[i]?=some x) (hk:X.env.scope.names.lookup x=some .local) (h:∀s',Inv X pins (σ.set i none) H s'->Q () s'):wpAny M A (do bindName X.env x .none;unbindBehindTheSuite X.env x pos) Q E s:=by
 refine c8 (wpAny_bindName (xr (v:= .non) I hN G (.inl hk) rfl (fun s1 C=>?_) (.inr hk)));have hiσ:i<σ.length:=by rw[I.len];exact(i4.mp G).1
 obtain⟨m,hn,hl⟩:=id C.loc;have F:(X.env.scope.kind == .class||(X.env.scope.kind == .module&&X.env.locals != X.env.globals))=false:=by rw[I.ok.kind];rfl
 have P:X.env.kindOf x=some _:=hk;have O:∃u,m x=some u:=by
  obtain⟨u,_,q⟩:=hl i x .non G (by simp_all) (.inl hk);rcases q with⟨_,q⟩|⟨q,_⟩
  ·exact⟨u,q⟩
  ·simp_all
 obtain⟨u,O⟩:=O;refine wpAny_onRaise (wpAny_unbindName_local P hn O F fun h' u' Z hs=>h _ ?_);have cne:=C.cne;refine⟨C.ok,C.os,C.bare,⟨fun b o e n J hx=>?_,fun b o e n J hx=>?_,C.base.free,fun b o e hx=>?_,C.base.tups,C.base.frzs,C.base.tbls⟩,⟨_,Z,fun j y v' e1 e2 e3=>?_⟩,fun y c e=>?_,C.free,C.md,fun p hp=>?_,fun b ob e=>?_,by simpa using I.len⟩
 ·exact(hs.2 b (kv (h9 (h6 e) C.ok.above))).trans (C.base.keep b o e n J hx)
 ·obtain⟨sl,e1⟩:=C.base.slot b o e n J hx;exact⟨sl,(hs.2 b (kv (h9 (h6 e) C.ok.above))).trans e1⟩
 ·obtain⟨o',e1⟩:=C.base.there b o e hx;exact⟨o',(hs.2 b (kv (h9 (h6 e) C.ok.above))).trans e1⟩
 ·by_cases U:j=i
  ·simp_all
  ·rw[aap (L3 U)] at e2;obtain⟨u3,r3,q⟩:=hl j y v' e1 (by rw[aap (L3 U)];exact e2) e3;refine⟨u3,r3,?_⟩;rcases q with⟨k,e⟩|⟨k,c,e,z⟩
   ·refine .inl ⟨k,?_⟩;have:y≠x:=fun e=>U (Ci hN e1 (e▸G));simp[this,e]
   ·exact .inr ⟨k,c,e,z.sameBut hs (cne y c e)⟩
 ·obtain⟨w',z⟩:=C.cell y c e;exact⟨w',z.sameBut hs (cne y c e)⟩
 ·obtain⟨e,n,ne,nf,d⟩:=C.pin p hp;exact⟨(hs.2 _ ne).trans e,n,ne,nf,d⟩
 ·refine(C.hok b ob e).stay (fun c w' hc q=>(hs.2 c ?_).trans q) (fun _ q=>q) fun _ _ q=>q;rintro rfl;rcases hc with z|z
  ·subst z;rw[C.free] at e;cases e
  ·rw[C.free] at z;cases z
end
noncomputable abbrev TH:=Ends->St->Value->Option Addr->Hp->Prop
def PH (X:Cx) (hs:List ExceptHandler) (t:TH):Prop:= ∀(i:List (Addr×Obj)) (s:Shared) (σ:St) (H:Hp) (D:Ends) (v:Addr) (cls:Value) (dx:Option Addr) (T:Addr),
 Inv X i σ (upd H v (.ext (xk v cls dx))) s->Qj s.heap v cls dx (some T)->H v=none->t D σ cls dx H->wpAny (model X.prog X.w) X.A (handleBy (.ref v) X.env hs) (SP X i D) X.xe s
noncomputable def Ends.un (D:Ends) (i:Nat):Ends:={nx:=fun σ H=>D.nx (σ.set i none) H,rt:=D.rt,bk:=fun σ H=>D.bk (σ.set i none) H,ct:=fun σ H=>D.ct (σ.set i none) H}
def Zg:TH:=fun _ _ _ _ _=>False
def Yx (K:W.Frag) (C:Addr) (i:Nat) (x:TS) (y:TH):TH:=fun D σ cls dx H=>Nv (isx K cls C) (∀v,H v=none->x (D.un i) (σ.set i (some (.ref v))) (upd H v (.ext (xk v cls dx)))) (y D σ cls dx H)
def Wh (tb:St->XK->TS) (i:TH):TS:=fun D σ H=>tb σ (fun cls dx H'=>i D σ cls dx H') D σ H
section
theorem OC:PH X [] Zg:=fun _ _ _ _ _ _ _ _ _ _ _ _ h=>h.elim
theorem Rp {X:Cx} {K:W.Frag} {x n:Str} {C:Addr} {i:Nat} {np pos:Pos} {y:Stmt} {body:List Stmt} {rest:List ExceptHandler} {th:TS} {tr:TH} (hK:X.K=K) (m:C9 X.K X.mg x C) (hg:Gl X x) (P:X.N.Nodup) (O:X.N[i]?=some n) (hk:X.env.scope.names.lookup n=some .local)
  (hs:∀e,Br (X.hand e) (y::body) th) (hr:PH X rest tr) (hdb:(x == ("__debug__":Str))=false:=by decide):PH X (.ExceptHandler (some (.Name x np)) (some n) (y::body) pos::rest) (Yx K C i th tr):=by
 subst hK;intro pins s σ H D Q cls dx T I hx hH h;have ok:=I.ok;have Ih:Inv (X.hand (.ref Q)) _ σ _ s:=I.hand;obtain⟨oe,vs,he,hc,_⟩:=id hx;refine wpAny_handleBy_cons (codeAny_handlers_test (mw Ih hg m.U2 ?_ hdb)) (by intro q;cases q);unfold Yx at h;cases Z:isx _ _ C with
 |none=>rw[Z] at h;exact h.elim
 |some b=>
  rw[Z] at h;refine xmatch I.nO he m (by rw[hc];exact Z) ?_;cases b with
  |false=>exact hr _ s σ H D Q _ dx T I hx hH h
  |true=>
   refine codeAny_handlers_suite_as (HV hx (xr (X:=X.hand _) (v:= .ref Q) Ih P O (.inl hk) rfl (fun s1 I1=>?_) (.inr hk)));refine z4 (hs _ _ s1 _ _ _ I1 (h Q hH)) (fun f s2 q=>?_) fun _ _ z=>z.elim;cases f with
   |next=>obtain⟨J,H',F,q⟩:=q;exact uE (F.unhand ok) P O hk fun U G=>⟨_,H',G,q⟩
   |brk=>obtain⟨J,H',F,q⟩:=q;exact uE (F.unhand ok) P O hk fun U G=>⟨_,H',G,q⟩
   |cont=>obtain⟨J,H',F,q⟩:=q;exact uE (F.unhand ok) P O hk fun U G=>⟨_,H',G,q⟩
   |ret u=>obtain⟨v,J,H',F,r,q⟩:=q;exact uE (F.unhand ok) P O hk fun U G=>⟨v,_,H',G,r,q⟩
theorem Ox (C:∀pn σ E,Br (X.yL pn σ E) body (tb σ E)) (hh:PH X (h₀::hs) th) (i:autoParam (X.stack=X.env::X.outer) qqr) (hf:autoParam (X.env.frame=some X.env.locals) qqr):PS X (.Try body (h₀::hs) [] [] pos) (Wh tb th):=by
 intro x s σ H D I h;refine wpAny_Try_except (z4 (C _ σ _ [] s σ H D I.yL h) (fun f s1 q=>?_) fun e s1 q=>?_)
 ·have v:=q.untry;cases f with
  |next=>exact aay v
  |brk=>exact v
  |cont=>exact v
  |ret u=>exact v
 ·obtain⟨G,cls,dx,tb,H',rfl,F,y⟩:=q;have Ok:=F.inv.ok;have fr:X.A.frames=some (X.env::X.outer):=by rw[<-i];exact Ok.frames
  have z:s1.heap.FunFrames X.base (X.env::X.outer):=by rw[<-i];exact F.inv.stack
  refine OS fr z hf F.ex fun J hx hk=>?_;rw[<-i] at hk;exact hh _ _ σ H' D G _ dx _ (F.land hk hx) hx F.nH y
end
structure yC (K:W.Frag) (C:Addr):Prop where
 ga:W.findIn K (.ref C) "__getattribute__" = some (some (.builtin "BaseException.__getattribute__"))
 gh:W.findIn K (.ref C) "__getattr__" = some none
 bx:W.mroIn K C (.type "BaseException")=some true
 ob:W.mroIn K C (.type "object")=some true
 hd:W.hasDictIn K C=true
 kc:W.findIn K (.ref C) "__class__" = some (some (.builtin "object.__class__"))
 kg:W.specialIn K (.builtin "object.__class__") "__get__" = some (some (.builtin "getset_descriptor.__get__"))
 kt:W.takesIn K (.builtin "object.__class__")=some true
section
variable {K:W.Frag}
theorem Sm {s:Shared} {prog:Program} {w:World} {A:Around} {x C:Addr} {ox:Obj} {od:Option Obj} {name:Str} {E:Value->Shared->Prop} {tk:Tok} {fill expr:Bool} {Q:Value->Shared->Prop} (X:K.In s.heap) (I:W.InstAt s.heap x ox C od) (g:yC K C)
  (h:∀P,wpAny (model prog w) P (Builtin.«object.__getattribute__» ⟨[.ref x,.str name tk],[]⟩) (fun fin y=>match fin with | .done (.ret v)=>wpAny (model prog w) A (handedOut v) Q E y|_=>False) (fun _ _=>False) s):
  wpAny (model prog w) A (getAttrBy (.ref x) (.str name tk) fill expr) Q E s:=by
 have J:=I.type (M:=model prog w);have G:=Z_ (M:=model prog w) X g.ga;have Lake:=Z_ (M:=model prog w) X g.gh;have O:=PySem.F.excAttr_ValueError;have sub:W.Looks (model prog w) _ (isInstance _ _) _:=I.type.andThen (aac X g.bx);have i:(expr&&onTheHeap (Value.builtin "BaseException.__getattribute__"))=false:=by cases expr<;>rfl
 refine Z0 (c8 (J.here (c8 (G.here ?_))));refine c8 (Lake.here ?_);refine c8 (wpAny_attempt (Z0 ?_));unfold callGetattribute;rw[i];refine aar (Z8 O.ga.plain PySem.F.entry_bexc_ga ?_);refine @W.check_slot _ _ _ s _ "BaseException" "__getattribute__" _ _ [] _ (rfl) (rfl) sub (PySem.F.args_bexc_ga _ _) ?_;refine z4 (h _) (fun fin y z=>?_) fun _ _ z=>z.elim;rcases fin with(_|_|_|_)|_<;>first|exact z|trivial
theorem JR (X:K.In s.heap) (I:W.InstAt s.heap x ox C od) (g:yC K C) (hf:W.findObj K C od name=some (.value v)) (hh:W.handedIn v=true) (h:Q v {s with toks:=s.toks+1}):wpAny (model prog w) A (getAttr (.ref x) name expr) Q E s:=by
 refine c8 (wpAny_mkText (Sm X I g fun z=>?_));have y:=I.type (M:=model prog w);have i:=W.looks_find (M:=model prog w) X I hf;refine c8 (fg (c8 (fg (c8 (y.at (c8 (i.at ?_)))))));refine fg ?_;show wpAny _ _ _ _ _ _;rw[W.handedOut_of hh];exact fg h
end
mutual
theorem Lb (e:xk a c d=xk a c' d'):c=c'/\d=d':=by
 have i:xk a c d {objs:=Array.replicate (a+1) ⟨c,d,.fields #[],#[]⟩}:=⟨⟨c,d,_,#[]⟩,#[],by unfold Heap.get?;simp,rfl,rfl,rfl⟩;rw[e] at i;obtain⟨v,vs,e1,e2,e3,_⟩:=i;have e0:Heap.get? {objs:=Array.replicate (a+1) ⟨c,d,.fields #[],#[]⟩} a=some ⟨c,d,.fields #[],#[]⟩:=by unfold Heap.get?;simp
 rw[e0] at e1;cases e1;exact⟨e2,e3⟩
theorem VB {N:Addr->Prop}:(∃dx,some (HO.ext (xk a c (some d)))=some (HO.ext (xk a c (some dx)))/\N dx)=N d:=by
 apply propext;constructor
 ·rintro⟨dx,e,h⟩;have e1:=Zz e;injection e1 with e2;obtain⟨_,e3⟩:=Lb e2;cases e3;exact h
 ·exact fun h=>⟨d,rfl,h⟩
theorem VC {N:Addr->Option Addr->Prop}:(∃D dx,some (HO.ext (xk a (.ref C) d))=some (HO.ext (xk a (.ref D) dx))/\N D dx)=N C d:=by
 apply propext;constructor
 ·rintro⟨D,dx,e,h⟩;have e1:=Zz e;injection e1 with e2;obtain⟨e3,e4⟩:=Lb e2;cases e3;cases e4;exact h
 ·exact fun h=>⟨C,d,rfl,h⟩
theorem XE {N:List (Str×V)->Prop}:(∃fs,some (HO.xd l)=some (HO.xd fs)/\N fs)=N l:=by
 simp_all
def Oj (C:Addr) (f:Str) (x:V) (H:Hp) (Q:VK):Prop:= ∃a,x = .ref a/\∃dx,H a=some (.ext (xk a (.ref C) (some dx)))/\∃fs,H dx=some (.xd fs)/\∃v,fs.lookup f=some v/\Q v H
def Te (C:Addr) (f:Str) (v:TE):TE:=fun σ H Q=>v σ H fun x i=>Oj C f x i Q
theorem Mi:Oj C f (.ref a) H Q= ∃dx,H a=some (.ext (xk a (.ref C) (some dx)))/\∃fs,H dx=some (.xd fs)/\∃v,fs.lookup f=some v/\Q v H:=by
 apply propext;unfold Oj;constructor
 ·simp_all
 ·simp_all
def Pf (o:Option Bool) (N:Bool->Prop):Prop:=match o with
 |some b=>N b
 |none=>False
theorem M0:Pf (some b) N=N b:=rfl
def Nz (H:Hp):Option Addr->Prop
 |none=>True
 |some d=> ∃fs,H d=some (.xd fs)
theorem TY:Nz H (some d)= ∃fs,H d=some (.xd fs):=rfl
theorem Vw:(∃fs,some (HO.xd l)=some (HO.xd fs))=True:=eq_true ⟨l,rfl⟩
def To (K:W.Frag):List V->Hp->VK->Prop:=fun xs H Q=>match xs with
 | [.ref p,.ref C]=> ∃D dx,H p=some (.ext (xk p (.ref D) dx))/\yC K D/\Nz H dx/\Pf (W.kitOne K (.ref D) (.ref C)) fun b=>Q (.bl b) H
 | [.ref p,.ty n]=> ∃D dx,H p=some (.ext (xk p (.ref D) dx))/\yC K D/\Nz H dx/\Pf (W.kitOne K (.ref D) (.type n)) fun b=>Q (.bl b) H
 |_=>False
theorem Me {K:W.Frag}:To K [.ref p,.ref C] H Q= ∃D dx,H p=some (.ext (xk p (.ref D) dx))/\yC K D/\Nz H dx/\Pf (W.kitOne K (.ref D) (.ref C)) fun b=>Q (.bl b) H:=rfl
theorem Oc {K:W.Frag}:To K [.ref p,.ty n] H Q= ∃D dx,H p=some (.ext (xk p (.ref D) dx))/\yC K D/\Nz H dx/\Pf (W.kitOne K (.ref D) (.type n)) fun b=>Q (.bl b) H:=rfl
end
section
theorem Inv.inst (I:Inv X pins σ H s) (h:H p=some (.ext (xk p (.ref D) dx))) (hd:∀d,dx=some d->∃o,s.heap.get? d=some o):
  ∃ox od,W.InstAt s.heap p ox D od/\∀d,dx=some d->s.heap.get? d=od:=by
 obtain⟨⟨v,vs,he,hc,x,i⟩,_⟩:=((I.hok p _ h));cases dx with
 |none=>exact⟨v,none,⟨he,hc,by unfold W.notCls;rw[i],by simp_all⟩,fun d z=>by cases z⟩
 |some d=>
  obtain⟨o,ho⟩:=hd d rfl;exact⟨v,some o,⟨he,hc,by unfold W.notCls;rw[i],by simp_all⟩,fun d' z=>by simp_all⟩
theorem RE (he:PE X e ta) (g:yC X.K C) (m:C_ X.K C f) (O:attributeBase e f X.env (eval e X.env)=eval e X.env):PE X (.Attribute e f pos) (Te C f ta):=by
 intro G s σ H Q I h;refine Ls O (thn (he _ s σ H _ I h) fun u s1 ⟨x,H1,i,Z,a,ex,dx,U,fs,P,v,l,q⟩=>?_);subst ex;obtain rfl:u=Value.ref a:=Z;obtain⟨mA,hn,hr⟩:=((i.hok dx _ P));obtain⟨o,ho,hl⟩:=Ec hn;obtain⟨ox,od,J,hj⟩:=i.inst U (fun d z=>by simp_all);have y:=hj dx rfl;rw[ho] at y;subst y;obtain⟨u,hu,F⟩:=rE.some_of (by rw[<-l];exact hr f);exact JR i.nO J g (W.findObj_own g.hd m.no rfl (by simp_all)) (En F) ⟨v,H1,i.tok _,F,q⟩
end
section
theorem PS.nox {st:Stmt} (h:PS X.nox st ts):PS X st ts:=fun i s σ H D I hw=>
 z4 (h _ s σ H D (I.wish _) hw) (fun _ _ q=>q.unwish) fun _ _ z=>False.elim z
def VX (K:W.Frag) (mg:Str->Option Value) (x:Str) (C R:Addr):Prop:= ∃i,ID K mg x C R i
theorem j_ [Quiet CX] (c:VX X.K X.mg x C R) (G:yG X.prog X.w X.K X.mg X.base CX C "__init__" k ps sp) (kp:W.keepIn X.K (.ref C)=true) (hr:dC n X.A) (hk:k+1<=n) (y:Rz X E) (hc:X.calm=true) (hex:X.ex= []) (hg:Gl X x) (ha:PA X (e::es) t) (i:(x == ("__debug__":Str))=false:=by decide) (h:autoParam ((e::es).any isStar=false) qqr) (hlen:∀us:List Value,us.length+1=ps.length->us.length<=sizeLine:=by intro us h;simp at h;rw[gn];lia):
  PS X (.Raise (some (.Call (.Name x p) (e::es) [] apos)) none pos) (EZ C sp E t):=by
 obtain⟨v,c⟩:=c;rw[ZD,ZA] at h;exact Mp c G kp (hr.mono hk) y hc hex hg ha i (cO h.1) (n6 h.2) hlen
theorem xE (c:VX X.K X.mg x C R) (m:C_ X.K C f) (ha:PE X o ta) (v:PE X value tv) (hs:autoParam (lW value=false) qqr):PS X (.Assign [.Attribute o f pos'] value pos) (NY C ta tv f):=by
 obtain⟨i,c⟩:=c;exact Rk c m ha v hs
end
theorem MethAt.fnX {K:W.Frag} {st:Stmt} (F:MethAt K C m q st) (S:kC N ps (a9 st)) (z:∀(kV doc pm:Value) (an:Option Addr) (i ct:Value) (us:List Value),us.length=ps.length->bindArgs (W.fnOf m q (fH st) (dB st) (a9 st) .none kV doc pm an i ct) ⟨us,[]⟩=pure (ps.zip us)) (len:∀vs H Q E,sp vs H Q E->vs.length=ps.length) (v:∀(f:Addr) (i:Value) (A:Around) (outer:List Env) (s:Shared) (H:Hp) (vs:List V) (Q:VK) (E:XK),dC k (A.deeper (envOfC q (a9 st) s.heap.objs.size f i))->sp vs H Q E->
   ∃t,Br (C5 CX P w K mg base N q (a9 st) f i A outer s H E) (dB st) t/\t {nx:=fun _ H'=>Q .non H',rt:=Q} (start N vs) H):yG P w K mg base CX C m (k+1) ps sp:=by
 obtain⟨f,I,F,hm⟩:=F;have bd:=F.binds z;obtain⟨oc,od,kV,doc,pm,an,i,ct,G,rfl,lk,y⟩:=F.ex;exact⟨f,_,K_ lk y S len fun A outer s H vs Q E hr x=>v f _ A _ s H vs Q E hr x,hm,bd⟩
theorem Qx {K:W.Frag} (ga:W.findIn K (.ref C) "__getattribute__" = some (some (.builtin "BaseException.__getattribute__"))) (gh:W.findIn K (.ref C) "__getattr__" = some none) (bx:W.mroIn K C (.type "BaseException")=some true) (ob:W.mroIn K C (.type "object")=some true) (hd:W.hasDictIn K C=true) (kc:W.findIn K (.ref C) "__class__" = some (some (.builtin "object.__class__"))) (kg:W.specialIn K (.builtin "object.__class__") "__get__" = some (some (.builtin "getset_descriptor.__get__"))) (kt:W.takesIn K (.builtin "object.__class__")=some true):yC K C:=⟨ga,gh,bx,ob,hd,kc,kg,kt⟩
theorem Qu {K:W.Frag} (X:K.In h) (G:h.Ns mainGlobals mg) (a:W.nsIn K mainGlobals x=some (some (.ref C))) (t:W.typeIn K (.ref C)=some (.type "type")) (b:W.mroIn K C (.type "BaseException")=some true):C9 K mg x C:=
 ⟨W.mg_of X G a,t,b⟩
def Dn (K:W.Frag) (H:Hp):Nat->V->Dt->Prop
 |0,x,d=>(x = .non/\d = .non)\/(∃i,x = .int i/\d = .int i)\/(∃z,x = .str z/\d = .str z)\/(∃b,x = .bl b/\d = .int (if b then 1 else 0))
 |n+1,x,d=>Dn K H n x d\/(∃a xs ds,x = .ref a/\d = .l ds/\bC K H a xs/\Paired (Dn K H n) xs ds)\/(∃a xs ds,x = .ref a/\d = .t ds/\c6 K H a xs/\Paired (Dn K H n) xs ds)
section
mutual
variable {X:Cx}
open Classical in
theorem yf:decide (Dt.int i=Dt.int j)=(i == j):=by
 lia
theorem XT (a b:Bool):((if a then(1:Int) else 0) == (if b then 1 else 0))=(a == b):=by cases a<;>cases b<;>rfl
open Classical in
theorem SD (F:RelV x u) (C:RelV y v) (hx:Dn X.K H 0 x d) (G:Dn X.K H 0 y e):SeqAt.EqAt A s u v (decide (d=e)):=by
 rcases hx with⟨rfl,rfl⟩|⟨i,rfl,rfl⟩|⟨i,rfl,rfl⟩|⟨i,rfl,rfl⟩<;>rcases G with⟨rfl,rfl⟩|⟨j,rfl,rfl⟩|⟨j,rfl,rfl⟩|⟨j,rfl,rfl⟩
 ·cases F;cases C;rw[n9 rfl];exact SeqAt.EqAt.same _
 ·cases F;obtain⟨t,rfl⟩:=C;rw[gk (fun z=>nomatch z)];exact SeqAt.EqAt.none_int _ _
 ·cases F;obtain⟨t,rfl⟩:=C;rw[gk (fun z=>nomatch z)];exact SeqAt.EqAt.none_str _ _
 ·cases F;cases C;rw[gk (fun z=>nomatch z)];exact SeqAt.EqAt.none_bool _
 ·obtain⟨t,rfl⟩:=F;cases C;rw[gk (fun z=>nomatch z)];exact SeqAt.EqAt.int_none _ _
 ·obtain⟨t,rfl⟩:=F;obtain⟨t',rfl⟩:=C;rw[yf];exact SeqAt.EqAt.int_int _ _ _ _
 ·obtain⟨t,rfl⟩:=F;obtain⟨t',rfl⟩:=C;rw[gk (fun z=>nomatch z)];exact SeqAt.EqAt.int_str _ _ _ _
 ·obtain⟨t,rfl⟩:=F;cases C;rw[yf];exact SeqAt.EqAt.int_bool _ _ _
 ·obtain⟨t,rfl⟩:=F;cases C;rw[gk (fun z=>nomatch z)];exact SeqAt.EqAt.str_none _ _
 ·obtain⟨t,rfl⟩:=F;obtain⟨t',rfl⟩:=C;rw[gk (fun z=>nomatch z)];exact SeqAt.EqAt.str_int _ _ _ _
 ·obtain⟨t,rfl⟩:=F;obtain⟨t',rfl⟩:=C;have e:decide (Dt.str i=Dt.str j)=(i == j):=by
   rw[L4,eM,ZS];exact⟨fun q=>Dt.str.inj q,fun q=>by rw[q]⟩
  rw[e];exact SeqAt.EqAt.str_str _ _ _ _
 ·obtain⟨t,rfl⟩:=F;cases C;rw[gk (fun z=>nomatch z)];exact SeqAt.EqAt.str_bool _ _ _
 ·cases F;cases C;rw[gk (fun z=>nomatch z)];exact SeqAt.EqAt.bool_none _
 ·cases F;obtain⟨t,rfl⟩:=C;rw[yf];exact SeqAt.EqAt.bool_int _ _ _
 ·cases F;obtain⟨t,rfl⟩:=C;rw[gk (fun z=>nomatch z)];exact SeqAt.EqAt.bool_str _ _ _
 ·cases F;cases C;rw[yf,XT];exact SeqAt.EqAt.bool_bool _ _
theorem Dn.cases {K:W.Frag}:∀{n:Nat} {x:V} {d:Dt},Dn K H n x d->Dn K H 0 x d\/(∃m,m<n/\∃a xs ds,x = .ref a/\d = .l ds/\bC K H a xs/\Paired (Dn K H m) xs ds)\/(∃m,m<n/\∃a xs ds,x = .ref a/\d = .t ds/\c6 K H a xs/\Paired (Dn K H m) xs ds)
 |0,_,_,h=> .inl h
 |n+1,_,_,h=>by
  rcases h with h|h|h
  ·rcases Dn.cases h with q|⟨m,hm,q⟩|⟨m,hm,q⟩
   ·exact .inl q
   ·exact .inr (.inl ⟨m,by lia,q⟩)
   ·exact .inr (.inr ⟨m,by lia,q⟩)
  ·exact .inr (.inl ⟨n,by lia,h⟩)
  ·exact .inr (.inr ⟨n,by lia,h⟩)
theorem Dn.up {K:W.Frag} (h:Dn K H n x d) (hm:n<=m):Dn K H m x d:=by
 induction m with
 |zero=>simp_all
 |succ m i=>
  by_cases e:n=m+1
  ·simp_all
  ·exact .inl (i (by lia))
theorem VH (n:Nat):∀{m:Nat} {x:V} {d e:Dt},Inv X pins σ H s->Dn X.K H n x d->Dn X.K H m x e->d=e:=by
 induction n using Nat.strongRecOn with
 |_ n G=>
 intro m x d e I hx y;rcases hx.cases with hx|⟨m1,hm,a,xs,ds,rfl,rfl,ha,pa⟩|⟨m1,hm,a,xs,ds,rfl,rfl,ha,pa⟩
 ·rcases y.cases with y|⟨k,hk,b,ys,es,rfl,rfl,v,pb⟩|⟨k,hk,b,ys,es,rfl,rfl,v,pb⟩
  ·rcases hx with⟨rfl,rfl⟩|⟨i,rfl,rfl⟩|⟨i,rfl,rfl⟩|⟨i,rfl,rfl⟩<;>rcases y with⟨z,rfl⟩|⟨j,z,rfl⟩|⟨j,z,rfl⟩|⟨j,z,rfl⟩<;>first|rfl|simp_all|cases z
  ·obtain⟨z,_⟩|⟨i,z,_⟩|⟨i,z,_⟩|⟨i,z,_⟩:=hx<;>cases z
  ·obtain⟨z,_⟩|⟨i,z,_⟩|⟨i,z,_⟩|⟨i,z,_⟩:=hx<;>cases z
 ·rcases y.cases with y|⟨k,hk,b,ys,es,e1,rfl,v,pb⟩|⟨k,hk,b,ys,es,e1,rfl,v,pb⟩
  ·obtain⟨z,_⟩|⟨i,z,_⟩|⟨i,z,_⟩|⟨i,z,_⟩:=y<;>cases z
  ·cases e1;have:=I.HJ ha v;subst this;rw[wz pa pb fun x d e C F=>G m1 hm I C F]
  ·cases e1;exact(tO I ha v).elim
 ·rcases y.cases with y|⟨k,hk,b,ys,es,e1,rfl,v,pb⟩|⟨k,hk,b,ys,es,e1,rfl,v,pb⟩
  ·obtain⟨z,_⟩|⟨i,z,_⟩|⟨i,z,_⟩|⟨i,z,_⟩:=y<;>cases z
  ·cases e1;exact(tO I v ha).elim
  ·cases e1;have:=I.D0 ha v;subst this;rw[wz pa pb fun x d e C F=>G m1 hm I C F]
open Classical in
theorem ye {n:Nat} (z:Vals xs its) (r2:Vals ys its2) (pa:Paired (Dn X.K H m) xs ds) (pb:Paired (Dn X.K H k) ys es) (ih:∀x y u v d e,RelV x u->RelV y v->Dn X.K H m x d->Dn X.K H k y e->SeqAt.EqAt A s u v (decide (d=e))):
  ∀j (G:j<its.toArray.size) (J:j<its2.toArray.size),SeqAt.EqAt A s its.toArray[j] its2.toArray[j] (decide (ds[j]?=es[j]?)):=by
 intro j G J;have h1':j<its.length:=‹_›;have P:j<its2.length:=‹_›;have l1:=z.length;have l2:=r2.length;have i:xs[j]?=some xs[j]:=by simp
 have C:ys[j]?=some ys[j]:=by simp
 obtain⟨d',hd',pd⟩:=Paired.get pa i;obtain⟨O,he',pe⟩:=Paired.get pb C;obtain⟨F,I,Z⟩:=z.get i;obtain⟨U,hv1,Q⟩:=r2.get C;have e1:its.toArray[j]=F:=by
  simp_all
 have e2:its2.toArray[j]=U:=by
  simp_all
 have e3:decide (ds[j]?=es[j]?)=decide (d'=O):=by
  simp_all
 rw[e1,e2,e3];exact ih _ _ _ _ _ _ Z Q pd pe
open Classical in
theorem PM (n:Nat):∀{A:Around} {x y:V} {u v:Value} {d e:Dt},Inv X pins σ H s->A.units+n<cLine->RelV x u->RelV y v->Dn X.K H n x d->Dn X.K H n y e->SeqAt.EqAt A s u v (decide (d=e))/\∀a b,x = .ref a->y = .ref b->SeqAt.RcAt A s (.ref a) (.ref b) (decide (d=e)):=by
 induction n using Nat.strongRecOn with
 |_ n ih=>
 intro A x y u v d e I hu O G hx hy;have lift:∀{a b:Addr},x = .ref a->y = .ref b->SeqAt.RcAt A s _ (.ref b) (decide (d=e))->SeqAt.EqAt A s (.ref a) (.ref b) (decide (d=e)):=fun{a b} ea eb q=>by
  by_cases hab:a=b
  ·subst hab;subst ea;subst eb;rw[n9 (VH n I hx hy)];exact SeqAt.EqAt.same _
  ·exact SeqAt.EqAt.of_refs hab q
 have C:A.units<cLine:=by lia
 rcases hx.cases with Z|⟨m,hm,a,xs,ds,rfl,rfl,ha,pa⟩|⟨m,hm,a,xs,ds,rfl,rfl,ha,pa⟩
 ·rcases hy.cases with P|⟨k,hk,b,ys,es,rfl,rfl,Q,pb⟩|⟨k,hk,b,ys,es,rfl,rfl,Q,pb⟩
  ·refine⟨SD O G Z P,fun a b e1 e2=>?_⟩;subst e1;obtain⟨z,_⟩|⟨i,z,_⟩|⟨i,z,_⟩|⟨i,z,_⟩:=Z<;>cases z
  ·cases G;obtain⟨J,_,p,_⟩:=I.list Q;rcases Z with⟨rfl,rfl⟩|⟨i,rfl,rfl⟩|⟨i,rfl,rfl⟩|⟨i,rfl,rfl⟩
   ·cases O;rw[gk (fun z=>nomatch z)];exact⟨SeqAt.EqAt.none_list p.isList C,fun a b z=>nomatch z⟩
   ·obtain⟨t,rfl⟩:=O;rw[gk (fun z=>nomatch z)];exact⟨SeqAt.EqAt.int_list _ _ p.isList C,fun a b z=>nomatch z⟩
   ·obtain⟨t,rfl⟩:=O;rw[gk (fun z=>nomatch z)];exact⟨SeqAt.EqAt.str_list _ _ p.isList C,fun a b z=>nomatch z⟩
   ·cases O;rw[gk (fun z=>nomatch z)];exact⟨SeqAt.EqAt.bool_list _ p.isList C,fun a b z=>nomatch z⟩
  ·cases G;obtain⟨J,_,p,_⟩:=I.tuple Q;rcases Z with⟨rfl,rfl⟩|⟨i,rfl,rfl⟩|⟨i,rfl,rfl⟩|⟨i,rfl,rfl⟩
   ·cases O;rw[gk (fun z=>nomatch z)];exact⟨SeqAt.EqAt.none_tuple p C,fun a b z=>nomatch z⟩
   ·obtain⟨t,rfl⟩:=O;rw[gk (fun z=>nomatch z)];exact⟨SeqAt.EqAt.int_tuple _ _ p C,fun a b z=>nomatch z⟩
   ·obtain⟨t,rfl⟩:=O;rw[gk (fun z=>nomatch z)];exact⟨SeqAt.EqAt.str_tuple _ _ p C,fun a b z=>nomatch z⟩
   ·cases O;rw[gk (fun z=>nomatch z)];exact⟨SeqAt.EqAt.bool_tuple _ p C,fun a b z=>nomatch z⟩
 ·cases O;obtain⟨J,r1,p,hz⟩:=I.list ha;rcases hy.cases with P|⟨k,hk,b,ys,es,rfl,rfl,Q,pb⟩|⟨k,hk,b,ys,es,rfl,rfl,Q,pb⟩
  ·rcases P with⟨rfl,rfl⟩|⟨i,rfl,rfl⟩|⟨i,rfl,rfl⟩|⟨i,rfl,rfl⟩
   ·cases G;rw[gk (fun z=>nomatch z)];exact⟨SeqAt.EqAt.list_none p.isList C,fun a b _ z=>nomatch z⟩
   ·obtain⟨t,rfl⟩:=G;rw[gk (fun z=>nomatch z)];exact⟨SeqAt.EqAt.list_int _ _ p.isList C,fun a b _ z=>nomatch z⟩
   ·obtain⟨t,rfl⟩:=G;rw[gk (fun z=>nomatch z)];exact⟨SeqAt.EqAt.list_str _ _ p.isList C,fun a b _ z=>nomatch z⟩
   ·cases G;rw[gk (fun z=>nomatch z)];exact⟨SeqAt.EqAt.list_bool _ p.isList C,fun a b _ z=>nomatch z⟩
  ·cases G;obtain⟨F,r2,U,hz2⟩:=I.list Q;have l1:=r1.length;have l2:=r2.length;have l3:=ZM pa;have l4:=ZM pb;have eqd:decide (Dt.l ds=Dt.l es)=decide (ds=es):=by
    rw[L4,eM,eM];exact⟨fun q=>Dt.l.inj q,fun q=>by rw[q]⟩
   have rc:SeqAt.RcAt A s (.ref a) (.ref b) (decide (Dt.l ds=Dt.l es)):=by
    rw[eqd];by_cases hl:J.length=F.length
    ·have key:=SeqAt.RcAt.lists (e:=fun j=>decide (ds[j]?=es[j]?)) p.isList U.isList (by simpa using hl) C (ye (n:=n) r1 r2 pa pb fun x y u v d e O G h1 h2=>
      (ih (max m k) (by lia) (A:=A.in1) I (by show A.units+1+max m k<cLine;lia) O G (h1.up (aaQ _ _)) (h2.up (aaN _ _))).1)
     rw[uV (by rw[ny];lia) (by lia)] at key;exact key
    ·have hne:ds≠es:=fun q=>hl (by rw[q] at l3;lia);rw[gk hne];exact SeqAt.RcAt.lists_lengths p.isList U.isList (Kl hl) C
   exact⟨lift rfl rfl rc,fun a' b' e1 e2=>by cases e1;cases e2;exact rc⟩
  ·cases G;obtain⟨F,r2,U,_⟩:=I.tuple Q;rw[gk (fun z=>nomatch z)];exact⟨SeqAt.EqAt.list_tuple p.isList U C,fun a' b' e1 e2=>by cases e1;cases e2;exact SeqAt.RcAt.list_tuple p.isList U C⟩
 ·cases O;obtain⟨J,r1,p,hz⟩:=I.tuple ha;rcases hy.cases with P|⟨k,hk,b,ys,es,rfl,rfl,Q,pb⟩|⟨k,hk,b,ys,es,rfl,rfl,Q,pb⟩
  ·rcases P with⟨rfl,rfl⟩|⟨i,rfl,rfl⟩|⟨i,rfl,rfl⟩|⟨i,rfl,rfl⟩
   ·cases G;rw[gk (fun z=>nomatch z)];exact⟨SeqAt.EqAt.tuple_none p C,fun a b _ z=>nomatch z⟩
   ·obtain⟨t,rfl⟩:=G;rw[gk (fun z=>nomatch z)];exact⟨SeqAt.EqAt.tuple_int _ _ p C,fun a b _ z=>nomatch z⟩
   ·obtain⟨t,rfl⟩:=G;rw[gk (fun z=>nomatch z)];exact⟨SeqAt.EqAt.tuple_str _ _ p C,fun a b _ z=>nomatch z⟩
   ·cases G;rw[gk (fun z=>nomatch z)];exact⟨SeqAt.EqAt.tuple_bool _ p C,fun a b _ z=>nomatch z⟩
  ·cases G;obtain⟨F,r2,U,_⟩:=I.list Q;rw[gk (fun z=>nomatch z)];exact⟨SeqAt.EqAt.tuple_list p U.isList C,fun a' b' e1 e2=>by cases e1;cases e2;exact SeqAt.RcAt.tuple_list p U.isList C⟩
  ·cases G;obtain⟨F,r2,U,hz2⟩:=I.tuple Q;have l1:=r1.length;have l2:=r2.length;have l3:=ZM pa;have l4:=ZM pb;have eqd:decide (Dt.t ds=Dt.t es)=decide (ds=es):=by
    rw[L4,eM,eM];exact⟨fun q=>Dt.t.inj q,fun q=>by rw[q]⟩
   have rc:SeqAt.RcAt A s (.ref a) (.ref b) (decide (Dt.t ds=Dt.t es)):=by
    rw[eqd];have key:=SeqAt.RcAt.tuples (e:=fun j=>decide (ds[j]?=es[j]?)) p U C (ye (n:=n) r1 r2 pa pb fun x y u v d e O G h1 h2=>
      (ih (max m k) (by lia) (A:=A.in1) I (by show A.units+1+max m k<cLine;lia) O G (h1.up (aaQ _ _)) (h2.up (aaN _ _))).1)
    by_cases hl:J.length=F.length
    ·rw[show min J.toArray.size F.toArray.size=ds.length by rw[ny,ny];lia,uV rfl (by lia),show(J.toArray.size == F.toArray.size)=true by rw[ny,ny,ZS];exact hl,Bool.and_true] at key;exact key
    ·have hne:ds≠es:=fun q=>hl (by rw[q] at l3;lia);rw[gk hne];rw[show(J.toArray.size == F.toArray.size)=false by rw[ny,ny,ZQ];exact hl,Bool.and_false] at key;exact key
   exact⟨lift rfl rfl rc,fun a' b' e1 e2=>by cases e1;cases e2;exact rc⟩
end
end
def yT (K:W.Frag) (neg:Bool):R2:=fun x y H Q=>match x,y with
 | .ref a,.ref b=> ∃n d e,n<=60/\Dn K H n (.ref a) d/\Dn K H n (.ref b) e/\((d=e/\Q (.bl (!neg)) H)\/(d≠e/\Q (.bl neg) H))
 |x,y=>scal x y=true/\Q (.bl (if neg then !decide (x=y) else decide (x=y))) H
section
open Classical in
theorem UR (F:X.A.units+64<cLine):iH X (compareOp .Eq) (yT X.K false):=by
 intro C s σ H x y v u Q I z i h;unfold yT at h;split at h
 ·obtain⟨n,d,e,hn,hd,he,q⟩:=h;obtain⟨_,rc⟩:=PM n (A:=X.A) I (by lia) z i hd he;cases z;cases i;have:=rc _ _ rfl rfl;refine(this _ _ _ _ ?_);rcases q with⟨c,q⟩|⟨c,q⟩
  ·rw[n9 c];exact⟨.bl _,H,I,rfl,q⟩
  ·rw[gk c];exact⟨.bl _,H,I,rfl,q⟩
 ·exact WK _ s σ H _ _ v u Q I z i ⟨h.1,by simp_all⟩
open Classical in
theorem UO (hu:X.A.units+64<cLine):iH X (compareOp .NotEq) (yT X.K true):=by
 intro J s σ H x y v u Q I rx ry h;unfold yT at h;split at h
 ·rename_i a b;obtain⟨n,d,e,hn,hd,he,q⟩:=h;cases rx;cases ry;have F:X.A.units<cLine:=by lia
  have fin:SeqAt.RcNeAt _ s (.ref a) (.ref b) (!decide (d=e))->wpAny (model X.prog X.w) X.A (compareOp .NotEq (.ref a) (.ref b)) (EP X J σ Q) X.xe s:=fun rc=>by
   refine(rc X.prog X.w _ _ ?_:wpAny (model X.prog X.w) X.A (richCompare .NotEq _ _) (EP X J σ Q) X.xe s);rcases q with⟨c,q⟩|⟨c,q⟩
   ·rw[n9 c];exact⟨.bl false,H,I,rfl,q⟩
   ·rw[gk c];exact⟨.bl true,H,I,rfl,q⟩
  apply fin;clear fin q;rcases hd.cases with hx'|⟨m,hm,a',xs,ds,e1,rfl,ha,pa⟩|⟨m,hm,a',xs,ds,e1,rfl,ha,pa⟩
  ·obtain⟨z,_⟩|⟨i,z,_⟩|⟨i,z,_⟩|⟨i,z,_⟩:=hx'<;>cases z
  ·cases e1;obtain⟨G,r1,p,hz⟩:=I.list ha;rcases he.cases with P|⟨k,hk,b',ys,es,e2,rfl,U,pb⟩|⟨k,hk,b',ys,es,e2,rfl,U,pb⟩
   ·obtain⟨z,_⟩|⟨i,z,_⟩|⟨i,z,_⟩|⟨i,z,_⟩:=P<;>cases z
   ·cases e2;obtain⟨C,r2,O,hz2⟩:=I.list U;have l1:=r1.length;have l2:=r2.length;have l3:=ZM pa;have l4:=ZM pb;have Z:decide (Dt.l ds=Dt.l es)=decide (ds=es):=by
     simp_all
    rw[Z];by_cases hl:G.length=C.length
    ·have key:=SeqAt.RcNeAt.lists (e:=fun j=>decide (ds[j]?=es[j]?)) p.isList O.isList (‹_›) F (ye (n:=n) r1 r2 pa pb fun x y u v d e rx ry h1 h2=>
      (PM (max m k) (A:=X.A.in1) I (by show X.A.units+1+max m k<cLine;lia) rx ry (h1.up (aaQ _ _)) (h2.up (aaN _ _))).1)
     rw[uV (by simp_all) (by lia)] at key;exact key
    ·have hne:ds≠es:=fun q=>hl (by simp_all);rw[gk hne];exact SeqAt.RcNeAt.lists_lengths p.isList O.isList (Kl hl) F
   ·cases e2;obtain⟨C,r2,O,_⟩:=I.tuple U;rw[gk (fun z=>nomatch z)];exact SeqAt.RcNeAt.list_tuple p.isList O F
  ·cases e1;obtain⟨G,r1,p,hz⟩:=I.tuple ha;rcases he.cases with P|⟨k,hk,b',ys,es,e2,rfl,U,pb⟩|⟨k,hk,b',ys,es,e2,rfl,U,pb⟩
   ·obtain⟨z,_⟩|⟨i,z,_⟩|⟨i,z,_⟩|⟨i,z,_⟩:=P<;>cases z
   ·cases e2;obtain⟨C,r2,O,_⟩:=I.list U;rw[gk (fun z=>nomatch z)];exact SeqAt.RcNeAt.tuple_list p O.isList F
   ·cases e2;obtain⟨C,r2,O,hz2⟩:=I.tuple U;have l1:=r1.length;have l2:=r2.length;have l3:=ZM pa;have l4:=ZM pb;have Z:decide (Dt.t ds=Dt.t es)=decide (ds=es):=by
     simp_all
    rw[Z];have key:=SeqAt.RcNeAt.tuples (e:=fun j=>decide (ds[j]?=es[j]?)) p O F (ye (n:=n) r1 r2 pa pb fun x y u v d e rx ry h1 h2=>
      (PM (max m k) (A:=X.A.in1) I (by show X.A.units+1+max m k<cLine;lia) rx ry (h1.up (aaQ _ _)) (h2.up (aaN _ _))).1)
    by_cases hl:G.length=C.length
    ·rw[show min G.toArray.size C.toArray.size=ds.length by simp_all,uV rfl (by lia),show(G.toArray.size == C.toArray.size)=true by simp_all,Bool.and_true] at key;exact key
    ·grind
 ·exact WJ J s σ H _ _ v u Q I rx ry ⟨h.1,by simp_all⟩
end
section
mutual
variable {K:W.Frag}
theorem uO (K:W.Frag) (h:X.K=K) (i:X.A.units+64<cLine):iH X (compareOp .Eq) (yT K false):=h▸UR i
theorem RL (K:W.Frag) (h:X.K=K) (i:X.A.units+64<cLine):iH X (compareOp .NotEq) (yT K true):=h▸UO i
theorem Om:yT K false (.int i) (.int j) H Q=Q (.bl (decide (i=j))) H:=by
 exact Rg
theorem N6:yT K true (.int i) (.int j) H Q=Q (.bl (!decide (i=j))) H:=by
 exact Q1
theorem Ol:yT K false (.str i) (.str j) H Q=Q (.bl (decide (i=j))) H:=by
 exact Rf
theorem N5:yT K true (.str i) (.str j) H Q=Q (.bl (!decide (i=j))) H:=by
 exact Q0
theorem rp:Dn K H n (.int i) (.int i):=Dn.up (n:=0) (.inr (.inl ⟨i,rfl,rfl⟩)) (lp _)
theorem PL:Dn K H n (.str z) (.str z):=Dn.up (n:=0) (.inr (.inr (.inl ⟨z,rfl,rfl⟩))) (lp _)
theorem wW (h:H a=some (.lst xs)) (p:Paired (Dn K H n) xs ds):Dn K H (n+1) (.ref a) (.l ds):= .inr (.inl ⟨a,xs,ds,rfl,rfl,bC.of h,p⟩)
theorem J0 (h:H a=some (.tup xs)) (p:Paired (Dn K H n) xs ds):Dn K H (n+1) (.ref a) (.t ds):= .inr (.inr ⟨a,xs,ds,rfl,rfl,c6.of h,p⟩)
end
end
mutual
theorem UD (hc:X.calm=true) (h:Qq X es t) (hn:es.length=n) (v:es.any isStar=false) (I:Inv X pins σ H s) (z:bC X.K H a xs) (hl:xs.length=n) (hw:t xs σ H Q):
  wpAny (model X.prog X.w) X.A (assign (.Tuple es k pos) X.env (.ref a)) (fun _ y=> ∃i H',Inv X pins i H' y/\Q i H') X.xe s:=by
 obtain⟨x,C,hp,G⟩:=I.list z;refine c8 (aaw ?_);unfold unpack;rw[show(assignEach es _).length=x.toArray.size by rw[nK,hn,<-hl,ny,C.length],jt v];refine c8 (Z0 (W.kun_itemsOf (I.ok.hd hc) hp.isList fun J hx=>?_));have F:=I.kept (t':=s.toks) fun b o e=>hx b o (kv (h6 e)) e;exact h _ _ σ H xs _ Q F (‹_›) hw
def XC (K:W.Frag) (n:Nat) (t:TR) (a:Addr) (σ:St) (H:Hp) (Q:St->Hp->Prop):Option HO->Prop
 |some (.tup xs)=>xs.length=n/\t xs σ H Q
 |some (.lst xs)=>xs.length=n/\t xs σ H Q
 |_=> ∃xs,c6 K H a xs/\xs.length=n/\t xs σ H Q
def Pq (K:W.Frag) (n:Nat) (t:TR):TG:=fun v σ H Q=>match v with
 | .ref a=>XC K n t a σ H Q (H a)
 |_=>False
theorem Nc {K:W.Frag}:Pq K n t (.ref a) σ H Q=XC K n t a σ H Q (H a):=rfl
theorem Sn {K:W.Frag}:XC K n t a σ H Q (some (.tup xs))=(xs.length=n/\t xs σ H Q):=rfl
theorem So {K:W.Frag}:XC K n t a σ H Q (some (.lst xs))=(xs.length=n/\t xs σ H Q):=rfl
theorem uN (K:W.Frag) (x:X.K=K) (hc:X.calm=true) (hh:Qq X es u) (hn:autoParam (es.length=n) qqr) (h:autoParam (es.any isStar=false) qqr):PG X (.Tuple es j pos) (Pq K n u):=by
 intro i s σ H v w Q I r q;unfold Pq at q;split at q
 ·rename_i a;unfold XC at q;split at q
  ·rename_i xs e;exact KJ K x hc hh hn h _ s σ H _ w Q I r ⟨a,xs,rfl,c6.of e,q⟩
  ·rename_i xs e;obtain rfl:w=Value.ref a:=r;exact UD hc hh hn h I (bC.of e) q.1 q.2
  ·obtain⟨xs,y,z⟩:=q;exact KJ K x hc hh hn h _ s σ H _ w Q I r ⟨a,xs,rfl,y,z⟩
 ·trivial
structure QA (X:Cx) (es:List Expr) (t:TA):Prop where
 h:PA X es t
end
section
mutual
theorem Jj:QA X [] yM:=⟨gN⟩
theorem B6 (ha:QE X e te) (hr:QA X es t) (h:autoParam (isStar e=false) qqr):QA X (e::es) (rG te t):=⟨aZ ha.h hr.h h⟩
theorem Uu (h:QA X es t):QE X (.Tuple es k pos) (T5 t):=⟨ba h.h⟩
theorem Ow (h:QA X es t):QE X (.List es pos) (Ua t):=⟨cq h.h⟩
theorem Ut (h:QE X e te):QS X (.Return (some e) pos) (T7 te):=⟨ar h.h⟩
theorem WC (h:PT X e t) (ha:SR X a ta) (i:SR X b tb):QS X (.If e a b pos) (QP t ta tb):=⟨aQ h ha.h i.h⟩
theorem Rj:SR X [] Ki:=⟨aB⟩
end
end
def Fg:V->List V->Hp->VK->Prop:=fun x vs H Q=>match x,vs with
 | .str z,[.str y]=> ∃i r,Builtin.Str.occurrences z y 0 z.length 1=i::r/\Q (.int (i:Nat)) H
 |_,_=>False
noncomputable def R5 (z:Str) (i:Int):Str:=if i<=z.length then z else Builtin.Str.padded z 0 (i.toNat-z.length) 32
def Jb:V->List V->Hp->VK->Prop:=fun x vs H Q=>match x,vs with
 | .str z,[.int i]=>(0<=i/\i<=1000)/\(R5 z i).length<=sizeLine/\Q (.str (R5 z i)) H
 |_,_=>False
section
theorem MG:Qi X "str.index" Fg:=by
 intro y s σ H x vs v us Q I J G h;unfold Fg at h;split at h
 ·obtain⟨i,r,e,h⟩:=h;obtain⟨t,rfl⟩:=J;cases G with
  |cons z C=>
  cases C;obtain⟨t',rfl⟩:=z;exact call_gives F.slot_str_index (typeIs_str s _ t) F.entry_str_index (F.args_str_index_2 _ _) (gives_str_index _ _ t t' i r e) ((⟨.int _,H,I.tok _,⟨_,rfl⟩,h⟩))
 ·trivial
theorem OY:Qi X "str.ljust" Jb:=by
 intro y s σ H x vs v us Q I O J h;unfold Jb at h;split at h
 ·rename_i z i;obtain⟨⟨U,P⟩,hl,h⟩:=h;obtain⟨t,rfl⟩:=O;cases J with
  |cons C G=>
  cases G;obtain⟨t',rfl⟩:=C;refine call_gives F.slot_str_ljust (typeIs_str s _ t) F.entry_str_ljust (F.args_str_ljust_2 _ _) (gives_str_ljust z i t t' ?_ ?_) ?_
  ·lia
  ·unfold Builtin.Str.tooLong sizeLine;exact gk (by lia)
  ·unfold R5 at h hl;split
   ·rename_i c;rw[dy c] at h;exact((⟨.str _,H,I,⟨_,rfl⟩,h⟩))
   ·rename_i c;rw[de c] at h hl;exact⟨hl,((⟨.str _,H,I.tok _,⟨_,rfl⟩,h⟩))⟩
 ·trivial
end
theorem GY {v:Array Value} {x:Value} {e:Nat->Bool} {prog:Program} {w:World} {A:Around} {E:Value->Shared->Prop} {j:Nat} {f:Nat->Option Fin×Unit->Sem (ForInStep (Option Fin×Unit))}
    (hf:f
            = fun i _=>match v[i]? with
            |
              some y=>do
              let b<-eqBool y x
              if b=true then do
                  let r<-retInt ↑i
                  pure (ForInStep.done (some r,()))
                else pure (ForInStep.yield (none,()))
            |_=>pure (ForInStep.yield (none,())))
    (F:j<v.size) (hit:e j=true) (z:∀m,m<j->e m=false):∀(k i:Nat) (s:Shared) (Q:Option Fin×Unit->Shared->Prop),i+k=v.size->i<=j->
    (∀m (hm:m<v.size),SeqAt.EqAt A s v[m] x (e m))->
    Q (some (.done (.ret (.int j s.toks))),()) {s with toks:=s.toks+1}->wpAny (model prog w) A (forIn (List.range' i k) ((none:Option Fin),()) f) Q E s
  |0,i,s,Q,h1,h2,_,_=>absurd h1 (by lia)
  |
    k+1,i,s,Q,h1,h2,he,hq=>by
    have C:i<v.size:=by lia
    rw[List.range'_succ,aaA];refine c8 ?_;rw[hf];dsimp only;rw[(Array.getElem?_eq_getElem C)];refine c8 (he i C _ w _ _ ?_);by_cases c:i=j
    ·
      subst c;rw[hit];refine c8 ?_;exact c8 (wpAny_mkInt (fg (fg (fg hq))))
    ·
      rw[z i (by lia)];refine fg ?_;rw[<-hf];exact GY hf F hit z k _ s Q (by lia) (by lia) he hq
theorem tix {e:Nat->Bool} (ho:s.heap.get? t=some o) (hd:o.data = .seq its n) (y:j<its.size) (hit:e j=true) (i:∀m,m<j->e m=false) (he:∀m (hm:m<its.size),SeqAt.EqAt A s its[m] x (e m)) (v:Q (.done (.ret (.int j s.toks))) {s with toks:=s.toks+1}):wpAny (model prog w) A (Builtin.«tuple.index» ⟨[.ref t,x],[]⟩) Q E s:=by
 refine c8 (wpAny_of_eq (rfl) ?_);refine c8 (c8 (aaJ ho hd (fg ?_)));refine c8 (fg (c8 (fg ?_)));refine c8 ?_;rw[Nat.min_self,Std.Legacy.Range.forIn_eq_forIn_range'];have sz: [:its.size].size=its.size:=by simp_all
 rw[sz];exact GY rfl y hit i _ 0 s _ (by lia) (lp _) he (fg v)
def HL (i:List Str) (y:Str) (j:Nat):Prop:=i[j]?=some y/\∀m,m<j->i[m]?≠some y
def By (K:W.Frag):V->List V->Hp->VK->Prop:=fun x vs H Q=>match x,vs with
 | .ref p,[.str y]=> ∃i:List Str,c6 K H p (i.map V.str)/\∃j,HL i y j/\Q (.int (j:Nat)) H
 |_,_=>False
theorem GQ:∀{v:List Str} {i:List Value},Vals (v.map V.str) i->i.length=v.length/\∀m (h:m<i.length) y,v[m]?=some y->∃t,i[m] = .str y t
 | [],_,.nil=>⟨rfl,fun m h=>absurd h (by simp)⟩
 |z::v,_,.cons r rr=>by
  obtain⟨C,x⟩:=GQ rr;refine⟨by simp_all,fun m h y e=>?_⟩;cases m with
  |zero=>cases e;obtain⟨t,rfl⟩:=r;exact⟨t,rfl⟩
  |succ m=>exact x m (by simpa using h) y e
section
theorem M7 (v:Vals (ss.map V.str) its) (h:HL ss y j):
  j<its.toArray.size/\(decide (ss[j]?=some y))=true/\(∀m,m<j->(decide (ss[m]?=some y))=false)/\∀m (hm:m<its.toArray.size),SeqAt.EqAt A s its.toArray[m] (.str y u) (decide (ss[m]?=some y)):=by
 obtain⟨x,l2⟩:=GQ v;have z:=(i4.mp h.1).1;refine⟨by simp_all,n9 h.1,fun m hm=>gk (h.2 m hm),fun m hm=>?_⟩;have i:m<its.length:=by trivial
 have hs:ss[m]?=some _:=mu (by lia);obtain⟨t,e⟩:=l2 m _ _ hs;have e2:its.toArray[m] = .str _ t:=‹_›;have e3:decide (ss[m]?=some y)=(ss[m] == y):=by
  lia
 rw[e2,e3];exact SeqAt.EqAt.str_str _ _ _ _
theorem MF:Qi X "tuple.index" (By X.K):=by
 intro i s σ H x vs v us Q I Z J h;unfold By at h;split at h
 ·rename_i p y;obtain⟨ss,z,j,hj,h⟩:=h;obtain rfl:v=Value.ref p:=Z;obtain⟨u,rfl,O⟩:=Vals.one J;obtain⟨t,rfl⟩:=O;obtain⟨its,r,⟨o,ho,hc,n,hd⟩,hz⟩:=I.tuple z;obtain⟨U,C,P,G⟩:=M7 r hj;exact aar (Z8 F.slot_tuple_index.plain F.entry_tuple_index (F.slot_tuple_index.check _ _ _ _ _ _ _ _ ⟨o,ho,hc⟩ (F.args_tuple_index_2 _ _) (tix ho hd U C P G ((⟨.int _,H,I.tok _,⟨_,rfl⟩,h⟩)))))
 ·trivial
end
def rJoin (K:W.Frag):V->List V->Hp->VK->Prop:=fun x vs H Q=>match x,vs with
 | .str z,[.ref p]=> ∃i:List Str,bC K H p (i.map V.str)/\(i.map (·.length)).sum+i.length*z.length<=1000000/\Q (.str (Txt.join z i)) H
 |_,_=>False
theorem DW:∀{v:List Str} {i:List Value},Vals (v.map V.str) i->StrsAre i v
 | [],_,.nil=> .nil
 |_::_,_,.cons r rr=>by
  obtain⟨t,rfl⟩:=r;exact .cons _ _ (DW rr)
theorem RZ:Qi X "str.join" (rJoin X.K):=by
 intro i s σ H x vs v us Q I G C h;unfold rJoin at h;split at h
 ·rename_i z p;obtain⟨P,y,hl,h⟩:=h;obtain⟨t,rfl⟩:=G;obtain⟨u,rfl,F⟩:=Vals.one C;obtain rfl:u=Value.ref p:=F;obtain⟨J,r,pl,O⟩:=I.list y;refine join_list pl.isList (by simpa using DW r) (by lia) fun t' k=>((⟨.str _,H,I.tok _,⟨_,rfl⟩,h⟩))
 ·trivial
section
def Ji (K:W.Frag) (f:Str) (x:V) (H:Hp) (Q:VK):Prop:= ∃a,x = .ref a/\∃C dx,H a=some (.ext (xk a (.ref C) dx))/\yC K C/\C_ K C f/\∃d,dx=some d/\∃fs,H d=some (.xd fs)/\∃v,fs.lookup f=some v/\Q v H
def Ub (K:W.Frag) (f:Str) (v:TE):TE:=fun σ H Q=>v σ H fun x i=>Ji K f x i Q
theorem Jh {K:W.Frag}:Ji K f (.ref a) H Q= ∃C dx,H a=some (.ext (xk a (.ref C) dx))/\yC K C/\C_ K C f/\∃d,dx=some d/\∃fs,H d=some (.xd fs)/\∃v,fs.lookup f=some v/\Q v H:=by
 apply propext;unfold Ji;constructor
 ·simp_all
 ·simp_all
theorem XF {N:Addr->Prop}:(∃x,some d=some x/\N x)=N d:=by
 simp_all
end
section
variable {K:W.Frag}
theorem Hg:Fg (.str z) [.str y] H Q= ∃i r,Builtin.Str.occurrences z y 0 z.length 1=i::r/\Q (.int (i:Nat)) H:=rfl
theorem Ja:Jb (.str z) [.int i] H Q=((0<=i/\i<=1000)/\(R5 z i).length<=sizeLine/\Q (.str (R5 z i)) H):=rfl
theorem Hf:By K (.ref p) [.str y] H Q= ∃i:List Str,c6 K H p (i.map V.str)/\∃j,HL i y j/\Q (.int (j:Nat)) H:=rfl
theorem uI:rJoin K (.str z) [.ref p] H Q= ∃i:List Str,bC K H p (i.map V.str)/\(i.map (·.length)).sum+i.length*z.length<=1000000/\Q (.str (Txt.join z i)) H:=rfl
end
section
variable {X:Cx} (K:W.Frag)
theorem JG (h:X.K=K):Qi X "tuple.index" (By K):=h▸MF
theorem fq (h:X.K=K):Qi X "str.join" (rJoin K):=h▸RZ
end
end Lake
namespace Lake
mutual
open PySem PySem.Spec PyProof.Rows PySem.W
noncomputable def Nf (c:Nat->Nat->Bool):KasT α->α
 | .ret a=>a
 | .ask i j k=>Nf c (k (c i j))
def EU (n:Nat) (P:α->Prop):KasT α->Prop
 | .ret a=>P a
 | .ask i j k=>i<n/\j<n/\∀b,EU n P (k b)
theorem EU.bind {f:α->KasT β}:∀{t:KasT α},EU n P t->(∀a,P a->EU n R (f a))->EU n R (t.bind f)
 | .ret a,h,k=>k a h
 | .ask i j g,h,k=>⟨h.1,h.2.1,fun b=>EU.bind (h.2.2 b) k⟩
theorem EU.ev {t:KasT α} (c:Nat->Nat->Bool) (h:EU n P t):P (Nf c t):=by
 induction t with
 |ret a=>exact h
 |ask i j k v=>exact v (c i j) (h.2.2 (c i j))
theorem Gr (c:Nat->Nat->Bool) (f:α->KasT β):∀t:KasT α,Nf c (t.bind f)=Nf c (f (Nf c t))
 | .ret _=>rfl
 | .ask i j k=>Gr c f (k (c i j))
theorem EU.wp (hc:∀i j C,i<n->j<n->C (c i j) s->cmp i j C s):∀{t:KasT α},EU n P t->Q (Nf c t) s->t.kasWp cmp Q s
 | .ret _,_,q=>q
 | .ask i j k,h,q=>hc i j _ h.1 h.2.1 (EU.wp hc (h.2.2 (c i j)) q)
def Pm (n:Nat) (p:Array Nat):Prop:=p.toList.Perm (List.range n)
theorem Pm.rev (h:Pm n p) (i j:Nat):Pm n (kas_rev p i j):=(Array.perm_iff_toList_perm.mp (mirror_perm p i j _)).trans h
theorem Pm.bub (h:Pm n p) (i j:Nat):Pm n (bubble p i j):=(Array.perm_iff_toList_perm.mp (bubble_perm p i j)).trans h
theorem Pm.lt (h:Pm n p) (x:0<n) (i:Nat):p.getD i 0<n:=by
 by_cases v:i<p.size
 ·have e:p.getD i 0=p[i]:=by simp[Array.getD,v]
  rw[e];have:p[i]∈p.toList:=by simp
  exact L1.mp (h.mem_iff.mp this)
 ·have e:p.getD i 0=0:=by simp[Array.getD,v]
  omega
end
section
mutual
theorem JA (i:0<n) (hp:Pm n p):∀f m,EU n (fun _=>True) (kas_asc p f m)
 |0,_=>trivial
 |f+1,m=>⟨hp.lt i _,hp.lt i _,fun b=>by
  cases b with
  |true=>exact trivial
  |false=>exact JA i hp f (m+1)⟩
theorem BC (i:0<n):∀f p m q,Pm n p->EU n (fun r=>Pm n r.1) (kas_desc f p m q)
 |0,_,_,_,hp=>hp
 |f+1,p,m,q,hp=>⟨hp.lt i _,hp.lt i _,fun b=>by
  cases b with
  |true=>
   show EU n _ (if q > 0 then _ else _);split
   ·exact BC i f _ _ _ (hp.rev _ _)
   ·exact BC i f _ _ _ hp
  |false=>
   refine⟨hp.lt i _,hp.lt i _,fun b=>?_⟩;cases b with
   |true=>exact hp
   |false=>exact BC i f _ _ _ hp⟩
theorem Hs (i:0<n) (m r:Nat) (hp:Pm n p):EU n (fun r=>Pm n r.2) (kas_tail3 m r p):=
 (JA i (hp.rev _ _) _ _).bind fun _ _=>hp.rev _ _
theorem Ab (i:0<n) (m r:Nat) (hp:Pm n p):EU n (fun r=>Pm n r.2) (kas_descPart m r p):=by
 refine(BC i _ _ _ _ hp).bind fun a ha=>?_;split
 ·exact Hs i _ _ (Pm.rev ha _ _)
 ·exact Hs i _ _ ha
theorem OP (i:0<n) (r:Nat) (hp:Pm n p):EU n (fun r=>Pm n r.2) (kas_count r p):=by
 refine(JA i hp _ _).bind fun a _=>?_;split
 ·exact hp
 split
 ·refine⟨hp.lt i _,hp.lt i _,fun b=>?_⟩;cases b with
  |true=>exact hp
  |false=>exact Ab i _ _ (hp.rev _ _)
 ·exact Ab i _ _ hp
theorem Ce (i:0<n) (k:Nat) (hp:Pm n p):∀f l r,EU n (fun _=>True) (kas_place p k f l r)
 |0,_,_=>trivial
 |f+1,l,r=>by
  unfold kas_place;split
  ·exact trivial
  refine⟨hp.lt i _,hp.lt i _,fun b=>?_⟩;cases b with
  |true=>exact Ce i k hp f _ _
  |false=>exact Ce i k hp f _ _
theorem OQ (i:0<n):∀f p k,Pm n p->EU n (Pm n) (kas_bin f p k)
 |0,_,_,hp=>hp
 |f+1,p,k,hp=>(Ce i k hp _ _ _).bind fun l _=>OQ i f _ _ (hp.bub _ _)
theorem RQ (i:0<n):EU n (Pm n) (kas_sort n):=by
 have hp:Pm n (List.toArray (List.range n)):=List.Perm.refl _;refine(OP i n hp).bind fun r hr=>?_;split
 ·exact OQ i _ _ _ hr
 ·exact hr
end
end
theorem PB (hc:∀i,i+1<n->c (i+1) i=false):∀f m,1<=m->m+f<=n->Nf c (kas_asc (List.toArray (List.range n)) f m)=m+f
 |0,_,_,_=>rfl
 |f+1,m,h1,h2=>by
  have e:∀i,i<n->(List.toArray (List.range n)).getD i 0=i:=fun i v=>by simp[Array.getD,v]
  unfold kas_asc;show Nf c (if c _ _=true then _ else _)=_;rw[e m (by omega),e (m-1) (by omega)];have:=hc (m-1) (by omega);rw[show m-1+1=m by omega] at this;rw[this,de (by simp),PB hc f (m+1) (by omega) (by omega)];omega
theorem Il (v:0<n) (hc:∀i,i+1<n->c (i+1) i=false):Nf c (kas_sort n)=List.toArray (List.range n):=by
 unfold kas_sort;rw[Gr];have e:Nf c (kas_count n (List.toArray (List.range n)))=(n,List.toArray (List.range n)):=by
  unfold kas_count;rw[Gr,PB hc _ _ (cv _) (by lia),dy (by rw[ZS];lia)];show(1+(n-1),_)=_;rw[show 1+(n-1)=n by lia]
 rw[e];show Nf c (if n<n then _ else _)=_;rw[de (Z7 n)];rfl
section
def Kept (h i:Heap):Prop:= ∀b o,h.get? b=some o->i.get? b=some o
theorem I0 (G:List Value->Prop) (ho:s.heap.get? a=some (seqObj "list" vs.toArray n)) (U:vs.length<=sizeLine) (F:vs.length<2->G vs) (run:2<=vs.length->∀y,(∀b o,b≠a->s.heap.get? b=some o->y.get? b=some o)->wpAny (model prog w) A (keyKind' vs.toArray) (fun X z=>z={s with heap:=y}/\wpAny (model prog w) A ((sortRuns').run (SortSt.mk' X (vs.toArray.zip vs.toArray) #[] 7 none)) (fun r z=>z={s with heap:=y}/\failedOf r.2=none/\((arrOf r.2).map (·.2)).size=vs.length/\G ((arrOf r.2).map (·.2)).toList) (fun _ _=>False) {s with heap:=y}) (fun _ _=>False) {s with heap:=y}) (h:∀out y c,G out.toList->out.size=vs.length->(∀b o,b≠a->s.heap.get? b=some o->y.get? b=some o)->y.get? a=some (seqObj "list" out c)->P (.done (.ret .none)) {s with heap:=y}):
  wpAny (model prog w) A (Builtin.«list.sort» ⟨[.ref a],[]⟩) P E s:=by
 have ha:a<s.heap.objs.size:=h6 ho;rw[list_sort_plain];refine c8 (listItems_at ho rfl ?_);refine c8 (listUpdate_at ho rfl ?_ (by rw[ny];exact U) (lp _));obtain⟨e1,C⟩:∃e1,(s.heap.update a (Obj.mapSeq fun _=>(#[]:Array Value))).get? a=some (seqObj "list" #[] e1):=⟨_,get?_update_seq ho fun _=>#[]⟩;refine c8 (seqEpoch_at C rfl ?_);refine c8 (wpAny_newTuple ?_ (by show vs.length<=_;exact U));refine c8 (wpAny_newList ?_ (lp _));refine Z0 ?_;have v:(((s.heap.update a (Obj.mapSeq fun _=>(#[]:Array Value))).push (seqObj "tuple" vs.toArray 0)).push (seqObj "list" #[] 0)).get? a=some (seqObj "list" #[] e1):=ej _ (ej _ C);have k3:∀b o,b≠a->s.heap.get? b=some o->(((s.heap.update a (Obj.mapSeq fun _=>(#[]:Array Value))).push (seqObj "tuple" vs.toArray 0)).push (seqObj "list" #[] 0)).get? b=some o:=fun b o ne e=>
  ej _ (ej _ ((Heap.get?_update_ne _ _ _ _ ne).trans e))
 show wpAny (model prog w) A _ P E {s with heap:=((s.heap.update a (Obj.mapSeq fun _=>(#[]:Array Value))).push (seqObj "tuple" vs.toArray 0)).push (seqObj "list" #[] 0)};generalize((s.heap.update a (Obj.mapSeq fun _=>(#[]:Array Value))).push (seqObj "tuple" vs.toArray 0)).push (seqObj "list" #[] 0)=J at v k3⊢;have fin:∀(st:SortSt),failedOf st=none->((arrOf st).map (·.2)).size=vs.length->G ((arrOf st).map (·.2)).toList->wpAny (model prog w) A (do
   let touched:=(<-seqEpoch a) != e1
   Builtin.List.listUpdate (.ref a) fun _=>(arrOf st).map (·.2)
   if let some e:=failedOf st then rule "list.sort.comparison-raised";throw e
   if touched then rule "list.sort.modified";raiseError "ValueError" "list modified during sort"
   ret .none) P E {s with heap:=J}:=fun st hf hsz hg=>by
  refine c8 (seqEpoch_at v rfl ?_);refine c8 (listUpdate_at v rfl ?_ (lp _) (h7 (Nat.le_of_eq hsz) (by lia)));rw[hf];simp only[bne_self_eq_false,ZV,aas];obtain⟨O,Q⟩:∃O,(J.update a (Obj.mapSeq fun _=>(arrOf st).map (·.2))).get? a=some (seqObj "list" ((arrOf st).map (·.2)) O):=⟨_,get?_update_seq v fun _=>(arrOf st).map (·.2)⟩;exact fg (h _ _ O hg hsz (fun b o ne e=>(Heap.get?_update_ne _ _ _ _ ne).trans (k3 b o ne e)) Q)
 dsimp only;by_cases I:vs.length<2
 ·have i:vs.toArray.size<2:=by rw[ny];exact I
  rw[dy i,dy i];refine c8 (fg ?_);rw[StateT.run_pure];refine c8 (fg ?_);have Z:((arrOf (SortSt.mk' general' (vs.toArray.zip vs.toArray) #[] 7 none)).map (·.2))=vs.toArray:=by
   show(vs.toArray.zip vs.toArray).map (·.2)=vs.toArray;apply Array.toList_inj.mp;rw[Array.toList_map,Array.toList_zip];exact List.map_snd_zip (cv _)
  exact fin (SortSt.mk' general' (vs.toArray.zip vs.toArray) #[] 7 none) rfl (by rw[Z];simp) (by rw[Z];exact F I)
 ·have i: ¬vs.toArray.size<2:=by rw[ny];exact I
  rw[de i,de i];refine c8 (z4 (run (by lia) J k3) (fun X z hk=>?_) fun _ _ x=>x.elim);obtain⟨rfl,hk⟩:=hk;refine c8 (z4 hk (fun r z hr=>?_) fun _ _ x=>x.elim);obtain⟨⟨⟩,st⟩:=r;obtain⟨rfl,hf,hsz,hg⟩:=hr;exact fin st hf hsz hg
theorem E5 (G:List Value->Prop) (hl:s.heap.IsList l vs.toArray) (F:vs.length<=sizeLine) (C:vs.length<2->G vs) (run:2<=vs.length->∀i,Kept s.heap i->wpAny (model prog w) A.in1.in1 (keyKind' vs.toArray) (fun U y=>y={s with heap:=i}/\wpAny (model prog w) A.in1.in1 ((sortRuns').run (SortSt.mk' U (vs.toArray.zip vs.toArray) #[] 7 none)) (fun r y=>y={s with heap:=i}/\failedOf r.2=none/\((arrOf r.2).map (·.2)).size=vs.length/\G ((arrOf r.2).map (·.2)).toList) (fun _ _=>False) {s with heap:=i}) (fun _ _=>False) {s with heap:=i}) (h:∀out i D c,G out.toList->out.size=vs.length->Kept s.heap i->s.heap.objs.size<=D->i.get? D=some (seqObj "list" out c)->Q (.ref D) {s with heap:=i}):
  wpAny (model prog w) A (call (.builtin "sorted") [.ref l]) Q E s:=by
 refine Calls.call_function_entry kind_sorted plain_sorted entry_sorted (args_sorted1 _) ?_;unfold Builtin.«sorted»;refine c8 (m:=checkCount "sorted" 1 1 _) (fg ?_);refine c8 (collect_list hl ?_ F);refine c8 (wpAny_newList ?_ F);have hsz:((s.heap.push (seqObj "list" #[] 0)).update s.heap.objs.size (Obj.mapSeq (· ++vs.toArray))).objs.size=s.heap.objs.size+1:=by
  rw[Heap.size_update,size_push']
 have x:(((s.heap.push (seqObj "list" #[] 0)).update s.heap.objs.size (Obj.mapSeq (· ++vs.toArray))).push (seqObj "list" vs.toArray 0)).get? (s.heap.objs.size+1)=some (seqObj "list" vs.toArray 0):=by
  rw[<-hsz];exact ke _ rfl
 have keep:Kept s.heap (((s.heap.push (seqObj "list" #[] 0)).update s.heap.objs.size (Obj.mapSeq (· ++vs.toArray))).push (seqObj "list" vs.toArray 0)):=fun b o q=>by
  have v:b<s.heap.objs.size:=h6 q;rw[Heap.get?_push_ne _ _ _ (by rw[hsz];exact kv (Nat.lt_succ_of_lt v)),Heap.get?_update_ne _ _ _ _ (kv v),Heap.get?_push_ne _ _ _ (kv v)];exact q
 show wpAny _ _ _ _ _ {s with heap:=((s.heap.push (seqObj "list" #[] 0)).update s.heap.objs.size (Obj.mapSeq (· ++vs.toArray))).push (seqObj "list" vs.toArray 0)};rw[hsz];generalize((s.heap.push (seqObj "list" #[] 0)).update s.heap.objs.size (Obj.mapSeq (· ++vs.toArray))).push (seqObj "list" vs.toArray 0)=I at x keep⊢;have ne:∀b o,s.heap.get? b=some o->b≠s.heap.objs.size+1:=fun b o e=>kv (Nat.lt_succ_of_lt (h6 e));refine c8 (Z0 (wpAny_call_entry slot_list_sort ⟨_,x,rfl⟩ entry_list_sort ?body (args_list_sort _)));exact I0 (s:={s with heap:=I}) G x F C (fun O i z=>run O i fun b o e=>z b o (ne b o e) (keep b o e))
  fun out i c P J z e=>⟨_,rfl,fg ⟨_,rfl,h out i _ c P J (fun b o e=>z b o (ne b o e) (keep b o e)) (vr _) e⟩⟩
end
noncomputable abbrev C4:=Int×Int×Int×Int
noncomputable def Tr (a b:C4):Bool:=if a.1=b.1 then if a.2.1=b.2.1 then if a.2.2.1=b.2.2.1 then decide (a.2.2.2<b.2.2.2) else decide (a.2.2.1<b.2.2.1) else decide (a.2.1<b.2.1) else decide (a.1<b.1)
def T4 (h:Heap) (c:Addr) (m:C4):Prop:= ∃o n t1 t2 i v,h.get? c=some o/\o.cls = .type "tuple" /\o.data = .seq #[.int m.1 t1,.int m.2.1 t2,.int m.2.2.1 i,.int m.2.2.2 v] n
section
theorem xY {fin:Bool} (v:(b&&i == 0)=true\/(b&&i == 0)=false) (h:if x=y then KatLex prog w A b fin Q r (i+1) s else Q (decide (x<y)) s):KatLex prog w A b fin Q ((.int x t,.int y u)::r) i s:=by
 refine kat_cons (wpAny_eqBool_int ?_);by_cases e:x=y
 ·rw[dy e] at h;rw[show(x == y)=true from ZS.mpr e];exact kat_yes h
 ·rw[de e] at h;rw[show(x == y)=false from ZQ.mpr e];refine kat_no ?_;rcases v with z|z
  ·rw[z];exact oneLt_int h
  ·rw[z];exact kat_one _ _ (wpAny_lt_int h)
theorem R4 (hx:T4 s.heap x a) (z:T4 s.heap y b) (h:Q (Tr a b) s):wpAny (model prog w) A (keyLt' (tuples' true) (.ref x) (.ref y)) Q E s:=by
 obtain⟨o,n,t1,t2,F,P,ho,hc,hd⟩:=hx;obtain⟨J,G,U,X,I,O,i,C,v⟩:=z;refine kat_lt ho hd i v ?_;unfold Tr at h;refine xY (.inl rfl) ?_;by_cases e1:a.1=b.1;rotate_left
 ·rw[de e1] at h⊢;exact h
 rw[dy e1] at h⊢;refine xY (.inr rfl) ?_;by_cases e2:a.2.1=b.2.1;rotate_left
 ·rw[de e2] at h⊢;exact h
 rw[dy e2] at h⊢;refine xY (.inr rfl) ?_;by_cases e3:a.2.2.1=b.2.2.1;rotate_left
 ·rw[de e3] at h⊢;exact h
 rw[dy e3] at h⊢;refine xY (.inr rfl) ?_;by_cases e4:a.2.2.2=b.2.2.2
 ·rw[dy e4];rw[e4,gk (Int.lt_irrefl _)] at h;exact kat_nil h
 ·rw[de e4];exact h
theorem S9:∀{qs:List (Addr×C4)},(∀q∈qs,T4 h q.1 q.2)->∃fs:List Value,KatTups h (qs.map fun q=>Value.ref q.1) fs/\fs.length=qs.length/\∀v∈fs,∃i t,v=Value.int i t
 | [],_=>⟨[],trivial,rfl,fun v x=>by cases x⟩
 |q::qs,hq=>by
  obtain⟨fs,y,z,C⟩:=S9 (qs:=qs) fun r hr=>hq r (.tail _ hr);obtain⟨o,n,t1,t2,F,G,ho,hc,hd⟩:=hq q (.head _);refine⟨.int q.2.1 t1::fs,KatTups.cons ho hc hd rfl y,by simp[z],fun v x=>?_⟩;rcases fy.mp x with rfl|x
  ·exact⟨_,_,rfl⟩
  ·exact C v x
theorem MU {qs:List (Addr×C4)} (C:∀q∈qs,T4 s.heap q.1 q.2) (hn:0<qs.length) (h:Q (tuples' true) s):wpAny (model prog w) A (keyKind' (qs.map fun q=>Value.ref q.1).toArray) Q E s:=by
 obtain⟨fs,y,F,x⟩:=S9 C;refine kat_kind (T:= .type "int") y (by lia) (fun v z=>?_) rfl h;obtain⟨i,t,rfl⟩:=x v z;exact Looks.of_pure rfl
end
def Za (qs:List (Addr×C4)):Prop:= ∀i a b,qs[i]?=some a->qs[i+1]?=some b->Tr b.2 a.2=false
def SS (qs i:List (Addr×C4)):Prop:=i.Perm qs/\(Za qs->i=qs)
theorem Mt {α:Type} {qs:List α} {d:α} {p:List Nat} (h:p.Perm (List.range qs.length)):(p.map fun i=>qs.getD i d).Perm qs:=by
 have e:(List.range qs.length).map (fun i=>qs.getD i d)=qs:=by
  apply List.ext_getElem (by simp);intro i x v;simp[v]
 have:=h.map (fun i=>qs.getD i d);rw[e] at this;exact this
section
mutual
def BX (K:W.Frag):List V->Hp->VK->Prop:=fun xs H Q=>match xs with
 | [.ref p]=> ∃qs:List (Addr×C4),bC K H p (qs.map fun q=>V.ref q.1)/\(∀q∈qs,c6 K H q.1 [.int q.2.1,.int q.2.2.1,.int q.2.2.2.1,.int q.2.2.2.2])/\qs.length<64/\∀l i,H l=none->SS qs i->Q (.ref l) (upd H l (.lst (i.map fun q=>V.ref q.1)))
 |_=>False
theorem DX:∀{cs:List Addr} {i:List Value},Vals (cs.map V.ref) i->i=cs.map Value.ref
 | [],_,.nil=>rfl
 |c::cs,_,.cons r rr=>by
  cases r;rw[DX rr];rfl
theorem xn:∀(cs:List Addr),Vals (cs.map V.ref) (cs.map Value.ref)
 | []=> .nil
 |c::cs=> .cons rfl (xn cs)
theorem LG {qs:List (Addr×C4)} (I:Inv X pins σ H s) (v:∀q∈qs,c6 X.K H q.1 [.int q.2.1,.int q.2.2.1,.int q.2.2.2.1,.int q.2.2.2.2]) (k:Kept s.heap h'):∀q∈qs,T4 h' q.1 q.2:=fun q y=>by
 obtain⟨ts,rt,pt,_⟩:=I.tuple (v q y);obtain⟨o,ho,hc,n,hd⟩:=pt;cases rt with
 |cons x rt=>cases rt with
  |cons r2 rt=>cases rt with
   |cons F rt=>cases rt with
    |cons z rt=>
     cases rt;obtain⟨t1,rfl⟩:=x;obtain⟨t2,rfl⟩:=r2;obtain⟨i,rfl⟩:=F;obtain⟨C,rfl⟩:=z;exact⟨o,n,t1,t2,i,C,k _ _ ho,hc,hd⟩
theorem Gx:bT X (.builtin "sorted") (BX X.K):=by
 intro pins s σ H xs us Q I rs q;unfold BX at q;split at q;rotate_left
 ·exact q.elim
 rename_i p;obtain⟨u,rfl,ru⟩:=vals1 rs;cases ru;obtain⟨qs,hS,hT,P,q⟩:=q;obtain⟨U,r,pl,hz⟩:=I.list hS;have em:(qs.map fun q=>V.ref q.1)=(qs.map (·.1)).map V.ref:=by rw[FX];rfl
 rw[em] at r;have ei:=DX r;have O:U=qs.map fun q=>Value.ref q.1:=by rw[ei,FX];rfl
 subst O;have t4:=fun y (k:Kept s.heap y)=>LG I hT k;have hsl:=gn;refine E5 (fun out=> ∃v,SS qs v/\out=v.map fun q=>Value.ref q.1) pl.isList (by rw[cz];lia) (fun _=>⟨qs,⟨List.Perm.refl _,fun _=>rfl⟩,rfl⟩) (fun J y k=>?_) (fun out y D c g _ k hD e=>?_)
 ·rw[cz] at J;have tt:=t4 y k;refine MU (s:={s with heap:=y}) tt (by lia) ⟨rfl,?_⟩;have d0:Addr×C4:=(0,0,0,0,0);have gd:∀i,i<qs.length->(qs.map fun q=>Value.ref q.1).getD i Value.none=Value.ref (qs.getD i (0,0,0,0,0)).1:=fun i x=>by simp[x]
  have hc:∀i j C,i<qs.length->j<qs.length->C (Tr (qs.getD i (0,0,0,0,0)).2 (qs.getD j (0,0,0,0,0)).2) {s with heap:=y}->kas_ask X.prog X.w X.A.in1.in1 (tuples' true) (qs.map fun q=>Value.ref q.1) i j C {s with heap:=y}:=fun i j C x hj hC=>by
   unfold kas_ask;rw[gd i x,gd j hj];have m:∀i,i<qs.length->qs.getD i (0,0,0,0,0)∈qs:=fun i x=>by simp[x]
   exact R4 (tt _ (m i x)) (tt _ (m j hj)) hC
  have ok:=RQ (n:=qs.length) (by lia);have pm:=ok.ev (fun i j=>Tr (qs.getD i (0,0,0,0,0)).2 (qs.getD j (0,0,0,0,0)).2);refine kat_run (ks:=qs.map fun q=>Value.ref q.1) (vs:=qs.map fun q=>Value.ref q.1) (Q:=fun st F=>F={s with heap:=y}/\failedOf st=none/\((arrOf st).map (·.2)).size=(qs.map fun q=>Value.ref q.1).length/\∃v,SS qs v/\((arrOf st).map (·.2)).toList=v.map fun q=>Value.ref q.1)
   (G:=fun p F=>F={s with heap:=y}/\p=Nf (fun i j=>Tr (qs.getD i (0,0,0,0,0)).2 (qs.getD j (0,0,0,0,0)).2) (kas_sort qs.length)) rfl (by rw[cz];exact J) (by rw[cz];exact P) (fun p st' F a1 a2 a3 a4=>?_) ?_
  ·obtain⟨rfl,rfl⟩:=a4;have z:=kat_snds rfl a2;refine⟨rfl,a3,by rw[Array.size_map,a2,Array.size_map,a1],(Nf (fun i j=>Tr (qs.getD i (0,0,0,0,0)).2 (qs.getD j (0,0,0,0,0)).2) (kas_sort qs.length)).toList.map (fun i=>qs.getD i (0,0,0,0,0)),⟨Mt pm,fun asc=>?_⟩,?_⟩
   ·rw[Il (by lia) (fun i x=>?_)]
    ·show(List.range qs.length).map _=qs;apply List.ext_getElem (by simp);intro i h1 J;simp[J]
    ·have g1:qs.getD i (0,0,0,0,0)=qs[i]:=by simp[show i<qs.length by lia]
     have g2:qs.getD (i+1) (0,0,0,0,0)=qs[i+1]:=by simp[x]
     rw[g1,g2];exact asc i _ _ (mu _) (mu _)
   ·rw[z];rw[FX];refine List.map_congr_left fun i x=>?_;have:i<qs.length:=L1.mp (pm.mem_iff.mp x);exact gd i this
  ·rw[cz];exact ok.wp hc ⟨rfl,rfl⟩
 ·obtain⟨v,Z,eo⟩:=g;have el:out=((v.map (·.1)).map Value.ref).toArray:=by
   apply Array.toList_inj.mp;rw[eo,FX];rfl
  subst el;have ev:(v.map fun q=>V.ref q.1)=(v.map (·.1)).map V.ref:=by rw[FX];rfl
  refine⟨.ref D,_,I.laid (a:=D) (o:= .lst (v.map fun q=>V.ref q.1)) (t':=s.toks) k hD ⟨?_,(v.map (·.1)).map Value.ref,c,?_,e⟩,rfl,q D v (I.hok.fresh hD) Z⟩
  ·rw[cz,Z.1.length_eq];lia
  ·rw[ev];exact xn _
theorem DQ (K:W.Frag) (h:X.K=K):bT X (.builtin "sorted") (BX K):=h▸Gx
theorem Nu:bootBuiltins "sorted" = some (.builtin "sorted"):=by decide+kernel
theorem Oz (ha:PE X o ta) (O:PE X (.ListComp elt gs sc cp) tv) (c:dF X.K X.mg x C) (nn:aO X.K C f):PS X (.Assign [.Attribute o f pos'] (.ListComp elt gs sc cp) pos) (Kq C f ta tv):=by
 intro i s σ H D I h;refine ZX (thn (O i s σ H _ I h) fun u s1 F=>?_) rfl;obtain⟨y,H1,Z,z,q⟩:=F;refine thn (ha i s1 σ H1 _ Z q) fun ov s2 G=>?_;obtain⟨x,H2,I2,Q,U⟩:=G;obtain⟨a,ex,dx,fs,J,l,P⟩:=Hd U;subst ex;obtain rfl:ov=Value.ref a:=Q;exact vX I2 J c.cl nn l z fun s3 v=>⟨σ,_,v,P⟩
end
end
end Lake
namespace Lake
open PySem PySem.Spec PyProof.Rows
section
open Classical in
end
def yF (K:W.Frag) (C:Addr):Prop:=W.findIn K (.ref C) "__init__" = some (some (.builtin "object.__init__"))
theorem OU {K:W.Frag} (h:W.findIn K (.ref C) "__init__" = some (some (.builtin "object.__init__"))):yF K C:=h
def Wj (C:Addr):TE:=fun _ H Q=> ∀x dx,H x=none->H dx=none->dx≠x->Q (.ref x) (upd (upd H dx (.own x)) x (.ins C dx []))
section
theorem lQ (c:dF X.K X.mg x C) (z:yF X.K C) (hg:Gl X x) (i:(x == ("__debug__":Str))=false:=by decide):PE X (.Call (.Name x p) [] [] pos) (Wj C):=by
 intro v s σ H Q I h;refine ZK (mw I hg c.U2 ?_ i);have y:=h (s.heap.objs.size+1) s.heap.objs.size (I.hok.fresh (vr _)) (I.hok.fresh (cv _)) (kv (Nat.lt_succ_self _));have F:=Inv.made (C:=C) I;refine W.callWith_K0 (first:=[]) I.nO c.kp (aar (MM I.nO c.mks z (fun self=>W.Looks.of_pure (W.oi_bind self)) ?_))
 have Y:=W.makes_of (M:=model X.prog X.w) I.nO c.mks;have hx:((s.heap.push W.emptyDict).push (W.instObj C s.heap.objs.size)).get? (s.heap.objs.size+1)=some (W.instObj C s.heap.objs.size):=by heap_get
 have t1:W.Looks (model X.prog X.w) ((s.heap.push W.emptyDict).push (W.instObj C s.heap.objs.size)) (typeOf (.ref (s.heap.objs.size+1))) (.ref C):=(W.Looks.ld hx).andThen .now;have t2:W.Looks (model X.prog X.w) ((s.heap.push W.emptyDict).push (W.instObj C s.heap.objs.size)) (isInstance (.ref (s.heap.objs.size+1)) (.type "object")) true:=t1.andThen (Y.top.keeps fun b o e=>ej _ (ej _ e));refine Z8 W.oi_plain W.entry_oi (@W.check_slot (model X.prog X.w) _ _ _ "object.__init__" "object" "__init__" (.ref (s.heap.objs.size+1)) [] [] _ W.oi_kind W.oi_split t2 (W.oi_args (.ref (s.heap.objs.size+1))) ?_);rw[W.oi_run];exact fg (And.intro rfl ⟨.ref _,_,F,rfl,y⟩)
def DT (P:Program) (w:World) (K:W.Frag) (mg:Str->Option Value) (base:Heap) (CX:IL) (m:Str) (n:Nat) (sp:Sp):Prop:= ∀x H Q E,sp [x] H Q E->
 ∃a C dx fs k v i,x = .ref a/\H a=some (.ins C dx fs)/\fs.lookup m=none/\k<=n/\TX K C/\yG P w K mg base CX C m k v i/\i [.ref a] H Q E
def NJ (sp:Sp) (E:XK) (v:TE):TE:=fun σ H Q=>v σ H fun x i=>sp [x] i Q E
theorem KN (he:PE X o ta) (G:DT X.prog X.w X.K X.mg X.base CX m k sp) (hr:dC n X.A) (hk:k<=n) (hp:Passes CX X E) (ht:eval (.Call (.Attribute o m apos) [] [] pos) X.env=(do
   let ov<-eval o X.env
   standAt apos.atName
   let (f,first)<-holding [ov] (getMethod ov m pl)
   callWith pos f first (backTo pos (starEach [] X.env)) (backToKw pos (keywordEach [] X.env)))):
  PE X (.Call (.Attribute o m apos) [] [] pos) (NJ sp E ta):=by
 intro i s σ H Q I h;refine aaB (pl:=pl) (gQ (he i s σ H _ I h) fun u s1 x H1 y J q=>?_) ht;obtain⟨a,C,dx,fs,P,Z,O,rfl,z,l,v,c,⟨f,U,F,hm,b⟩,q⟩:=G _ _ _ _ q;obtain rfl:u=Value.ref a:=J;refine m7 y z c hm l ?_;exact W.callWith_K0 (first:=[.ref a]) y.nO hm.kp (Fb (us:=[.ref a]) (vs:=[.ref a]) F (hr.mono (h7 v hk)) b .nil hp y (.cons rfl .nil) q)
theorem wy [Quiet CX] (he:PE X o ta) (G:DT X.prog X.w X.K X.mg X.base CX m k sp) (hr:dC n X.A) (hk:k<=n) (ht:eval (.Call (.Attribute o m apos) [] [] pos) X.env=(do
   let ov<-eval o X.env
   standAt apos.atName
   let (f,first)<-holding [ov] (getMethod ov m pl)
   callWith pos f first (backTo pos (starEach [] X.env)) (backToKw pos (keywordEach [] X.env))):=by rfl):
  PE X (.Call (.Attribute o m apos) [] [] pos) (NJ sp E0 ta):=KN he G hr hk (Quiet.pass X) ht
theorem KO (he:PE X o ta) (G:DT X.prog X.w X.K X.mg X.base (IH X.prog X.w) m k sp) (hr:dC n X.A) (hk:k<=n) (i:Rz X E) (hex:X.ex= []) (ht:eval (.Call (.Attribute o m apos) [] [] pos) X.env=(do
   let ov<-eval o X.env
   standAt apos.atName
   let (f,first)<-holding [ov] (getMethod ov m pl)
   callWith pos f first (backTo pos (starEach [] X.env)) (backToKw pos (keywordEach [] X.env))):=by rfl):
  PE X (.Call (.Attribute o m apos) [] [] pos) (NJ sp E ta):=KN he G hr hk (i.passes hex) ht
end
structure Y7 (K:W.Frag) (D:Addr):Prop where
 hg:W.plainGet K D "__class__" = true
 hd:W.hasDictIn K D=true
 ha:W.findIn K (.ref D) "__class__" = some (some (.builtin "object.__class__"))
 hn:W.specialIn K (.builtin "object.__class__") "__get__" = some (some (.builtin "getset_descriptor.__get__"))
 htk:W.takesIn K (.builtin "object.__class__")=some true
 hm:W.mroIn K D (.type "object")=some true
theorem Yk {K:W.Frag} (a:W.plainGet K D "__class__" = true) (b:W.hasDictIn K D=true) (c:W.findIn K (.ref D) "__class__" = some (some (.builtin "object.__class__"))) (d:W.specialIn K (.builtin "object.__class__") "__get__" = some (some (.builtin "getset_descriptor.__get__"))) (e:W.takesIn K (.builtin "object.__class__")=some true) (f:W.mroIn K D (.type "object")=some true):Y7 K D:=⟨a,b,c,d,e,f⟩
section
theorem Uh {K:W.Frag} (X:K.In s.heap) (hx:s.heap.get? x=some ⟨.ref C,some dx,.fields vs,#[]⟩) (hn:s.heap.Ns1 dx m) (hw:PySem.Within m ns) (hl:ns.length<1000) (hc:W.clsIn K C=some cd) (hm:cd.mro = .ref C :: .ref R::EW) (hd:cd.hasDict=true) (hs:W.findIn K (.ref C) "__setattr__" = some (some (.builtin "object.__setattr__"))) (ha:W.findIn K (.ref C) name=some none) (h:∀i t',i.Ns1 dx (fun y=>if y=name then some v else m y)->(∀b o,b≠dx->s.heap.get? b=some o->i.get? b=some o)->Q () {s with heap:=i,toks:=t'}):
  wpAny (model prog w) A (setAttr (.ref x) name v) Q E s:=by
 obtain⟨od,es,ep,G,_⟩:=id hn;have I:W.InstAt s.heap x ⟨.ref C,some dx,.fields vs,#[]⟩ C (some od):=⟨hx,rfl,rfl,G⟩;have F:=PySem.F.store_object;have lc:W.Looks (model prog w) s.heap (classData C) cd:=W.looks_clsIn X hc;have sub:W.Looks (model prog w) s.heap (isInstance (.ref x) (.type "object")) true:=I.type.andThen (aac X (by unfold W.mroIn;rw[hc,Option.bind_some,hm];rfl));have mro:W.Looks (model prog w) s.heap (mroOf (.ref C)) cd.mro:=lc.andThen .now;refine W.set_plain X I hs ?_;refine Z8 F.slot.plain F.entry ?_;refine @W.check_slot (model prog w) _ _ {s with toks:=s.toks+1} "object.__setattr__" "object" "__setattr__" (.ref x) [.str name s.toks,v] [] _ F.kind F.split sub (F.args (.ref x) (.str name s.toks) v) ?_;rw[W.osa_eq,refuse_eq];refine c8 (c8 (I.type.here (s:={s with toks:=s.toks+1}) (c8 (mro.here (s:={s with toks:=s.toks+1}) ?_))));rw[hm,refuseLoop_ref,refuseLoop_ref,PySem.F.store_ValueError.passes];refine fg (c8 (I.type.here (s:={s with toks:=s.toks+1}) (c8 ((Z_ X ha).here (s:={s with toks:=s.toks+1}) (c8 (fg ?_))))));refine c8 (fg (c8 (c8 (aaI (s:={s with toks:=s.toks+1}) hx (c8 (lc.here (s:={s with toks:=s.toks+1}) ?_))))));rw[hd,de (by decide)];refine fg ?_;show wpAny _ _ (Builtin.ObjectAttr.storeInDict dx (.str name s.toks) name v) _ _ _;unfold Builtin.ObjectAttr.storeInDict Builtin.ObjectAttr.newKeyGuard;refine c8 (fg (c8 (wpAny_nsSet1 (s:={s with toks:=s.toks+1}) hn fun i P sb=>?_)));obtain⟨oD,Z,epD,z,J,O⟩:=P.count (PySem.Within.cons name v hw);refine c8 (wpAny_lookBehind z (by rw[J];exact pastItsLine_dict (h7 O (by rw[nS,gn];lia))) ?_);exact fg (h i _ P fun b o ne U=>(sb.2 b ne).trans U)
end
section
theorem HG:∀{fs:List (Str×V)} {g:Str} {y:V},fs.lookup g=some y->g∈fs.map (·.1)
 | [],_,_,h=>by cases h
 |(k,z)::fs,g,y,h=>by
  simp only[List.lookup] at h;split at h
  ·rename_i e;rw[ZS.mp e];exact ZG
  ·exact sh _ (HG h)
theorem HH:∀{fs:List (Str×V)} {f g:Str} {y:V},fs.lookup f=none->(fs++ [(f,y)]).lookup g=if g=f then some y else fs.lookup g
 | [],f,g,y,_=>by
  show List.lookup g [(f,y)]=_;by_cases c:g=f
  ·rw[dy c,c];simp[List.lookup]
  ·have:(g == f)=false:=ZQ.mpr c;rw[de c];simp[List.lookup,this]
 |(k,z)::fs,f,g,y,h=>by
  simp only[List.lookup] at h;split at h
  ·cases h
  ·rename_i e;have i:=HH (g:=g) (y:=y) h;show List.lookup g ((k,z)::(fs++ [(f,y)]))=_;simp only[List.lookup];split
   ·rename_i e2;have:g≠f:=fun q=>by
     rw[<-q,e2] at e;cases e
    rw[de this]
   ·exact i
theorem Inv.Wm {v:Str->Option Value} (I:Inv X pins σ H s) (x:H dx=some (.xd fs)) (hf:fs.lookup f=none) (hr:∀g,rE (fs.lookup g) (v g)) (hn:C.Ns1 dx (fun z=>if z=f then some u else v z)) (k:∀b o,b≠dx->s.heap.get? b=some o->C.get? b=some o) (F:RelV y u):
  Inv X pins σ (upd H dx (.xd (fs++ [(f,y)]))) {s with heap:=C,toks:=t'}:=by
 have ne:∀{b:Addr} {o:HO},H b=some o->(∀G,o≠ .xd G)->b≠dx:=fun{b o} q n z=>by
  subst z;rw[x] at q;injection q with q;exact n _ q.symm
 have fr:∀b,H b=none->b≠dx:=fun b q z=>by rw[z,x] at q;cases q
 obtain⟨od,_,_,i,_⟩:=id hn;refine I.un (t':=t') ⟨fun b o q n _ _=>k b o (fr b n) q,fun b o q n _ _=>⟨o.slots,k b o (fr b n) q⟩,fun b o q n _=>?_,fun b o q _=>?_,fun b xs q=>?_,fun b o u q=>?_,fun b J q=>⟨#[],?_⟩⟩ fun b o q=>?_
 ·rw[ag (fr b n)];exact n
 ·by_cases z:b=dx
  ·exact⟨_,z▸i⟩
  ·exact⟨o,k b o z q⟩
 ·rw[ag (ne q (by simp))];exact q
 ·rw[ag (ne q (by simp))];exact q
 ·rw[ag (ne q (by simp)),q];simp
 ·by_cases z:b=dx
  ·subst z;rw[aa] at q;cases q;refine⟨_,hn,fun g=>?_⟩;rw[HH hf];by_cases c:g=f
   ·rw[dy c,dy c];exact F
   ·rw[de c,de c];exact hr g
  ·rw[ag z] at q;refine(I.hok b o q).stay (fun c u hc g=>?_) (fun c g=>by rw[ag (ne g (by simp))];exact g) fun c xs g=>by rw[ag (ne g (by simp))];exact g
   rcases hc with r|r
   ·exact k c u (r▸z) g
   ·exact k c u (ne r (by simp)) g
end
def NX (C:Addr) (F z:TE) (f:Str):TS:=fun D σ H=>z σ H fun y v=>F σ v fun x i=> ∃e,x = .ref e/\∃dx fs,i e=some (.ext (vA e C (some dx)))/\i dx=some (.xd fs)/\fs.lookup f=none/\fs.length<1000/\D.nx σ (upd i dx (.xd (fs++ [(f,y)])))
section
theorem Oy (c:VX X.K X.mg x C R) (m:C_ X.K C f) (ha:PE X o ta) (J:PE X value tv) (hs:autoParam (lW value=false) qqr):PS X (.Assign [.Attribute o f pos'] value pos) (NX C ta tv f):=by
 intro i s σ H D I h;obtain⟨ini,c⟩:=c;obtain⟨cd,hc,hm,hd⟩:=c.cd;refine ZX (gQ (J i s σ H _ I h) fun u s1 y H1 Z F q=>thn (ha i s1 σ H1 _ Z q) fun ov s2 ⟨x,H2,v,U,e,ex,dx,fs,O,z,hf,hl,Q⟩=>?_) (mE hs);subst ex;obtain rfl:ov=Value.ref e:=U;obtain⟨⟨vs,he,v1,v2⟩,_⟩:=v.hok e _ O;obtain⟨mA,hn,hr⟩:=(show dZ X.prog X.w H2 s2.heap dx (.xd fs) from v.hok dx _ z);refine Uh v.nO he hn (ns:=fs.map (·.1)) (fun g hg=>?_) (by rw[cz];exact hl) hc hm hd m.sa m.no fun h' t' P G=>⟨σ,_,v.Wm z hf hr P G F,Q⟩;have:=hr g;cases e1:fs.lookup g with
 |some y=>exact HG e1
 |none=>
  rw[e1] at this;exact absurd (rE.none_of this) hg
end
theorem qex (h:SR X l t) (z:t D σ H):∃t,Br X l t/\t D σ H:=⟨t,h.h,z⟩
def Zq (K:W.Frag) (C:Addr) (v:TS) (x:TH):TH:=fun D σ cls dx H=>Nv (isx K cls C) (∀i,H i=none->v D σ (upd H i (.ext (xk i cls dx)))) (x D σ cls dx H)
section
theorem KP (he:PE X o ta) (c:dF X.K X.mg x C) (G:yG X.prog X.w X.K X.mg X.base CX C m k ps sp) (hr:dC n X.A) (hk:k<=n) (hx:IE CX X σ0 E) (ht:eval (.Call (.Attribute o m apos) [] [] pos) X.env=(do
   let ov<-eval o X.env
   standAt apos.atName
   let (f,first)<-holding [ov] (getMethod ov m pl)
   callWith pos f first (backTo pos (starEach [] X.env)) (backToKw pos (keywordEach [] X.env))):=by rfl):
  PE X (.Call (.Attribute o m apos) [] [] pos) (T9 σ0 C m sp E ta yM):=by
 obtain⟨f,O,F,hm,b⟩:=G;intro v s σ H Q I ⟨hσ,h⟩;subst hσ;refine aaB (gQ (he _ s σ H _ I h) fun u s1 x P i z J=>?_) ht;obtain⟨a,ex,dx,fs,y,l,q⟩:=Ff J;subst ex;obtain rfl:u=Value.ref a:=z;refine m7 i y c.cl hm l ?_;exact W.callWith_K0 i.nO hm.kp (E_ (vs:=[.ref a]) F (hr.mono hk) b hx i (.cons rfl .nil) q)
end
section
variable {St:Nat->Heap->Prop}
theorem BD:(toString "max" ++toString ".loop" : String) = "max.loop" :=by decide
theorem OV (d:Value) (W:Walks prog w A.in1 I fp wr n P St) (bt:Nat->Nat->Bool) (X:CmpOf prog w A.in1 .Gt P bt) (S:Addr) (hSf:S ∉ fp) (k:Nat):
  ∀(j:Nat) (s:Shared) (best:Value) (c:Nat),n=j+1+k->St (j+1) s.heap->P (argBest bt j) best->s.heap.get? S=some ⟨.type "list",none,.seq #[best,best] c,#[]⟩->
  (∀v h' tk,P (argBest bt (n-1)) v->(∀b o,b ∉ wr->b≠S->s.heap.get? b=some o->h'.get? b=some o)->R (.ok (.ret v)) {s with heap:=h',toks:=tk})->
  codeAny (model prog w) A (.builtin "max.loop" ⟨[.ref I,.none,.ref S],[("default",d)]⟩) R s:=by
 have Z:S ∉ wr:=fun h=>hSf (W.sub _ h)
 induction k with
 |zero=>
  intro j s best c hn G hb hS hR;subst hn;refine codeAny_builtin F.entry_max_loop ?_;rw[Around.under_plainId Z3 _];refine c8 (m:=seqItems? (.ref S)) (aaJ hS rfl ?_);refine c8 (aaK (W.done s _ _ G fun h' tk y=>?_));refine c8 (m:=updateSeq S fun _=>#[]) (wpAny_updateSeq (y S _ Z hS) rfl (c8 (wpAny_letGo (fg ?_))));exact hR best _ tk hb fun b o i x e=>(n8 _ _ (L3 x)).trans (y b o i e)
 |succ k ih=>
  intro j s best c hn G hb hS hR;refine codeAny_builtin F.entry_max_loop ?_;rw[Around.under_plainId Z3 _];refine c8 (m:=seqItems? (.ref S)) (aaJ hS rfl ?_);refine c8 (aaK (W.item (j+1) s _ _ (by lia) G fun v h' tk hP C y=>?_));have U:=y S _ Z hS;refine c8 (fg ?_);refine c8 (aaK (Z0 (c8 (m:=richCompare .Gt v best) (X (j+1) (argBest bt j) v best _ _ _ hP hb ?_))));refine c8 (Z0 (ZC ?_));refine c8 (wpAny_letGo (fg ?_));cases e:bt (j+1) (argBest bt j) with
  |true=>
   rw[dy rfl];refine c8 (wpAny_updateSeq U rfl (c8 (wpAny_letGo ?_)));rw[BD];refine fg ⟨plainId_quiet Z3 _,ih (j+1) _ v _ (by lia) (W.frame _ _ _ C fun b hbf o q=>?_) (by rw[argBest,e,dy rfl];exact hP) (ZW _ U rfl) fun v' h2 J Q O=>?_⟩
   ·exact(n8 _ _ (fun z:S=b=>hSf (by rw[z];exact hbf))).trans q
   ·exact hR v' h2 J Q fun b o i x q=>O b o i x ((n8 _ _ (L3 x)).trans (y b o i q))
  |false=>
   rw[de Z4];refine c8 (wpAny_letGo ?_);rw[BD];refine fg ⟨plainId_quiet Z3 _,ih (j+1) _ best c (by lia) C (by rw[argBest,e,de Z4];exact hb) U fun v' h2 J Q O=>?_⟩;exact hR v' h2 J Q fun b o i x q=>O b o i x (y b o i q)
theorem ME (d:Value) (W:Walks prog w A.in1 I fp wr n P St) (bt:Nat->Nat->Bool) (C:CmpOf prog w A.in1 .Gt P bt) (S:Addr) (y:S ∉ fp) (G:St 0 s.heap) (hS:s.heap.get? S=some ⟨.type "list",none,.seq #[] c,#[]⟩) (hR:∀v Q tk,(n=0/\v=d\/0<n/\P (argBest bt (n-1)) v)->(∀b o,b ∉ wr->b≠S->s.heap.get? b=some o->Q.get? b=some o)->R (.ok (.ret v)) {s with heap:=Q,toks:=tk}):
  codeAny (model prog w) A (.builtin "max.loop" ⟨[.ref I,.none,.ref S],[("default",d)]⟩) R s:=by
 have Z:S ∉ wr:=fun h=>y (W.sub _ h);refine codeAny_builtin F.entry_max_loop ?_;rw[Around.under_plainId Z3 _];refine c8 (m:=seqItems? (.ref S)) (aaJ hS rfl ?_);by_cases hn:n=0
 ·subst hn;refine c8 (aaK (W.done s _ _ G fun Q tk x=>?_));refine c8 (wpAny_rule (fg ?_));exact hR d Q tk (.inl ⟨rfl,rfl⟩) fun b o i _ e=>x b o i e
 ·refine c8 (aaK (W.item 0 s _ _ (by omega) G fun v Q tk hP O x=>?_));have U:=x S _ Z hS;refine c8 (fg ?_);refine c8 (m:=updateSeq S fun _=>#[v,v]) (wpAny_updateSeq U rfl ?_);rw[BD];refine fg ⟨plainId_quiet Z3 _,OV d W bt C S y (n-1) 0 _ v _ (by omega) (W.frame _ _ _ O fun b X o q=>?_) hP (ZW _ U rfl) fun v' h2 tk2 hP' hk2=>?_⟩
  ·exact(n8 _ _ (fun z:S=b=>y (by rw[z];exact X))).trans q
  ·exact hR v' h2 tk2 (.inr ⟨by omega,hP'⟩) fun b o i J q=>hk2 b o i J ((n8 _ _ (L3 J)).trans (x b o i q))
end
section
theorem OX (a v:Value):argsOk "max" ⟨[a],[(Str.ofString "default",v)]⟩:=by unfold argsOk;kernel_rfl
theorem OW (hh:A.handled=none) (hl:s.heap.IsList l (intItems xs)) (h:∀v x tk,(xs.size=0/\v=d\/0<xs.size/\(intItems xs)[argBest (fun i j=>decide (numAt xs i > numAt xs j)) (xs.size-1)]?=some v)->(∀b o,s.heap.get? b=some o->x.get? b=some o)->Q v {s with heap:=x,toks:=tk}):
  wpAny (model prog w) A (call (.builtin "max") [.ref l] [(Str.ofString "default",d)]) Q E s:=by
 refine kmb_tree F.kind_max F.plain_max F.entry_max (OX _ _) ?_;refine c8 (wpAny_of_eq (show Builtin.Builtins.bindParams "max" ["key","default"] 0 ⟨[],[(Str.ofString "default",d)]⟩=pure [none,some d] from rfl) ?_);refine c8 (fg ?_);refine c8 (iter_intList hl fun G e st z y=>?_);subst e;refine c8 (aaL ?_);rw[BD];have W:=Walks.list (prog:=prog) (w:=w) (A:=A.in1) hh _ l y (intItems xs);have hsz:(intItems xs).size=xs.size:=by simp[intItems]
 refine fg ⟨plainId_quiet Z3 _,ME d W (fun i j=>decide (numAt xs i > numAt xs j)) (CmpOf.ints_gt (numAt xs) (fun _ _=>intItems_at)) _ (fun hm=>Z7 _ (z _ hm)) (W.frame _ _ _ st fun b _ o q=>ej _ q) (ke _ rfl) fun v x tk C hk=>?_⟩;rw[hsz] at C;refine h v x tk C (old_kept (l:=l) fun b o I q=>?_);exact hk b o I (kv (h6 q)) (ej _ q)
end
def Kv (K:W.Frag):List V->List V->Hp->VK->Prop:=fun vs ds H Q=>match vs,ds with
 | [.ref p],[d]=> ∃ns:List Int,bC K H p (ns.map V.int)/\(ns= []->Q d H)/\(0<ns.length->∀M,M∈ns->(∀a,a∈ns->a<=M)->Q (.int M) H)
 |_,_=>False
def Td (K:W.Frag) (t td:TA):TE:=fun σ H Q=>t σ H fun vs i=>td σ i fun ds v=>Kv K vs ds v Q
theorem L9 {K:W.Frag}:Kv K [.ref p] [d] H Q= ∃ns:List Int,bC K H p (ns.map V.int)/\(ns= []->Q d H)/\(0<ns.length->∀M,M∈ns->(∀a,a∈ns->a<=M)->Q (.int M) H):=rfl
section
theorem Ry (K:W.Frag) (hK:X.K=K) (hc:X.calm=true) (hg:Gl X "max") (hm:X.mg "max" = none) (ha:PA X [e] t) (hd:PE X d td) (hs:autoParam (isStar e=false) qqr):
  PE X (.Call (.Name "max" p) [e] [⟨some "default",d,kp⟩] pos) (Td K t (rG td yM)):=by
 subst hK;intro i s σ H Q I h;refine ZK (ri I hg hm z0 ?_);refine callWith_kw (gQ (ha pos i s σ H _ I h) fun us s1 vs H1 I1 O q1=>gQ (Rn hd Uz pos i s1 σ H1 _ I1 q1) fun ws s2 ds G C r2 y=>?_) (by rw[cO hs];rfl) (by rw[cO hs];rfl);replace y:Kv X.K vs ds G Q:=y;unfold Kv at y;split at y
 ·rename_i p d;obtain⟨ns,Z,k1,k2⟩:=y;obtain⟨u,rfl,U⟩:=vals1 O;cases U;obtain⟨dv,rfl,rd⟩:=vals1 r2;obtain⟨its,r,pl,hz⟩:=C.list Z;have J:=Cu r;have hl:=pl.isList;obtain⟨xs,e⟩:=J.allInts.items;have x:ns=xs.toList.map (·.1):=by rw[<-J.numsOf,<-nums_intItems,<-e]
  have hsz:ns.length=xs.size:=by rw[x,cz,Z1]
  rw[e] at hl;refine OW (C.ok.hd hc) hl fun v h' tk F hk=>?_;rcases F with⟨z,rfl⟩|⟨z,F⟩
  ·exact⟨d,G,C.kept (t':=tk) hk,rd,k1 (List.length_eq_zero_iff.mp (by lia))⟩
  ·obtain⟨t,rfl⟩:=intItems_at F;obtain⟨h1,P⟩:=argBest_gt (numAt xs) (xs.size-1);refine⟨.int _,G,C.kept (t':=tk) hk,⟨t,rfl⟩,k2 (by lia) _ ?_ fun a ha=>?_⟩
   ·rw[x,numAt_eq];exact getD_mem (by rw[cz,Z1];lia)
   ·rw[x] at ha;obtain⟨j,hj,rfl⟩:=mem_getD ha;rw[cz,Z1] at hj;rw[<-numAt_eq];exact P j (by lia)
 ·exact y.elim
end
noncomputable def anyS:List (Option Bool)->Option Bool
 | []=>some false
 |some true::_=>some true
 |some false::r=>anyS r
 |none::_=>none
structure Wc (K:W.Frag) (C:Addr):Prop where
 ty:W.typeIn K (.ref C)=some (.type "type")
 ex:W.mroIn K C (.type "BaseException")=some true
theorem C9.c {K:W.Frag} (m:C9 K mg x C):Wc K C:=⟨m.ty,m.ex⟩
section
variable {K:W.Frag}
theorem Wc.exc (m:Wc K C) (X:K.In s.heap) (h:Q true s):wpAny (model prog w) A (isExcClass (.ref C)) Q E s:=by
 have i:W.Looks (model prog w) _ _ _:=aac X m.ex;have Lake:W.Looks (model prog w) s.heap (isType (.ref C)) true:=by
  have z:=m.ex;obtain⟨cd,hc,_⟩:=Option.bind_eq_some_iff.mp z;unfold W.clsIn at hc;split at hc
  ·rename_i ho;intro F y v x k q;exact c8 (aaI (k _ _ (X _ _ ho)) (fg q))
  ·cases hc
 refine c8 (Lake.here ?_);exact i.here h
theorem MX {s:Shared} (X:K.In s.heap) (i:isx K cls C=some b):W.Looks (model prog w) s.heap (isSubtype cls (.ref C)) b:=by
 unfold isx at i;split at i
 ·exact aac X i
 ·cases i
theorem La {g:Value->Sem (ForInStep PUnit)} (X:K.In s.heap):∀{Cs:List Addr},(∀C∈Cs,Wc K C)->Q ⟨⟩ s->
  wpAny (model prog w) A (forIn (Cs.map Value.ref) PUnit.unit fun c _=>isExcClass c >>= fun y=>if(!y)=true then g c else pure (ForInStep.yield PUnit.unit)) Q E s
 | [],_,h=>by
  exact fg h
 |C::Cs,hm,h=>by
  rw[K5,aaA];refine c8 (c8 ((hm C (ZG ..)).exc X ?_));refine fg ?_;exact La X (fun D hD=>hm D (sh _ hD)) h
theorem Kk (X:K.In s.heap):∀{Cs:List Addr},anyS (Cs.map (isx K cls))=some b->Q (if b then some true else none,()) s->
  wpAny (model prog w) A (forIn (Cs.map Value.ref) ((none,()):Option Bool×Unit) fun c _=>isSubtype cls c >>= fun y=>if y=true then pure (ForInStep.done (some true,())) else pure (ForInStep.yield (none,()))) Q E s
 | [],e,h=>by
  cases e;exact fg h
 |C::Cs,e,h=>by
  rw[K5] at e;rw[K5,aaA];cases e1:isx K _ C with
  |none=>rw[e1] at e;cases e
  |some c=>
   rw[e1] at e;refine c8 (c8 ((MX X e1).here ?_));cases c with
   |true=>
    cases e;exact fg (fg h)
   |false=>
    refine fg ?_;exact Kk X e h
theorem Qt {Cs:List Addr} (X:K.In s.heap) (he:s.heap.get? e=some oe) (ht:s.heap.get? t=some ⟨.type "tuple",none,.seq (Cs.map Value.ref).toArray n,#[]⟩) (hm:∀C∈Cs,Wc K C) (x:anyS (Cs.map (isx K oe.cls))=some b) (h:Q b s):
  wpAny (model prog w) A (excMatches (.ref e) (.ref t)) Q E s:=by
 have i:W.Looks (model prog w) s.heap (isInstance (.ref t) (.type "tuple")) true:=((W.Looks.ld ht).andThen .now).andThen (W.Looks.of_pure (rfl));have v:W.Looks (model prog w) s.heap (typeOf (.ref e)) oe.cls:=(W.Looks.ld he).andThen .now;refine c8 (i.here ?_);refine c8 (aaJ ht rfl ?_);refine c8 (fg ?_);refine c8 ?_;refine La (Cs:=Cs) X hm ?_;refine c8 (v.here ?_);refine c8 (Kk (Cs:=Cs) X x ?_);cases b with
 |true=>exact fg h
 |false=>exact fg h
end
def Yt (X:Cx) (es:List Expr) (Cs:List Addr):Prop:=(∀C∈Cs,Wc X.K C)/\∀(e:Value) (pos:Pos) (i:List (Addr×Obj)) (s:Shared) (σ:St) (H:Hp) (Q:List Value->Shared->Prop) (E:Value->Shared->Prop),
 Inv (X.hand e) i σ H s->Q (Cs.map Value.ref) s->wpAny (model X.prog X.w) (X.hand e).A (spliced (backTo pos (starEach es X.env))) Q E s
section
theorem U0:Yt X [] []:=⟨(fun _ h=>nomatch h),fun _ _ _ _ _ _ _ _ _ h=>Calls.spliced_nil h⟩
theorem FT (m:C9 X.K X.mg x C) (hg:Gl X x) (hr:Yt X es Cs) (i:(x == ("__debug__":Str))=false:=by decide):Yt X (.Name x np::es) (C::Cs):=by
 refine⟨fun D hD=>?_,fun e pos v s σ H Q E I h=>?_⟩
 ·rcases fy.mp hD with rfl|hD
  ·exact m.c
  ·exact hr.1 D hD
 ·refine Calls.spliced_cons (mw I hg m.U2 ?_ i);exact hr.2 e _ _ s σ H _ E I h
def Zf (K:W.Frag) (Cs:List Addr) (v:TS) (x:TH):TH:=fun D σ cls dx H=> ∀t,H t=none->Nv (anyS (Cs.map (isx K cls))) (∀i,upd H t (.tup (Cs.map V.ref)) i=none->v D σ (upd (upd H t (.tup (Cs.map V.ref))) i (.ext (xk i cls dx)))) (x D σ cls dx (upd H t (.tup (Cs.map V.ref))))
theorem NG (h:a≠b):upd (upd H a o) b u=upd (upd H b u) a o:=by
 funext c;by_cases i:c=b
 ·subst i;rw[aa,ag (L3 h),aa]
 ·rw[ag i];by_cases v:c=a
  ·subst v;rw[aa,aa]
  ·rw[ag v,ag v,ag i]
theorem D7:∀{Cs:List Addr},Vals (Cs.map V.ref) (Cs.map Value.ref)
 | []=> .nil
 |_::_=> .cons rfl D7
theorem UB {X:Cx} {K:W.Frag} {es:List Expr} {Cs:List Addr} {j:_} {np pos:Pos} {x:Stmt} {body:List Stmt} {rest:List ExceptHandler} {th:TS} {tr:TH} (hK:X.K=K) (hn:Yt X es Cs) (hz:Cs.length<=100)
  (hs:∀e,Br (X.hand e) (x::body) th) (hr:PH X rest tr):PH X (.ExceptHandler (some (.Tuple es j np)) none (x::body) pos::rest) (Zf K Cs th tr):=by
 subst hK;intro pins s σ H D F cls dx T I hx hH h;have ok:=I.ok;have Ih:Inv (X.hand (.ref F)) _ σ _ s:=I.hand;obtain⟨oe,vs,he,hc,Z⟩:=id hx;have hsz:Cs.length<=sizeLine:=by rw[gn];lia
 have C:=h6 he;have nt:=aal C;have fr:=I.hok.fresh (cv _);have frH:=by rw[ag nt] at fr;exact fr
 refine wpAny_handleBy_cons (codeAny_handlers_test (wpAny_Tuple_spliced (hn.2 _ _ _ s σ _ _ _ Ih ⟨by simp_all,?_⟩))) (by intro q;cases q);have kp:∀b u,s.heap.get? b=some u->(s.heap.push {cls:= .type "tuple",data:= .seq (Cs.map Value.ref).toArray}).get? b=some u:=fun b u e=>ej _ e;have O:Inv X _ σ (upd _ _ (.tup _)) {s with heap:=s.heap.push _,toks:=s.toks}:=
  I.laid kp (cv _) ⟨by simp_all,_,D7,⟨_,ke _ rfl,rfl,_,rfl⟩⟩
 rw[NG (L3 nt)] at O;have J:Qj (s.heap.push {cls:= .type "tuple",data:= .seq (Cs.map Value.ref).toArray}) F cls dx (some T):=by
  obtain⟨P,Q,hs1,hv,hT,oT,ts,h1,h2,h3⟩:=Z;exact⟨oe,vs,kp _ _ he,hc,P,Q,hs1,hv,hT,oT,ts,kp _ _ h1,h2,h3⟩
 have G:upd H s.heap.objs.size (.tup (Cs.map V.ref)) F=none:=by rw[ag (L3 nt)];exact hH
 replace h:=h _ frH;cases U:anyS _ with
 |none=>rw[U] at h;exact h.elim
 |some b=>
  rw[U] at h;refine Qt O.nO (kp _ _ he) (ke _ rfl) hn.1 (by rw[hc];exact U) ?_;cases b with
  |false=>exact hr _ _ σ _ D F _ dx T O J G h
  |true=>
   have Ih1:Inv (X.hand (.ref F)) _ σ _ _:=O.hand;refine codeAny_handlers_suite (HV J ?_);refine z4 (hs _ _ _ _ _ _ Ih1 (h F G)) (fun f s2 q=>?_) fun _ _ z=>z.elim;cases f with
   |next=>obtain⟨i,H',y,q⟩:=q;exact⟨i,H',y.unhand ok,q⟩
   |brk=>obtain⟨i,H',y,q⟩:=q;exact⟨i,H',y.unhand ok,q⟩
   |cont=>obtain⟨i,H',y,q⟩:=q;exact⟨i,H',y.unhand ok,q⟩
   |ret u=>obtain⟨v,i,H',y,r,q⟩:=q;exact⟨v,i,H',y.unhand ok,r,q⟩
end
theorem VU {os:List (Option Bool)}:anyS (some true::os)=some true:=rfl
theorem VV {os:List (Option Bool)}:anyS (some false::os)=anyS os:=rfl
theorem SH {K:W.Frag} (U:c6 K H a xs) (P:xs.length<=sizeLine) (Pv:Nat->List V->St->Hp->Prop) (G:Pv 0 [] σ H) (hl:∀i ys σ H,Pv i ys σ H->ys.length<=i) (hk:∀i ys σ H,Pv i ys σ H->c6 K H a xs) (step:∀(i:Nat) x ys σ H,xs[i]?=some x->Pv i ys σ H->g x σ H fun v z=>tt v z fun b C=>if b=true then te v C fun y I=>Pv (i+1) (ys++ [y]) v I else Pv (i+1) ys v C) (q:∀ys σ H,Pv xs.length ys σ H->Q ys H):xA K (.ref a) H fun J z=>mh J g tt te σ z Q:=by
 refine .inr ⟨xs,U,J6 (n:=xs.length) Pv G P hl (fun i ys σ H F hp=>⟨xs,xs[i],hk _ _ _ _ hp,by simp[F]⟩) (fun ys σ H hp=>⟨xs,hk _ _ _ _ hp,cv _⟩) (fun i ys σ H x O F hp y=>?_) q⟩;obtain⟨e,hx⟩:=y;subst e;exact step i x ys σ _ (hx xs (hk _ _ _ _ hp)) hp
section
open Classical in
end
end Lake
namespace Lake
open PySem PySem.Spec PyProof.Rows
open Builtin Builtin.Str
end Lake
namespace Lake
open PySem PySem.Spec PyProof.Rows
def Ks:List V->Hp->VK->Prop:=fun xs H Q=>match xs with
 | [.int i]=>i.natAbs.log2<1920/\Q (.str (toString i)) H
 | [.str z]=>Q (.str z) H
 |_=>False
theorem yS:Ks [.int i] H Q=(i.natAbs.log2<1920/\Q (.str (toString i)) H):=rfl
theorem dg:bT X (.type "str") Ks:=by
 intro i s σ H xs us Q I r h;unfold Ks at h;split at h
 ·obtain⟨u,rfl,t,rfl⟩:=vals1 r;exact PySem.P.str_of_int h.1 ⟨.str _,H,I.tok _,⟨_,rfl⟩,h.2⟩
 ·obtain⟨u,rfl,t,rfl⟩:=vals1 r;exact PySem.P.str_of_str ⟨.str _,H,I,⟨_,rfl⟩,h⟩
 ·exact h.elim
end Lake
namespace WaysM
mutual
noncomputable def nsp (a A b B m:Int):Int×Int:=low (3*b*A+((a-m*A).natAbs:Int)*B) (4*(A*B))
noncomputable def nsm (a A m:Int):Int×Int:=low (3*a+m*A) (4*A)
structure St (n:Nat) (P S D a A b B:Int):Prop where
 p:P=4 ^ n
 s0:0<=S
 s1:S<=1000000*P
 d0:0<=D
 d1:D<=2000000*P
 sa:a*P=S*A
 db:b*(2*P)=D*B
 a0:0<=a
 b0:0<=b
 pa:∃i,A=2 ^ i
 pb:∃j,B=2 ^ j
 oa: ¬(a % 2=0/\A % 2=0)
 ob: ¬(b % 2=0/\B % 2=0)
theorem two_pos (i:Nat):(0:Int)<2 ^ i:=by
 have:((2 ^ i:Nat):Int)=2 ^ i:=rfl;have:=aaO i;lia
theorem Pw (i:Nat):(0:Int)<4 ^ i:=by
 have:((4 ^ i:Nat):Int)=4 ^ i:=rfl;have:0<4 ^ i:=Nat.pow_pos (by decide);lia
theorem St.A0 (h:St n P S D a A b B):0<A:=by obtain⟨i,e⟩:=h.pa;rw[e];exact two_pos i
theorem St.B0 (h:St n P S D a A b B):0<B:=by obtain⟨i,e⟩:=h.pb;rw[e];exact two_pos i
theorem St.P0 (h:St n P S D a A b B):0<P:=by rw[h.p];exact Pw n
theorem xy {D:Int} (v:B=2 ^ j) (h:b*2 ^ k=D*B) (o: ¬(b % 2=0/\B % 2=0)):B<=2 ^ k:=by
 by_cases x:j<=k
 ·rw[v];obtain⟨d,rfl⟩:=Nat.exists_eq_add_of_le x;have y:=by have:=two_pos d;omega
  have i:=two_pos j;rw[aaT];have:=aah y (tH i);lia
 ·exfalso;obtain⟨d,rfl⟩:=Nat.exists_eq_add_of_le (show k+1<=j by lia);apply o;have e:(2:Int) ^ (k+1+d)=2 ^ k*(2*2 ^ d):=by rw[aaT,Int.pow_succ,Int.mul_assoc]
  rw[v,e] at h;have i:b=D*(2*2 ^ d):=by
   apply Int.eq_of_mul_eq_mul_left (Int.ne_of_gt (two_pos k));rw[aaH,h];rw[Int.mul_left_comm]
  constructor
  ·rw[i,Int.mul_left_comm];exact Int.mul_emod_right _ _
  ·rw[v,e,Int.mul_left_comm];exact Int.mul_emod_right _ _
theorem x_ (n:Nat):(4:Int) ^ n=2 ^ (2*n):=by rw[Int.pow_mul];rfl
theorem St.A1 (h:St n P S D a A b B):A<=P:=by
 obtain⟨i,e⟩:=h.pa;have v:=h.sa;rw[h.p,x_] at v;rw[h.p,x_];exact xy e v h.oa
theorem St.B1 (h:St n P S D a A b B):B<=2*P:=by
 obtain⟨i,e⟩:=h.pb;have v:=h.db;have e2:2*P=2 ^ (2*n+1):=by rw[h.p,x_];lia
 rw[e2] at v⊢;exact xy e v h.ob
theorem St.a1 (h:St n P S D a A b B):a<=S:=by
 have i:=aah h.A1 h.s0;rw[<-h.sa] at i;exact Int.le_of_mul_le_mul_right i h.P0
theorem St.b1 (h:St n P S D a A b B):b<=D:=by
 have i:=aah h.B1 h.d0;rw[<-h.db] at i;exact Int.le_of_mul_le_mul_right i (by have:=h.P0;lia)
theorem cancel {y:Int} (hs:0<s) (h:s*x=s*y):x=y:=Int.eq_of_mul_eq_mul_left (Int.ne_of_gt hs) h
theorem St.first (i:0<=m) (x:m<=1000000):St 0 1 m m m 1 (low m 2).1 (low m 2).2:=by
 obtain⟨s,L⟩:=p9 (b:=2) i (by decide);obtain⟨j,_,v⟩:=tF 1 s _ L.s0 L.b0 (by simpa using L.bb);refine⟨rfl,i,‹_›,i,by lia,rfl,?_,i,L.t0,⟨0,rfl⟩,⟨j,v⟩,by lia,L.od⟩;have e1:=L.tt;have e2:=L.bb;generalize(low m 2).1=t at*
 generalize(low m 2).2=b at*
 rw[e1] at*
 grind
theorem St.step (h:St n P S D a A b B) (C:0<=m) (O:m<=1000000):
  St (n+1) (4*P) (3*S+m*P) (3*D+2*((S-m*P).natAbs:Int)) (nsm a A m).1 (nsm a A m).2 (nsp a A b B m).1 (nsp a A b B m).2:=by
 have A0:=h.A0;have B0:=h.B0;have P0:=h.P0;have a0:=h.a0;have b0:=h.b0;have sa:=h.sa;have db:=h.db;have s0:=h.s0;have s1:=h.s1;have d0:=h.d0;have d1:=h.d1;have mA:=ZE C (tH A0);have mP:=ZE C (tH P0);have mP1:=Int.mul_le_mul_of_nonneg_right O (tH P0);have AB:=Int.mul_pos A0 B0;have bA:=ZE b0 (tH A0);have xB:=ZE (aaD (a-m*A).natAbs) (tH B0);obtain⟨s,L⟩:=p9 (t:=3*a+m*A) (b:=4*A) (by lia) (by lia);obtain⟨r,M⟩:=p9 (t:=3*b*A+((a-m*A).natAbs:Int)*B) (b:=4*(A*B)) (by lia) (by lia);obtain⟨i,F⟩:=h.pa;obtain⟨j,Z⟩:=h.pb;have Q:(2:Int) ^ (i+2)=s*(nsm a A m).2:=by
  refine Eq.trans ?_ L.bb;rw[F,aaT,aaH];rfl
 have p2:(2:Int) ^ (i+j+2)=r*(nsp a A b B m).2:=by
  refine Eq.trans ?_ M.bb;rw[F,Z,<-aaT,aaT _ _ 2,aaH];rfl
 obtain⟨X,_,z⟩:=tF _ _ _ L.s0 L.b0 Q;obtain⟨J,_,v⟩:=tF _ _ _ M.s0 M.b0 p2;refine⟨by rw[h.p,Int.pow_succ,aaH],by lia,by lia,by lia,by lia,?_,?_,L.t0,M.t0,⟨X,z⟩,⟨J,v⟩,L.od,M.od⟩
 ·apply cancel L.s0;have e1:=L.tt;have e2:=L.bb;unfold nsm;generalize(low (3*a+m*A) (4*A)).1=t at*
  generalize(low (3*a+m*A) (4*A)).2=u at*
  have k1:s*(t*(4*P))=(3*a+m*A)*(4*P):=by rw[e1];grind
  have k2:s*((3*S+m*P)*u)=(3*S+m*P)*(4*A):=by rw[e2];grind
  rw[k1,k2];have:(3*a+m*A)*(4*P)=12*(a*P)+4*(m*A*P):=by grind
  rw[this,sa]
  grind
 ·apply cancel M.s0;have e1:=M.tt;have e2:=M.bb;unfold nsp;have ab:((a-m*A).natAbs:Int)*P=((S-m*P).natAbs:Int)*A:=by
   have I:((a-m*A)*P).natAbs=((S-m*P)*A).natAbs:=by
    have:(a-m*A)*P=(S-m*P)*A:=by
     rw[Int.sub_mul,Int.sub_mul,sa];grind
    rw[this]
   rw[Int.natAbs_mul,Int.natAbs_mul] at I;have q2:((P.natAbs:Nat):Int)=P:=by lia
   have U:((A.natAbs:Nat):Int)=A:=by lia
   have G:(((a-m*A).natAbs*P.natAbs:Nat):Int)=(((S-m*P).natAbs*A.natAbs:Nat):Int):=by rw[I]
   rw[aaP,aaP,q2,U] at G;exact G
  generalize((a-m*A).natAbs:Int)=x at*
  generalize((S-m*P).natAbs:Int)=y at*
  generalize(low (3*b*A+x*B) (4*(A*B))).1=t at*
  generalize(low (3*b*A+x*B) (4*(A*B))).2=u at*
  have k1:r*(t*(2*(4*P)))=(3*b*A+x*B)*(2*(4*P)):=by rw[e1];grind
  have k2:r*((3*D+2*y)*u)=(3*D+2*y)*(4*(A*B)):=by rw[e2];grind
  rw[k1,k2];have:(3*b*A+x*B)*(2*(4*P))=12*A*(b*(2*P))+8*B*(x*P):=by grind
  rw[this,db,ab]
  grind
end
end WaysM
namespace FrameM
mutual
open PySem Lake Com
noncomputable def rF:List V:=[.str "bare",.str "signs",.str "begin",.str "end",.str "ask"]
noncomputable def iO:Str:=" !\"#$&'()*+,-./0123456789:;<=>?@ABCDEFGHIJKLMNOPQRSTUVWXYZ[\\]^_`abcdefghijklmnopqrstuvwxyz{|}~"
noncomputable def Ph (x:V):Bool:=match x with
 | .str i=>!(Builtin.Str.occurrences iO i 0 iO.length 1).isEmpty
 |_=>false
noncomputable def bO (v l h:Int):Bool:=decide (l<=v)&&decide (v<=h)
noncomputable def tf (k i:Str):Bool:=if k = "signs" then(decide (1<=i.length)&&decide (i.length<=4)&&(fA i).all Ph) else decide (i = "")
noncomputable def dX (k:Str) (n a r:Int) (hs:List Int) (i:Str):Bool:=
 Du (.str k) rF&&bO n 0 (if Du (.str k) [.str "bare",.str "ask"]=true then 0 else 63)&&bO a 0 63&&bO r 0 16&&Held.gZ 0 hs&&tf k i
def rD (H:Hp) (t:Addr) (k:Str) (n a r:Int) (hs:List Int) (i:Str):Prop:=
 ∃h,H t=some (.tup [.str k,.int n,.int a,.int r,.ref h,.str i])/\H h=some (.tup (hs.map V.int))/\hs.length<=1000/\i.length<=1000
theorem yX {x y:Nat} (h:y<2 ^ k):Builtin.bitOr ((x:Int)*2 ^ k) (y:Int)=((x*2 ^ k+y:Nat):Int):=by
 have e:(x)*2 ^ k=((x*2 ^ k:Nat):Int):=rfl;rw[e,BitI.Fs,RemM.OL h]
theorem WH {x y:Nat} (h:y<64):Builtin.bitOr ((x:Int)*64) (y:Int)=((x*64+y:Nat):Int):=yX (k:=6) h
theorem YI {x y:Nat} (h:y<32):Builtin.bitOr ((x:Int)*32) (y:Int)=((x*32+y:Nat):Int):=yX (k:=5) h
theorem Zu {x y:Nat} (h:y<8):Builtin.bitOr ((x:Int)*8) (y:Int)=((x*8+y:Nat):Int):=yX (k:=3) h
theorem WI {x y:Nat} (h:y<128):Builtin.bitOr ((x:Int)*128) (y:Int)=((x*128+y:Nat):Int):=yX (k:=7) h
theorem RJ {x y:Nat} (h:y<32768):Builtin.bitOr ((x:Int)*32768) (y:Int)=((x*32768+y:Nat):Int):=yX (k:=15) h
theorem YJ {x y:Nat} (h:y<268435456):Builtin.bitOr ((x:Int)*268435456) (y:Int)=((x*268435456+y:Nat):Int):=yX (k:=28) h
noncomputable def kinds:List Str:=["bare","signs","begin","end","ask"]
noncomputable def kidx (k:Str):Nat:=kinds.idxOf k
theorem MT (h:Du (.str k) rF=true):k∈kinds:=by
 unfold Du rF at h;simp only[ZD,List.any_nil,Bool.or_false,aaz,Sv,ZS] at h;unfold kinds;rcases h with h|h|h|h|h<;>simp[h]
theorem KY (h:Du (.str k) rF=true):HL kinds k (kidx k)/\kidx k<5:=by
 have hm:=MT h;have e:∀z∈kinds,HL kinds z (kidx z)/\kidx z<5:=by
  intro z y;have d:∀i:_root_.Fin 5,kinds[kidx (kinds.getD i "")]?=some (kinds.getD i "")/\kidx (kinds.getD i "")=i.val/\∀m:_root_.Fin 5,m.val<i.val->kinds[m.val]?≠some (kinds.getD i ""):=by trivial
  obtain⟨i,x,rfl⟩:=List.mem_iff_getElem.mp y;have v:i<5:=x;have e1:kinds.getD i "" = kinds[i]:=by rw[ZT,mu x];rfl
  have d':=d ⟨i,v⟩;simp only[e1] at d';refine⟨⟨d'.1,fun m hm=>d'.2.2 ⟨m,by lia⟩ (by lia)⟩,by lia⟩
 exact e k hm
noncomputable def rW (hs:List Int):Nat:=(hs.map fun h=>2 ^ (h-1).toNat).sum
theorem Ej:∀hs:List Int,(hs.map fun h=>(1:Int)*2 ^ (h-1).toNat).sum=(rW hs:Nat)
 | []=>rfl
 |x::xs=>by
  have i:=Ej xs;unfold rW at i⊢;rw[K5,List.sum_cons,i];simp
theorem HN:∀{hs:List Int} {l:Nat},Held.gZ (l:Int) hs=true->l<=15->rW hs+2 ^ l<=32768
 | [],l,_,hl=>by
  have:(2) ^ l<=2 ^ 15:=aau (by decide) hl;unfold rW;simpa using this
 |x::xs,l,h,hl=>by
  unfold Held.gZ at h;rw[fx,fx,eM,eM] at h;obtain⟨⟨z,v⟩,y⟩:=h;obtain⟨j,rfl⟩:∃j:Nat,x=(j)+1:=⟨(x-1).toNat,by lia⟩;have i:=HN (l:=j+1) (‹_›) (by lia);have e:rW (((j)+1)::xs)=2 ^ j+rW xs:=by
   unfold rW;rw[K5,List.sum_cons];congr 2;lia
  have p:(2) ^ l<=2 ^ j:=aau (by decide) (by lia);lia
noncomputable def sgl:List Nat:=iO.cps.toList
theorem Ko:sgl.length=94:=by decide+kernel
noncomputable def sgn (c:Nat):Nat:=sgl.idxOf c
theorem RV:∀j:_root_.Fin 94,Builtin.Str.occurrences iO ⟨#[sgl.getD j 0]⟩ 0 iO.length 1= [sgn (sgl.getD j 0)]/\sgn (sgl.getD j 0)=j.val:=by decide+kernel
theorem FR (h:c∈sgl):Builtin.Str.occurrences iO ⟨#[c]⟩ 0 iO.length 1= [sgn c]/\sgn c<94/\sgl[sgn c]?=some c:=by
 obtain⟨i,x,rfl⟩:=List.mem_iff_getElem.mp h;have v:i<94:=‹_›;have e1:sgl.getD i 0=sgl[i]:=by rw[ZT,mu x];rfl
 have d:=RV ⟨i,v⟩;simp only[e1] at d;have e2:=d.2;refine⟨d.1,by lia,?_⟩;generalize sgn sgl[i]=j at e2;subst e2;exact mu x
theorem Sb (h:Ph (.str ⟨#[c]⟩)=true):c∈sgl:=by
 have i:(!(Builtin.Str.occurrences _ _ 0 _ 1).isEmpty)=true:=h;rw[StrLaws.found_one,eM] at i;exact i
theorem NT:32∈sgl:=by decide+kernel
noncomputable def E8 (b:Nat) (cs:List Nat):Nat:=cs.foldl (fun b c=>b*128+sgn c) b
theorem LQ:E8 b (cs++ [c])=E8 b cs*128+sgn c:=by unfold E8;rw[aak];rfl
theorem G4:∀(cs:List Nat) (b:Nat),(∀c∈cs,c∈sgl)->E8 b cs<(b+1)*128 ^ cs.length
 | [],b,_=>by show b<(b+1)*1;lia
 |c::cs,b,h=>by
  have i:=G4 cs (b*128+sgn c) fun c hc=>h c (sh _ hc);have s:=(FR (h c (by simp))).2.1;rw[nS,Nat.pow_succ,Nat.mul_comm _ 128,<-Nat.mul_assoc];exact h9 i (Nat.mul_le_mul_right _ (by lia))
theorem Km (h:∀c∈cs,c∈sgl):E8 0 cs<128 ^ cs.length:=by
 have:=G4 cs 0 h;lia
noncomputable def yW (i:Str):List Nat:=i.cps.toList++List.replicate (4-i.length) 32
noncomputable def Ue (i:Str):Nat:=E8 0 (yW i)
theorem WQ (h:sg.length<=4):(R5 sg 4).cps.toList=yW sg/\(R5 sg 4).length=4:=by
 unfold R5 yW;have hl:sg.cps.toList.length=sg.length:=rfl;by_cases c:(4:Int)<=sg.length
 ·rw[dy c];have:4-sg.length=0:=by lia
  rw[this];exact⟨by simp,by lia⟩
 ·rw[de c];unfold Builtin.Str.padded;refine⟨?_,?_⟩
  ·simp
  ·have e:∀z:Str,z.length=z.cps.toList.length:=fun z=>rfl;rw[e];simp;have:=hl;simp at this;lia
noncomputable def Lp (ki n a r h len s:Nat):Nat:=(((((ki*2 ^ 6+n)*2 ^ 6+a)*2 ^ 5+r)*2 ^ 15+h)*2 ^ 3+len)*2 ^ 28+s
noncomputable def Ln (k:Str) (n a r:Int) (hs:List Int) (i:Str):Nat:=Lp (kidx k) n.toNat a.toNat r.toNat (rW hs) i.length (Ue i)
structure z3 (k:Str) (n a r:Int) (hs:List Int) (sg:Str):Prop where
 hk:Du (.str k) rF=true
 n0:0<=n/\n<=63
 a0:0<=a/\a<=63
 r0:0<=r/\r<=16
 hh:Held.gZ 0 hs=true
 hl:sg.length<=4
 hs:∀c∈sg.cps.toList,c∈sgl
theorem OA (h:dX k n a r hs sg=true):z3 k n a r hs sg:=by
 unfold dX bO at h;simp at h;obtain⟨⟨⟨⟨⟨C,y⟩,z⟩,F⟩,x⟩,i⟩:=h;have v:sg.length<=4/\∀c∈sg.cps.toList,c∈sgl:=by
  unfold tf at i;split at i
  ·simp only[fx,eM] at i;refine⟨i.1.2,fun c hc=>?_⟩;have:=ON.mp i.2 _ (h8.mpr ⟨c,hc,rfl⟩);exact Sb this
  ·rw[eM] at i;subst i;exact⟨by decide,by decide⟩
 exact⟨C,⟨y.1,by lia⟩,z,F,x,v.1,v.2⟩
theorem z3.pad {hs:List Int} (p:z3 k n a r hs sg):(∀c∈yW sg,c∈sgl)/\(yW sg).length=4:=by
 refine⟨fun c hc=>?_,?_⟩
 ·rcases Zy.mp hc with h|h
  ·exact p.hs c h
  ·rw[(List.mem_replicate.mp h).2];exact NT
 ·unfold yW;have hl:sg.cps.toList.length=sg.length:=rfl;rw[ib,aam,hl];have:=p.hl;lia
structure Kb (ki n a r h len s:Nat):Prop where
 ki:ki<8
 n:n<64
 a:a<64
 r:r<32
 h:h<32768
 len:len<8
 s:s<268435456
theorem z3.parts {hs:List Int} (p:z3 k n a r hs sg):Kb (kidx k) n.toNat a.toNat r.toNat (rW hs) sg.length (Ue sg):=by
 have x:=(KY p.hk).2;have v:=HN (l:=0) (by exact_mod_cast p.hh) (by decide);have i:=Km p.pad.1;rw[p.pad.2] at i;have:=p.n0;have:=p.a0;have:=p.r0;have:=p.hl;exact⟨by lia,by lia,by lia,by lia,‹_›,by lia,i⟩
theorem Kb.lt {ki n a r h len s:Nat} (p:Kb ki n a r h len s):Lp ki n a r h len s<2 ^ 66:=by
 obtain⟨C,y,z,F,x,i,v⟩:=p;unfold Lp;lia
theorem dropx (S:aA H H1) (he:H1 e=none) (hd:upd H1 e o d=none):aA H (oy (upd (upd (upd H1 e o) d (.xd [(f,v)])) e (.ext (vA e C (some d)))) e)/\oy (upd (upd (upd H1 e o) d (.xd [(f,v)])) e (.ext (vA e C (some d)))) e d=some (.xd [(f,v)]):=by
 have nd:d≠e:=fun z=>by rw[z,aa] at hd;cases hd
 refine⟨fun b u x=>?_,?_⟩
 ·have i:=S b u x;have nb:=ao i he;rw[g7 nb,ag nb,ag (fun z=>?_),ag nb];exact i;rw[z] at i;rw[ag nd] at hd;rw[i] at hd;cases hd
 ·rw[g7 nd,ag nd,aa]
theorem rD.same (h:rD H t k n a r hs sg) (e:aA H H'):rD H' t k n a r hs sg:=by
 obtain⟨hh,x,i,v⟩:=h;exact⟨hh,e _ _ x,e _ _ i,v⟩
end
end FrameM
namespace Lake
open PySem PySem.Spec PyProof.Rows
section
mutual
variable {X:Cx} {CX:IL} {k n:Nat} {ps:List Str} {sp:Sp} {x:Str} {p pos pos' apos:Pos} {e a b o:Expr} {es:List Expr} {t:TA} {te ta tb:TE} {C:Addr} {f m:Str} {K:W.Frag}
theorem aF [Quiet CX] (G:FnAt X.prog X.w X.K X.mg X.base CX x k ps sp) (hr:dC n X.A) (ha:PA X (e::es) t) (hk:k<=n:=by decide) (hg:Gl X x:=by exact rfl)
    (i:(x == ("__debug__":Str))=false:=by decide) (h:autoParam ((e::es).any isStar=false) qqr):PE X (.Call (.Name x p) (e::es) [] pos) (G0 sp [] E0 t):=UJ G hr hk hg ha i h
theorem a8 [Quiet CX] {pl:Sem Bool} (he:PE X o ta) (c:dF X.K X.mg x C) (G:yG X.prog X.w X.K X.mg X.base CX C m k ps sp) (hr:dC n X.A) (ha:PA X (e::es) t) (hk:k<=n:=by decide) (i:autoParam ((e::es).any isStar=false) qqr)
    (ht:eval (.Call (.Attribute o m apos) (e::es) [] pos) X.env=(do
      let ov<-eval o X.env
      standAt apos.atName
      let (f,first)<-holding [ov] (getMethod ov m pl)
      callWith pos f first (backTo pos (starEach (e::es) X.env)) (backToKw pos (keywordEach [] X.env))):=by rfl):PE X (.Call (.Attribute o m apos) (e::es) [] pos) (NK C m sp ta t):=UH he c G hr hk ha i ht
theorem bQ [Quiet CX] {pl:Sem Bool} (he:PE X o ta) (c:dF X.K X.mg x C) (G:yG X.prog X.w X.K X.mg X.base CX C m k ps sp) (hr:dC n X.A) (hk:k<=n:=by decide)
    (ht:eval (.Call (.Attribute o m apos) [] [] pos) X.env=(do
      let ov<-eval o X.env
      standAt apos.atName
      let (f,first)<-holding [ov] (getMethod ov m pl)
      callWith pos f first (backTo pos (starEach [] X.env)) (backToKw pos (keywordEach [] X.env))):=by rfl):PE X (.Call (.Attribute o m apos) [] [] pos) (NK C m sp ta yM):=Rx he c G hr hk ht
theorem ai (he:PE X e ta) (c:dF X.K X.mg x C) (nn:aO X.K C f) (i:attributeBase e f X.env (eval e X.env)=eval e X.env:=by exact rfl):PE X (.Attribute e f pos) (Kj C f ta):=RF he c nn i
theorem ay (i:Nat) (v:X.N.Nodup) (he:PE X e te) (y:X.N[i]?=some x:=by exact rfl) (hx:Loc X.env.scope x:=by walk_at "q") (h:autoParam (lW e=false) qqr) (hf:X.fn x=true\/X.env.scope.names.lookup x=some .local:=by walk_at "q"):
    PS X (.Assign [.Name x pos'] e pos) (G1 te (ou i)):=KD v y hx he h hf
theorem av (K:W.Frag) (ha:PE X a ta) (v:PE X b tb) (i:X.K=K:=by exact rfl) (hs:GL b:=by exact fun _ _=>rfl):PE X (.Subscript a b pos) (II (Oa K) ta tb):=Tp (YQ K i) ha v hs
theorem bq (K:W.Frag) (ha:PE X a ta) (v:PE X b tb) (i:X.K=K:=by exact rfl) (hs:GL b:=by exact fun _ _=>rfl):PE X (.Subscript a b pos) (II (AO K) ta tb):=Tp (WT K i) ha v hs
theorem cQ (K:W.Frag) (hr:dC n X.A) (ha:PE X a ta) (v:PE X b tb) (i:X.K=K:=by exact rfl):PT X (.Compare a [.Eq] [b] pos) (BM (II (yT K false) ta tb)):=BA (uO K i hr.units) ha v (nomark _)
theorem wu (K:W.Frag) (hr:dC n X.A) (ha:PE X a ta) (v:PE X b tb) (i:X.K=K:=by exact rfl):PT X (.Compare a [.NotEq] [b] pos) (BM (II (yT K true) ta tb)):=BA (RL K i hr.units) ha v (nomark _)
theorem aS {op:CmpOp} {r:R2} (ho:iH X (compareOp op) r) (ha:PE X a ta) (i:PE X b tb) (hm:behindInMarks op b=false:=by exact nomark _):PT X (.Compare a [op] [b] pos) (BM (II r ta tb)):=BA ho ha i hm
theorem d5 {op:CmpOp} {r:R2} (ho:iH X (compareOp op) r) (ha:PE X a ta) (i:PE X b tb) (hm:behindInMarks op b=false:=by exact nomark _):PE X (.Compare a [op] [b] pos) (II r ta tb):=xI ho ha i hm
theorem aE (K:W.Frag) (ha:PE X a ta) (i:PE X b tb) (v:X.K=K:=by exact rfl):PE X (.BinOp a .Add b pos) (II (tE K) ta tb):=au (RN K v) ha i
theorem aw (i:Nat) (v:X.N.Nodup) (y:X.N[i]?=some x:=by exact rfl) (hx:Loc X.env.scope x:=by walk_at "q") (hf:X.fn x=true\/X.env.scope.names.lookup x=some .local:=by walk_at "q"):PG X (.Name x pos) (ou i):=Ru v y hx hf
theorem bj (ha:PE X e te) (h:autoParam (isStar e=false) qqr):PA X [e] (rG te yM):=aZ ha gN h
theorem bP (ha:PE X a ta) (i:PE X b tb) (h:autoParam (isStar a=false) qqr) (v:autoParam (isStar b=false) qqr):PA X [a,b] (rG ta (rG tb yM)):=aZ ha (aZ i gN v) h
end
end
end Lake
namespace Lake
mutual
open PySem
def zqr (l:List V) (f:Addr->List V->Prop):Prop:=match l with
 |.ref x::r=>f x r
 |_=>False
@[elab_as_elim]
theorem zqre {f:Addr->List V->Prop} {G:List V->Prop} (h:zqr l f) (k:∀x r,f x r->G (.ref x::r)):G l:=by
 unfold zqr at h;split at h
 ·exact k _ _ h
 ·exact h.elim
def zqi (l:List V) (f:Int->List V->Prop):Prop:=match l with
 |.int x::r=>f x r
 |_=>False
@[elab_as_elim]
theorem zqie {f:Int->List V->Prop} {G:List V->Prop} (h:zqi l f) (k:∀x r,f x r->G (.int x::r)):G l:=by
 unfold zqi at h;split at h
 ·exact k _ _ h
 ·exact h.elim
def zqs (l:List V) (f:Str->List V->Prop):Prop:=match l with
 |.str x::r=>f x r
 |_=>False
@[elab_as_elim]
theorem zqse {f:Str->List V->Prop} {G:List V->Prop} (h:zqs l f) (k:∀x r,f x r->G (.str x::r)):G l:=by
 unfold zqs at h;split at h
 ·exact k _ _ h
 ·exact h.elim
def zqv (l:List V) (f:V->List V->Prop):Prop:=match l with
 |x::r=>f x r
 |_=>False
@[elab_as_elim]
theorem zqve {f:V->List V->Prop} {G:List V->Prop} (h:zqv l f) (k:∀x r,f x r->G (x::r)):G l:=by
 unfold zqv at h;split at h
 ·exact k _ _ h
 ·exact h.elim
def zqn (l:List V) (p:Prop):Prop:=match l with
 | []=>p
 |_=>False
@[elab_as_elim]
theorem zqne {p:Prop} {G:List V->Prop} (h:zqn l p) (k:p->G []):G l:=by
 unfold zqn at h;split at h
 ·exact k h
 ·exact h.elim
end
end Lake
namespace Tactic
noncomputable section
mutual
open PySem Lake Com FrameM
def pC (u:TS):TS:=u
theorem ak (h:Br X l u):Br X l (pC u):=h
theorem i8 (h:SR X l u):SR X l (pC u):=⟨h.h⟩
theorem HS {u:TS} (h:∀i,i=D->u i σ H):u D σ H:=h D rfl
noncomputable def top (i:Nat):Stmt:=Challenge.pw_slowroad_k81_kept.main.body.getD i (.Pass ⟨0,0,0,0⟩)
abbrev Yu (v:List Str) (x y:Str) (s:Stmt):Prop:= ∀(kV doc pm:Value) (an:Option Addr) (i ct:Value) (us:List Value),us.length=v.length->bindArgs (W.fnOf x y (fH s) (dB s) (a9 s) .none kV doc pm an i ct) ⟨us,[]⟩=pure (v.zip us)
theorem Tw {α:Type} {us:List α} (h:us.length=1):∃a0,us= [a0]:=List.length_eq_one_iff.mp h
theorem Tv {α:Type} {us:List α} (h:us.length=2):∃a0 a1,us= [a0,a1]:=by
 obtain⟨a,t,rfl⟩:=Sk h;obtain⟨b0,rfl⟩:=Tw (aaR h);exact⟨a,b0,rfl⟩
theorem Tu {α:Type} {us:List α} (h:us.length=3):∃a0 a1 i,us= [a0,a1,i]:=by
 obtain⟨a,t,rfl⟩:=Sk h;obtain⟨b0,b1,rfl⟩:=Tv (aaR h);exact⟨a,b0,b1,rfl⟩
theorem Tt {α:Type} {us:List α} (h:us.length=4):∃a0 a1 i x,us= [a0,a1,i,x]:=by
 obtain⟨a,t,rfl⟩:=Sk h;obtain⟨b0,b1,v,rfl⟩:=Tu (aaR h);exact⟨a,b0,b1,v,rfl⟩
theorem Ts {α:Type} {us:List α} (h:us.length=5):∃a0 a1 v y i,us= [a0,a1,v,y,i]:=by
 obtain⟨a,t,rfl⟩:=Sk h;obtain⟨b0,b1,x,z,rfl⟩:=Tt (aaR h);exact⟨a,b0,b1,x,z,rfl⟩
theorem WR {α:Type} {us:List α} (h:us.length=6):∃a0 a1 v z i C,us= [a0,a1,v,z,i,C]:=by
 obtain⟨a,t,rfl⟩:=Sk h;obtain⟨b0,b1,x,F,y,rfl⟩:=Ts (aaR h);exact⟨a,b0,b1,x,F,y,rfl⟩
abbrev FA (P:Program) (w:World) (K:W.Frag) (mg:Str->Option Value) (base:Heap) (x:Str) (k:Nat) (i:List Str) (sp:Sp):Prop:=FnAt P w K mg base (IH P w) x k i sp
abbrev MA (P:Program) (w:World) (K:W.Frag) (mg:Str->Option Value) (base:Heap) (C:Addr) (x:Str) (k:Nat) (i:List Str) (sp:Sp):Prop:=yG P w K mg base (IH P w) C x k i sp
noncomputable abbrev ic (i j:Nat):Stmt:=inClass (top i) j
abbrev SB (N i:List Str) (x y:Str) (s:Stmt):Prop:=kC N i (a9 s)/\Yu i x y s
abbrev SC (i:List Str) (x y:Str) (s:Stmt):Prop:=kC i i (a9 s)/\Yu i x y s
abbrev SY (i:List Str) (x:Str) (s:Stmt):Prop:=kC i i (a9 s)/\Yu i x x s
abbrev SZ (N i:List Str) (x:Str) (s:Stmt):Prop:=kC N i (a9 s)/\Yu i x x s
set_option hygiene false in
local macro_rules | `(tactic| exists 2) => `(tactic| (refine⟨⟨rfl,rfl,rfl,by decide +kernel,rfl,by decide +kernel,by decide +kernel⟩,?_⟩;intro _ _ _ _ _ _ us hl;first | (obtain⟨_,rfl⟩:=Tw hl;rfl) | (obtain⟨_,_,rfl⟩:=Tv hl;rfl) | (obtain⟨_,_,_,rfl⟩:=Tu hl;rfl) | (obtain⟨_,_,_,_,rfl⟩:=Tt hl;rfl) | (obtain⟨_,_,_,_,_,rfl⟩:=Ts hl;rfl) | (obtain⟨_,_,_,_,_,_,rfl⟩:=WR hl;rfl)))
theorem gJ:SC ["self","frame"] "__init__" "NoFrame.__init__" (ic 3 0):=by exists 2
theorem ip:SC ["self","frame"] "__init__" "Spoilt.__init__" (ic 4 0):=by exists 2
theorem gI:SC ["self","what"] "__init__" "NoPiece.__init__" (ic 5 0):=by exists 2
theorem iy:SC ["self","state","wish"] "__init__" "NotNow.__init__" (ic 10 0):=by exists 2
theorem wc:SY ["value","low","high"] "is_from" (top 13):=by exists 2
theorem yR:SY ["deeds"] "copied" (top 20):=by exists 2
theorem wk:SY ["deeds","sending"] "deed_at" (top 21):=by exists 2
theorem wg:SY ["copy","lag"] "is_copy" (top 22):=by exists 2
theorem wd:SY ["deed","lag"] "is_deed" (top 23):=by exists 2
theorem gR:SZ ["deeds","lag","at","deed"] ["deeds","lag"] "check_road" (top 24):=by exists 2
theorem jX:SC ["self","deeds","lag"] "__init__" "Road.__init__" (ic 25 0):=by exists 2
theorem f9:SB ["self","turn","frame","sending","order","copy"] ["self","turn","frame"] "send" "Road.send" (ic 25 1):=by exists 2
theorem ml:SB ["self","turn","due"] ["self","turn"] "come" "Road.come" (ic 25 2):=by exists 2
theorem BW:SY ["ring","one","other"] "ahead" (top 27):=by exists 2
theorem E9:SY ["room","lag"] "need" (top 29):=by exists 2
theorem qQ:SY ["rooms"] "are_rooms" (top 36):=by exists 2
theorem qO:SY ["first","longest"] "are_waits" (top 37):=by exists 2
theorem fF:SB ["self","ring","rooms","lag","first","longest","least"] ["self","ring","rooms","lag","first","longest"] "__init__" "Terms.__init__" (ic 38 0):=by exists 2
theorem nT:SZ ["thing","kind"] ["thing"] "is_piece" (top 54):=by exists 2
theorem jR:SZ ["held","last","step"] ["held"] "is_held" (top 55):=by exists 2
theorem qP:SY ["kind","signs"] "are_signs" (top 56):=by exists 2
theorem iR:SZ ["bits","left"] ["bits"] "remainder" (top 57):=by exists 2
theorem qN:SZ ["piece","unchecked"] ["piece"] "written" (top 58):=by exists 2
theorem eU:SZ ["piece","body"] ["piece"] "body_of" (top 59):=by exists 2
theorem lD:SY ["held"] "bits_of_held" (top 60):=by exists 2
theorem c_:SZ ["signs","bits","sign"] ["signs"] "bits_of_signs" (top 61):=by exists 2
theorem tw:SY ["number"] "is_frame" (top 62):=by exists 2
theorem Bv:SZ ["frame","piece"] ["frame"] "read" (top 63):=by exists 2
theorem lB:SY ["body"] "likely_piece" (top 64):=by exists 2
theorem vZ:SY ["code"] "kind_of" (top 65):=by exists 2
theorem wj:SY ["bits"] "held_of" (top 66):=by exists 2
theorem tj:SY ["bits"] "signs_of" (top 67):=by exists 2
theorem vY:SY ["code"] "sign_of" (top 68):=by exists 2
theorem iZ:SC ["self","most"] "__init__" "Meter.__init__" (ic 70 0):=by exists 2
theorem iX:SB ["self","many","piece"] ["self","many"] "known" "Meter.known" (ic 70 1):=by exists 2
theorem iY:SC ["self"] "know_one" "Meter.know_one" (ic 70 2):=by exists 2
theorem oZ:SC ["self"] "half" "Meter.half" (ic 70 3):=by exists 2
theorem jZ:SC ["self"] "ran_out" "Meter.ran_out" (ic 70 4):=by exists 2
theorem j2:SC ["self"] "hurried" "Meter.hurried" (ic 70 5):=by exists 2
theorem uG:SZ ["top","bottom","shared"] ["top","bottom"] "lowest" (top 73):=by exists 2
theorem jU:SC ["self","first","longest"] "__init__" "Ways.__init__" (ic 74 0):=by exists 2
theorem jT:SC ["self","m"] "measured" "Ways.measured" (ic 74 1):=by exists 2
theorem cW:SB ["self","m","bottoms","away"] ["self","m"] "next_spread" "Ways.next_spread" (ic 74 2):=by exists 2
theorem gE:SC ["self","m"] "next_smooth" "Ways.next_smooth" (ic 74 3):=by exists 2
theorem eV:SB ["self","top"] ["self"] "least_wait" "Ways.least_wait" (ic 74 4):=by exists 2
theorem lF:SC ["self"] "ran_out" "Ways.ran_out" (ic 74 5):=by exists 2
theorem iw:SC ["self","ring","first","longest","most"] "__init__" "Sender.__init__" (ic 77 0):=by exists 2
theorem oX:SC ["self","thing"] "put" "Sender.put" (ic 77 1):=by exists 2
theorem mO:SC ["self"] "many" "Sender.many" (ic 77 2):=by exists 2
theorem lI:SC ["self","place"] "thing" "Sender.thing" (ic 77 3):=by exists 2
theorem dI:SB ["self","number","room","held","turn","steps","fresh","place"] ["self","number","room","held","turn"] "heard" "Sender.heard" (ic 77 4):=by exists 2
theorem d4:SB ["self","steps","low"] ["self","steps"] "grow_base" "Sender.grow_base" (ic 77 5):=by exists 2
theorem gH:SC ["self","held"] "note_held" "Sender.note_held" (ic 77 6):=by exists 2
theorem cG:SB ["self","places","fresh","place"] ["self","places"] "newly_known" "Sender.newly_known" (ic 77 7):=by exists 2
theorem dj:SC ["self"] "known_above_base" "Sender.known_above_base" (ic 77 8):=by exists 2
theorem gF:SC ["self"] "under_way" "Sender.under_way" (ic 77 9):=by exists 2
theorem fB:SC ["self"] "thing_waits" "Sender.thing_waits" (ic 77 10):=by exists 2
theorem eX:SC ["self","turn"] "clock_is_out" "Sender.clock_is_out" (ic 77 11):=by exists 2
theorem eW:SC ["self"] "hurry_is_due" "Sender.hurry_is_due" (ic 77 12):=by exists 2
theorem fO:SC ["self"] "new_may_go" "Sender.new_may_go" (ic 77 13):=by exists 2
theorem qS:SC ["self","turn"] "go" "Sender.go" (ic 77 14):=by exists 2
theorem gG:SC ["self","turn"] "set_clock" "Sender.set_clock" (ic 77 15):=by exists 2
theorem ir:SC ["self","turn"] "go_again" "Sender.go_again" (ic 77 16):=by exists 2
theorem f7:SB ["self","turn","place"] ["self","turn"] "go_new" "Sender.go_new" (ic 77 17):=by exists 2
theorem eY:SC ["self","turn"] "ask_for_room" "Sender.ask_for_room" (ic 77 18):=by exists 2
theorem bX:SC ["self"] "wish_begin" "State.wish_begin" (ic 79 1):=by exists 2
theorem dR:SC ["self"] "wish_end" "State.wish_end" (ic 79 2):=by exists 2
theorem d_:SC ["self"] "may_put" "State.may_put" (ic 79 3):=by exists 2
theorem eg:SC ["self"] "begun" "State.begun" (ic 79 4):=by exists 2
theorem fN:SC ["self"] "ended" "State.ended" (ic 79 5):=by exists 2
theorem cU:SC ["self"] "answered" "State.answered" (ic 79 6):=by exists 2
theorem qR:SC ["self"] "name" "Shut.name" (ic 80 0):=by exists 2
theorem iq:SC ["self"] "wish_begin" "Shut.wish_begin" (ic 80 1):=by exists 2
theorem oW:SC ["self"] "begun" "Shut.begun" (ic 80 2):=by exists 2
theorem lO:SC ["self"] "name" "Calling.name" (ic 81 0):=by exists 2
theorem gM:SC ["self"] "wish_end" "Calling.wish_end" (ic 81 1):=by exists 2
theorem iz:SC ["self"] "may_put" "Calling.may_put" (ic 81 2):=by exists 2
theorem j7:SC ["self"] "begun" "Calling.begun" (ic 81 3):=by exists 2
theorem qT:SC ["self"] "name" "Open.name" (ic 82 0):=by exists 2
theorem jY:SC ["self"] "wish_end" "Open.wish_end" (ic 82 1):=by exists 2
theorem lJ:SC ["self"] "may_put" "Open.may_put" (ic 82 2):=by exists 2
theorem oY:SC ["self"] "ended" "Open.ended" (ic 82 3):=by exists 2
theorem qU:SC ["self"] "name" "Left.name" (ic 83 0):=by exists 2
theorem j3:SC ["self"] "wish_end" "Left.wish_end" (ic 83 1):=by exists 2
theorem lK:SC ["self"] "may_put" "Left.may_put" (ic 83 2):=by exists 2
theorem lL:SC ["self"] "name" "Leaving.name" (ic 84 0):=by exists 2
theorem j4:SC ["self"] "ended" "Leaving.ended" (ic 84 1):=by exists 2
theorem gK:SC ["self"] "answered" "Leaving.answered" (ic 84 2):=by exists 2
theorem lH:SC ["self"] "name" "Waiting.name" (ic 85 0):=by exists 2
theorem jW:SC ["self"] "ended" "Waiting.ended" (ic 85 1):=by exists 2
theorem lM:SC ["self"] "name" "Closing.name" (ic 86 0):=by exists 2
theorem gL:SC ["self"] "answered" "Closing.answered" (ic 86 1):=by exists 2
theorem iW:SC ["self","ring","room"] "__init__" "Taker.__init__" (ic 88 0):=by exists 2
theorem ij:SC ["self"] "room_left" "Taker.room_left" (ic 88 1):=by exists 2
theorem gT:SB ["self","number","thing","steps","place"] ["self","number","thing"] "take" "Taker.take" (ic 88 2):=by exists 2
theorem cT:SB ["self","things"] ["self"] "stand_in_order" "Taker.stand_in_order" (ic 88 3):=by exists 2
theorem hG:SB ["self","held"] ["self"] "answer" "Taker.answer" (ic 88 4):=by exists 2
theorem gU:SB ["self","most","things","place"] ["self","most"] "read" "Taker.read" (ic 88 5):=by exists 2
theorem wa:SY ["text"] "is_text" (top 93):=by exists 2
theorem lA:SY ["frame"] "read_or_none" (top 94):=by exists 2
theorem j6:SC ["self","side","terms"] "__init__" "Hand.__init__" (ic 95 0):=by exists 2
theorem qV:SC ["self"] "name" "Hand.name" (ic 95 1):=by exists 2
theorem o3:SC ["self"] "begin" "Hand.begin" (ic 95 2):=by exists 2
theorem tx:SC ["self"] "end" "Hand.end" (ic 95 3):=by exists 2
theorem nU:SB ["self","text","at"] ["self","text"] "put" "Hand.put" (ic 95 4):=by exists 2
theorem i5:SB ["self","many","had_room","things"] ["self","many"] "read" "Hand.read" (ic 95 5):=by exists 2
theorem mm:SB ["self","frame","turn","piece"] ["self","frame","turn"] "come" "Hand.come" (ic 95 6):=by exists 2
theorem i6:SB ["self","piece","turn","low","place"] ["self","piece","turn"] "hear" "Hand.hear" (ic 95 7):=by exists 2
theorem fj:SB ["self","number","thing","taken","in_order"] ["self","number","thing"] "take_in" "Hand.take_in" (ic 95 8):=by exists 2
theorem j5:SC ["self","kind"] "stand_to" "Hand.stand_to" (ic 95 9):=by exists 2
theorem f_:SB ["self","turn","what","word","place"] ["self","turn"] "send" "Hand.send" (ic 95 10):=by exists 2
theorem eh:SB ["self","word","place","answer","thing"] ["self","word","place"] "piece_of" "Hand.piece_of" (ic 95 11):=by exists 2
theorem v_:SY ["wish"] "is_wish" (top 101):=by exists 2
theorem tu:SY ["word","value"] "is_value" (top 102):=by exists 2
theorem fh:SZ ["wishes","at","wish"] ["wishes"] "check_wishes" (top 103):=by exists 2
theorem lC:SY ["wishes"] "last_turn_of" (top 104):=by exists 2
theorem jV:SC ["self","terms","roads","wishes"] "__init__" "Walk.__init__" (ic 106 0):=by exists 2
theorem dQ:SB ["self","side","wish"] ["self"] "step" "Walk.step" (ic 106 1):=by exists 2
theorem df:SB ["self","side","sending","frame","what"] ["self","side"] "let_come" "Walk.let_come" (ic 106 2):=by exists 2
theorem g_:SB ["self","side","word","value","went"] ["self","side","word","value"] "do_wish" "Walk.do_wish" (ic 106 3):=by exists 2
theorem iU:SB ["self","side","word","value","hand","refusal"] ["self","side","word","value"] "went" "Walk.went" (ic 106 4):=by exists 2
theorem fZ:SB ["self","side","many","things"] ["self","side","many"] "let_read" "Walk.let_read" (ic 106 5):=by exists 2
theorem lG:SC ["self","side"] "wind_up" "Walk.wind_up" (ic 106 6):=by exists 2
theorem iV:SB ["self","side","taker"] ["self","side"] "unread" "Walk.unread" (ic 106 7):=by exists 2
theorem d9:SB ["self","side","what","sending"] ["self","side"] "let_send" "Walk.let_send" (ic 106 8):=by exists 2
theorem b_:SB ["self","side","hand","sender","stand","waits"] ["self","side"] "tell_stand" "Walk.tell_stand" (ic 106 9):=by exists 2
theorem iQ:SY ["word","numbers"] "row_of_numbers" (top 109):=by exists 2
theorem ly:SY ["terms"] "row_of_terms" (top 110):=by exists 2
theorem lx:SY ["copy"] "word_of_copy" (top 111):=by exists 2
theorem lu:SY ["deed"] "word_of_deed" (top 112):=by exists 2
theorem mN:SY ["side","deeds"] "row_of_road" (top 113):=by exists 2
theorem iP:SZ ["wish","words"] ["wish"] "row_of_wish" (top 114):=by exists 2
theorem Bw:SZ ["walk","rows"] ["walk"] "kept" (top 116):=by exists 2
theorem lE:SY ["_law_script","_law_k"] "_law_cell_at" (top 118):=by exists 2
theorem fu:SZ ["_law_cell","_law_k","_law_number","_law_turn"] ["_law_cell","_law_k"] "_law_mixed" (top 119):=by exists 2
theorem bH:SZ ["_law_cell","_law_other","_law_rooms","_law_lag","_law_least","_law_first","_law_ring"] ["_law_cell","_law_other"] "_law_numbers" (top 120):=by exists 2
theorem dP:SZ ["_law_cell","_law_size","_law_some","_law_signs","_law_k"] ["_law_cell","_law_size"] "_law_text" (top 121):=by exists 2
theorem cY:SZ ["_law_cell","_law_k","_law_lag","_law_number","_law_deed_here","_law_at","_law_part","_law_run"] ["_law_cell","_law_k","_law_lag"] "_law_deed" (top 122):=by exists 2
theorem gS:SZ ["_law_cell","_law_lag","_law_many"] ["_law_cell","_law_lag"] "_law_deeds" (top 123):=by exists 2
theorem fY:SZ ["_law_cell","_law_turn","_law_side"] ["_law_cell"] "_law_wish" (top 124):=by exists 2
theorem jS:SY ["_law_deed_here"] "_law_deed_row" (top 125):=by exists 2
theorem cx:SZ ["_law_numbers_here","_law_roads","_law_wishes","_law_turns","_law_rows_here","_law_side","_law_turn","_law_word","_law_value","_law_row"] ["_law_numbers_here","_law_roads","_law_wishes","_law_turns"] "_law_rows" (top 126):=by exists 2
theorem cX:SZ ["_law_numbers_here","_law_roads","_law_wishes","_law_ring","_law_one","_law_other","_law_lag","_law_first","_law_longest"] ["_law_numbers_here","_law_roads","_law_wishes"] "_law_walk" (top 127):=by exists 2
theorem iS:SZ ["_law_script","_law_numbers_here","_law_roads","_law_wishes","_law_handed","_law_walk_here","_law_deeds_here","_law_k","_law_turns","_law_found"] ["_law_script"] "law" (top 128):=by exists 2
end
section
mutual
variable {x v0 v1 v2 v3 v4 v5 v6 v7 v8 v9 v10 v11:V}
abbrev lk (F:List (Str×V)) (n:Str) (v:V):Prop:=F.lookup n=some v
abbrev nk (F:List (Str×V)) (n:Str):Prop:=F.lookup n=none
local macro_rules | `(tactic| exists 4) => `(tactic| exact⟨by kernel_rfl,Nat.le_of_ble_eq_true rfl⟩)
noncomputable def yc:List Str:=["deeds","sendings","coming"]
noncomputable def m8:List Str:=["ring","rooms","lag","first","longest"]
noncomputable def tS:List Str:=["most","window","knee","counted"]
noncomputable def ya:List Str:=["longest","smooth","spread","wait"]
noncomputable def dM:List Str:=["ring","ways","meter","things","base","top","edge","clock","base_hurried","known_places","first_turns","gone_again"]
noncomputable def tQ:List Str:=["ring","room","got","out","kept"]
noncomputable def mz:List Str:=["side","ring","taker","sender","state","answer_due","end_places"]
noncomputable def cM:List Str:=["roads","terms","deeds","wishes","last_wish","hands","outs","told","turn"]
noncomputable def zH (v0:V):List (Str×V):=yc.zip [v0]
theorem kA:aV "deeds" v0 []=zH v0/\(zH v0).length<1000:=by exists 4
noncomputable def kr (v0 v1:V):List (Str×V):=yc.zip [v0,v1]
theorem pz:aV "sendings" v1 (zH v0)=kr v0 v1/\(kr v0 v1).length<1000:=by exists 4
noncomputable def cE (v0 v1 v2:V):List (Str×V):=yc.zip [v0,v1,v2]
theorem tY:aV "coming" v2 (kr v0 v1)=cE v0 v1 v2/\(cE v0 v1 v2).length<1000:=by exists 4
theorem Ic:(fun F=>lk F "deeds" v0/\lk F "sendings" v1/\lk F "coming" v2) (cE v0 v1 v2):=by repeat' constructor
theorem JW:(fun F=>nk F "send" /\nk F "come") (cE v0 v1 v2):=by repeat' constructor
theorem Aj:(fun F=>aV "sendings" x F=cE v0 x v2/\aV "coming" x F=cE v0 v1 x) (cE v0 v1 v2):=by repeat' constructor
noncomputable def kq (v0:V):List (Str×V):=m8.zip [v0]
theorem CD:aV "ring" v0 []=kq v0/\(kq v0).length<1000:=by exists 4
noncomputable def wM (v0 v1:V):List (Str×V):=m8.zip [v0,v1]
theorem CC:aV "rooms" v1 (kq v0)=wM v0 v1/\(wM v0 v1).length<1000:=by exists 4
noncomputable def wL (v0 v1 v2:V):List (Str×V):=m8.zip [v0,v1,v2]
theorem CB:aV "lag" v2 (wM v0 v1)=wL v0 v1 v2/\(wL v0 v1 v2).length<1000:=by exists 4
noncomputable def wK (v0 v1 v2 v3:V):List (Str×V):=m8.zip [v0,v1,v2,v3]
theorem CA:aV "first" v3 (wL v0 v1 v2)=wK v0 v1 v2 v3/\(wK v0 v1 v2 v3).length<1000:=by exists 4
noncomputable def m9 (v0 v1 v2 v3 v4:V):List (Str×V):=m8.zip [v0,v1,v2,v3,v4]
theorem Gh:(fun F=>lk F "ring" v0/\lk F "rooms" v1/\lk F "lag" v2/\lk F "first" v3/\lk F "longest" v4) (m9 v0 v1 v2 v3 v4):=by repeat' constructor
theorem Gg:aV "longest" v4 (wK v0 v1 v2 v3)=m9 v0 v1 v2 v3 v4:=by kernel_rfl
noncomputable def wV (v0:V):List (Str×V):=tS.zip [v0]
theorem CL:aV "most" v0 []=wV v0/\(wV v0).length<1000:=by exists 4
noncomputable def wU (v0 v1:V):List (Str×V):=tS.zip [v0,v1]
theorem CK:aV "window" v1 (wV v0)=wU v0 v1/\(wU v0 v1).length<1000:=by exists 4
noncomputable def wR (v0 v1 v2:V):List (Str×V):=tS.zip [v0,v1,v2]
theorem CJ:aV "knee" v2 (wU v0 v1)=wR v0 v1 v2/\(wR v0 v1 v2).length<1000:=by exists 4
noncomputable def aW (v0 v1 v2 v3:V):List (Str×V):=tS.zip [v0,v1,v2,v3]
theorem Gp:aV "counted" v3 (wR v0 v1 v2)=aW v0 v1 v2 v3/\(aW v0 v1 v2 v3).length<1000:=by exists 4
theorem Gq:(fun F=>lk F "most" v0/\lk F "window" v1/\lk F "knee" v2/\lk F "counted" v3) (aW v0 v1 v2 v3):=by repeat' constructor
theorem Ie:(fun F=>nk F "known" /\nk F "know_one" /\nk F "half" /\nk F "ran_out" /\nk F "hurried") (aW v0 v1 v2 v3):=by repeat' constructor
theorem Gn:(fun F=>aV "window" x F=aW v0 x v2 v3/\aV "knee" x F=aW v0 v1 x v3/\aV "counted" x F=aW v0 v1 v2 x) (aW v0 v1 v2 v3):=by repeat' constructor
noncomputable def zy (v0:V):List (Str×V):=ya.zip [v0]
theorem Dy:aV "longest" v0 []=zy v0/\(zy v0).length<1000:=by exists 4
noncomputable def zw (v0 v1:V):List (Str×V):=ya.zip [v0,v1]
theorem Dx:aV "smooth" v1 (zy v0)=zw v0 v1/\(zw v0 v1).length<1000:=by exists 4
noncomputable def zv (v0 v1 v2:V):List (Str×V):=ya.zip [v0,v1,v2]
theorem Dw:aV "spread" v2 (zw v0 v1)=zv v0 v1 v2/\(zv v0 v1 v2).length<1000:=by exists 4
noncomputable def bW (v0 v1 v2 v3:V):List (Str×V):=ya.zip [v0,v1,v2,v3]
theorem HX:aV "wait" v3 (zv v0 v1 v2)=bW v0 v1 v2 v3/\(bW v0 v1 v2 v3).length<1000:=by exists 4
theorem HY:(fun F=>lk F "longest" v0/\lk F "smooth" v1/\lk F "spread" v2/\lk F "wait" v3) (bW v0 v1 v2 v3):=by repeat' constructor
theorem JU:(fun F=>nk F "measured" /\nk F "next_spread" /\nk F "next_smooth" /\nk F "least_wait" /\nk F "ran_out") (bW v0 v1 v2 v3):=by repeat' constructor
theorem HW:(fun F=>aV "smooth" x F=bW v0 x v2 v3/\aV "spread" x F=bW v0 v1 x v3/\aV "wait" x F=bW v0 v1 v2 x) (bW v0 v1 v2 v3):=by repeat' constructor
noncomputable def kK (v0 v1:V):List (Str×V):=dM.zip [v0,v1]
theorem Bn:aV "ways" v1 (kq v0)=kK v0 v1/\(kK v0 v1).length<1000:=by exists 4
noncomputable def kJ (v0 v1 v2:V):List (Str×V):=dM.zip [v0,v1,v2]
theorem Bm:aV "meter" v2 (kK v0 v1)=kJ v0 v1 v2/\(kJ v0 v1 v2).length<1000:=by exists 4
noncomputable def tX (v0 v1 v2 v3:V):List (Str×V):=dM.zip [v0,v1,v2,v3]
theorem Bl:aV "things" v3 (kJ v0 v1 v2)=tX v0 v1 v2 v3/\(tX v0 v1 v2 v3).length<1000:=by exists 4
noncomputable def tW (v0 v1 v2 v3 v4:V):List (Str×V):=dM.zip [v0,v1,v2,v3,v4]
theorem Bk:aV "base" v4 (tX v0 v1 v2 v3)=tW v0 v1 v2 v3 v4/\(tW v0 v1 v2 v3 v4).length<1000:=by exists 4
noncomputable def tV (v0 v1 v2 v3 v4 v5:V):List (Str×V):=dM.zip [v0,v1,v2,v3,v4,v5]
theorem Bj:aV "top" v5 (tW v0 v1 v2 v3 v4)=tV v0 v1 v2 v3 v4 v5/\(tV v0 v1 v2 v3 v4 v5).length<1000:=by exists 4
noncomputable def tU (v0 v1 v2 v3 v4 v5 v6:V):List (Str×V):=dM.zip [v0,v1,v2,v3,v4,v5,v6]
theorem Bi:aV "edge" v6 (tV v0 v1 v2 v3 v4 v5)=tU v0 v1 v2 v3 v4 v5 v6/\(tU v0 v1 v2 v3 v4 v5 v6).length<1000:=by exists 4
noncomputable def tT (v0 v1 v2 v3 v4 v5 v6 v7:V):List (Str×V):=dM.zip [v0,v1,v2,v3,v4,v5,v6,v7]
theorem Bh:aV "clock" v7 (tU v0 v1 v2 v3 v4 v5 v6)=tT v0 v1 v2 v3 v4 v5 v6 v7/\(tT v0 v1 v2 v3 v4 v5 v6 v7).length<1000:=by exists 4
noncomputable def kI (v0 v1 v2 v3 v4 v5 v6 v7 v8:V):List (Str×V):=dM.zip [v0,v1,v2,v3,v4,v5,v6,v7,v8]
theorem Bg:aV "base_hurried" v8 (tT v0 v1 v2 v3 v4 v5 v6 v7)=kI v0 v1 v2 v3 v4 v5 v6 v7 v8/\(kI v0 v1 v2 v3 v4 v5 v6 v7 v8).length<1000:=by exists 4
noncomputable def jr (v0 v1 v2 v3 v4 v5 v6 v7 v8 v9:V):List (Str×V):=dM.zip [v0,v1,v2,v3,v4,v5,v6,v7,v8,v9]
theorem zG:aV "known_places" v9 (kI v0 v1 v2 v3 v4 v5 v6 v7 v8)=jr v0 v1 v2 v3 v4 v5 v6 v7 v8 v9/\(jr v0 v1 v2 v3 v4 v5 v6 v7 v8 v9).length<1000:=by exists 4
noncomputable def jq (v0 v1 v2 v3 v4 v5 v6 v7 v8 v9 v10:V):List (Str×V):=dM.zip [v0,v1,v2,v3,v4,v5,v6,v7,v8,v9,v10]
theorem zF:aV "first_turns" v10 (jr v0 v1 v2 v3 v4 v5 v6 v7 v8 v9)=jq v0 v1 v2 v3 v4 v5 v6 v7 v8 v9 v10/\(jq v0 v1 v2 v3 v4 v5 v6 v7 v8 v9 v10).length<1000:=by exists 4
noncomputable def bD (v0 v1 v2 v3 v4 v5 v6 v7 v8 v9 v10 v11:V):List (Str×V):=dM.zip [v0,v1,v2,v3,v4,v5,v6,v7,v8,v9,v10,v11]
theorem DC:aV "gone_again" v11 (jq v0 v1 v2 v3 v4 v5 v6 v7 v8 v9 v10)=bD v0 v1 v2 v3 v4 v5 v6 v7 v8 v9 v10 v11/\(bD v0 v1 v2 v3 v4 v5 v6 v7 v8 v9 v10 v11).length<1000:=by exists 4
theorem DE:(fun F=>lk F "ring" v0/\lk F "ways" v1/\lk F "meter" v2/\lk F "things" v3/\lk F "base" v4/\lk F "top" v5/\lk F "edge" v6/\lk F "clock" v7/\lk F "base_hurried" v8/\lk F "known_places" v9/\lk F "first_turns" v10/\lk F "gone_again" v11) (bD v0 v1 v2 v3 v4 v5 v6 v7 v8 v9 v10 v11):=by repeat' constructor
theorem yd:(fun F=>nk F "put" /\nk F "many" /\nk F "thing" /\nk F "heard" /\nk F "grow_base" /\nk F "note_held" /\nk F "newly_known" /\nk F "known_above_base" /\nk F "under_way" /\nk F "thing_waits" /\nk F "clock_is_out" /\nk F "hurry_is_due" /\nk F "new_may_go" /\nk F "go" /\nk F "set_clock" /\nk F "go_again" /\nk F "go_new" /\nk F "ask_for_room") (bD v0 v1 v2 v3 v4 v5 v6 v7 v8 v9 v10 v11):=by repeat' constructor
theorem DB:(fun F=>aV "base" x F=bD v0 v1 v2 v3 x v5 v6 v7 v8 v9 v10 v11/\aV "top" x F=bD v0 v1 v2 v3 v4 x v6 v7 v8 v9 v10 v11/\aV "edge" x F=bD v0 v1 v2 v3 v4 v5 x v7 v8 v9 v10 v11/\aV "clock" x F=bD v0 v1 v2 v3 v4 v5 v6 x v8 v9 v10 v11/\aV "base_hurried" x F=bD v0 v1 v2 v3 v4 v5 v6 v7 x v9 v10 v11) (bD v0 v1 v2 v3 v4 v5 v6 v7 v8 v9 v10 v11):=by repeat' constructor
noncomputable def wQ (v0 v1:V):List (Str×V):=tQ.zip [v0,v1]
theorem CI:aV "room" v1 (kq v0)=wQ v0 v1/\(wQ v0 v1).length<1000:=by exists 4
noncomputable def wO (v0 v1 v2:V):List (Str×V):=tQ.zip [v0,v1,v2]
theorem CG:aV "got" v2 (wQ v0 v1)=wO v0 v1 v2/\(wO v0 v1 v2).length<1000:=by exists 4
noncomputable def wN (v0 v1 v2 v3:V):List (Str×V):=tQ.zip [v0,v1,v2,v3]
theorem CF:aV "out" v3 (wO v0 v1 v2)=wN v0 v1 v2 v3/\(wN v0 v1 v2 v3).length<1000:=by exists 4
noncomputable def eF (v0 v1 v2 v3 v4:V):List (Str×V):=tQ.zip [v0,v1,v2,v3,v4]
theorem Gj:aV "kept" v4 (wN v0 v1 v2 v3)=eF v0 v1 v2 v3 v4/\(eF v0 v1 v2 v3 v4).length<1000:=by exists 4
theorem Gm:(fun F=>lk F "ring" v0/\lk F "room" v1/\lk F "got" v2/\lk F "out" v3/\lk F "kept" v4) (eF v0 v1 v2 v3 v4):=by repeat' constructor
theorem Ib:(fun F=>nk F "room_left" /\nk F "take" /\nk F "stand_in_order" /\nk F "answer" /\nk F "read") (eF v0 v1 v2 v3 v4):=by repeat' constructor
theorem Gi:(fun F=>aV "got" x F=eF v0 v1 x v3 v4/\aV "out" x F=eF v0 v1 v2 x v4) (eF v0 v1 v2 v3 v4):=by repeat' constructor
noncomputable def zJ (v0:V):List (Str×V):=mz.zip [v0]
theorem DK:aV "side" v0 []=zJ v0/\(zJ v0).length<1000:=by exists 4
noncomputable def qd (v0 v1:V):List (Str×V):=mz.zip [v0,v1]
theorem DJ:aV "ring" v1 (zJ v0)=qd v0 v1/\(qd v0 v1).length<1000:=by exists 4
noncomputable def fv (v0 v1 v2:V):List (Str×V):=mz.zip [v0,v1,v2]
theorem DI:aV "taker" v2 (qd v0 v1)=fv v0 v1 v2/\(fv v0 v1 v2).length<1000:=by exists 4
noncomputable def eG (v0 v1 v2 v3:V):List (Str×V):=mz.zip [v0,v1,v2,v3]
theorem DH:aV "sender" v3 (fv v0 v1 v2)=eG v0 v1 v2 v3/\(eG v0 v1 v2 v3).length<1000:=by exists 4
noncomputable def zI (v0 v1 v2 v3 v4:V):List (Str×V):=mz.zip [v0,v1,v2,v3,v4]
theorem DG:aV "state" v4 (eG v0 v1 v2 v3)=zI v0 v1 v2 v3 v4/\(zI v0 v1 v2 v3 v4).length<1000:=by exists 4
noncomputable def uP (v0 v1 v2 v3 v4 v5:V):List (Str×V):=mz.zip [v0,v1,v2,v3,v4,v5]
theorem DF:aV "answer_due" v5 (zI v0 v1 v2 v3 v4)=uP v0 v1 v2 v3 v4 v5/\(uP v0 v1 v2 v3 v4 v5).length<1000:=by exists 4
noncomputable def aX (v0 v1 v2 v3 v4 v5 v6:V):List (Str×V):=mz.zip [v0,v1,v2,v3,v4,v5,v6]
theorem Ii:aV "end_places" v6 (uP v0 v1 v2 v3 v4 v5)=aX v0 v1 v2 v3 v4 v5 v6/\(aX v0 v1 v2 v3 v4 v5 v6).length<1000:=by exists 4
theorem Ij:(fun F=>lk F "ring" v1/\lk F "taker" v2/\lk F "sender" v3/\lk F "state" v4/\lk F "answer_due" v5/\lk F "end_places" v6) (aX v0 v1 v2 v3 v4 v5 v6):=by repeat' constructor
theorem JX:(fun F=>nk F "name" /\nk F "begin" /\nk F "end" /\nk F "put" /\nk F "read" /\nk F "come" /\nk F "hear" /\nk F "take_in" /\nk F "stand_to" /\nk F "send" /\nk F "piece_of") (aX v0 v1 v2 v3 v4 v5 v6):=by repeat' constructor
theorem Ig:(fun F=>aV "state" x F=aX v0 v1 v2 v3 x v5 v6/\aV "answer_due" x F=aX v0 v1 v2 v3 v4 x v6) (aX v0 v1 v2 v3 v4 v5 v6):=by repeat' constructor
noncomputable def zE (v0:V):List (Str×V):=cM.zip [v0]
theorem DA:aV "roads" v0 []=zE v0/\(zE v0).length<1000:=by exists 4
noncomputable def dN (v0 v1:V):List (Str×V):=cM.zip [v0,v1]
theorem Dz:aV "terms" v1 (zE v0)=dN v0 v1:=by kernel_rfl
noncomputable def zD (v0 v1 v2:V):List (Str×V):=cM.zip [v0,v1,v2]
noncomputable def zC (v0 v1 v2 v3:V):List (Str×V):=cM.zip [v0,v1,v2,v3]
noncomputable def eE (v0 v1 v2 v3 v4:V):List (Str×V):=cM.zip [v0,v1,v2,v3,v4]
noncomputable def qc (v0 v1 v2 v3 v4 v5:V):List (Str×V):=cM.zip [v0,v1,v2,v3,v4,v5]
noncomputable def zB (v0 v1 v2 v3 v4 v5 v6:V):List (Str×V):=cM.zip [v0,v1,v2,v3,v4,v5,v6]
noncomputable def zA (v0 v1 v2 v3 v4 v5 v6 v7:V):List (Str×V):=cM.zip [v0,v1,v2,v3,v4,v5,v6,v7]
noncomputable def gp (v0 v1 v2 v3 v4 v5 v6 v7 v8:V):List (Str×V):=cM.zip [v0,v1,v2,v3,v4,v5,v6,v7,v8]
theorem Ia:(fun F=>lk F "roads" v0/\lk F "terms" v1/\lk F "deeds" v2/\lk F "wishes" v3/\lk F "last_wish" v4/\lk F "hands" v5/\lk F "outs" v6/\lk F "told" v7/\lk F "turn" v8) (gp v0 v1 v2 v3 v4 v5 v6 v7 v8):=by repeat' constructor
theorem JV:(fun F=>nk F "step" /\nk F "let_come" /\nk F "do_wish" /\nk F "went" /\nk F "let_read" /\nk F "wind_up" /\nk F "unread" /\nk F "let_send" /\nk F "tell_stand") (gp v0 v1 v2 v3 v4 v5 v6 v7 v8):=by repeat' constructor
theorem HZ:(fun F=>aV "turn" x F=gp v0 v1 v2 v3 v4 v5 v6 v7 x) (gp v0 v1 v2 v3 v4 v5 v6 v7 v8):=by repeat' constructor
theorem H_:(gp v0 v1 v2 v3 v4 v5 v6 v7 v8).length<1000:=by show 9<1000;decide
end
end
mutual
abbrev bM:Addr:=265
abbrev d7:Addr:=310
abbrev aY:Addr:=465
abbrev bI:Addr:=528
abbrev aC:Addr:=669
abbrev cV:Addr:=1017
abbrev aI:Addr:=1136
abbrev bp:Addr:=1294
abbrev cg:Addr:=31
abbrev aU:Addr:=51
abbrev bc:Addr:=70
abbrev aJ:Addr:=89
abbrev aL:Addr:=170
abbrev SV:Addr:=732
abbrev jv:Addr:=767
abbrev eO:Addr:=807
abbrev nM:Addr:=847
abbrev nN:Addr:=880
abbrev eK:Addr:=913
abbrev eJ:Addr:=939
abbrev eN:Addr:=965
abbrev Mf {N i:List Str} {x y:Str} {s:Stmt} (_:SB N i x y s) (K:W.Frag) (C:Addr):Prop:=MethAt K C x y s
abbrev Df {N i:List Str} {x:Str} {s:Stmt} (_:SZ N i x s) (K:W.Frag) (mg:Str->Option Value):Prop:=AN K mg x s
abbrev OM (P:Program) (w:World) (mg:Str->Option Value) (base:Heap) {K:W.Frag} {C:Addr} {N i:List Str} {x y:Str} {s:Stmt} (_:MethAt K C x y s) (_:SB N i x y s) (k:Nat) (sp:Sp):Prop:=yG P w K mg base (IH P w) C x k i sp
abbrev OF (P:Program) (w:World) (base:Heap) {K:W.Frag} {mg:Str->Option Value} {N i:List Str} {x:Str} {s:Stmt} (_:AN K mg x s) (_:SZ N i x s) (k:Nat) (sp:Sp):Prop:=FnAt P w K mg base (IH P w) x k i sp
structure Txt (K:W.Frag) (mg:Str->Option Value):Prop where
 jo:dF K mg "Road" bM
 xW:aO K bM "deeds"
 lU:aO K bM "sendings"
 gY:aO K bM "coming"
 cL:dF K mg "Terms" d7
 ji:aO K d7 "ring"
 gW:aO K d7 "rooms"
 n_:aO K d7 "lag"
 pj:aO K d7 "first"
 lS:aO K d7 "longest"
 bG:dF K mg "Meter" aY
 xX:aO K aY "most"
 bR:aO K aY "window"
 jj:aO K aY "knee"
 dJ:aO K aY "counted"
 bB:dF K mg "Ways" bI
 mW:aO K bI "longest"
 br:aO K bI "smooth"
 cK:aO K bI "spread"
 fS:aO K bI "wait"
 aq:dF K mg "Sender" aC
 vz:aO K aC "ring"
 dY:aO K aC "ways"
 eA:aO K aC "meter"
 hU:aO K aC "things"
 aN:aO K aC "base"
 bF:aO K aC "top"
 gX:aO K aC "edge"
 eB:aO K aC "clock"
 dA:aO K aC "base_hurried"
 dz:aO K aC "known_places"
 fV:aO K aC "first_turns"
 gO:aO K aC "gone_again"
 aT:dF K mg "Taker" cV
 rg:aO K cV "ring"
 xV:aO K cV "room"
 cC:aO K cV "got"
 fU:aO K cV "out"
 fb:aO K cV "kept"
 aK:dF K mg "Hand" aI
 HA:aO K aI "side"
 oh:aO K aI "ring"
 cZ:aO K aI "taker"
 bS:aO K aI "sender"
 bU:aO K aI "state"
 dU:aO K aI "answer_due"
 jk:aO K aI "end_places"
 aP:dF K mg "Walk" bp
 rf:aO K bp "roads"
 xT:aO K bp "terms"
 xU:aO K bp "deeds"
 ph:aO K bp "wishes"
 pV:aO K bp "last_wish"
 e_:aO K bp "hands"
 Ac:aO K bp "outs"
 fT:aO K bp "told"
 bJ:aO K bp "turn"
 Qw:C9 K mg "RoadError" cg
 IP:C9 K mg "NoFrame" aU
 Lz:C9 K mg "Spoilt" bc
 IM:C9 K mg "NoPiece" aJ
 LA:C9 K mg "NotNow" aL
 DV:VX K mg "NoFrame" aU cg
 Ep:yC K aU
 JL:W.keepIn K (.ref aU)=true
 jC:C_ K aU "frame"
 BZ:W.kitOne K (.ref aU) (.type "ValueError")=some true
 l9:W.kitOne K (.ref aU) (.ref cg)=some true
 ma:isx K (.ref aU) cg=some true
 jc:W.kitOne K (.ref aU) (.ref aU)=some true
 jn:isx K (.ref aU) aU=some true
 pP:W.kitOne K (.ref aU) (.ref bc)=some false
 p7:isx K (.ref aU) bc=some false
 nV:W.kitOne K (.ref aU) (.ref aJ)=some false
 oi:isx K (.ref aU) aJ=some false
 pQ:W.kitOne K (.ref aU) (.ref aL)=some false
 p8:isx K (.ref aU) aL=some false
 GP:VX K mg "Spoilt" bc cg
 HU:yC K bc
 MR:W.keepIn K (.ref bc)=true
 kN:C_ K bc "frame"
 D_:W.kitOne K (.ref bc) (.type "ValueError")=some true
 mQ:W.kitOne K (.ref bc) (.ref cg)=some true
 mX:isx K (.ref bc) cg=some true
 j8:W.kitOne K (.ref bc) (.ref aU)=some false
 km:isx K (.ref bc) aU=some false
 lP:W.kitOne K (.ref bc) (.ref bc)=some true
 lV:isx K (.ref bc) bc=some true
 pL:W.kitOne K (.ref bc) (.ref aJ)=some false
 pW:isx K (.ref bc) aJ=some false
 rO:W.kitOne K (.ref bc) (.ref aL)=some false
 rS:isx K (.ref bc) aL=some false
 DU:VX K mg "NoPiece" aJ cg
 Eo:yC K aJ
 JK:W.keepIn K (.ref aJ)=true
 kO:C_ K aJ "what"
 BY:W.kitOne K (.ref aJ) (.type "ValueError")=some true
 l8:W.kitOne K (.ref aJ) (.ref cg)=some true
 l_:isx K (.ref aJ) cg=some true
 ja:W.kitOne K (.ref aJ) (.ref aU)=some false
 jm:isx K (.ref aJ) aU=some false
 j9:W.kitOne K (.ref aJ) (.ref bc)=some false
 ko:isx K (.ref aJ) bc=some false
 i_:W.kitOne K (.ref aJ) (.ref aJ)=some true
 jl:isx K (.ref aJ) aJ=some true
 pO:W.kitOne K (.ref aJ) (.ref aL)=some false
 pZ:isx K (.ref aJ) aL=some false
 sR:VX K mg "NotNow" aL cg
 Cy:yC K aL
 zp:W.keepIn K (.ref aL)=true
 g9:C_ K aL "state"
 mD:C_ K aL "wish"
 Ea:W.kitOne K (.ref aL) (.type "ValueError")=some true
 mR:W.kitOne K (.ref aL) (.ref cg)=some true
 mY:isx K (.ref aL) cg=some true
 pN:W.kitOne K (.ref aL) (.ref aU)=some false
 pY:isx K (.ref aL) aU=some false
 rP:W.kitOne K (.ref aL) (.ref bc)=some false
 rT:isx K (.ref aL) bc=some false
 pM:W.kitOne K (.ref aL) (.ref aJ)=some false
 pX:isx K (.ref aL) aJ=some false
 rQ:W.kitOne K (.ref aL) (.ref aL)=some true
 rV:isx K (.ref aL) aL=some true
 Ym:dF K mg "State" SV
 pq:dF K mg "Shut" jv
 iF:dF K mg "Calling" eO
 rj:dF K mg "Open" nM
 tP:dF K mg "Left" nN
 gi:dF K mg "Leaving" eK
 iD:dF K mg "Waiting" eJ
 gj:dF K mg "Closing" eN
 FV:yF K jv
 zM:Mf dR K jv
 Bo:Mf d_ K jv
 DL:Mf fN K jv
 zN:Mf cU K jv
 JF:yF K eO
 sP:Mf bX K eO
 zU:Mf fN K eO
 vn:Mf cU K eO
 KR:yF K nM
 wY:Mf bX K nM
 DM:Mf eg K nM
 zO:Mf cU K nM
 RW:yF K nN
 wZ:Mf bX K nN
 DO:Mf eg K nN
 DN:Mf fN K nN
 zP:Mf cU K nN
 Cj:yF K eK
 sN:Mf bX K eK
 vk:Mf dR K eK
 w9:Mf d_ K eK
 zQ:Mf eg K eK
 JE:yF K eJ
 sM:Mf bX K eJ
 vi:Mf dR K eJ
 wX:Mf d_ K eJ
 zL:Mf eg K eJ
 vj:Mf cU K eJ
 Ck:yF K eN
 sO:Mf bX K eN
 vm:Mf dR K eN
 w_:Mf d_ K eN
 zS:Mf eg K eN
 zR:Mf fN K eN
 nC:Mf gJ K aU
 oC:Mf ip K bc
 nB:Mf gI K aJ
 oH:Mf iy K aL
 EB:Df wc K mg
 Ip:Df yR K mg
 EF:Df wk K mg
 ED:Df wg K mg
 EC:Df wd K mg
 yg:Df gR K mg
 sv:Mf jX K bM
 Ay:Mf f9 K bM
 Az:Mf ml K bM
 Lg:Df BW K mg
 P4:Df E9 K mg
 An:Df qQ K mg
 Al:Df qO K mg
 qf:Mf fF K d7
 CZ:Df nT K mg
 EA:Df jR K mg
 Am:Df qP K mg
 Ak:Df iR K mg
 Eu:Df qN K mg
 EG:Df eU K mg
 uh:Df lD K mg
 r9:Df c_ K mg
 C0:Df tw K mg
 P2:Df Bv K mg
 ue:Df lB K mg
 Ex:Df vZ K mg
 EE:Df wj K mg
 CV:Df tj K mg
 Ew:Df vY K mg
 qi:Mf iZ K aY
 vG:Mf iX K aY
 qh:Mf iY K aY
 yr:Mf oZ K aY
 sA:Mf jZ K aY
 sC:Mf j2 K aY
 Io:Df uG K mg
 sf:Mf jU K bI
 se:Mf jT K bI
 m_:Mf cW K bI
 ng:Mf gE K bI
 oz:Mf eV K bI
 uk:Mf lF K bI
 oG:Mf iw K aC
 yp:Mf oX K aC
 vF:Mf mO K aC
 uu:Mf lI K aC
 uv:Mf dI K aC
 nA:Mf d4 K aC
 nq:Mf gH K aC
 kM:Mf cG K aC
 gu:Mf dj K aC
 nh:Mf gF K aC
 kL:Mf fB K aC
 jA:Mf eX K aC
 jz:Mf eW K aC
 mf:Mf fO K aC
 Ax:Mf qS K aC
 nj:Mf gG K aC
 oF:Mf ir K aC
 su:Mf f7 K aC
 jB:Mf eY K aC
 Aw:Mf qR K jv
 oE:Mf iq K jv
 yo:Mf oW K jv
 uB:Mf lO K eO
 nG:Mf gM K eO
 oI:Mf iz K eO
 sI:Mf j7 K eO
 AA:Mf qT K nM
 sy:Mf jY K nM
 uw:Mf lJ K nM
 yq:Mf oY K nM
 AD:Mf qU K nN
 sD:Mf j3 K nN
 ux:Mf lK K nN
 uy:Mf lL K eK
 sE:Mf j4 K eK
 nE:Mf gK K eK
 uq:Mf lH K eJ
 sr:Mf jW K eJ
 uA:Mf lM K eN
 nF:Mf gL K eN
 qg:Mf iW K cV
 oB:Mf ij K cV
 yj:Mf gT K cV
 js:Mf cT K cV
 ur:Mf hG K cV
 yn:Mf gU K cV
 Ez:Df wa K mg
 uc:Df lA K mg
 sH:Mf j6 K aI
 AG:Mf qV K aI
 yt:Mf o3 K aI
 C3:Mf tx K aI
 C1:Mf nU K aI
 AF:Mf i5 K aI
 AI:Mf mm K aI
 AH:Mf i6 K aI
 uz:Mf fj K aI
 sF:Mf j5 K aI
 AE:Mf f_ K aI
 sG:Mf eh K aI
 Ey:Df v_ K mg
 CY:Df tu K mg
 ug:Df fh K mg
 uf:Df lC K mg
 so:Mf jV K bp
 Av:Mf dQ K bp
 sk:Mf df K bp
 uo:Mf g_ K bp
 Au:Mf iU K bp
 sj:Mf fZ K bp
 um:Mf lG K bp
 vE:Mf iV K bp
 si:Mf d9 K bp
 oA:Mf b_ K bp
 qe:Df iQ K mg
 t_:Df ly K mg
 t9:Df lx K mg
 t7:Df lu K mg
 vC:Df mN K mg
 vB:Df iP K mg
 P5:Df Bw K mg
 uj:Df lE K mg
 yh:Df fu K mg
 ui:Df bH K mg
 Aq:Df dP K mg
 As:Df cY K mg
 yi:Df gS K mg
 Ao:Df fY K mg
 r_:Df jS K mg
 Ar:Df cx K mg
 Ap:Df cX K mg
 TL:Df iS K mg
 XX:mg "abs" = none
 Lr:mg "all" = none
 VT:mg "bool" = none
 uC:mg "enumerate" = none
 XW:mg "int" = none
 cN:mg "isinstance" = none
 gv:mg "len" = none
 xf:mg "list" = none
 EO:mg "max" = none
 Lq:mg "min" = none
 fc:mg "range" = none
 Qd:mg "sorted" = none
 mi:mg "str" = none
 XU:mg "sum" = none
 rC:mg "tuple" = none
 zY:dG mg "LAG_MOST_roads" (.int 60)
 GF:dG mg "DEEDS_MOST" (.int 60)
 DS:dG mg "COPIES_MOST" (.int 3)
 GC:dG mg "PLACE_MOST" (.int 66)
 J_:dG mg "RUN_MOST" (.int 255)
 Iw:dG mg "RING_MOST" (.int 64)
 yA:dG mg "ROOM_MOST_terms" (.int 16)
 zX:dG mg "LAG_MOST_terms" (.int 32)
 nI:dG mg "WAIT_LEAST_terms" (.int 2)
 Iu:dG mg "WAIT_MOST" (.int 64)
 BJ:TupAt K mg "KINDS" [.str "bare",.str "signs",.str "begin",.str "end",.str "ask"]
 yy:dG mg "SIGNS" (.str " !\"#$&'()*+,-./0123456789:;<=>?@ABCDEFGHIJKLMNOPQRSTUVWXYZ[\\]^_`abcdefghijklmnopqrstuvwxyz{|}~")
 GB:TupAt K mg "UNNUMBERED" [.str "bare",.str "ask"]
 vH:dG mg "NUMBER_MOST" (.int 63)
 xc:dG mg "ROOM_MOST_pieces" (.int 16)
 AL:dG mg "HELD_MOST" (.int 15)
 mC:dG mg "SIGNS_MOST" (.int 4)
 GD:dG mg "FRAME_BITS" (.int 74)
 yB:dG mg "CHECK_BITS" (.int 8)
 Nt:dG mg "DIVISOR" (.int 263)
 C7:dG mg "DIVISOR_BITS" (.int 9)
 zW:dG mg "REMAINDER_MOST" (.int 255)
 Nq:dG mg "NO_KIND" (.str "")
 Np:dG mg "NO_SIGN" (.str "\n")
 yw:dG mg "WAIT_LEAST_ways" (.int 2)
 zZ:dG mg "KNOWN_TO_HURRY" (.int 2)
 Iv:dG mg "TEXT_MOST" (.int 60)
 Lm:TupAt K mg "BEGIN" [.str "begin",.str ""]
 XS:TupAt K mg "END" [.str "end",.str ""]
 yz:TupAt K mg "SIDES" [.int 0,.int 1]
 DR:dG mg "WISHES_MOST" (.int 60)
 zV:dG mg "WISH_TURN_MOST" (.int 400)
 Iy:dG mg "READ_MOST" (.int 60)
 Nr:dG mg "NO_COPY" (.str "-")
end
section
mutual
open PySem PySem.W
structure Em where
 t:BT
 a:Nat
 k:Nat
 d:List DictEntry
 l:List Value
 m:Value
noncomputable def ups:List Obj->BT->Nat->BT
 | [],t,_=>t
 |o::r,t,n=>ups r (t.ins n o) (n+1)
noncomputable def txs:List Str->Nat->List Value
 | [],_=>[]
 |x::r,k=> .str x k::txs r (k+1)
noncomputable def ob (c:Value) (d:Data):Obj:=⟨c,none,d,#[]⟩
noncomputable def tpl (x:List Value):Obj:=ob (.type "tuple") (.seq x.toArray)
noncomputable def fld (x:List Value) (c:Value:= .none):Obj:=ob c (.fields x.toArray)
noncomputable def dic (x:List DictEntry) (n:Nat):Obj:=ob (.type "dict") (.dict x.toArray n)
noncomputable def den (P:Params) (x:Str) (k:Nat) (v:Value):DictEntry:=⟨PyData.keyHash P x,.str x k,v⟩
noncomputable def cod (n y:Str) (k:Nat) (l:Nat) (d g:Nat) (r:Nat) (o:Bool) (v w x:Value) (i:Nat):Obj:=
 fld [.str n k,.str y (k+1),.str "/claim/cut.py" (k+2),.int l 0,.int d 0,.int 0 0,.int 0 0,.int g 0,.ref r,.bool o,.int 181 0,.ref (r+1),.none,v,w,x,.int i 0,.int l 0,.str "/claim/cut.py" (i+1)] (.type "code")
noncomputable def lns (t:Stmt):Option (List Str×List Str):=localNames (fH t) (a9 t) (.stmts (dB t))
noncomputable def nv (t:Stmt):Nat:=(lns t).elim 0 (·.1.length)
noncomputable def fnx (n y:Str) (t:Stmt) (o:Value) (g:Addr) (m c:Value):Obj:=ob o (.func (FuncData.mk n y (fH t) (.stmts (dB t)) (a9 t) g [] .none .none .none m none c .none 0))
noncomputable def Yp (y:Str) (m:Value) (k r:Nat) (t:Stmt):List Obj:=match t with
 | .FunctionDef n p _ _ _ _ _ _ _ q=>
  tpl []::fld []::(match lns t with
   |some v=>[tpl (txs v.1 (k+3)),tpl [],fnx n y t .none 0 .none .none,cod n y k q.line p.args.length 3 r true (.ref (r+2)) (.ref (r+3)) (.ref (r+4)) (k+3+v.1.length),fnx n y t (.type "function") 3 m (.ref (r+5))]
   |none=>[fnx n y t .none 0 .none .none,cod n y k q.line p.args.length 3 r true .none .none (.ref (r+2)) (k+3),fnx n y t (.type "function") 3 m (.ref (r+3))])
 |_=>[]
noncomputable def lin (q:Pos) (a:Nat):List Value:=[.int q.line 0,.int q.col 0,.ref a]
structure Ms where
 o:List Obj
 e:List DictEntry
 l:List Value
 k:Nat
 a:Nat
noncomputable def ms (P:Params) (n:Str) (m:Value):List Stmt->Nat->Nat->Ms
 | [],k,a=>⟨[],[],[],k,a⟩
 |t::r,k,a=>match t with
  | .FunctionDef x _ _ _ _ _ _ _ _ q=>
   let o:=Yp (n ++ "." ++x) m k a t;let b:=a+o.length;let c:=k+5+nv t;let z:=ms P n m r (c+1) b
   ⟨o++z.o,den P x c (.ref (b-1))::z.e,lin q (b-2)++z.l,z.k,z.a⟩
  |_=>ms P n m r k a
noncomputable def kon:Expr->Nat->Value
 | .Constant (.str s) _ _,k=> .str s k
 | .Constant (.int s) _ _,k=> .int s k
 |_,_=> .none
noncomputable def kons:List Expr->Nat->List Value
 | [],_=>[]
 |x::r,k=>kon x k::kons r (k+1)
noncomputable abbrev SW:=Value×List Value×Option Value×Nat
noncomputable def BO:SW:=(.type "object",[.type "object"],some (.builtin "object.__new__"),2)
noncomputable def BV:SW:=(.type "ValueError",[.type "ValueError",.type "Exception",.type "BaseException",.type "object"],some (.builtin "ValueError.__new__"),1)
noncomputable def bx (r:Nat) (b:SW):SW:=(.ref r,.ref r::b.2.1,b.2.2.1,0)
noncomputable def frm (a b:Nat) (m:Value):Obj:=⟨.type "frame",none,.plain,#[some (.ref a),some (.ref 3),some (.ref b),none,some m,none,some (.ref 0)]⟩
noncomputable def sbc (l:List Value) (o:Obj):Obj:=match o.data with
 | .cls z=>{o with data:= .cls {z with subclasses:=z.subclasses++l}}
 |_=>o
noncomputable def clo (n:Str) (bs:List Expr) (k a:Nat) (B:SW) (c d:Nat) (s:List Value):Obj:=⟨.type "type",none,.cls (.mk n [B.1] (.ref c::B.2.1) d n true [] s false none false),#[(match bs with | []=>none|_=>some (.ref a)),none,some (.str n k),some (.str n (k+8)),B.2.2.1,some (.bool true)]⟩
noncomputable def Zh (P:Params) (m:Value) (k a:Nat) (B:SW) (t:Stmt):Ms:=match t with
  |
    .ClassDef n bs _ b _ _ _ _ _ sa q=>
    let M:=ms P n m b (k+12) (a+7);let c:=M.a+2;let s:=M.k+sa.length;let g:=B.2.2.2;let i (x y:String) (z:Value) (k:Nat):Obj:=fld [.str (Str.ofString x) k,.ref c,.builtin y,z] (.type "getset_descriptor");let w:=i "__weakref__" "ExceptionGroup.__weakref__" .none;let E:=den P "__firstlineno__" (k+11) (.int q.line (k+10))::(M.e++ [den P "__static_attributes__" s (.ref M.a)]);let m0:=den P "__module__" (k+7) m;let G:List DictEntry×List Obj:=match g with
      |2=>([den P "__dict__" (s+2) (.ref (c+1)),den P "__weakref__" (s+4) (.ref (c+2))],[i "__dict__" "function.__dict__" (.builtin "function.__dict__#set") (s+1),w (s+3)])
      |1=>([den P "__weakref__" (s+2) (.ref (c+1))],[w (s+1)])
      |_=>([],[])
    let C (x:String) (v:Value):Obj:=fld [.builtin x,v] (.type "builtin_function_or_method");let
        o:=[tpl (match bs with | []=>[]|_=>[B.1]),C "type.__prepare__" (.type "type"),
        dic (m0::den P "__qualname__" (k+9) (.str n (k+8))::E) (M.e.length+4),tpl [],fld M.l,cod n n (k+2) q.line 0 0 (a+3) false .none .none .none (k+5),
        frm (a+5) (a+2) m]++M.o++
      [tpl (txs sa M.k),dic (m0::E++G.1++ [den P "__doc__" (s+1+2*g) .none]) (2+g),
       clo n bs k a B c (c-1) []]++
      G.2++ [fld [.ref c,.ref c,.ref c] (.type "super"),C "object.__init_subclass__" (.ref c)]
    ⟨o,[den P n (s+3+2*g) (.ref c)],lin q (a+5),s+2*g+4,c⟩
  |_=>⟨[],[],[],k,a⟩
noncomputable def em (P:Params) (e:Em) (t:Stmt):Em:=match t with
 | .FunctionDef n _ _ _ _ _ _ _ _ q=>
  let o:=Yp n e.m e.k e.a t;let a:=e.a+o.length;let k:=e.k+5+nv t
  ⟨ups o e.t e.a,a,k+1,e.d++ [den P n k (.ref (a-1))],e.l++lin q (a-2),e.m⟩
 | .Assign [.Name x _] v _=>(match v with
  | .Tuple es _ _=>⟨e.t.ins e.a (tpl (kons es e.k)),e.a+1,e.k+es.length+1,e.d++ [den P x (e.k+es.length) (.ref e.a)],e.l,e.m⟩
  |_=>bif x == "__name__" then{e with m:=kon v e.k,k:=e.k+2} else{e with k:=e.k+2,d:=e.d++ [den P x (e.k+1) (kon v e.k)]})
 | .ClassDef _ bs _ _ _ _ _ _ _ _ _=>
  let B:SW×List Value:=match bs with
   | [.Name x _]=>(match e.d.find? (·.key.isStr x) with
    |some ⟨_,_,.ref r⟩=>((match e.t.get r with
     |some ⟨_,_,.cls z,sl⟩=>(.ref r,z.mro,sl.getD 4 none,0)
     |_=>BO),[.ref r])
    |_=>(BV,[]))
   |_=>(BO,[])
  let z:=Zh P e.m e.k e.a B.1 t;let u:=match B.2 with
   | [.ref r]=>e.t.set r (sbc [.ref z.a])
   |_=>e.t
  ⟨ups z.o u e.a,e.a+z.o.length,z.k,e.d++z.e,e.l++z.l,e.m⟩
 |_=>e
noncomputable abbrev GO:Program:=Challenge.rw_slowroad_k81_kept.row.prog
noncomputable def Ga:List Stmt:=behindTheImports GO
noncomputable def K9:Env:={scope:=GO.main.scope,locals:=mainNs,globals:=mainNs,cells:=[],code:=Value.ref 13,frame:=some 14}
noncomputable def TC:Code:= .body Ga K9
noncomputable abbrev V8:Pos:=⟨0,0,0,0⟩
noncomputable abbrev Xz:List Frame:=[topFrame V8]
noncomputable abbrev hdn:Option Value:=some (.ref 6)
noncomputable abbrev lif:Life:= .mk [] [] [] 0 [] [] false #[] [] 0 false false false 0 [2000,10,10] false 0 true [] [] 0 false
noncomputable def e0 (P:Params):Em:=⟨ups [boot_o_0 P,boot_o_1 P,boot_o_2 P,boot_o_3 P,boot_o_4 P,boot_o_5 P,boot_o_6 P,boot_o_7 P,boot_o_8 P,boot_o_9 P,boot_o_10 P,tpl [],fld [],cod "<module>" "<module>" 182 1 0 0 11 false .none .none .none 185,frm 13 3 (.str "__main__" 164)] .nil 0,15,187,(match (boot_o_3 P).data with | .dict es _=>es.toList.drop 1|_=>[]),[],.str "__main__" 164⟩
noncomputable def dct (P:Params) (e:Em):Obj:=dic (den P "__name__" 165 e.m::e.d) (e.d.length+1)
noncomputable def tre (P:Params) (e:Em):BT:=(e.t.ins 3 (dct P e)).ins 12 (fld e.l)
noncomputable abbrev shd (e:Params->Em) (w:World) (os:OsState):SharedT:=⟨tre w.params (e w.params),(e w.params).a,lif,#[],⟨0,0,0,0⟩,(e w.params).k,os⟩
noncomputable def hgg (i j:Nat):List Stmt:=(Ga.drop i).take j
noncomputable def ems (P:Params):List Stmt->Em->Em
 | [],e=>e
 |t::r,e=>ems P r (em P e t)
noncomputable def nxt (i j a k:Nat) (e:Params->Em) (P:Params):Em:={ems P (hgg i j) (e P) with a:=a,k:=k}
abbrev sgr (w:World) (os:OsState) (n:Nat) (a:Params->Em) (i j:Nat) (p:Pos) (b:Params->Em) (q:Pos):Prop:=segRunT treeTable GO w 11 hdn 1 n (shd a w os) (piecesOf (hgg i j) K9 TC p Xz)=some (.next,shd b w os,TC,q)
variable (w:PySem.World) (os:PySem.OsState)
theorem Vo:topGo treeTable GO w 11 hdn 12 ⟨boot_heap w.params,#[],boot_drawn,boot_toks,os⟩ (topStub GO)=some ((shd e0 w os).abs,⟨denote treeTable TC,TC,V8,Xz⟩):=by kernel_rfl
theorem Vq:segRun treeTable GO w 11 hdn 1 1 (shd e0 w os).abs (blockOf Ga K9 TC V8 Xz)=some (.next,(shd e0 w os).abs,TC,V8):=by kernel_rfl
noncomputable def e1:=nxt 0 10 154 371 e0
theorem Xy:sgr w os 1876 e0 0 10 V8 e1 ⟨29,0,30,8⟩:=by unfold sgr;kernel_rfl
noncomputable def e2:=nxt 10 57 402 751 e1
theorem Xx:sgr w os 1983 e1 10 57 ⟨29,0,30,8⟩ e2 ⟨193,0,194,89⟩:=by unfold sgr;kernel_rfl
noncomputable def e3:=nxt 67 12 674 1112 e2
theorem Xw:sgr w os 1713 e2 67 12 ⟨193,0,194,89⟩ e3 ⟨385,0,385,8⟩:=by unfold sgr;kernel_rfl
noncomputable def e4:=nxt 79 6 916 1380 e3
theorem Xv:sgr w os 1994 e3 79 6 ⟨385,0,385,8⟩ e4 ⟨454,0,463,24⟩:=by unfold sgr;kernel_rfl
noncomputable def e5:=nxt 85 21 1175 1734 e4
theorem Xu:sgr w os 1861 e4 85 21 ⟨454,0,463,24⟩ e5 ⟨636,0,637,78⟩:=by unfold sgr;kernel_rfl
noncomputable def e6:=nxt 106 23 1405 2060 e5
theorem Xs:sgr w os 1282 e5 106 23 ⟨636,0,637,78⟩ e6 ⟨834,0,855,15⟩:=by unfold sgr;kernel_rfl
noncomputable abbrev hfin (P:Params):Heap:=absHeap (tre P (e6 P)) 1405 lif
noncomputable abbrev El (w:PySem.World) (os:PySem.OsState):Shared:=⟨hfin w.params,#[],⟨0,0,0,0⟩,2060,os⟩
theorem Vp:topRun treeTable GO w 11 hdn 2 (shd e6 w os).abs ⟨doneF .next,TC,⟨834,0,855,15⟩,Xz⟩=some (El w os):=by kernel_rfl
theorem Si:topRun treeTable GO w 11 hdn 10711 (shd e0 w os).abs (restOf Ga K9 TC V8 Xz)=some (El w os):= .trans (by kernel_rfl) (aaU (aaV (Xy w os)) (aaU (aaV (Xx w os)) (aaU (aaV (Xw w os)) (aaU (aaV (Xv w os)) (aaU (aaV (Xu w os)) (aaU (aaV (Xs w os)) (piece_nil (Vp w os))))))))
theorem Vn:topRun treeTable GO w 11 hdn 10724 ⟨boot_heap w.params,#[],boot_drawn,boot_toks,os⟩ (topStub GO)=some (El w os):=go_top (n:=12) (N:=10712) (Vo w os) (piece_block (n:=1) (N:=10711) (Vq w os) (Si w os))
theorem Sj:∀w:World,(fencedOpening treeTable GO w 21532).map (fun s=>(s.heap,s.gens,s.drawn,s.toks))=some (boot_heap w.params,#[],boot_drawn,boot_toks):=boot_open rfl (by decide) (fun s=>rfl)
theorem Sh:∀w:World,((boot_heap w.params).isNs mainGlobals&&(#[]:Array GenState).size == 0,(boot_heap w.params).objs.size,(boot_heap w.params).nsMap mainGlobals "__annotations__")=(true,11,hdn):=fun w=>by kernel_rfl
noncomputable def isNm:Stmt->Bool
 | .Assign [.Name x _] _ _=>x == "__name__"
 |_=>false
noncomputable def cu:Program:={Challenge.pw_slowroad_k81_kept with main:={Challenge.pw_slowroad_k81_kept.main with body:=Challenge.pw_slowroad_k81_kept.main.body.filter (!isNm ·)}}
noncomputable def mo:List (Nat×Nat)->Nat->Value
 | [],_=> .str "__main__" 164
 |p::r,i=>match Nat.ble p.1 i,top p.1 with
  |true,.Assign _ v _=>kon v p.2
  |_,_=>mo r i
noncomputable def mof:=mo [(117,1961),(115,1953),(107,1910),(96,1686),(89,1518),(87,1440),(78,1110),(75,922),(71,835),(69,764),(39,619),(30,562),(28,552),(26,541),(14,434),(12,423),(1,194)]
noncomputable def dnm:Stmt->Str
 | .FunctionDef n _ _ _ _ _ _ _ _ _=>n
 |_=>""
noncomputable def fno (t:Stmt) (y:Str) (i k a j:Nat):Obj:=let l:=Yp y (mof i) k (a+1-(Yp y .none 0 0 t).length) t;l.getD (l.length-j) (tpl [])
noncomputable def kfn (i k a:Nat):Obj:=fno (top i) (dnm (top i)) i k a 2
noncomputable def kme (y:Str) (i n k a:Nat):Obj:=fno (inClass (top i) n) y i k a 2
noncomputable def kfu (y:Str) (i c:Nat) (t:Stmt):Obj:=fnx (dnm t) y t (.type "function") 3 (mof i) (.ref c)
noncomputable def kcl (P:Params) (c i k a:Nat) (B:SW) (j:Nat):Obj:=(Zh P (mof i) k a B (top i)).o.getD (c-a+j-1) (tpl [])
noncomputable def kco (i k a:Nat) (B:SW) (c d:Nat) (s:List Value):Obj:=match top i with
 | .ClassDef n bs _ _ _ _ _ _ _ _ _=>clo n bs k a B c d s
 |_=>tpl []
noncomputable def ktp (i k:Nat):Obj:=match top i with
 | .Assign _ (.Tuple es _ _) _=>tpl (kons es k)
 |_=>tpl []
local macro_rules
 | `(#[0, $n:num, $x]) => `(List.cons (nat_lit $n, $x) List.nil)
 | `(#[0, $n:num, $x, $xs,*]) => `(List.cons (nat_lit $n, $x) #[0, $xs,*])
local macro_rules
 | `(#[0, ($i, $k, $a:num), $xs,*]) => let n (i : Nat) := Lean.Syntax.mkNumLit (toString (a.getNat + i - 1)); `(#[0, $(n 0),kfn $i $k $a, $a,kfu (dnm (top $i)) $i $(n 0) (top $i), $xs,*])
local macro_rules
 | `(#[0, ($y:str, $i, $n, $k, $a:num), $xs,*]) => let m (i : Nat) := Lean.Syntax.mkNumLit (toString (a.getNat + i - 1)); `(#[0, $(m 0),kme $y $i $n $k $a, $a,kfu $y $i $(m 0) (inClass (top $i) $n), $xs,*])
local macro_rules
 | `(#[0, {$P:term, $c:num, $i, $k, $a, $B, $s}, $xs,*]) => let n (i : Nat) := Lean.Syntax.mkNumLit (toString (c.getNat + i - 1)); `(#[0, $(n 0),kcl $P $c $i $k $a $B 0, $c,kco $i $k $a $B $c $(n 0) $s, $(n 2),kcl $P $c $i $k $a $B 2, $(n 3),kcl $P $c $i $k $a $B 3, $xs,*])
noncomputable def Na:Params->Frag:=fun P=>#[0,{P,31,2,196,22,BV,[.ref 51,.ref 70,.ref 89,.ref 108,.ref 120,.ref 139,.ref 151,.ref 170,.ref 189]},{P,51,3,214,35,(bx 31 BV),[]},("NoFrame.__init__",3,0,226,48),{P,70,4,239,54,(bx 31 BV),[]},("Spoilt.__init__",4,0,251,67),{P,89,5,264,73,(bx 31 BV),[]},("NoPiece.__init__",5,0,276,86),{P,108,6,289,92,(bx 31 BV),[]},("BadRoad.__init__",6,0,301,105),{P,120,7,314,111,(bx 31 BV),[]},{P,139,8,330,123,(bx 31 BV),[]},("NotWide.__init__",8,0,342,136),{P,151,9,355,142,(bx 31 BV),[]},{P,170,10,371,154,(bx 31 BV),[]},("NotNow.__init__",10,0,383,167),{P,189,11,398,173,(bx 31 BV),[]},("BadWish.__init__",11,0,410,186),{P,265,25,484,230,BO,[]},("Road.__init__",25,0,496,243),("Road.send",25,1,505,250),("Road.come",25,2,517,255),("Road.under_way",25,3,523,262),{P,310,38,588,296,BO,[]},("Terms.__init__",38,0,600,307),{P,465,70,766,414,BO,[]},("Meter.__init__",70,0,778,427),("Meter.known",70,1,786,434),("Meter.know_one",70,2,795,441),("Meter.half",70,3,802,448),("Meter.ran_out",70,4,809,455),("Meter.hurried",70,5,816,462),{P,528,74,848,477,BO,[]},("Ways.__init__",74,0,860,490),("Ways.measured",74,1,869,497),("Ways.next_spread",74,2,877,504),("Ways.next_smooth",74,3,887,511),("Ways.least_wait",74,4,895,518),("Ways.ran_out",74,5,903,525),{P,669,77,926,533,BO,[]},("Sender.__init__",77,0,938,546),("Sender.put",77,1,949,553),("Sender.many",77,2,957,560),("Sender.thing",77,3,964,567),("Sender.heard",77,4,972,574),("Sender.grow_base",77,5,986,581),("Sender.note_held",77,6,995,586),("Sender.newly_known",77,7,1001,591),("Sender.known_above_base",77,8,1007,596),("Sender.under_way",77,9,1013,603),("Sender.thing_waits",77,10,1020,610),("Sender.clock_is_out",77,11,1027,617),("Sender.hurry_is_due",77,12,1035,624),("Sender.new_may_go",77,13,1042,631),("Sender.go",77,14,1049,638),("Sender.set_clock",77,15,1057,645),("Sender.go_again",77,16,1065,652),("Sender.go_new",77,17,1073,659),("Sender.ask_for_room",77,18,1082,666),{P,732,79,1112,674,BO,[.ref 767,.ref 807,.ref 847,.ref 880,.ref 913,.ref 939,.ref 965]},("State.name",79,0,1124,687),("State.wish_begin",79,1,1131,694),("State.wish_end",79,2,1138,701),("State.may_put",79,3,1145,708),("State.begun",79,4,1152,715),("State.ended",79,5,1159,722),("State.answered",79,6,1166,729),{P,767,80,1181,737,(bx 732 BO),[]},("Shut.name",80,0,1193,750),("Shut.wish_begin",80,1,1200,757),("Shut.begun",80,2,1207,764),{P,807,81,1218,770,(bx 732 BO),[]},("Calling.name",81,0,1230,783),("Calling.wish_end",81,1,1237,790),("Calling.may_put",81,2,1244,797),("Calling.begun",81,3,1251,804),{P,847,82,1262,810,(bx 732 BO),[]},("Open.name",82,0,1274,823),("Open.wish_end",82,1,1281,830),("Open.may_put",82,2,1288,837),("Open.ended",82,3,1295,844),{P,880,83,1306,850,(bx 732 BO),[]},("Left.name",83,0,1318,863),("Left.wish_end",83,1,1325,870),("Left.may_put",83,2,1332,877),{P,913,84,1343,883,(bx 732 BO),[]},("Leaving.name",84,0,1355,896),("Leaving.ended",84,1,1362,903),("Leaving.answered",84,2,1369,910),{P,939,85,1380,916,(bx 732 BO),[]},("Waiting.name",85,0,1392,929),("Waiting.ended",85,1,1399,936),{P,965,86,1410,942,(bx 732 BO),[]},("Closing.name",86,0,1422,955),("Closing.answered",86,1,1429,962),{P,1017,88,1442,968,BO,[]},("Taker.__init__",88,0,1454,981),("Taker.room_left",88,1,1463,988),("Taker.take",88,2,1470,995),("Taker.stand_in_order",88,3,1481,1002),("Taker.answer",88,4,1489,1007),("Taker.read",88,5,1495,1014),{P,1136,95,1541,1036,BO,[]},("Hand.__init__",95,0,1553,1049),("Hand.name",95,1,1562,1056),("Hand.begin",95,2,1569,1063),("Hand.end",95,3,1576,1070),("Hand.put",95,4,1583,1077),("Hand.read",95,5,1592,1084),("Hand.come",95,6,1602,1091),("Hand.hear",95,7,1612,1098),("Hand.take_in",95,8,1623,1105),("Hand.stand_to",95,9,1634,1112),("Hand.send",95,10,1642,1119),("Hand.piece_of",95,11,1653,1126),("Hand.quiet",95,12,1664,1133),{P,1294,106,1734,1175,BO,[]},("Walk.__init__",106,0,1746,1188),("Walk.step",106,1,1756,1195),("Walk.let_come",106,2,1765,1202),("Walk.do_wish",106,3,1776,1209),("Walk.went",106,4,1787,1216),("Walk.let_read",106,5,1799,1223),("Walk.wind_up",106,6,1809,1230),("Walk.unread",106,7,1817,1237),("Walk.let_send",106,8,1826,1244),("Walk.tell_stand",106,9,1836,1251),("Walk.quiet",106,10,1848,1258),("Walk.side_is_quiet",106,11,1855,1265),("Walk.run",106,12,1863,1272),("Walk.rows",106,13,1871,1277),("Walk.given_in",106,14,1877,1284),("Walk.given_out",106,15,1885,1291),(0,187,21),(13,425,198),(20,446,203),(21,452,210),(22,460,217),(23,468,222),(24,474,229),(27,543,276),(29,554,283),(36,574,288),(37,580,295),(54,654,323),(55,662,330),(56,671,335),(57,677,342),(58,685,349),(59,693,356),(60,701,361),(61,707,368),(62,716,375),(63,723,382),(64,731,389),(65,738,396),(66,745,401),(67,751,406),(68,757,413),(73,839,476),(93,1528,1028),(94,1534,1035),(101,1697,1148),(102,1704,1155),(103,1712,1162),(104,1721,1167),(105,1727,1174),(109,1914,1303),(110,1920,1310),(111,1927,1315),(112,1933,1320),(113,1939,1325),(114,1945,1332),(116,1955,1337),(118,1963,1344),(119,1971,1351),(120,1981,1356),(121,1987,1363),(122,1998,1370),(123,2012,1375),(124,2018,1382),(125,2027,1387),(126,2033,1392),(127,2039,1399),(128,2054,1404),315,ktp 40 621,316,ktp 42 629,1022,ktp 91 1522,1023,ktp 92 1525,1141,ktp 97 1688,2,boot_o_2 P,3,dct P (e6 P)]
noncomputable def rX:List Addr:=(Na {strHash:=fun _=>0,shareClass:=fun _=>0,mergeTok:=id,idOf:=fun _=>0,idOfShared:=fun _ _=>0,followText:=fun _=>true,idOfImm:=fun _=>0}).map (·.1)
theorem xZ:∀P,rX=(Na P).map (·.1):=fun _=>by kernel_rfl
theorem Xp:(staticsOk (importedModules GO.main.body) (boot_heap w.params) (hfin w.params)&&namesBound GO (hfin w.params)&&gensDone (El w os)&&laidKept (boot_heap w.params) (hfin w.params))=true:=by kernel_rfl
theorem Pl {α β i:Type} {f:α->i} {g:β->i} {l:List α} {m:List β} (k n:Nat) (h:((l.drop k).take n).map f=((m.drop k).take n).map g) (t:(l.drop (k+n)).map f=(m.drop (k+n)).map g):(l.drop k).map f=(m.drop k).map g:=by
 rw[<-List.take_append_drop n (l.drop k),<-List.take_append_drop n (m.drop k),n7,n7,h,List.drop_drop,List.drop_drop,t]
noncomputable abbrev Sl (w:PySem.World) (os:PySem.OsState):=openSeen cu [] (importedModules GO.main.body) (fun s=>xlAt cu [] s&&recOk Challenge.rw_slowroad_k81_kept.row.records s) true (El w os)
theorem Ek (x:a=true) (y:b=true):(a&&b)=true:=by rw[x,y];rfl
noncomputable abbrev Yo:List Str:=["KINDS","UNNUMBERED","BEGIN","END","SIDES"]
theorem TB:looseW cu []=Yo:=by kernel_rfl
theorem W7:(El w os).heap.keysOk Yo ((PyProof.Rows.recsOf cu).map (·.name)) ((PyProof.Rows.litsOf cu).map (·.1)) ((PyProof.Rows.clssOf cu Yo).map (·.name))=true:=by kernel_rfl
theorem W6:(El w os).heap.accountedOkI (importedModules GO.main.body)=true:=by kernel_rfl
theorem W5:(El w os).heap.isNs mainGlobals=true:=by kernel_rfl
theorem W4:(El w os).heap.isNs builtinsNs=true:=by kernel_rfl
theorem W3:PyProof.Rows.tablesOk cu (El w os).heap=true:=by kernel_rfl
theorem W0:(fun s=>xlAt cu [] s&&recOk Challenge.rw_slowroad_k81_kept.row.records s) (El w os)=true:=by kernel_rfl
noncomputable abbrev Dv:=PyProof.Rows.plainsOf cu Yo
theorem Xl:((Dv.drop 0).take 3).map (fun c=>(El w os).heap.plainShapeAt c.withCmp)=((Dv.drop 0).take 3).map (fun c=>some c.withCmp.plainShape):=by kernel_rfl
theorem Xk:((Dv.drop 3).take 3).map (fun c=>(El w os).heap.plainShapeAt c.withCmp)=((Dv.drop 3).take 3).map (fun c=>some c.withCmp.plainShape):=by kernel_rfl
theorem Xj:((Dv.drop 6).take 3).map (fun c=>(El w os).heap.plainShapeAt c.withCmp)=((Dv.drop 6).take 3).map (fun c=>some c.withCmp.plainShape):=by kernel_rfl
theorem Xi:(Dv.drop 9).map (fun c=>(El w os).heap.plainShapeAt c.withCmp)=(Dv.drop 9).map (fun c=>some c.withCmp.plainShape):=by kernel_rfl
theorem Xg:(Sl w os).1=PyProof.Rows.expectedOf cu:=by kernel_rfl
theorem Xf:(Sl w os).2.1=bltViewBooted:=by kernel_rfl
theorem Xe:(Sl w os).2.2.1=true:= .trans (by kernel_rfl) (Ek (Ek (Ek (Ek (Ek (Ek ((aaq (fun l=>(El w os).heap.keysOk l ((PyProof.Rows.recsOf cu).map (·.name)) ((PyProof.Rows.litsOf cu).map (·.1)) ((PyProof.Rows.clssOf cu l).map (·.name))=true) TB).mpr (W7 w os)) (W6 w os)) (W5 w os)) (W4 w os)) (W3 w os)) (W0 w os)) (.refl true))
theorem Xd:(Sl w os).2.2.2.1=true:=by kernel_rfl
theorem Xc:(Sl w os).2.2.2.2.1=pinGoodD (PyProof.Rows.drecsOf cu):=by kernel_rfl
theorem Xh:Dv.map (fun c=>(El w os).heap.plainShapeAt c.withCmp)=Dv.map (fun c=>some c.withCmp.plainShape):= .trans (by kernel_rfl) (.trans (Pl 0 3 (Xl w os) (Pl 3 3 (Xk w os) (Pl 6 3 (Xj w os) (Xi w os)))) (by kernel_rfl))
theorem Xb:(Sl w os).2.2.2.2.2.1=PyProof.Rows.plainGoodE cu (looseW cu []):= .trans (by kernel_rfl) (.trans ((aaq (fun l=>(PyProof.Rows.plainsOf cu l).map (fun c=>(El w os).heap.plainShapeAt c.withCmp)=(PyProof.Rows.plainsOf cu l).map (fun c=>some c.withCmp.plainShape)) TB).mpr (Xh w os)) (by kernel_rfl))
theorem Xa:(Sl w os).2.2.2.2.2.2.1=PyProof.Rows.plainGoodD cu []:=by kernel_rfl
theorem W_:(Sl w os).2.2.2.2.2.2.2.1=wideGood cu:=by kernel_rfl
theorem W8:(Sl w os).2.2.2.2.2.2.2.2=clsGoodW cu []:=by kernel_rfl
theorem Ai {α β:Type} {p:α×β} {a:α} {b:β} (h:p.1=a) (t:p.2=b):p=(a,b):=by cases p;cases h;cases t;rfl
theorem Xo:openSeen cu [] (importedModules GO.main.body) (fun s=>xlAt cu [] s&&recOk Challenge.rw_slowroad_k81_kept.row.records s) true (El w os)=openGood cu []:= .trans (by kernel_rfl) (.trans (Ai (Xg w os) (Ai (Xf w os) (Ai (Xe w os) (Ai (Xd w os) (Ai (Xc w os) (Ai (Xb w os) (Ai (Xa w os) (Ai (W_ w os) (W8 w os))))))))) (by kernel_rfl))
noncomputable def Pk (o:Option Obj):Option Obj:=match o with
 |some ⟨_,_,.freed,_⟩=>none
 |o=>o
theorem Xr (P:Params):(hfin P).get?=(fun a=>Pk (if a<1405 then some (((tre P (e6 P)).get a).getD default) else none)):=funext fun a=>show Pk _=_ by rw[show(hfin P).objs[a]?=_ from absHeap_at _ 1405 _ a]
theorem Xm (P:Params):rX.map (fun a=>Pk (if a<1405 then some (((tre P (e6 P)).get a).getD default) else none))=(Na P).map (fun p=>some p.2):=by kernel_rfl
theorem Xn:(kHook Na rX xZ).obs (El w os)=(kHook Na rX xZ).val w:= .trans (by kernel_rfl) (.trans ((aaq (fun f=>rX.map f=(Na w.params).map (fun p=>some p.2)) (Xr w.params)).mpr (Xm w.params)) (by kernel_rfl))
theorem Xq:∀w:World,Option.map (fun s=>(openSeen cu [] (importedModules GO.main.body) (fun s=>xlAt cu [] s&&recOk Challenge.rw_slowroad_k81_kept.row.records s) true s,(kHook Na rX xZ).obs s)) (openEnds treeTable GO w 21532)=some (openGood cu [],(kHook Na rX xZ).val w):=LeftO.of_pieces (H₀:=boot_heap) (H₁:=hfin) Sj Sh Vn (by decide) (fun w=>funext fun os=>looks_pair (Xp w os) (looks_pair (Xo w os) (Xn w os)))
end
end
mutual
def vQ:Sp|vs,H,Q,E=>zqi vs fun v vs=>zqi vs fun l vs=>zqi vs fun h vs=>zqn vs (Q (.bl (bO v l h)) H)
def vP:Sp|vs,H,Q,E=>zqr vs fun h vs=>zqn vs ( ∃hs:List Int,H h=some (.tup (hs.map V.int))/\hs.length<=1000/\Q (.bl (Held.gZ 0 hs)) H)
def qr:Sp|vs,H,Q,E=>zqs vs fun k vs=>zqs vs fun sg vs=>zqn vs (sg.length<=1000/\∀H',aA H H'->Q (.bl (tf k sg)) H')
def sW:Sp|vs,H,Q,E=>zqr vs fun t vs=>zqn vs ( ∃k n a r hs i,rD H t k n a r hs i/\∀H',aA H H'->Q (.bl (dX k n a r hs i)) H')
theorem Uk {n:Nat} (h:255<n):∃k:Nat,(Builtin.Int.intBits (n:Int):Int)-9=(k:Int)/\n ^^^ (263*2 ^ k)<n/\k+9=n.log2+1:=by
 have v:=BitI.Qc (show 0<n by lia);have x:8<=n.log2:=(Nat.le_log2 (by lia)).mpr (by lia);refine⟨n.log2-8,by rw[v];lia,?_,by lia⟩;have i:2 ^ (n.log2-8+8)<=n:=by
  rw[show n.log2-8+8=n.log2 by lia];exact Nat.log2_self_le (by lia)
 have l2:n<2 ^ (n.log2-8+9):=by
  rw[show n.log2-8+9=n.log2+1 by lia];exact Nat.lt_log2_self
 exact h9 (Rem.QH i l2) i
def qo:Sp|vs,H,Q,E=>zqi vs fun n vs=>zqn vs ((0<=n/\n<2 ^ 400)/\∀r:Nat,Q (.int (r:Int)) H)
def gD:Sp|vs,H,Q,E=>zqr vs fun e vs=>zqv vs fun v vs=>zqn vs (H e=some (.ext (vA e aU none))/\∀d,H d=none->Q .non (upd (upd H d (.xd [("frame",v)])) e (.ext (vA e aU (some d)))))
def h_:Sp|vs,H,Q,E=>zqr vs fun e vs=>zqv vs fun v vs=>zqn vs (H e=some (.ext (vA e bc none))/\∀d,H d=none->Q .non (upd (upd H d (.xd [("frame",v)])) e (.ext (vA e bc (some d)))))
def gC:Sp|vs,H,Q,E=>zqr vs fun e vs=>zqv vs fun v vs=>zqn vs (H e=some (.ext (vA e aJ none))/\∀d,H d=none->Q .non (upd (upd H d (.xd [("what",v)])) e (.ext (vA e aJ (some d)))))
def kX:Sp|vs,H,Q,E=>zqr vs fun h vs=>zqn vs ( ∃hs:List Int,H h=some (.tup (hs.map V.int))/\Held.gZ 0 hs=true/\hs.length<=1000/\∀H',aA H H'->Q (.int (rW hs:Nat)) H')
def jD:Sp|vs,H,Q,E=>zqs vs fun i vs=>zqn vs ((i.length<=4/\∀c∈i.cps.toList,c∈sgl)/\Q (.int (Ue i:Nat)) H)
def vV:Sp|vs,H,Q,E=>zqr vs fun t vs=>zqn vs ( ∃k n a r hs i,rD H t k n a r hs i/\z3 k n a r hs i/\∀H',aA H H'->Q (.int (Ln k n a r hs i:Nat)) H')
def vK:Sp|vs,H,Q,E=>zqr vs fun t vs=>zqn vs ( ∃k n a r hs i,rD H t k n a r hs i/\dX k n a r hs i=true/\∀(m:Nat) H',aA H H'->Q (.int (m:Int)) H')
noncomputable def sgc (c:Nat):Str:=if c<94 then⟨#[sgl.getD c 0]⟩ else "\n"
noncomputable def pA (b:Nat):List Str:=[sgc (b / 2097152 % 128),sgc (b / 16384 % 128),sgc (b / 128 % 128),sgc (b % 128)]
noncomputable def FY (b:Nat):Str:=if b / 9223372036854775808<5 then kinds.getD (b / 9223372036854775808) "" else ""
noncomputable def V5 (b:Nat):Int:=(b / 144115188075855872 % 64:Nat)
noncomputable def V6 (b:Nat):Int:=(b / 2251799813685248 % 64:Nat)
noncomputable def Yl (b:Nat):Int:=(b / 70368744177664 % 32:Nat)
noncomputable def hbit (b:Nat) (s:Int):Bool:=decide (b / 2147483648 / 2 ^ (s-1).toNat % 2=1)
noncomputable def MO (b:Nat):List Int:=Held.ones.filter (hbit b)
noncomputable def V4 (b:Nat):Str:=Txt.slice (Txt.join "" (pA b)) none (some ((b / 268435456 % 8:Nat):Int))
theorem uD {x:Nat}:Builtin.bitAnd (x:Int) ((2 ^ k-1:Nat):Int)=((x % 2 ^ k:Nat):Int):=by
 rw[BitI.Lv,Nat.and_two_pow_sub_one_eq_mod]
theorem TQ {x:Nat}:Builtin.bitAnd (x:Int) 63=((x % 64:Nat):Int):=uD (k:=6)
theorem X8 {x:Nat}:Builtin.bitAnd (x:Int) 31=((x % 32:Nat):Int):=uD (k:=5)
theorem YY {x:Nat}:Builtin.bitAnd (x:Int) 7=((x % 8:Nat):Int):=uD (k:=3)
theorem VW {x:Nat}:Builtin.bitAnd (x:Int) 127=((x % 128:Nat):Int):=uD (k:=7)
theorem YZ {x:Nat}:Builtin.bitAnd (x:Int) 1=((x % 2:Nat):Int):=uD (k:=1)
theorem Nj (b:Nat):((pA b).map (·.length)).sum=4:=by
 have e:∀c,(sgc c).length=1:=fun c=>by unfold sgc;split<;>rfl
 unfold pA;simp[e]
theorem HK (b:Nat):(Txt.join "" (pA b)).length=4:=by
 have e:∀c,∃x,sgc c=⟨#[x]⟩:=fun c=>by unfold sgc;split;exact⟨_,rfl⟩;exact⟨10,rfl⟩
 unfold pA;obtain⟨y,e1⟩:=e (b / 2097152 % 128);obtain⟨i,e2⟩:=e (b / 16384 % 128);obtain⟨z,e3⟩:=e (b / 128 % 128);obtain⟨v,e4⟩:=e (b % 128);rw[e1,e2,e3,e4];rfl
theorem FZ (b:Nat):(MO b).length<=15:=h7 (me _ _) (by decide)
def Qg (H:Hp) (t:Addr) (b:Nat):Prop:=rD H t (FY b) (V5 b) (V6 b) (Yl b) (MO b) (V4 b)
def sX:Sp|vs,H,Q,E=>zqi vs fun f vs=>zqn vs (Q (.bl (decide (0<=f/\f<18889465931478580854784))) H)
def vL:Sp|vs,H,Q,E=>zqi vs fun c vs=>zqn vs (0<=c/\Q (.str (sgc c.toNat)) H)
def sU:Sp|vs,H,Q,E=>zqi vs fun b vs=>zqn vs (0<=b/\∀H',aA H H'->Q (.str (Txt.join "" (pA b.toNat))) H')
def vM:Sp|vs,H,Q,E=>zqi vs fun c vs=>zqn vs (0<=c/\Q (.str (if c.toNat<5 then kinds.getD c.toNat "" else "")) H)
def vT:Sp|vs,H,Q,E=>zqi vs fun b vs=>zqn vs (0<=b/\∀h H',aA H H'->H' h=some (.tup ((Held.ones.filter fun s=>decide (b.toNat / 2 ^ (s-1).toNat % 2=1)).map V.int))->Q (.ref h) H')
def kT:Sp|vs,H,Q,E=>zqi vs fun b vs=>zqn vs (0<=b/\∀t H',aA H H'->Qg H' t b.toNat->Q (.ref t) H')
def E2:Sp|vs,H,Q,E=>zqi vs fun f vs=>zqn vs ((∀l H' d,aA H H'->H' d=some (.xd l)->E (.ref aU) (some d) H')/\(∀l H' d,aA H H'->H' d=some (.xd l)->E (.ref bc) (some d) H')/\(∀l H' d,aA H H'->H' d=some (.xd l)->E (.ref aJ) (some d) H')/\∀t H',aA H H'->Qg H' t (f.toNat / 256)->Q (.ref t) H')
theorem qb:bO v l h=true↔l<=v/\v<=h:=by
 unfold bO;rw[fx,eM,eM]
theorem Gd (c:l<=v/\v<=h):bO v l h=true:=qb.mpr c
theorem Sr (c: ¬(l<=v/\v<=h)):bO v l h=false:=by
 cases e:bO v l h
 ·rfl
 ·exact absurd (qb.mp e) c
noncomputable def mV (r l:Int):Int:=if r=1 then 2+l / 2 else 2*r+l-1
noncomputable def zo (o t g:Int):Int:=if mV o g<mV t g then mV t g else mV o g
def good (r o t g f l:Int):Prop:=(2<=r/\r<=64)/\((1<=o/\o<=16)/\(1<=t/\t<=16))/\(1<=g/\g<=32)/\(2<=l/\l<=64)/\(2<=f/\f<=l)
def E3:Sp|vs,H,Q,E=>zqi vs fun r vs=>zqi vs fun l vs=>zqn vs (Q (.int (mV r l)) H)
def qt:Sp|vs,H,Q,E=>zqr vs fun p vs=>zqn vs ( ∃o t,H p=some (.tup [.int o,.int t])/\∀H',aA H H'->Q (.bl (decide ((1<=o/\o<=16)/\(1<=t/\t<=16)))) H')
def qp:Sp|vs,H,Q,E=>zqi vs fun f vs=>zqi vs fun l vs=>zqn vs (Q (.bl (decide ((2<=l/\l<=64)/\2<=f/\f<=l))) H)
def iK:Sp|vs,H,Q,E=>zqr vs fun x vs=>zqi vs fun r vs=>zqr vs fun p vs=>zqi vs fun g vs=>zqi vs fun f vs=>zqi vs fun l vs=>zqn vs ( ∃o t dx,H p=some (.tup [.int o,.int t])/\H x=some (.ins d7 dx [])/\good r o t g f l/\¬r<zo o t g/\∀H',cI x H H'->H' x=some (.ins d7 dx (m9 (.int r) (.ref p) (.int g) (.int f) (.int l)))->Q .non H')
def iN:Sp|vs,H,Q,E=>zqr vs fun p vs=>zqi vs fun m vs=>zqn vs ( ∃dx,H p=some (.ins aY dx [])/\Q .non (upd H p (.ins aY dx (aW (.int m) (.int (MeterM.mn 2 m)) (.int m) (.int 0)))))
def iM:Sp|vs,H,Q,E=>zqr vs fun p vs=>zqn vs ( ∃dx m w k c,H p=some (.ins aY dx (aW (.int m) (.int w) (.int k) (.int c)))/\Q .non (upd H p (.ins aY dx (aW (.int m) (.int (MeterM.k1 m k (w,c)).1) (.int k) (.int (MeterM.k1 m k (w,c)).2)))))
def mL:Sp|vs,H,Q,E=>zqr vs fun p vs=>zqi vs fun n vs=>zqn vs ((0<=n/\n<1000)/\∃dx m w k c,H p=some (.ins aY dx (aW (.int m) (.int w) (.int k) (.int c)))/\Q .non (upd H p (.ins aY dx (aW (.int m) (.int (MeterM.kn m k n.toNat (w,c)).1) (.int k) (.int (MeterM.kn m k n.toNat (w,c)).2)))))
def oU:Sp|vs,H,Q,E=>zqr vs fun p vs=>zqn vs ( ∃dx m w k c,H p=some (.ins aY dx (aW (.int m) (.int w) (.int k) (.int c)))/\Q (.int (MeterM.hf w)) H)
def jM:Sp|vs,H,Q,E=>zqr vs fun p vs=>zqn vs ( ∃dx m w k c,H p=some (.ins aY dx (aW (.int m) (.int w) (.int k) (.int c)))/\Q .non (upd H p (.ins aY dx (aW (.int m) (.int 1) (.int (MeterM.hf w)) (.int 0)))))
def jN:Sp|vs,H,Q,E=>zqr vs fun p vs=>zqn vs ( ∃dx m w k c,H p=some (.ins aY dx (aW (.int m) (.int w) (.int k) (.int c)))/\Q .non (upd H p (.ins aY dx (aW (.int m) (.int (MeterM.hf w)) (.int (MeterM.hf w)) (.int 0)))))
structure Wb (a A b B m:Int):Prop where
 m0:0<=m
 m1:m<=1000000
 a0:0<=a
 A0:0<A
 b0:0<=b
 B0:0<B
 a1:Bd 1000 a
 A1:Bd 1000 A
 b1:Bd 1000 b
 B1:Bd 1000 B
def ES (bI:Addr) (H:Hp) (p dx:Addr) (L w a A b B:Int):Prop:= ∃v i,H p=some (.ins bI dx (bW (.int L) (.ref v) (.ref i) (.int w)))/\H v=some (.tup [.int a,.int A])/\H i=some (.tup [.int b,.int B])
noncomputable abbrev nsp:=WaysM.nsp
noncomputable abbrev nsm:=WaysM.nsm
noncomputable def lw (a A b B:Int):Int:=-(-(a*B+4*b*A) / (A*B))
noncomputable def wt (L a A b B:Int):Int:=if 2<(if lw a A b B<L then lw a A b B else L) then(if lw a A b B<L then lw a A b B else L) else 2
theorem Wb.mB (W:Wb a A b B m):Bd 20 m:=Bd.of W.m0 (by have:=W.m1;lia)
theorem Wb.WN (W:Wb a A b B m):0<=3*a+m*A/\0<4*A:=by
 have:=ZE W.m0 (tH W.A0);have:=W.a0;have:=W.A0;lia
theorem Wb.WM (W:Wb a A b B m):0<=3*b*A+((a-m*A).natAbs:Int)*B/\0<4*(A*B):=by
 have i:=Int.mul_pos W.A0 W.B0;have:=ZE (ZE (show(0:Int)<=3 by decide) W.b0) (tH W.A0);have:=ZE (aaD (a-m*A).natAbs) (tH W.B0);omega
theorem Wb.YL (W:Wb a A b B m):0<=(nsm a A m).1/\0<(nsm a A m).2/\Bd 2000 (nsm a A m).1/\Bd 2000 (nsm a A m).2:=by
 obtain⟨s,i⟩:=WaysM.p9 W.WN.1 W.WN.2;have v:Bd 1021 (3*a+m*A):=(((Bd.c (n:=2) (k:=3) (by decide)).mul W.a1).up (show 2+1000<=1020 by decide)).add (W.mB.mul W.A1);exact⟨i.t0,i.b0,(v.le i.t0 i.tl).up (by decide),(Bd.le ((Bd.c (n:=3) (k:=4) (by decide)).mul W.A1) (tH i.b0) i.bl).up (by decide)⟩
theorem Wb.YK (W:Wb a A b B m):0<=(nsp a A b B m).1/\0<(nsp a A b B m).2/\Bd 3000 (nsp a A b B m).1/\Bd 3000 (nsp a A b B m).2:=by
 obtain⟨s,i⟩:=WaysM.p9 W.WM.1 W.WM.2;have d:=((W.a1.up (show 1000<=1020 by decide)).sub (W.mB.mul W.A1)).abs;have v:Bd 2022 (3*b*A+((a-m*A).natAbs:Int)*B):=((((Bd.c (n:=2) (k:=3) (by decide)).mul W.b1).mul W.A1).up (show 2+1000+1000<=2021 by decide)).add (d.mul W.B1);exact⟨i.t0,i.b0,(v.le i.t0 i.tl).up (by decide),(Bd.le ((Bd.c (n:=3) (k:=4) (by decide)).mul (W.A1.mul W.B1)) (tH i.b0) i.bl).up (by decide)⟩
theorem Wb.of (h:WaysM.St n P S D a A b B) (hn:n<=440) (v:0<=m) (y:m<=1000000):Wb a A b B m:=by
 have e:(4:Int) ^ n=((2 ^ (2*n):Nat):Int):=by rw[WaysM.x_];simp
 have i:Bd 881 P:=by rw[h.p,e];exact Bd.c (Nat.pow_lt_pow_right (by decide) (by lia))
 have P0:=tH h.P0;have x:Bd 901 S:=Bd.le ((Bd.c (n:=20) (k:=1000000) (by decide)).mul i) h.s0 h.s1;have hD:Bd 902 D:=Bd.le ((Bd.c (n:=21) (k:=2000000) (by decide)).mul i) h.d0 h.d1;exact⟨v,y,h.a0,h.A0,h.b0,h.B0,(x.le h.a0 h.a1).up (by decide),(i.le (tH h.A0) h.A1).up (by decide),(hD.le h.b0 h.b1).up (by decide),(Bd.le ((Bd.c (n:=2) (k:=2) (by decide)).mul i) (tH h.B0) h.B1).up (by decide)⟩
def yN:Sp|vs,H,Q,E=>zqi vs fun t vs=>zqi vs fun b vs=>zqn vs ((0<=t/\0<b/\Bd 8000 b)/\∀p,H p=none->Q (.ref p) (upd H p (.tup [.int (WaysM.low t b).1,.int (WaysM.low t b).2])))
def jF:Sp|vs,H,Q,E=>zqr vs fun p vs=>zqi vs fun f vs=>zqi vs fun l vs=>zqn vs ( ∃dx,H p=some (.ins bI dx [])/\Q .non (upd H p (.ins bI dx (bW (.int l) .non .non (.int f)))))
def gw:Sp|vs,H,Q,E=>zqr vs fun p vs=>zqi vs fun m vs=>zqn vs ( ∃dx L w a A b B,Wb a A b B m/\ES bI H p dx L w a A b B/\∀q,H q=none->Q (.ref q) (upd H q (.tup [.int (nsp a A b B m).1,.int (nsp a A b B m).2])))
def gx:Sp|vs,H,Q,E=>zqr vs fun p vs=>zqi vs fun m vs=>zqn vs ( ∃dx L s i w a A,(0<=m/\m<=1000000/\0<=a/\0<A/\Bd 1000 A)/\H p=some (.ins bI dx (bW (.int L) (.ref i) s (.int w)))/\H i=some (.tup [.int a,.int A])/\∀q,H q=none->Q (.ref q) (upd H q (.tup [.int (nsm a A m).1,.int (nsm a A m).2])))
def hV:Sp|vs,H,Q,E=>zqr vs fun p vs=>zqn vs ( ∃dx L w a A b B,(0<A/\0<B/\Bd 2000 a/\Bd 2000 A/\Bd 3000 b/\Bd 3000 B)/\ES bI H p dx L w a A b B/\Q (.int (lw a A b B)) H)
def fX (bI:Addr):Sp|vs,H,Q,E=>zqr vs fun p vs=>zqi vs fun m vs=>zqn vs ((0<=m/\m<=1000000)/\((∃dx L w,H p=some (.ins bI dx (bW (.int L) .non .non (.int w)))/\∀H',cI p H H'->ES bI H' p dx L (wt L m 1 (WaysM.low m 2).1 (WaysM.low m 2).2) m 1 (WaysM.low m 2).1 (WaysM.low m 2).2->Q .non H')\/(∃dx L w a A b B,Wb a A b B m/\ES bI H p dx L w a A b B/\∀H',cI p H H'->ES bI H' p dx L (wt L (nsm a A m).1 (nsm a A m).2 (nsp a A b B m).1 (nsp a A b B m).2) (nsm a A m).1 (nsm a A m).2 (nsp a A b B m).1 (nsp a A b B m).2->Q .non H')))
def k6:Sp|vs,H,Q,E=>zqr vs fun p vs=>zqn vs ( ∃dx L s sp w,H p=some (.ins bI dx (bW (.int L) s sp (.int w)))/\Q .non (upd H p (.ins bI dx (bW (.int L) s sp (.int (if L<2*w then L else 2*w))))))
noncomputable abbrev Wg:=Option (Int×Int×Int×Int)
def WS (C:Addr) (H:Hp) (p dx:Addr) (L w:Int) (g:Wg) (k:Nat):Prop:=2<=L/\(2<=w/\w<=L)/\((k=0/\g=none/\H p=some (.ins C dx (bW (V.int L) V.non V.non (V.int w))))\/∃n P S D a A b B,g=some (a,A,b,B)/\n+1=k/\WaysM.St n P S D a A b B/\ES C H p dx L w a A b B)
noncomputable def mgs (g:Wg) (m:Int):Wg:=match g with
 |none=>some (m,1,(WaysM.low m 2).1,(WaysM.low m 2).2)
 |some (a,A,b,B)=>some ((nsm a A m).1,(nsm a A m).2,(nsp a A b B m).1,(nsp a A b B m).2)
noncomputable def mws (L:Int) (g:Wg):Int:=match g with
 |none=>2
 |some (a,A,b,B)=>wt L a A b B
theorem SX (h:2<=L):2<=wt L a A b B/\wt L a A b B<=L:=by
 unfold wt;generalize lw a A b B=x
 (repeat' split)<;>lia
theorem WS.meas (h:WS C H p dx L w g k) (hk:k<=440) (m0:0<=m) (m1:m<=1000000) (q:∀H',cI p H H'->WS C H' p dx L (mws L (mgs g m)) (mgs g m) (k+1)->Q .non H'):fX C [.ref p,.int m] H Q E:=by
 obtain⟨i,hw,⟨z,rfl,F⟩|⟨n,P,S,D,a,A,b,B,rfl,z,y,G⟩⟩:=h
 ·exact⟨⟨m0,m1⟩,.inl ⟨dx,L,w,F,fun H' x v=>q H' x ⟨i,SX i,.inr ⟨0,_,_,_,_,_,_,_,rfl,by lia,WaysM.St.first m0 m1,v⟩⟩⟩⟩
 ·exact⟨⟨m0,m1⟩,.inr ⟨dx,L,w,a,A,b,B,Wb.of y (by lia) m0 m1,G,fun H' x v=>q H' x ⟨i,SX i,.inr ⟨n+1,_,_,_,_,_,_,_,rfl,by lia,y.step m0 m1,v⟩⟩⟩⟩
theorem WS.ins (h:WS C H p dx L w g k):∃s sp,H p=some (.ins C dx (bW (V.int L) s sp (V.int w))):=by
 obtain⟨_,_,⟨_,_,v⟩|⟨n,P,S,D,a,A,b,B,_,_,_,⟨y,x,i,_⟩⟩⟩:=h
 ·exact⟨_,_,v⟩
 ·exact⟨_,_,i⟩
theorem WS.keep (h:WS C H p dx L w g k) (hp:∀o,H p=some o->H' p=some o) (ht:∀t l,H t=some (.tup l)->H' t=some (.tup l)):WS C H' p dx L w g k:=by
 obtain⟨i,v,⟨a1,y,F⟩|⟨n,P,S,D,a,A,b,B,b0,b1,J,⟨I,x,G,z,O⟩⟩⟩:=h
 ·exact⟨i,v,.inl ⟨a1,y,hp _ F⟩⟩
 ·exact⟨i,v,.inr ⟨n,P,S,D,a,A,b,B,b0,b1,J,⟨I,x,hp _ G,ht _ _ z,ht _ _ O⟩⟩⟩
def MS (C:Addr) (H:Hp) (p dx:Addr) (mo wi kn co:Int):Prop:=H p=some (.ins C dx (aW (.int mo) (.int wi) (.int kn) (.int co)))/\MeterM.V1 mo (wi,co)
structure Ad where
 dx:Addr
 pw:Addr
 pm:Addr
 pt:Addr
 pk:Addr
 pf:Addr
 pa:Addr
 dw:Addr
 dm:Addr
structure Sd where
 R:Int
 b:Int
 t:Int
 e:Int
 clk:V
 hur:Bool
 T:List V
 Kn:List (Key×V)
 Fi:List (Key×V)
 Ag:List (Key×V)
 L:Int
 w:Int
 k:Nat
 wi:Int
 g:Wg
 mo:Int
 kn:Int
 co:Int
structure iG (CS CW CM:Addr) (H:Hp) (x:Addr) (A:Ad) (z:Sd):Prop where
 hx:H x=some (.ins CS A.dx (bD (.int z.R) (.ref A.pw) (.ref A.pm) (.ref A.pt) (.int z.b) (.int z.t) (.int z.e) z.clk (.bl z.hur) (.ref A.pk) (.ref A.pf) (.ref A.pa)))
 ht:H A.pt=some (.lst z.T)
 hk:H A.pk=some (.dK z.Kn)
 hf:H A.pf=some (.dK z.Fi)
 ha:H A.pa=some (.dK z.Ag)
 ws:WS CW H A.pw A.dw z.L z.w z.g z.k
 ms:MS CM H A.pm A.dm z.mo z.wi z.kn z.co
 kf:A.pk≠A.pf
 ka:A.pk≠A.pa
 fa:A.pf≠A.pa
 xw:x≠A.pw
 xm:x≠A.pm
 wm:A.pw≠A.pm
theorem iG.same (h:iG CS CW CM H x A z) (e:aA H H'):iG CS CW CM H' x A z:=by
 obtain⟨e1,i⟩:=h.ms;exact⟨e _ _ h.hx,e _ _ h.ht,e _ _ h.hk,e _ _ h.hf,e _ _ h.ha,h.ws.keep (fun o q=>e _ _ q) (fun t l q=>e _ _ q),⟨e _ _ e1,i⟩,h.kf,h.ka,h.fa,h.xw,h.xm,h.wm⟩
theorem iG.put (h:iG CS CW CM H x A z) (b t e:Int) (c:V) (u:Bool):iG CS CW CM (upd H x (.ins CS A.dx (bD (.int z.R) (.ref A.pw) (.ref A.pm) (.ref A.pt) (.int b) (.int t) (.int e) c (.bl u) (.ref A.pk) (.ref A.pf) (.ref A.pa)))) x A {z with b:=b,t:=t,e:=e,clk:=c,hur:=u}:=by
 obtain⟨e1,i⟩:=h.ms;refine⟨aa,by rw[ag (bN h.ht h.hx (by simp))];exact h.ht,by rw[ag (bN h.hk h.hx (by simp))];exact h.hk,by rw[ag (bN h.hf h.hx (by simp))];exact h.hf,by rw[ag (bN h.ha h.hx (by simp))];exact h.ha,
  h.ws.keep (fun o q=>by rw[ag h.xw.symm];exact q) (fun t l q=>by rw[ag (bN q h.hx (by simp))];exact q),⟨by rw[ag h.xm.symm];exact e1,i⟩,h.kf,h.ka,h.fa,h.xw,h.xm,h.wm⟩
theorem iG.row (h:iG CS CW CM H x A z) (v:H q=some o) (T:List V) (Kn Fi:List (Key×V)) (n1:∀C d l,o≠ .ins C d l) (G:∀l,o≠ .tup l) (O:upd H q u A.pt=some (.lst T)) (I:upd H q u A.pk=some (.dK Kn)) (P:upd H q u A.pf=some (.dK Fi)) (y:q≠A.pa):iG CS CW CM (upd H q u) x A {z with T:=T,Kn:=Kn,Fi:=Fi}:=by
 obtain⟨e1,F⟩:=h.ms;have i:∀p C d l,H p=some (.ins C d l)->p≠q:=fun p C d l e c=>by rw[c,v] at e;cases e;exact n1 _ _ _ rfl
 obtain⟨s,sp,J⟩:=h.ws.ins;exact⟨by rw[ag (i _ _ _ _ h.hx)];exact h.hx,O,I,P,by rw[ag y.symm];exact h.ha,h.ws.keep (fun Q e=>by rw[ag (i _ _ _ _ J)];exact e) (fun t l e=>by rw[ag (fun c=>by rw[c,v] at e;cases e;exact G _ rfl)];exact e),⟨by rw[ag (i _ _ _ _ e1)];exact e1,F⟩,h.kf,h.ka,h.fa,h.xw,h.xm,h.wm⟩
def z5 (x:Addr) (A:Ad) (H H':Hp):Prop:= ∀b u,H b=some u->b≠x->b≠A.pw->b≠A.pm->b≠A.pt->b≠A.pk->b≠A.pf->H' b=some u
theorem z5.of (h:aA H H'):z5 x A H H':=fun b u e _ _ _ _ _ _=>h b u e
theorem z5.trans (h:z5 x A H H') (F:z5 x A H' H''):z5 x A H H'':=fun b u e a1 i z v C y=>F b u (h b u e a1 i z v C y) a1 i z v C y
theorem iG.nw (h:iG CS CW CM H x A z) (e:H b=some o) (n:∀C d l,o≠ .ins C d l):b≠x/\b≠A.pw/\b≠A.pm:=by
 obtain⟨s,sp,i⟩:=h.ws.ins;obtain⟨em,_⟩:=h.ms;exact⟨bN e h.hx (n _ _ _),bN e i (n _ _ _),bN e em (n _ _ _)⟩
theorem iG.ways (h:iG CS CW CM H x A z) (i:cI A.pw H H') (hw:WS CW H' A.pw A.dw z.L w g k):iG CS CW CM H' x A {z with w:=w,g:=g,k:=k}:=by
 obtain⟨em,v⟩:=h.ms;exact⟨i _ _ h.hx h.xw,i _ _ h.ht (h.nw h.ht (by simp)).2.1,i _ _ h.hk (h.nw h.hk (by simp)).2.1,i _ _ h.hf (h.nw h.hf (by simp)).2.1,i _ _ h.ha (h.nw h.ha (by simp)).2.1,hw,⟨i _ _ em h.wm.symm,v⟩,h.kf,h.ka,h.fa,h.xw,h.xm,h.wm⟩
theorem iG.meter {kn:Int} (h:iG CS CW CM H x A z) (i:cI A.pm H H') (hm:MS CM H' A.pm A.dm z.mo wi kn co):iG CS CW CM H' x A {z with wi:=wi,kn:=kn,co:=co}:=by
 obtain⟨em,v⟩:=h.ms;exact⟨i _ _ h.hx h.xm,i _ _ h.ht (h.nw h.ht (by simp)).2.2,i _ _ h.hk (h.nw h.hk (by simp)).2.2,i _ _ h.hf (h.nw h.hf (by simp)).2.2,i _ _ h.ha (h.nw h.ha (by simp)).2.2,h.ws.keep (fun o e=>i _ _ e h.wm) (fun t l e=>i _ _ e (bN e em (by simp))),hm,h.kf,h.ka,h.fa,h.xw,h.xm,h.wm⟩
theorem z5.tup (f:z5 x A H H') (h:iG CS CW CM H x A z) (e:H t=some (.tup l)):H' t=some (.tup l):=by
 obtain⟨a1,i,v⟩:=h.nw e (by simp);exact f t _ e a1 i v (bN e h.ht (by simp)) (bN e h.hk (by simp)) (bN e h.hf (by simp))
theorem z5.lst (f:z5 x A H H') (h:iG CS CW CM H x A z) (e:H t=some (.lst l)) (n:t≠A.pt):H' t=some (.lst l):=by
 obtain⟨a1,i,v⟩:=h.nw e (by simp);exact f t _ e a1 i v n (bN e h.hk (by simp)) (bN e h.hf (by simp))
theorem z5.none {F C i x p:Addr} {H H':Hp} {A:Ad} {z:Sd} (f:z5 x A H H') (h:iG F C i H' x A z) (e:H' p=none):H p=none:=by
 obtain⟨s,sp,y⟩:=h.ws.ins;obtain⟨em,_⟩:=h.ms;cases q:H p with
 |none=>rfl
 |some u=>
  have nn:∀{b:Addr} {o:HO},H' b=some o->p≠b:=fun{b o} v c=>by rw[c,v] at e;cases e
  rw[f p u q (nn h.hx) (nn y) (nn em) (nn h.ht) (nn h.hk) (nn h.hf)] at e;cases e
theorem BI (e:aA H H') (h:H' p=none):H p=none:=by
 cases q:H p with
 |none=>rfl
 |some o=>rw[e _ _ q] at h;cases h
noncomputable def knw (D:List (Key×V)) (j:Int):Bool:=(bh D (ik j)).isSome
noncomputable def kab (z:Sd):Nat:=((List.range (z.t-(z.b+1)).toNat).filter fun j:Nat=>knw z.Kn (z.b+1+(j:Int))).length
theorem Ve:kab z<=(z.t-(z.b+1)).toNat:=by
 unfold kab;exact h7 (me _ _) (by rw[RA];exact cv _)
theorem R7 {z:Sd} {N:Nat} (h:N=(z.t-(z.b+1)).toNat):(List.map (fun v=>v) (List.filter (fun v=>match v with|V.int i=>knw z.Kn i|_=>false) (pJ (z.b+1) N))).length=kab z:=by
 subst h;unfold pJ kab;rw[List.map_id',aae,cz];rfl
noncomputable def putAll (D:List (Key×V)) (i:List Int):List (Key×V):=i.foldl (fun D n=>putK D (ik n) (.bl true)) D
noncomputable def frs (D:List (Key×V)) (i:List Int):List Int:=i.filter fun n=>!knw D n
theorem Vs {D:List (Key×V)} {x:List Int}:List.map (fun v=>v) (List.filter (fun v=>match v with|V.int i=>!knw D i|_=>false) (x.map V.int))=(frs D x).map V.int:=by
 unfold frs;rw[List.map_id',aae];rfl
theorem qX:(putAll D ps).length<=D.length+ps.length:=by
 induction ps generalizing D with
 |nil=>exact cv _
 |cons a t i=>
  have x:=i (D:=putK D (ik a) (.bl true));have v:=kG D (ik a) (.bl true);show(putAll (putK D (ik a) (.bl true)) t).length<=_;simp only[nS];lia
theorem putAll_snoc:putAll D (ps++ [n])=putK (putAll D ps) (ik n) (.bl true):=by
 unfold putAll;rw[aak];rfl
noncomputable def irg (b:Int) (n:Nat):List Int:=(List.range n).map fun j:Nat=>b+(j:Int)
theorem Vk:pJ b n=(irg b n).map V.int:=by
 unfold pJ irg;rw[FX];rfl
noncomputable def hld (z:Sd) (hs:List Int):List Int:=(hs.filter fun h=>decide (z.b+h<z.t)).map fun h=>z.b+h
theorem Vl {z:Sd} {hs:List Int}:List.map (fun v=>match v with|V.int i=>V.int (z.b+i)|v=>v) (List.filter (fun v=>match v with|V.int i=>decide (z.b+i<z.t)|_=>false) (hs.map V.int))=(hld z hs).map V.int:=by
 unfold hld;rw[aae,FX,FX];rfl
theorem F_:(hld z hs).length<=hs.length:=by
 unfold hld;rw[cz];exact me _ _
def Dg (x:Addr) (A:Ad) (H H':Hp):Prop:= ∀b u,H b=some u->b≠x->b≠A.pw->b≠A.pm->b≠A.pt->b≠A.pk->b≠A.pf->b≠A.pa->H' b=some u
theorem z5.seven (h:z5 x A H H'):Dg x A H H':=fun b u e a1 i z v C y _=>h b u e a1 i z v C y
theorem Dg.trans (h:Dg x A H H') (G:Dg x A H' H''):Dg x A H H'':=fun b u e a1 i C v F y z=>G b u (h b u e a1 i C v F y z) a1 i C v F y z
theorem iG.YC (h:iG CS CW CM H x A z) (Ag:List (Key×V)):iG CS CW CM (upd H A.pa (.dK Ag)) x A {z with Ag:=Ag}:=by
 obtain⟨e1,v⟩:=h.ms;have i:∀{p C d:Addr} {l:List (Str×V)},H p=some (.ins C d l)->p≠A.pa:=fun e=>bN e h.ha (by simp);obtain⟨s,sp,y⟩:=h.ws.ins;exact⟨by rw[ag (i h.hx)];exact h.hx,by rw[ag (bN h.ht h.ha (by simp))];exact h.ht,by rw[ag h.ka];exact h.hk,by rw[ag h.fa];exact h.hf,aa,h.ws.keep (fun F e=>by rw[ag (i y)];exact e) (fun t l e=>by rw[ag (bN e h.ha (by simp))];exact e),⟨by rw[ag (i e1)];exact e1,v⟩,h.kf,h.ka,h.fa,h.xw,h.xm,h.wm⟩
theorem Dg.none {F C i x p:Addr} {H H':Hp} {A:Ad} {z:Sd} (f:Dg x A H H') (h:iG F C i H' x A z) (e:H' p=none):H p=none:=by
 obtain⟨s,sp,y⟩:=h.ws.ins;obtain⟨em,_⟩:=h.ms;cases q:H p with
 |none=>rfl
 |some u=>
  have nn:∀{b:Addr} {o:HO},H' b=some o->p≠b:=fun{b o} v c=>by rw[c,v] at e;cases e
  rw[f p u q (nn h.hx) (nn y) (nn em) (nn h.ht) (nn h.hk) (nn h.hf) (nn h.ha)] at e;cases e
def Zn (c:V) (n:Int) (r:Bool):Prop:=(c = .non/\r=false)\/∃i,c = .int i/\r=decide (i<=n)
structure Bz (z:Sd):Prop where
 b0:0<=z.b
 bt:z.b<=z.t
 t1:z.t<=900
noncomputable abbrev sQ:=iG aC bI aY
def oS:Sp|vs,H,Q,E=>zqr vs fun x vs=>zqv vs fun i vs=>zqn vs ( ∃A z,sQ H x A z/\z.T.length<1000/\∀H',cI A.pt H H'->sQ H' x A {z with T:=z.T++ [i]}->Q .non H')
def mK:Sp|vs,H,Q,E=>zqr vs fun x vs=>zqn vs ( ∃A z,sQ H x A z/\Q (.int z.T.length) H)
def lg:Sp|vs,H,Q,E=>zqr vs fun x vs=>zqi vs fun p vs=>zqn vs ( ∃A z v,sQ H x A z/\kB z.T p=some v/\Q v H)
def dh:Sp|vs,H,Q,E=>zqr vs fun x vs=>zqn vs ( ∃A z,sQ H x A z/\Bz z/\∀H',aA H H'->Q (.int (kab z)) H')
def gy:Sp|vs,H,Q,E=>zqr vs fun x vs=>zqn vs ( ∃A z,sQ H x A z/\Bz z/\∀H',aA H H'->Q (.int (z.t-z.b-kab z)) H')
def fw:Sp|vs,H,Q,E=>zqr vs fun x vs=>zqn vs ( ∃A z,sQ H x A z/\Q (.bl (decide (z.t<z.T.length))) H)
def eQ:Sp|vs,H,Q,E=>zqr vs fun x vs=>zqn vs ( ∃A z,sQ H x A z/\Bz z/\∀H',aA H H'->Q (.bl (decide (z.b<z.t) && !z.hur&&decide ((2:Int)<=kab z))) H')
def fM:Sp|vs,H,Q,E=>zqr vs fun x vs=>zqn vs ( ∃A z,sQ H x A z/\Bz z/\∀H',aA H H'->Q (.bl (decide (z.t<z.T.length)&&decide (z.t<z.e)&&decide (z.t-z.b-kab z<z.wi))) H')
def fz:Sp|vs,H,Q,E=>zqr vs fun x vs=>zqr vs fun l vs=>zqn vs ( ∃A z,∃i:List Int,sQ H x A z/\H l=some (.lst (i.map V.int))/\z.Kn.length<1000000/\i.length<=1000/\∀p H',H p=none->z5 x A H H'->sQ H' x A {z with Kn:=putAll z.Kn (frs z.Kn i)}->H' p=some (.lst ((frs z.Kn i).map V.int))->Q (.ref p) H')
def gz:Sp|vs,H,Q,E=>zqr vs fun x vs=>zqi vs fun n vs=>zqn vs ( ∃A z,sQ H x A z/\∀H',cI x H H'->sQ H' x A {z with clk:= .int (n+z.w)}->Q .non H')
def gB:Sp|vs,H,Q,E=>zqr vs fun x vs=>zqi vs fun st vs=>zqn vs ( ∃A z,sQ H x A z/\Bz z/\(0<=st/\st<=z.t-z.b)/\z.Kn.length<1000000/\∀fs p H',fs=frs z.Kn (irg z.b st.toNat)->H p=none->z5 x A H H'->sQ H' x A {z with b:=z.b+st,Kn:=putAll z.Kn fs}->H' p=some (.lst (fs.map V.int))->Q (.ref p) H')
def gA:Sp|vs,H,Q,E=>zqr vs fun x vs=>zqr vs fun t vs=>zqn vs ( ∃A z,∃hs:List Int,sQ H x A z/\H t=some (.tup (hs.map V.int))/\hs.length<=1000/\z.Kn.length<1000000/\∀fs p H',fs=frs z.Kn (hld z hs)->H p=none->z5 x A H H'->sQ H' x A {z with Kn:=putAll z.Kn fs}->H' p=some (.lst (fs.map V.int))->Q (.ref p) H')
def ia:Sp|vs,H,Q,E=>zqr vs fun x vs=>zqi vs fun n vs=>zqn vs ( ∃A z,sQ H x A z/\z.Ag.length<1000000/\∀p H',H p=none->Dg x A H H'->sQ H' x A {z with clk:= .int (n+z.w),hur:=true,Ag:=putK z.Ag (ik z.b) (.bl true)}->H' p=some (.tup [.str "again",.int z.b])->Q (.ref p) H')
def eS:Sp|vs,H,Q,E=>zqr vs fun x vs=>zqi vs fun n vs=>zqn vs ( ∃A z r,sQ H x A z/\Zn z.clk n r/\Q (.bl r) H)
def jK:Sp|vs,H,Q,E=>zqr vs fun x vs=>zqi vs fun n vs=>zqn vs ( ∃A z,sQ H x A z/\z.Fi.length<1000000/\∀p H',H p=none->z5 x A H H'->sQ H' x A {z with clk:=if z.b=z.t then .int (n+z.w) else z.clk,t:=z.t+1,Fi:=putK z.Fi (ik z.t) (.int n)}->H' p=some (.tup [.str "new",.int z.t])->Q (.ref p) H')
noncomputable def w2 (z:Sd):Int:=if z.L<2*z.w then z.L else 2*z.w
theorem WS.ran (h:WS C H p dx L w g k):∃s sp,H p=some (.ins C dx (bW (V.int L) s sp (V.int w)))/\WS C (upd H p (.ins C dx (bW (V.int L) s sp (V.int (if L<2*w then L else 2*w))))) p dx L (if L<2*w then L else 2*w) g k:=by
 obtain⟨v,O,⟨a1,F,G⟩|⟨n,P,S,D,a,A,b,B,b0,b1,J,⟨I,z,i,x,y⟩⟩⟩:=h
 ·exact⟨_,_,G,v,by split<;>lia,.inl ⟨a1,F,aa⟩⟩
 ·exact⟨_,_,i,v,by split<;>lia,.inr ⟨n,P,S,D,a,A,b,B,b0,b1,J,⟨I,z,aa,by rw[ag (bN x i (by simp))];exact x,by rw[ag (bN y i (by simp))];exact y⟩⟩⟩
noncomputable def Jo (c:V) (n:Int):Bool:=match c with
 | .int i=>decide (i<=n)
 |_=>false
noncomputable def JO (z:Sd):Bool:=decide (z.b<z.t) && !z.hur&&decide ((2:Int)<=kab z)
noncomputable def o_ (z:Sd):Bool:=decide (z.t<z.T.length)&&decide (z.t<z.e)&&decide (z.t-z.b-kab z<z.wi)
noncomputable def Tx (z:Sd) (n:Int):Sd:={z with w:=w2 z,wi:=1,kn:=MeterM.hf z.wi,co:=0,clk:= .int (n+w2 z),hur:=true,Ag:=putK z.Ag (ik z.b) (.bl true)}
noncomputable def WX (z:Sd) (n:Int):Sd:={z with wi:=MeterM.hf z.wi,kn:=MeterM.hf z.wi,co:=0,clk:= .int (n+z.w),hur:=true,Ag:=putK z.Ag (ik z.b) (.bl true)}
noncomputable def WO (z:Sd) (n:Int):Sd:={z with clk:=if z.b=z.t then .int (n+z.w) else z.clk,t:=z.t+1,Fi:=putK z.Fi (ik z.t) (.int n)}
noncomputable def X7 (z:Sd) (n:Int):Sd:={z with w:=w2 z,clk:= .int (n+w2 z)}
noncomputable def Wo (z:Sd) (n:Int):Sd:={z with clk:= .int (n+z.w)}
def Yj (z x:Sd) (n:Int) (v:V) (H H':Hp):Prop:=(z.clk = .non/\x=Wo z n/\v = .non)\/(∃i,z.clk = .int i/\n<i/\x=z/\v = .non)\/(∃i,z.clk = .int i/\i<=n/\x=X7 z n/\∃p,v = .ref p/\H p=none/\H' p=some (.tup [.str "ask",.non]))
def Zl (z i:Sd) (n:Int) (v:V) (H H':Hp):Prop:=
 (z.b<z.t/\Jo z.clk n=true/\i=Tx z n/\∃p,v = .ref p/\H p=none/\H' p=some (.tup [.str "again",.int z.b]))\/
 (
  (z.b<z.t->Jo z.clk n=false)/\((JO z=true/\i=WX z n/\∃p,v = .ref p/\H p=none/\H' p=some (.tup [.str "again",.int z.b]))\/
  (
   JO z=false/\((o_ z=true/\i=WO z n/\∃p,v = .ref p/\H p=none/\H' p=some (.tup [.str "new",.int z.t]))\/
   (o_ z=false/\((z.t<z.T.length/\z.b=z.t/\Yj z i n v H H')\/(¬(z.t<z.T.length/\z.b=z.t)/\i=z/\v = .non)))))))
theorem Yj.fr (h:Yj z z' n v H H') (f:∀p,H p=none->H0 p=none):Yj z z' n v H0 H':=by
 rcases h with h|h|⟨i,G,C,F,p,I,y,x⟩
 ·exact .inl h
 ·exact .inr (.inl h)
 ·exact .inr (.inr ⟨i,G,C,F,p,I,f p y,x⟩)
def eT:Sp|vs,H,Q,E=>zqr vs fun x vs=>zqi vs fun n vs=>zqn vs ( ∃A z,sQ H x A z/\(z.clk = .non\/∃i,z.clk = .int i)/\∀v H' y,Dg x A H H'->sQ H' x A y->Yj z y n v H H'->Q v H')
def qE:Sp|vs,H,Q,E=>zqr vs fun x vs=>zqi vs fun n vs=>zqn vs ( ∃A z,sQ H x A z/\Bz z/\(z.clk = .non\/∃i,z.clk = .int i)/\z.Ag.length<1000000/\z.Fi.length<1000000/\∀v H' y,Dg x A H H'->sQ H' x A y->Zl z y n v H H'->Q v H')
noncomputable def cnt (D:List (Key×V)) (t:Nat):Nat:=((List.range t).filter fun j:Nat=>knw D (j:Int)).length
theorem VN:cnt D t<=t:=by
 unfold cnt;exact h7 (me _ _) (by rw[RA];exact cv _)
theorem C6:cnt D (t+1)=cnt D t+if knw D (t:Int) then 1 else 0:=by
 unfold cnt;rw[List.range_succ,List.filter_append,ib];congr 1;rw[ZI];split<;>simp
theorem F0:knw (putK D (ik a) v) b=(decide (b=a)||knw D b):=by
 unfold knw;rw[xo];by_cases c:b=a
 ·subst c;rw[dy rfl];simp
 ·rw[de (by intro h;exact c (by injection h))];simp[c]
theorem Lk (h:knw D a=false) (x:0<=a):∀{t:Nat},cnt (putK D (ik a) v) t=cnt D t+if a<(t:Int) then 1 else 0
 |0=>by show 0=0+_;rw[de (by lia)]
 |t+1=>by
  rw[C6,C6,Lk h x (t:=t),F0];by_cases c:(t:Int)=a
  ·subst c;rw[h];simp;lia
  ·have e:(decide ((t:Int)=a)||knw D (t:Int))=knw D (t:Int):=by simp[c]
   rw[e];generalize(if knw D (t:Int)=true then 1 else 0)=y;by_cases i:a<(t:Int)
   ·rw[dy i,dy (show a<((t+1:Nat):Int) by lia)];lia
   ·rw[de i,de (show¬a<((t+1:Nat):Int) by lia)];lia
theorem yu {t:Nat}:∀{fs:List Int} {D:List (Key×V)},fs.Nodup->(∀a∈fs,knw D a=false/\0<=a/\a<(t:Int))->cnt (putAll D fs) t=cnt D t+fs.length
 | [],_,_,_=>rfl
 |a::l,D,hn,h=>by
  obtain⟨z,x,y⟩:=h a (ZG ..);obtain⟨n1,v⟩:=Z6.mp hn;show cnt (putAll (putK D (ik a) (.bl true)) l) t=_;rw[yu v (fun b i=>?_),Lk z x,dy y,nS]
  ·lia
  ·obtain⟨k1,k2,k3⟩:=h b (sh _ i);have:b≠a:=fun e=>n1 (by rw[<-e];exact i);exact⟨by rw[F0,k1];simp[this],k2,k3⟩
theorem Eh:(irg b n).Nodup:=by
 unfold irg;unfold List.Nodup;rw[List.pairwise_map];exact(List.nodup_range (n:=n)).imp fun h e=>h (by lia)
theorem K4 (h:a∈irg b n):b<=a/\a<b+n:=by
 unfold irg at h;obtain⟨j,i,rfl⟩:=h8.mp h;have:=L1.mp i;lia
theorem Ei (h:hs.Nodup):(hld z hs).Nodup:=by
 unfold hld;unfold List.Nodup;rw[List.pairwise_map];exact(aav _ h).imp fun h e=>h (by lia)
theorem K7 (h:a∈hld z hs):a<z.t/\∃k∈hs,a=z.b+k:=by
 unfold hld at h;obtain⟨k,hk,rfl⟩:=h8.mp h;obtain⟨m1,i⟩:=ZF.mp hk;exact⟨by simpa using i,k,m1,rfl⟩
theorem BH (h:a∈frs D ps):a∈ps/\knw D a=false:=by
 unfold frs at h;obtain⟨m1,i⟩:=ZF.mp h;exact⟨m1,by simpa using i⟩
def Tq (z:Sd) (tn:Int):Prop:= ∀j:Int,0<=j->j<z.t->∃f,bh z.Fi (ik j)=some (.int f)/\0<=tn-f/\tn-f<=1000000
noncomputable def far' (z:Sd) (nu:Int):Int:=(nu-z.b) % z.R
noncomputable def yJ (z:Sd) (nu:Int):List Int:=frs z.Kn (irg z.b (far' z nu).toNat)
noncomputable def mj (z:Sd) (nu:Int):Sd:={z with b:=z.b+far' z nu,Kn:=putAll z.Kn (yJ z nu)}
noncomputable def xj (z:Sd) (nu:Int) (hs:List Int):List Int:=frs (mj z nu).Kn (hld (mj z nu) hs)
noncomputable def fsh (z:Sd) (nu:Int) (hs:List Int):List Int:=yJ z nu++xj z nu hs
noncomputable def Sq (z:Sd) (p:Int):Int:=match bh z.Fi (ik p) with
 |some (.int f)=>f
 |_=>0
noncomputable abbrev Ws:=Int×Wg×Nat
noncomputable def MJ (z:Sd) (tn:Int) (s:Ws) (p:Int):Ws:=if knw z.Ag p then s else(mws z.L (mgs s.2.1 (tn-Sq z p)),mgs s.2.1 (tn-Sq z p),s.2.2+1)
noncomputable def mall (z:Sd) (tn:Int) (fs:List Int):Ws:=fs.foldl (MJ z tn) (z.w,z.g,z.k)
theorem ML:mall z tn (fs++ [c])=MJ z tn (mall z tn fs) c:=by unfold mall;rw[aak];rfl
noncomputable def hrd (z:Sd) (nu rm:Int) (hs:List Int) (tn:Int):Sd:=
 ⟨z.R,z.b+far' z nu,z.t,if z.e<z.b+far' z nu+rm then z.b+far' z nu+rm else z.e,if 0<far' z nu then(if z.b+far' z nu<z.t then .int (tn+(mall z tn (fsh z nu hs)).1) else .non) else z.clk,if 0<far' z nu then false else z.hur,z.T,putAll (mj z nu).Kn (xj z nu hs),z.Fi,z.Ag,z.L,(mall z tn (fsh z nu hs)).1,(mall z tn (fsh z nu hs)).2.2,(MeterM.kn z.mo z.kn (fsh z nu hs).length (z.wi,z.co)).1,(mall z tn (fsh z nu hs)).2.1,z.mo,z.kn,(MeterM.kn z.mo z.kn (fsh z nu hs).length (z.wi,z.co)).2⟩
def lh:Sp|vs,H,Q,E=>zqr vs fun x vs=>zqi vs fun nu vs=>zqi vs fun rm vs=>zqr vs fun hd vs=>zqi vs fun tn vs=>zqn vs ( ∃A z,∃hs:List Int,sQ H x A z/\Bz z/\0<z.R/\H hd=some (.tup (hs.map V.int))/\hs.length<=100/\hs.Nodup/\(∀k∈hs,0<=k)/\Tq z tn/\z.Kn.length<900000/\z.t<=430/\z.k<=cnt z.Kn z.t.toNat/\∀p H',H p=none->Dg x A H H'->((z.t-z.b<far' z nu/\aA H H'/\H' p=some (.lst []))\/(far' z nu<=z.t-z.b/\sQ H' x A (hrd z nu rm hs tn)/\H' p=some (.lst ((fsh z nu hs).map V.int))))->Q (.ref p) H')
theorem eC (b:cI x H H') (n:x≠p) (h:H' p=none):H p=none:=by
 cases q:H p with
 |none=>rfl
 |some o=>rw[b _ _ q n.symm] at h;cases h
def ie:Sp|vs,H,Q,E=>zqr vs fun x vs=>zqi vs fun r vs=>zqi vs fun f vs=>zqi vs fun l vs=>zqi vs fun m vs=>zqn vs ((2<=f/\f<=l/\1<=m)/\∃dx,H x=some (.ins aC dx [])/\∀A H',cI x H H'->(∀b,b∈[A.pw,A.pm,A.pt,A.pk,A.pf,A.pa]->H b=none)->sQ H' x A ⟨r,0,0,1,.non,false,[],[],[],[],l,f,0,MeterM.mn 2 m,none,m,m,0⟩->Q .non H')
structure Tk where
 R:Int
 M:Int
 g:Int
 o:Int
 D:List (Key×V)
structure Dd (C:Addr) (H:Hp) (x dx pk:Addr) (z:Tk):Prop where
 hx:H x=some (.ins C dx (eF (.int z.R) (.int z.M) (.int z.g) (.int z.o) (.ref pk)))
 hD:H pk=some (.dK z.D)
theorem Dd.n1 (h:Dd C H x dx pk z):pk≠x:=bN h.hD h.hx (by simp)
theorem Dd.same (h:Dd C H x dx pk z) (e:aA H H'):Dd C H' x dx pk z:=⟨e _ _ h.hx,e _ _ h.hD⟩
theorem Dd.put (h:Dd C H x dx pk z) (R M g o:Int):Dd C (upd H x (.ins C dx (eF (.int R) (.int M) (.int g) (.int o) (.ref pk)))) x dx pk ⟨R,M,g,o,z.D⟩:=⟨aa,by rw[ag h.n1];exact h.hD⟩
def Ly (x pk:Addr) (H H':Hp):Prop:= ∀b u,H b=some u->b≠x->b≠pk->H' b=some u
noncomputable def vals (D:List (Key×V)) (g:Int) (n:Nat):List V:=(List.range n).map fun j:Nat=>(bh D (ik (g+(j:Int)))).getD .non
theorem yK {n:Nat} (h:bh D (ik (g+n))=some v):vals D g (n+1)=vals D g n++ [v]:=by
 simp[vals,List.range_succ,h]
def Run (D:List (Key×V)) (g:Int) (n:Nat):Prop:=(∀j:Nat,j<n->(bh D (ik (g+j))).isSome=true)/\bh D (ik (g+n))=none
theorem LB {j:Key}:bh (tZ kvs k) j=if j=k then none else bh kvs j:=by
 unfold bh tZ;by_cases c:j=k
 ·rw[dy c,Option.map_eq_none_iff,List.find?_eq_none];intro a ha;have:=(ZF.mp ha).2;subst c;simpa using this
 ·rw[de c];congr 1;rw[List.find?_filter];congr 1;funext a;by_cases d:a.1=j
  ·subst d;simp[c]
  ·simp[d]
noncomputable def Ah (D:List (Key×V)) (g:Int) (n:Nat):List Int:=((List.range n).filter fun j:Nat=>(bh D (ik (g+(1+(j:Int))))).isSome).map (fun j:Nat=>1+(j:Int))
theorem held_eq {D:List (Key×V)} {g:Int} {n:Nat}:List.map (fun v=>v) (List.filter (fun v=>match v with|V.int i=>(bh D (ik (g+i))).isSome|_=>false) (pJ 1 n))=(Ah D g n).map V.int:=by
 unfold pJ Ah;rw[aae,FX,FX];rfl
def BS:Sp|vs,H,Q,E=>zqi vs fun r vs=>zqi vs fun a vs=>zqi vs fun b vs=>zqn vs (0<r/\Q (.int ((b-a) % r)) H)
noncomputable abbrev IJ:=Dd cV
def iL:Sp|vs,H,Q,E=>zqr vs fun x vs=>zqi vs fun r vs=>zqi vs fun m vs=>zqn vs ( ∃dx,H x=some (.ins cV dx [])/\∀pk H',H pk=none->cI x H H'->IJ H' x dx pk ⟨r,m,0,0,[]⟩->Q .non H')
def hZ:Sp|vs,H,Q,E=>zqr vs fun x vs=>zqn vs ( ∃dx pk z,IJ H x dx pk z/\Q (.int (z.o+z.M-z.g)) H)
def d8:Sp|vs,H,Q,E=>zqr vs fun x vs=>zqn vs ( ∃dx pk z B,IJ H x dx pk z/\(∀i,(bh z.D (ik i)).isSome=true->i<B)/\B<=z.g+1000/\∀n p H',Run z.D z.g n->H p=none->Ly x pk H H'->IJ H' x dx pk {z with g:=z.g+n}->H' p=some (.lst (vals z.D z.g n))->Q (.ref p) H')
def oQ:Sp|vs,H,Q,E=>zqr vs fun x vs=>zqi vs fun m vs=>zqr vs fun th vs=>zqn vs ( ∃dx pk z B,IJ H x dx pk z/\0<z.R/\(∀i,(bh z.D (ik i)).isSome=true->i<B)/\B<=z.g+1000/\z.o+z.M<=B/\z.D.length<1000/\((z.o+z.M-z.g<=(m-z.g) % z.R/\∀p l H',aA H H'->H p=none->H l=none->H' p=some (.tup [.non,.ref l])->H' l=some (.lst [])->Q (.ref p) H')\/((m-z.g) % z.R<z.o+z.M-z.g/\∀v,v=(if(bh z.D (ik (z.g+(m-z.g) % z.R))).isSome then z.D else putK z.D (ik (z.g+(m-z.g) % z.R)) (.ref th))->∀n p l H',Run v z.g n->H p=none->H l=none->p≠l->Ly x pk H H'->IJ H' x dx pk ⟨z.R,z.M,z.g+n,z.o,v⟩->H' l=some (.lst (vals v z.g n))->H' p=some (.tup [.int (z.g+(m-z.g) % z.R),.ref l])->Q (.ref p) H')))
def k_:Sp|vs,H,Q,E=>zqr vs fun x vs=>zqn vs ( ∃dx pk z,IJ H x dx pk z/\0<z.R/\(0<=z.o+z.M-z.g/\z.o+z.M-z.g<=1000)/\∀p t hs H',aA H H'->hs=Ah z.D z.g (z.o+z.M-z.g-1).toNat->H p=none->H t=none->H' t=some (.tup (hs.map V.int))->H' p=some (.tup [.int (z.g % z.R),.int (z.o+z.M-z.g),.ref t])->Q (.ref p) H')
def oR:Sp|vs,H,Q,E=>zqr vs fun x vs=>zqi vs fun m vs=>zqn vs ( ∃dx pk z,IJ H x dx pk z/\(0<=m/\m<=1000/\0<=z.o/\z.o<=z.g/\z.g<=10000)/\(∀i,z.o<=i->i<z.g->(bh z.D (ik i)).isSome=true)/\∀n p v H',n=((if z.g<z.o+m then z.g else z.o+m)-z.o).toNat->H p=none->(∀i,bh v (ik i)=if z.o<=i/\i<z.o+n then none else bh z.D (ik i))->v.Sublist z.D->Ly x pk H H'->IJ H' x dx pk ⟨z.R,z.M,z.g,z.o+n,v⟩->H' p=some (.lst (vals z.D z.o n))->Q (.ref p) H')
noncomputable def tbl:List (Addr×Str):=[(jv,"shut"),(eO,"calling"),(nM,"open"),(nN,"left"),(eK,"leaving"),(eJ,"waiting"),(eN,"closing")]
def VY (tb:List (Addr×Str)) (H:Hp) (x:Addr) (nm:Str):Prop:= ∃C dx,H x=some (.ins C dx [])/\(C,nm)∈tb
noncomputable def Sx:List (Str×Str×Str):=[("shut","begin","calling"),("shut","begun","open"),("calling","end","leaving"),("calling","begun","open"),("open","end","leaving"),("open","ended","left"),("left","end","closing"),("leaving","ended","closing"),("leaving","answered","waiting"),("waiting","ended","shut"),("closing","answered","shut")]
noncomputable def c7 (nm w:Str):Option Str:=match Sx.find? (fun t=>decide (t.1=nm)&&decide (t.2.1=w)) with
 |some t=>some t.2.2
 |none=>if w="begin" \/w="end" then none else some nm
noncomputable def R3 (nm:Str):Bool:=decide (nm="calling")||decide (nm="open")||decide (nm="left")
theorem dropxl (S:aA H H1) (he:H1 e=none) (hd:upd H1 e o d=none):aA H (oy (upd (upd (upd H1 e o) d (.xd l)) e (.ext (vA e C (some d)))) e)/\oy (upd (upd (upd H1 e o) d (.xd l)) e (.ext (vA e C (some d)))) e d=some (.xd l):=by
 have nd:d≠e:=fun z=>by rw[z,aa] at hd;cases hd
 refine⟨fun b u v=>?_,?_⟩
 ·have i:=S b u v;have nb:b≠e:=ao i he;rw[g7 nb,ag nb,ag (fun z=>?_),ag nb];exact i;rw[z] at i;rw[ag nd] at hd;rw[i] at hd;cases hd
 ·rw[g7 nd,ag nd,aa]
def ig:Sp|vs,H,Q,E=>zqr vs fun e vs=>zqv vs fun v vs=>zqv vs fun u vs=>zqn vs (H e=some (.ext (vA e aL none))/\∀d,H d=none->Q .non (upd (upd H d (.xd [("state",v),("wish",u)])) e (.ext (vA e aL (some d)))))
def xt:Sp|vs,H,Q,E=>zqr vs fun x vs=>zqn vs (Q (.str "shut") H)
def rN:Sp|vs,H,Q,E=>zqr vs fun x vs=>zqn vs (Q (.str "calling") H)
def xu:Sp|vs,H,Q,E=>zqr vs fun x vs=>zqn vs (Q (.str "open") H)
def xv:Sp|vs,H,Q,E=>zqr vs fun x vs=>zqn vs (Q (.str "left") H)
def rL:Sp|vs,H,Q,E=>zqr vs fun x vs=>zqn vs (Q (.str "leaving") H)
def rH:Sp|vs,H,Q,E=>zqr vs fun x vs=>zqn vs (Q (.str "waiting") H)
def rM:Sp|vs,H,Q,E=>zqr vs fun x vs=>zqn vs (Q (.str "closing") H)
noncomputable abbrev AM:=VY tbl
def mJ:Sp|vs,H,Q,E=>zqr vs fun x vs=>zqn vs ( ∀y H',aA H H'->AM H' y "calling" ->Q (.ref y) H')
def l7:Sp|vs,H,Q,E=>zqr vs fun x vs=>zqn vs ( ∀y H',aA H H'->AM H' y "leaving" ->Q (.ref y) H')
def pF:Sp|vs,H,Q,E=>zqr vs fun x vs=>zqn vs ( ∀y H',aA H H'->AM H' y "leaving" ->Q (.ref y) H')
def pG:Sp|vs,H,Q,E=>zqr vs fun x vs=>zqn vs ( ∀y H',aA H H'->AM H' y "closing" ->Q (.ref y) H')
def vp:Sp|vs,H,Q,E=>zqr vs fun x vs=>zqn vs ( ∀y H',aA H H'->AM H' y "open" ->Q (.ref y) H')
def pI:Sp|vs,H,Q,E=>zqr vs fun x vs=>zqn vs ( ∀y H',aA H H'->AM H' y "open" ->Q (.ref y) H')
def vq:Sp|vs,H,Q,E=>zqr vs fun x vs=>zqn vs ( ∀y H',aA H H'->AM H' y "left" ->Q (.ref y) H')
def pH:Sp|vs,H,Q,E=>zqr vs fun x vs=>zqn vs ( ∀y H',aA H H'->AM H' y "closing" ->Q (.ref y) H')
def pD:Sp|vs,H,Q,E=>zqr vs fun x vs=>zqn vs ( ∀y H',aA H H'->AM H' y "shut" ->Q (.ref y) H')
def lY:Sp|vs,H,Q,E=>zqr vs fun x vs=>zqn vs ( ∀y H',aA H H'->AM H' y "waiting" ->Q (.ref y) H')
def lZ:Sp|vs,H,Q,E=>zqr vs fun x vs=>zqn vs ( ∀y H',aA H H'->AM H' y "shut" ->Q (.ref y) H')
def sZ:Sp|vs,H,Q,E=>zqr vs fun x vs=>zqn vs (Q (.ref x) H)
def sY:Sp|vs,H,Q,E=>zqr vs fun x vs=>zqn vs (Q (.ref x) H)
def nR:Sp|vs,H,Q,E=>zqr vs fun x vs=>zqn vs (Q (.ref x) H)
def lX:Sp|vs,H,Q,E=>zqr vs fun x vs=>zqn vs ( ∃nm,AM H x nm/\∀H' d,aA H H'->H' d=some (.xd [("state",.str nm),("wish",.str "begin")])->E (.ref aL) (some d) H')
def nQ:Sp|vs,H,Q,E=>zqr vs fun x vs=>zqn vs ( ∃nm,AM H x nm/\∀H' d,aA H H'->H' d=some (.xd [("state",.str nm),("wish",.str "end")])->E (.ref aL) (some d) H')
def mM:Sp|vs,H,Q,E=>zqr vs fun x vs=>zqn vs (Q (.bl true) H)
def rJ:Sp|vs,H,Q,E=>zqr vs fun x vs=>zqn vs (Q (.bl true) H)
def rK:Sp|vs,H,Q,E=>zqr vs fun x vs=>zqn vs (Q (.bl true) H)
def pE:Sp|vs,H,Q,E=>zqr vs fun x vs=>zqn vs (Q (.bl false) H)
def yP:Sp:=fun vs H Q E=>match vs with
 | [.ref x]=> ∃nm,AM H x nm/\Q (.str nm) H
 |_=>False
def qC:Sp:=fun vs H Q E=>match vs with
 | [.ref x]=> ∃nm,AM H x nm/\Q (.bl (R3 nm)) H
 |_=>False
def k9:Sp:=fun vs H Q E=>match vs with
 | [.ref x]=> ∃nm,AM H x nm/\(∀nx,c7 nm "begin" = some nx->∀y H',aA H H'->AM H' y nx->Q (.ref y) H')/\(c7 nm "begin" = none->∀H' d,aA H H'->H' d=some (.xd [("state",.str nm),("wish",.str "begin")])->E (.ref aL) (some d) H')
 |_=>False
def oO:Sp:=fun vs H Q E=>match vs with
 | [.ref x]=> ∃nm,AM H x nm/\(∀nx,c7 nm "end" = some nx->∀y H',aA H H'->AM H' y nx->Q (.ref y) H')/\(c7 nm "end" = none->∀H' d,aA H H'->H' d=some (.xd [("state",.str nm),("wish",.str "end")])->E (.ref aL) (some d) H')
 |_=>False
def vW:Sp:=fun vs H Q E=>match vs with
 | [.ref x]=> ∃nm,AM H x nm/\(∀nx,c7 nm "begun" = some nx->∀y H',aA H H'->AM H' y nx->Q (.ref y) H')
 |_=>False
def qD:Sp:=fun vs H Q E=>match vs with
 | [.ref x]=> ∃nm,AM H x nm/\(∀nx,c7 nm "ended" = some nx->∀y H',aA H H'->AM H' y nx->Q (.ref y) H')
 |_=>False
def oP:Sp:=fun vs H Q E=>match vs with
 | [.ref x]=> ∃nm,AM H x nm/\(∀nx,c7 nm "answered" = some nx->∀y H',aA H H'->AM H' y nx->Q (.ref y) H')
 |_=>False
def Kp (S:List Addr) (H H':Hp):Prop:= ∀b o,H b=some o->b ∉ S->H' b=some o
theorem Kp.refl:Kp S H H:=fun _ _ h _=>h
theorem Kp.of (h:aA H H'):Kp S H H':=fun b o e _=>h b o e
theorem Kp.trans (h:Kp S H H1) (i:Kp S H1 H2):Kp S H H2:=fun b o e n=>i b o (h b o e n) n
theorem Kp.more (h:Kp S H H') (i:∀b∈S,b∈S'):Kp S' H H':=fun b o e n=>h b o e fun m=>n (i b m)
theorem Kp.one {p:Addr} {H:Hp} {o:HO}:Kp [p] H (upd H p o):=fun b u e n=>by rw[ag (fun z=>n (by rw[z];exact hQ.mpr rfl))];exact e
theorem tK {l:List Addr} {j:Nat} (h:l.Nodup) (z:l[i]?=some a) (y:l[j]?=some b) (n:i≠j):a≠b:=fun e=>by
 subst e;obtain⟨x,e1⟩:=i4.mp z;obtain⟨v,e2⟩:=i4.mp y;rcases Nat.lt_trichotomy i j with q|q|q
 ·exact List.pairwise_iff_getElem.mp h i j x v q (by rw[e1,e2])
 ·exact n q
 ·exact List.pairwise_iff_getElem.mp h j i v x q (by rw[e1,e2])
def Ny (o:HO):Prop:=(∃l,o = .tup l)\/(∃C d,o = .ins C d [])\/∃u v,o = .frz u v
theorem Kp.upd (m:p∈S):Kp S H (Lake.upd H p o):=fun b u e n=>by rw[ag (fun z=>n (by rw[z];exact m))];exact e
theorem Kp.but (h:cI p H H') (m:p∈S):Kp S H H':=fun b u e n=>h b u e fun z=>n (by rw[z];exact m)
theorem cI.V9 (h:cI A.pt H H'):Dg x A H H':=fun b u e _ _ _ n _ _ _=>h b u e n
theorem oj: ¬Ny (.lst l):=fun q=>by rcases q with⟨l,q⟩|⟨C,d,q⟩|⟨u,v,q⟩<;>cases q
structure Y9 where
 dx:Addr
 tk:Addr
 dt:Addr
 kd:Addr
 sd:Addr
 S:Ad
 st:Addr
 pe:Addr
structure Hn where
 side:Int
 R:Int
 tk:Tk
 sd:Sd
 nm:Str
 due:Bool
 ends : List Int
noncomputable def foot (x:Addr) (A:Y9):List Addr:=[x,A.tk,A.kd,A.sd,A.S.pw,A.S.pm,A.S.pt,A.S.pk,A.S.pf,A.S.pa,A.pe]
structure cS (CH CT CS CW CM:Addr) (tb:List (Addr×Str)) (H:Hp) (x:Addr) (A:Y9) (z:Hn):Prop where
 hx:H x=some (.ins CH A.dx (aX (.int z.side) (.int z.R) (.ref A.tk) (.ref A.sd) (.ref A.st) (.bl z.due) (.ref A.pe)))
 tk:Dd CT H A.tk A.dt A.kd z.tk
 sd:iG CS CW CM H A.sd A.S z.sd
 st:VY tb H A.st z.nm
 he:H A.pe=some (.lst (z.ends.map V.int))
 nd:(foot x A).Nodup
end
section
mutual
theorem Dg.kp (h:Dg x A H H'):Kp [x,A.pw,A.pm,A.pt,A.pk,A.pf,A.pa] H H':=fun b o e n=>by
 simp only[fy,hL,wh,not_or] at n;exact h b o e n.1 n.2.1 n.2.2.1 n.2.2.2.1 n.2.2.2.2.1 n.2.2.2.2.2.1 n.2.2.2.2.2.2
theorem Ly.kp (h:Ly x p H H'):Kp [x,p] H H':=fun b o e n=>by
 simp only[fy,hL,wh,not_or] at n;exact h b o e n.1 n.2
theorem iG.kp (h:iG CS CW CM H x A z) (k:Kp S H H') (d:∀b∈[x,A.pw,A.pm,A.pt,A.pk,A.pf,A.pa],b ∉ S) (i:∀t l,H t=some (.tup l)->t ∉ S):iG CS CW CM H' x A z:=by
 simp only[fy,hL,wh] at d;obtain⟨e1,v⟩:=h.ms;exact⟨k _ _ h.hx (d _ (by simp)),k _ _ h.ht (d _ (by simp)),k _ _ h.hk (d _ (by simp)),k _ _ h.hf (d _ (by simp)),k _ _ h.ha (d _ (by simp)),h.ws.keep (fun o q=>k _ _ q (d _ (by simp))) (fun t l q=>k _ _ q (i t l q)),⟨k _ _ e1 (d _ (by simp)),v⟩,h.kf,h.ka,h.fa,h.xw,h.xm,h.wm⟩
theorem cS.imm (h:cS CH CT CS CW CM tb H x A z) (e:H b=some o) (i:Ny o):b ∉ foot x A:=by
 obtain⟨e1,_⟩:=h.sd.ms;obtain⟨s,sp,e2⟩:=h.sd.ws.ins;intro m;simp only[foot,fy,hL,wh] at m;have key:∀{p:Addr} {u:HO},H p=some u->¬Ny u->b≠p:=fun{p u} q n c=>by
  rw[c,q] at e;cases e;exact n i
 have y:∀{C d:Addr} {l:List (Str×V)},l≠[]->¬Ny (.ins C d l):=fun n q=>by
  rcases q with⟨l,q⟩|⟨C,d,q⟩|⟨u,v,q⟩
  ·cases q
  ·injection q with _ _ q;exact n q
  ·cases q
 have nl:∀{l:List V},¬Ny (.lst l):=fun q=>by rcases q with⟨l,q⟩|⟨C,d,q⟩|⟨u,v,q⟩<;>cases q
 have nk:∀{l:List (Key×V)},¬Ny (.dK l):=fun q=>by rcases q with⟨l,q⟩|⟨C,d,q⟩|⟨u,v,q⟩<;>cases q
 rcases m with m|m|m|m|m|m|m|m|m|m|m
 ·exact key h.hx (y (by simp[aX,mz])) m
 ·exact key h.tk.hx (y (by simp[eF,tQ])) m
 ·exact key h.tk.hD nk m
 ·exact key h.sd.hx (y (by simp[bD,dM])) m
 ·exact key e2 (y (by simp[bW,ya])) m
 ·exact key e1 (y (by simp[aW,tS])) m
 ·exact key h.sd.ht nl m
 ·exact key h.sd.hk nk m
 ·exact key h.sd.hf nk m
 ·exact key h.sd.ha nk m
 ·exact key h.he nl m
theorem cS.live (h:cS CH CT CS CW CM tb H x A z) (m:b∈foot x A):∃u,H b=some u:=by
 obtain⟨e1,_⟩:=h.sd.ms;obtain⟨s,sp,e2⟩:=h.sd.ws.ins;simp only[foot,fy,hL,wh] at m;rcases m with m|m|m|m|m|m|m|m|m|m|m<;>rw[m]
 ·exact⟨_,h.hx⟩
 ·exact⟨_,h.tk.hx⟩
 ·exact⟨_,h.tk.hD⟩
 ·exact⟨_,h.sd.hx⟩
 ·exact⟨_,e2⟩
 ·exact⟨_,e1⟩
 ·exact⟨_,h.sd.ht⟩
 ·exact⟨_,h.sd.hk⟩
 ·exact⟨_,h.sd.hf⟩
 ·exact⟨_,h.sd.ha⟩
 ·exact⟨_,h.he⟩
theorem cS.fresh (h:cS CH CT CS CW CM tb H x A z) (e:H b=none):b ∉ foot x A:=fun m=>by
 obtain⟨u,q⟩:=h.live m;rw[e] at q;cases q
theorem cS.kp (h:cS CH CT CS CW CM tb H x A z) (k:Kp S H H') (d:∀b∈foot x A,b ∉ S) (im:∀b o,H b=some o->Ny o->b ∉ S):cS CH CT CS CW CM tb H' x A z:=by
 obtain⟨C,dd,e,hm⟩:=h.st;simp only[foot,fy,hL,wh] at d;exact⟨k _ _ h.hx (d _ (by simp)),⟨k _ _ h.tk.hx (d _ (by simp)),k _ _ h.tk.hD (d _ (by simp))⟩,h.sd.kp k (fun b i=>d _ (by simp only[fy,hL,wh] at i;rcases i with q|q|q|q|q|q|q<;>subst q<;>simp)) (fun t l q=>im _ _ q (.inl ⟨l,rfl⟩)),
  ⟨C,dd,k _ _ e (im _ _ e (.inr (.inl ⟨C,dd,rfl⟩))),hm⟩,k _ _ h.he (d _ (by simp)),h.nd⟩
theorem cS.same (h:cS CH CT CS CW CM tb H x A z) (s:aA H H'):cS CH CT CS CW CM tb H' x A z:=h.kp (S:=[]) (Kp.of s) (fun _ _=>hL) (fun _ _ _ _=>hL)
theorem cS.sender (h:cS CH CT CS CW CM tb H x A z) (f:Dg A.sd A.S H H') (s:iG CS CW CM H' A.sd A.S y):cS CH CT CS CW CM tb H' x A {z with sd:=y}:=by
 have nd:=h.nd;have k:=f.kp;obtain⟨C,dd,e,hm⟩:=h.st;have im:=h.imm e (.inr (.inl ⟨C,dd,rfl⟩));have sub:∀{b:Addr},b ∉ foot x A->b ∉ [A.sd,A.S.pw,A.S.pm,A.S.pt,A.S.pk,A.S.pf,A.S.pa]:=fun n m=>n (by simp only[foot,fy,hL,wh] at m⊢;rcases m with q|q|q|q|q|q|q<;>subst q<;>simp)
 have out:∀{i:Nat} {b:Addr},(foot x A)[i]?=some b->(i<3\/i=10)->b ∉ [A.sd,A.S.pw,A.S.pm,A.S.pt,A.S.pk,A.S.pf,A.S.pa]:=fun{i b} v hh m=>by
  simp only[fy,hL,wh] at m;rcases m with q|q|q|q|q|q|q
  ·exact tK nd v (j:=3) rfl (by lia) q
  ·exact tK nd v (j:=4) rfl (by lia) q
  ·exact tK nd v (j:=5) rfl (by lia) q
  ·exact tK nd v (j:=6) rfl (by lia) q
  ·exact tK nd v (j:=7) rfl (by lia) q
  ·exact tK nd v (j:=8) rfl (by lia) q
  ·exact tK nd v (j:=9) rfl (by lia) q
 exact⟨k _ _ h.hx (out (i:=0) rfl (by lia)),⟨k _ _ h.tk.hx (out (i:=1) rfl (by lia)),k _ _ h.tk.hD (out (i:=2) rfl (by lia))⟩,s,⟨C,dd,k _ _ e (sub im),hm⟩,k _ _ h.he (out (i:=10) rfl (by lia)),nd⟩
theorem cS.taker (h:cS CH CT CS CW CM tb H x A z) (f:Ly A.tk A.kd H H') (s:Dd CT H' A.tk A.dt A.kd F):cS CH CT CS CW CM tb H' x A {z with tk:=F}:=by
 have nd:=h.nd;have k:=f.kp;obtain⟨C,dd,e,hm⟩:=h.st;have sub:∀{b:Addr},b ∉ foot x A->b ∉ [A.tk,A.kd]:=fun n m=>n (by simp only[foot,fy,hL,wh] at m⊢;rcases m with q|q<;>subst q<;>simp)
 have out:∀{i:Nat} {b:Addr},(foot x A)[i]?=some b->i≠1->i≠2->b ∉ [A.tk,A.kd]:=fun{i b} y G I m=>by
  simp only[fy,hL,wh] at m;rcases m with q|q
  ·exact tK nd y (j:=1) rfl G q
  ·exact tK nd y (j:=2) rfl I q
 refine⟨k _ _ h.hx (out (i:=0) rfl (by lia) (by lia)),s,h.sd.kp k (fun b v=>?_) (fun t l q=>sub (h.imm q (.inl ⟨l,rfl⟩))),⟨C,dd,k _ _ e (sub (h.imm e (.inr (.inl ⟨C,dd,rfl⟩)))),hm⟩,k _ _ h.he (out (i:=10) rfl (by lia) (by lia)),nd⟩;simp only[fy,hL,wh] at v;rcases v with q|q|q|q|q|q|q<;>subst q
 ·exact out (i:=3) rfl (by lia) (by lia)
 ·exact out (i:=4) rfl (by lia) (by lia)
 ·exact out (i:=5) rfl (by lia) (by lia)
 ·exact out (i:=6) rfl (by lia) (by lia)
 ·exact out (i:=7) rfl (by lia) (by lia)
 ·exact out (i:=8) rfl (by lia) (by lia)
 ·exact out (i:=9) rfl (by lia) (by lia)
theorem cS.own (h:cS CH CT CS CW CM tb H x A z) (hs:VY tb H s nm) (due:Bool):cS CH CT CS CW CM tb (upd H x (.ins CH A.dx (aX (.int z.side) (.int z.R) (.ref A.tk) (.ref A.sd) (.ref s) (.bl due) (.ref A.pe)))) x {A with st:=s} {z with nm:=nm,due:=due}:=by
 have nd:=h.nd;have out:∀{i:Nat} {b:Addr},(foot x A)[i]?=some b->i≠0->b ∉ [x]:=fun{i b} F y m=>tK nd F (j:=0) rfl y (hQ.mp m);have sub:∀{b:Addr},b ∉ foot x A->b ∉ [x]:=fun n m=>n (by rw[hQ.mp m];simp[foot]);have k:Kp [x] H (upd H x (.ins CH A.dx (aX (.int z.side) (.int z.R) (.ref A.tk) (.ref A.sd) (.ref s) (.bl due) (.ref A.pe)))):=Kp.one;obtain⟨C,dd,e,hm⟩:=hs;refine⟨aa,⟨k _ _ h.tk.hx (out (i:=1) rfl (by lia)),k _ _ h.tk.hD (out (i:=2) rfl (by lia))⟩,h.sd.kp k (fun b v=>?_) (fun t l q=>sub (h.imm q (.inl ⟨l,rfl⟩))),⟨C,dd,k _ _ e (sub (h.imm e (.inr (.inl ⟨C,dd,rfl⟩)))),hm⟩,k _ _ h.he (out (i:=10) rfl (by lia)),nd⟩;simp only[fy,hL,wh] at v;rcases v with q|q|q|q|q|q|q<;>subst q
 ·exact out (i:=3) rfl (by lia)
 ·exact out (i:=4) rfl (by lia)
 ·exact out (i:=5) rfl (by lia)
 ·exact out (i:=6) rfl (by lia)
 ·exact out (i:=7) rfl (by lia)
 ·exact out (i:=8) rfl (by lia)
 ·exact out (i:=9) rfl (by lia)
theorem cS.ends (h:cS CH CT CS CW CM tb H x A z):cS CH CT CS CW CM tb (upd H A.pe (.lst (l.map V.int))) x A {z with ends:=l}:=by
 have nd:=h.nd;have out:∀{i:Nat} {b:Addr},(foot x A)[i]?=some b->i≠10->b ∉ [A.pe]:=fun{i b} F y m=>tK nd F (j:=10) rfl y (hQ.mp m);have sub:∀{b:Addr},b ∉ foot x A->b ∉ [A.pe]:=fun n m=>n (by rw[hQ.mp m];simp[foot]);have k:Kp [A.pe] H (upd H A.pe (.lst (l.map V.int))):=Kp.one;obtain⟨C,dd,e,hm⟩:=h.st;refine⟨k _ _ h.hx (out (i:=0) rfl (by lia)),⟨k _ _ h.tk.hx (out (i:=1) rfl (by lia)),k _ _ h.tk.hD (out (i:=2) rfl (by lia))⟩,h.sd.kp k (fun b v=>?_) (fun t l q=>sub (h.imm q (.inl ⟨l,rfl⟩))),⟨C,dd,k _ _ e (sub (h.imm e (.inr (.inl ⟨C,dd,rfl⟩)))),hm⟩,aa,nd⟩;simp only[fy,hL,wh] at v;rcases v with q|q|q|q|q|q|q<;>subst q
 ·exact out (i:=3) rfl (by lia)
 ·exact out (i:=4) rfl (by lia)
 ·exact out (i:=5) rfl (by lia)
 ·exact out (i:=6) rfl (by lia)
 ·exact out (i:=7) rfl (by lia)
 ·exact out (i:=8) rfl (by lia)
 ·exact out (i:=9) rfl (by lia)
end
end
mutual
theorem cb:∀{xs:List α} {ys:List β},Paired R xs ys->xs.length=ys.length
 |_,_,.nil=>rfl
 |_,_,.cons _ t=>by simp[cb t]
theorem bu:∀{xs:List α} {ys:List β},Paired R xs ys->(∀x y,R x y->R' x y)->Paired R' xs ys
 |_,_,.nil,_=> .nil
 |_,_,.cons r t,h=> .cons (h _ _ r) (bu t h)
theorem qZ:∀{xs:List α} {ys:List β} {i:List α} {v:List β},Paired R xs ys->Paired R i v->Paired R (xs++i) (ys++v)
 |_,_,_,_,.nil,q=>q
 |_,_,_,_,.cons r t,q=> .cons r (qZ t q)
theorem uJ {f:β->γ}:∀{xs:List α} {ys:List β},Paired (fun x y=>R x (f y)) xs ys->Paired R xs (ys.map f)
 |_,_,.nil=> .nil
 |_,_,.cons r t=> .cons r (uJ t)
theorem jd:∀{xs:List α} {ys:List β} {i:Nat} {x:α},Paired R xs ys->xs[i]?=some x->∃y,ys[i]?=some y/\R x y
 |_,_,_,_,.nil,e=>by simp at e
 |_,_,0,_,.cons r _,e=>by simp at e;subst e;exact⟨_,rfl,r⟩
 |_,_,i+1,_,.cons _ t,e=>by simpa using jd (i:=i) t (by simpa using e)
noncomputable def iI (z:Str):Bool:=decide (1<=z.length)&&decide (z.length<=60)&&(fA z).all Ph
noncomputable def chunk (t:Str) (i:Nat):Str:=Txt.slice t (some ((4*i:Nat):Int)) (some ((4*i+4:Nat):Int))
noncomputable def chunks (t:Str):List Str:=(List.range ((t.length+3) / 4)).map (chunk t)
def Zi (H:Hp) (v:V) (k s:Str):Prop:= ∃p,v = .ref p/\H p=some (.tup [.str k,.str s])
noncomputable def Pn (side R own other f l:Int):Hn:=⟨side,R,⟨R,own,0,0,[]⟩,⟨R,0,0,1,.non,false,[],[],[],[],l,f,0,MeterM.mn 2 other,none,other,other,0⟩,"shut",false,[]⟩
def Dc (i:Addr) (H:Hp) (x:Addr) (r o t g f l:Int):Prop:= ∃dx p,H x=some (.ins i dx (m9 (.int r) (.ref p) (.int g) (.int f) (.int l)))/\H p=some (.tup [.int o,.int t])
theorem Dc.same (h:Dc CT H x r o t g f l) (s:aA H H'):Dc CT H' x r o t g f l:=by
 obtain⟨dx,p,v,i⟩:=h;exact⟨dx,p,s _ _ v,s _ _ i⟩
def vO:Sp|vs,H,Q,E=>zqs vs fun z vs=>zqn vs (z.length<=1000/\∀H',aA H H'->Q (.bl (iI z)) H')
noncomputable abbrev Ke:=cS aI cV aC bI aY tbl
def jQ:Sp|vs,H,Q,E=>zqr vs fun x vs=>zqi vs fun side vs=>zqr vs fun tm vs=>zqn vs ( ∃dx r o t g f l,H x=some (.ins aI dx [])/\Dc d7 H tm r o t g f l/\good r o t g f l/\(side=0\/side=1)/\∀A H',cI x H H'->(∀b,b∈(foot x A).tail->H b=none)->Ke H' x A (Pn side r (if side=0 then o else t) (if side=0 then t else o) f l)->Q .non H')
def qK:Sp|vs,H,Q,E=>zqr vs fun x vs=>zqn vs ( ∃A z,Ke H x A z/\Q (.str z.nm) H)
def Dh:Sp:=fun vs H Q E=>match vs with
 | [.ref x]=> ∃A z,Ke H x A z/\Q (.bl (decide (z.sd.b=z.sd.t)&&decide (z.sd.t=z.sd.T.length) && !z.due)) H
 |_=>False
def oV (K:W.Frag):Sp|vs,H,Q,E=>zqr vs fun x vs=>zqn vs ( ∃A z,Ke H x A z/\z.sd.T.length<1000/\(∀nx,c7 z.nm "begin" = some nx->∀a i H',(∀H,c6 K H a [.str "begin",.str ""])->Kp (foot x A) H H'->Ke H' x {A with st:=i} {z with nm:=nx,sd:={z.sd with T:=z.sd.T++ [.ref a]}}->Q .non H')/\(c7 z.nm "begin" = none->∀H' d,aA H H'->H' d=some (.xd [("state",.str z.nm),("wish",.str "begin")])->E (.ref aL) (some d) H'))
def s_ (K:W.Frag):Sp|vs,H,Q,E=>zqr vs fun x vs=>zqn vs ( ∃A z,Ke H x A z/\z.sd.T.length<1000/\z.ends.length<1000/\(∀nx,c7 z.nm "end" = some nx->∀a i H',(∀H,c6 K H a [.str "end",.str ""])->Kp (foot x A) H H'->Ke H' x {A with st:=i} {z with nm:=nx,ends:=z.ends++ [(z.sd.T.length:Int)],sd:={z.sd with T:=z.sd.T++ [.ref a]}}->Q .non H')/\(c7 z.nm "end" = none->∀H' d,aA H H'->H' d=some (.xd [("state",.str z.nm),("wish",.str "end")])->E (.ref aL) (some d) H'))
def s9:Sp|vs,H,Q,E=>zqr vs fun x vs=>zqs vs fun t vs=>zqn vs ( ∃A z,Ke H x A z/\z.sd.T.length<=980/\t.length<=1000/\iI t=true/\(R3 z.nm=false->∀H' d,aA H H'->H' d=some (.xd [("state",.str z.nm),("wish",.str "put")])->E (.ref aL) (some d) H')/\(R3 z.nm=true->∀vs H',Kp (foot x A) H H'->Ke H' x A {z with sd:={z.sd with T:=z.sd.T++vs}}->Paired (fun v s=>Zi H' v "signs" s) vs (chunks t)->Q .non H'))
noncomputable abbrev Th:=Str×Str
def ET (K:W.Frag) (H:Hp) (v:V) (t:Th):Prop:= ∃p,v = .ref p/\c6 K H p [.str t.1,.str t.2]
theorem ET.keep (h:ET K H v t) (k:∀p o,H p=some o->Ny o->H' p=some o):ET K H' v t:=by
 obtain⟨p,rfl,h⟩:=h;refine⟨p,rfl,?_⟩;rcases h with(h|⟨o,h⟩)|h
 ·exact .inl (.inl (k _ _ h (.inl ⟨_,rfl⟩)))
 ·exact .inl (.inr ⟨o,k _ _ h (.inr (.inr ⟨_,_,rfl⟩))⟩)
 ·exact .inr h
def vJ (H H':Hp):Prop:= ∀p o,H p=some o->Ny o->H' p=some o
theorem vJ.of (s:aA H H'):vJ H H':=fun p o e _=>s p o e
theorem vJ.trans (a:vJ H H1) (b:vJ H1 H2):vJ H H2:=fun p o e i=>b p o (a p o e i) i
structure nP where
 side:Int
 R:Int
 M:Int
 g:Int
 o:Int
 D:Int->Option Th
 s:Sd
 T:List Th
 nm:Str
 due:Bool
 ends : List Int
structure dE (K:W.Frag) (H:Hp) (z:Hn) (a:nP):Prop where
 side:z.side=a.side
 R:z.R=a.R
 tR:z.tk.R=a.R
 tM:z.tk.M=a.M
 g:z.tk.g=a.g
 o:z.tk.o=a.o
 dn:∀i:Int,bh z.tk.D (ik i)=none->a.D i=none
 ds:∀(i:Int) v,bh z.tk.D (ik i)=some v->∃t,a.D i=some t/\ET K H v t
 dk:(z.tk.D.map Prod.fst).Nodup
 db:∀k∈z.tk.D.map Prod.fst,∃i:Int,k=ik i/\a.o<=i/\i<a.o+a.M
 s:∃vs,z.sd={a.s with T:=vs}/\Paired (ET K H) vs a.T/\a.s.T.length=vs.length
 nm:z.nm=a.nm
 due:z.due=a.due
 ends : z.ends = a.ends
theorem dE.keep (h:dE K H z a) (k:vJ H H'):dE K H' z a:=by
 obtain⟨vs,e1,e2,e3⟩:=h.s;exact{h with ds:=fun i v e=>by {obtain⟨t,t1,t2⟩:=h.ds i v e;exact⟨t,t1,t2.keep k⟩},s:=⟨vs,e1,bu e2 fun _ _ q=>q.keep k,e3⟩}
theorem JN (h:ik i=ik j):i=j:=by injection h
theorem dE.len (h:dE K H z a) (hm:0<=a.M):(z.tk.D.length:Int)<=a.M:=by
 have hn:=h.dk;have x:=h.db;have key:∀(n:Nat) (l:List Key),l.Nodup->(∀k∈l,∃i:Int,k=ik i/\a.o<=i/\i<a.o+n)->l.length<=n:=by
  intro n
  induction n with
  |zero=>
   intro l _ h;cases l with
   |nil=>exact cv _
   |cons k l=>obtain⟨i,_,G,C⟩:=h k (ZG ..);lia
  |succ n v=>
   intro l hl h;have C:=v (l.filter fun k=>!decide (k=ik (a.o+n))) (List.Nodup.sublist List.filter_sublist hl) (fun k hk=>by
    obtain⟨F,y⟩:=ZF.mp hk;obtain⟨i,rfl,I,i2⟩:=h k F;refine⟨i,rfl,I,?_⟩;have:i≠a.o+n:=fun e=>by simp[e] at y
    lia)
   have O:l.length<=(l.filter fun k=>!decide (k=ik (a.o+n))).length+1:=by
    clear h C v
    induction l with
    |nil=>exact lp _
    |cons k l v=>
     obtain⟨n1,J⟩:=Z6.mp hl;by_cases e:k=ik (a.o+n)
     ·have:(l.filter fun k=>!decide (k=ik (a.o+n)))=l:=Z2.mpr fun b x=>by
       have:b≠k:=fun z=>n1 (by rw[<-z];exact x);rw[<-e];simp[this]
      rw[ZI,de (by simp[e]),this];simp
     ·rw[ZI,dy (by simp[e])];have:=v J;simp only[nS];lia
   lia
 have:=key a.M.toNat _ hn (fun k hk=>by
  obtain⟨i,e,G,C⟩:=x k hk;exact⟨i,e,G,by lia⟩)
 rw[cz] at this;lia
def HM (C i v F y:Addr) (tb:List (Addr×Str)) (K:W.Frag) (H:Hp) (x:Addr) (A:Y9) (a:nP):Prop:= ∃z,cS C i v F y tb H x A z/\dE K H z a
theorem HM.same (h:HM CH CT CS CW CM tb K H x A a) (s:aA H H'):HM CH CT CS CW CM tb K H' x A a:=by
 obtain⟨z,v,i⟩:=h;exact⟨z,v.same s,i.keep (vJ.of s)⟩
noncomputable def aV (a:nP) (ts:List Th):nP:={a with T:=a.T++ts,s:={a.s with T:=a.s.T++ts.map fun _=>V.non}}
noncomputable def i7 (a:nP) (m:Int):Nat:=((if a.g<a.o+m then a.g else a.o+m)-a.o).toNat
noncomputable def G9 (a:nP) (m:Int):List Th:=(List.range (i7 a m)).map fun j:Nat=>(a.D (a.o+(j:Int))).getD (Str.ofString "",Str.ofString "")
noncomputable def vt (a:nP) (m:Int):nP:={a with o:=a.o+(i7 a m:Int),D:=fun i=>if a.o<=i/\i<a.o+(i7 a m:Int) then none else a.D i,due:=a.due||(decide (a.o+a.M-a.g<=0)&&decide (0<a.o+(i7 a m:Int)+a.M-a.g))}
noncomputable def sT (a:nP) (k:Str):nP:=
 if k="begin" then{(if a.nm="shut" then aV a [(Str.ofString "begin",Str.ofString "")] else a) with nm:=(c7 a.nm "begun").getD a.nm}
 else if k="end" then{a with nm:=(c7 a.nm "ended").getD a.nm} else a
theorem ND {k:Key} (h:k∈D.map Prod.fst):(bh D k).isSome=true:=by
 obtain⟨e,he,rfl⟩:=h8.mp h;unfold bh;rw[aai,List.find?_isSome];exact⟨e,he,by simp⟩
theorem dE.read {due:Bool} (h:dE K H z a) (G:n=i7 a m) (hD:∀i:Int,bh y (ik i)=if a.o<=i/\i<a.o+n then none else bh z.tk.D (ik i)) (J:y.Sublist z.tk.D) (I:due=(vt a m).due):dE K H {z with tk:=⟨z.tk.R,z.tk.M,z.tk.g,z.tk.o+n,y⟩,due:=due} (vt a m):=by
 subst G;have F:(y.map Prod.fst).Sublist (z.tk.D.map Prod.fst):=J.map _;refine⟨h.side,h.R,h.tR,h.tM,h.g,by show z.tk.o+_=a.o+_;rw[h.o],fun i e=>?_,fun i v e=>?_,List.Nodup.sublist F h.dk,fun k hk=>?_,h.s,h.nm,I,h.ends⟩
 ·have x:bh y (ik i)=none:=e;rw[hD] at x;show(if a.o<=i/\i<a.o+(i7 a m:Int) then none else a.D i)=none;split
  ·rfl
  ·rename_i c;rw[de c] at x;exact h.dn i x
 ·have x:bh y (ik i)=some v:=e;rw[hD] at x;show∃t,(if a.o<=i/\i<a.o+(i7 a m:Int) then none else a.D i)=some t/\_;split at x
  ·cases x
  ·rename_i c;rw[de c];exact h.ds i v x
 ·have C:k∈y.map Prod.fst:=hk;obtain⟨i,rfl,O,i2⟩:=h.db k (F.subset C);have:=ND C;rw[hD] at this;refine⟨i,rfl,?_,?_⟩
  ·show a.o+_<=i;split at this
   ·cases this
   ·lia
  ·show i<a.o+_+a.M;lia
theorem dE.vals {K:W.Frag} {H:Hp} {z:Hn} {a:nP} (h:dE K H z a):∀(n:Nat) (o:Int),(∀i,o<=i->i<o+n->(a.D i).isSome=true)->Paired (ET K H) (vals z.tk.D o n) ((List.range n).map fun j:Nat=>(a.D (o+(j:Int))).getD (Str.ofString "",Str.ofString ""))
 |0,_,_=> .nil
 |n+1,o,hs=>by
  have k:=h.vals n o (fun i x y=>hs i x (by lia));have x:=hs (o+n) (by lia) (by lia);cases e:bh z.tk.D (ik (o+n)) with
  |none=>rw[h.dn _ e] at x;cases x
  |some v=>
   obtain⟨t,t1,t2⟩:=h.ds _ v e;rw[yK e,List.range_succ,n7];refine qZ k (.cons ?_ .nil);show ET K H v ((a.D (o+n)).getD _);rw[t1];exact t2
theorem wI {w:Str} (h:w≠ "begin") (i:w≠ "end"):c7 nm w=some ((c7 nm w).getD nm):=by
 unfold c7;split
 ·rfl
 ·rw[de (by intro c;rcases c with c|c;exact h c;exact i c)];rfl
theorem dE.name {nm:Str} (h:dE K H z a):dE K H {z with nm:=nm} {a with nm:=nm}:={h with nm:=rfl}
theorem dE.YG (h:dE K H z a) (i:ET K H v t):dE K H {z with sd:={z.sd with T:=z.sd.T++ [v]}} (aV a [t]):=by
 obtain⟨vs,e1,e2,e3⟩:=h.s;refine{h with s:=⟨vs++ [v],?_,qZ e2 (.cons i .nil),?_⟩}
 ·show{z.sd with T:=z.sd.T++ [v]}=_;rw[e1];rfl
 ·show(a.s.T++ [V.non]).length=_;rw[ib,ib,e3];rfl
noncomputable abbrev BK:=HM aI cV aC bI aY tbl
def qJ (K:W.Frag):Sp|vs,H,Q,E=>zqr vs fun x vs=>zqi vs fun m vs=>zqn vs ( ∃A a,BK K H x A a/\(0<=m/\m<=1000/\0<=a.o/\a.o<=a.g/\a.g<=10000)/\(∀i,a.o<=i->i<a.g->(a.D i).isSome=true)/\∀p vs H',H p=none->Kp (foot x A) H H'->BK K H' x A (vt a m)->H' p=some (.lst vs)->Paired (ET K H') vs (G9 a m)->Q (.ref p) H')
def jO (K:W.Frag):Sp|vs,H,Q,E=>zqr vs fun x vs=>zqs vs fun k vs=>zqn vs ( ∃A a,BK K H x A a/\a.T.length<990/\∀i H',Kp (foot x A) H H'->BK K H' x {A with st:=i} (sT a k)->Q .non H')
theorem G5 (h:H p=none):aA H (upd H p o):=fun b u e=>by rw[ag (fun z=>by rw[z,h] at e;cases e)];exact e
noncomputable def runN (D:Int->Option Th):Nat->Int->Nat
 |0,_=>0
 |k+1,g=>if(D g).isSome then runN D k (g+1)+1 else 0
theorem Kr:∀(k n:Nat) (g:Int),(∀j:Nat,j<n->(D (g+j)).isSome=true)->D (g+n)=none->n<=k->runN D k g=n
 |0,n,g,_,_,h=>by unfold runN;lia
 |k+1,0,g,_,h2,_=>by
  unfold runN;rw[de (by rw[show g=g+((0:Nat):Int) by lia,h2];decide)]
 |k+1,n+1,g,h1,h2,h=>by
  unfold runN;rw[dy (by have:=h1 0 (by lia);rwa [show g+((0:Nat):Int)=g by lia] at this)];rw[Kr k n (g+1) (fun j i=>by have:=h1 (j+1) (by lia);rwa [show g+((j+1:Nat):Int)=g+1+j by lia] at this) (by rwa [show g+((n+1:Nat):Int)=g+1+n by lia] at h2) (by lia)]
theorem Fc:∀(k:Nat) (g:Int),runN D k g<=k
 |0,_=>by unfold runN;lia
 |k+1,g=>by
  unfold runN;have:=Fc (D:=D) k (g+1);split<;>lia
noncomputable def uX (a:nP) (m:Int):Int:=a.g+(m-a.g) % a.R
noncomputable def sL (a:nP) (m:Int) (t:Th):Int->Option Th:=fun j=>if j=uX a m then(if(a.D j).isSome then a.D j else some t) else a.D j
noncomputable def qm (a:nP) (m:Int) (t:Th):Nat:=runN (sL a m t) a.M.toNat a.g
noncomputable def GZ (a:nP) (m:Int) (t:Th):List Th:=(List.range (qm a m t)).map fun j:Nat=>(sL a m t (a.g+(j:Int))).getD (Str.ofString "",Str.ofString "")
noncomputable def BQ (a:nP):List Th->nP:=List.foldl (fun a u=>sT a u.1) a
noncomputable def LH (a:nP) (m:Int) (t:Th):nP:=if a.o+a.M-a.g<=(m-a.g) % a.R then a else BQ {a with g:=a.g+(qm a m t:Int),D:=sL a m t} (GZ a m t)
noncomputable def NI (a:nP) (m:Int):List V:=if a.o+a.M-a.g<=(m-a.g) % a.R then[.str "old",.non] else[.str "filed",.int (uX a m)]
theorem GR {k:Key} (h:(bh D k).isSome=true):k∈D.map Prod.fst:=by
 unfold bh at h;rw[aai,List.find?_isSome] at h;obtain⟨e,he,hk⟩:=h;exact h8.mpr ⟨e,he,by simpa using hk⟩
theorem M8 (h:dE K H z a) (P:ET K H v t) (m0:0<=a.M) (og:a.o<=a.g) (hr:0<a.R) (lt:(m-a.g) % a.R<a.o+a.M-a.g) (I:y=if(bh z.tk.D (ik (uX a m))).isSome then z.tk.D else putK z.tk.D (ik (uX a m)) v) (F:Run y a.g n):dE K H {z with tk:=⟨z.tk.R,z.tk.M,z.tk.g+n,z.tk.o,y⟩} {a with g:=a.g+(qm a m t:Int),D:=sL a m t}/\n=qm a m t/\Paired (ET K H) (vals y a.g n) (GZ a m t):=by
 have Z:0<=(m-a.g) % a.R:=C2 _ (by lia);have O:a.o<=uX a m/\uX a m<a.o+a.M:=by unfold uX;lia
 have i:∀j:Int,(bh y (ik j)=none->sL a m t j=none)/\(∀u,bh y (ik j)=some u->∃t',sL a m t j=some t'/\ET K H u t'):=fun j=>by
  unfold sL;rw[I];cases e:bh z.tk.D (ik (uX a m)) with
  |some C=>
   rw[dy (show(some C).isSome=true from rfl)];by_cases c:j=uX a m
   ·subst c;obtain⟨t0,t1,t2⟩:=h.ds _ _ e;rw[dy rfl,dy (by rw[t1];rfl)];exact⟨(fun z=>by rw[e] at z;cases z),fun u x=>h.ds _ _ x⟩
   ·rw[de c];exact⟨h.dn j,h.ds j⟩
  |none=>
   rw[de (by decide),xo];by_cases c:j=uX a m
   ·rw[dy (by rw[c]),dy c,de (by rw[c,h.dn _ e];decide)];exact⟨(fun z=>by cases z),fun u x=>by injection x with x;subst x;exact⟨t,rfl,P⟩⟩
   ·rw[de (fun z=>c (JN z)),de c];exact⟨h.dn j,h.ds j⟩
 have J:∀k∈y.map Prod.fst,∃j:Int,k=ik j/\a.o<=j/\j<a.o+a.M:=fun k hk=>by
  rw[I] at hk;cases e:bh z.tk.D (ik (uX a m)) with
  |some C=>rw[e,dy (show(some C).isSome=true from rfl)] at hk;exact h.db k hk
  |none=>
   rw[e,de (by decide),Hi v e,n7,Zy] at hk;rcases hk with hk|hk
   ·exact h.db k hk
   ·exact⟨_,hQ.mp hk,O⟩
 have kn:(y.map Prod.fst).Nodup:=by
  rw[I];cases e:bh z.tk.D (ik (uX a m)) with
  |some C=>rw[dy (show(some C).isSome=true from rfl)];exact h.dk
  |none=>rw[de (by decide)];exact RY v h.dk e
 have G:n=qm a m t:=by
  unfold qm;refine(Kr _ _ _ (fun j Q=>?_) ((i _).1 F.2) ?_).symm
  ·obtain⟨u,x⟩:=ZY.mp (F.1 j Q);obtain⟨t',e1,_⟩:=(i _).2 u x;rw[e1];rfl
  ·cases n with
   |zero=>exact lp _
   |succ k=>
    obtain⟨j,e1,_,e2⟩:=J _ (GR (F.1 k (by lia)));have:=JN e1;lia
 have R:dE K H {z with tk:=⟨z.tk.R,z.tk.M,z.tk.g+n,z.tk.o,y⟩} {a with g:=a.g+(qm a m t:Int),D:=sL a m t}:=⟨h.side,h.R,h.tR,h.tM,by show z.tk.g+_=a.g+_;rw[h.g,G],h.o,fun j=>(i j).1,fun j=>(i j).2,kn,J,h.s,h.nm,h.due,h.ends⟩;refine⟨R,G,?_⟩;have:=dE.vals R n a.g (fun j U X=>by
  obtain⟨k,rfl⟩:∃k:Nat,j=a.g+k:=⟨(j-a.g).toNat,by lia⟩;obtain⟨u,x⟩:=ZY.mp (F.1 k (by lia));obtain⟨t',e1,_⟩:=(i _).2 u x;show(sL a m t _).isSome=true;rw[e1];rfl)
 unfold GZ;rw[<-G];exact this
theorem NS (a:nP) (k:Str):(sT a k).T.length<=a.T.length+1:=by
 unfold sT;split
 ·show(if a.nm="shut" then aV a [(Str.ofString "begin",Str.ofString "")] else a).T.length<=_;split
  ·show(a.T++ [_]).length<=_;rw[ib];exact cv _
  ·lia
 ·split
  ·exact vr _
  ·lia
theorem G3:∀(ts:List Th) (a:nP),(BQ a ts).T.length<=a.T.length+ts.length
 | [],a=>cv _
 |t::ts,a=>by
  have i:=G3 ts (sT a t.1);have v:=NS a t.1;show(BQ (sT a t.1) ts).T.length<=_;rw[nS];lia
theorem LP {ts:List Th} (h:ts[i]?=some t):BQ a (ts.take (i+1))=sT (BQ a (ts.take i)) t.1:=by
 unfold BQ;rw[ra,h,aak];rfl
def lj (K:W.Frag):Sp|vs,H,Q,E=>zqr vs fun x vs=>zqi vs fun m vs=>zqr vs fun th vs=>zqn vs ( ∃A a t,BK K H x A a/\ET K H (.ref th) t/\(0<a.R/\0<=a.M/\a.M<=16/\a.o<=a.g/\a.T.length<960)/\∀i r H',Kp (foot x A) H H'->BK K H' x {A with st:=i} (LH a m t)->c6 K H' r (NI a m)->Q (.ref r) H')
noncomputable def kH (s:Sd) (nu rm:Int) (hs:List Int) (tn:Int):Sd:=if s.t-s.b<far' s nu then s else hrd s nu rm hs tn
noncomputable def Bp (lo v:Int) (i:List Int) (nm:Str):Str:=i.foldl (fun nm p=>if lo<=p/\p<v then(c7 nm "answered").getD nm else nm) nm
noncomputable def K8 (a:nP) (nu rm:Int) (hs:List Int) (tn:Int):nP:={a with s:=kH a.s nu rm hs tn,nm:=Bp a.s.b (kH a.s nu rm hs tn).b a.ends a.nm}
structure Kd (s:Sd) (hs:List Int) (tn:Int):Prop where
 bz:Bz s
 r0:0<s.R
 hl:hs.length<=100
 hn:hs.Nodup
 hp:∀k∈hs,0<=k
 tq:Tq s tn
 kl:s.Kn.length<900000
 tm:s.t<=430
 kc:s.k<=cnt s.Kn s.t.toNat
theorem Sf:kH {s with T:=vs} nu rm hs tn={kH s nu rm hs tn with T:=vs}:=by
 unfold kH;show(if s.t-s.b<far' s nu then _ else _)=_;split
 ·rfl
 ·rfl
theorem HP:(kH s nu rm hs tn).T=s.T:=by
 unfold kH;split<;>rfl
theorem dE.snd {nm:Str} (h:dE K H z a) (e2:Paired (ET K H) vs a.T) (e3:s2.T.length=vs.length):dE K H {z with sd:={s2 with T:=vs},nm:=nm} {a with s:=s2,nm:=nm}:=
 {h with s:=⟨vs,rfl,e2,e3⟩,nm:=rfl}
theorem qj {v:List Int} (h:v[i]?=some p):Bp lo hi (v.take (i+1)) nm=if lo<=p/\p<hi then(c7 (Bp lo hi (v.take i) nm) "answered").getD (Bp lo hi (v.take i) nm) else Bp lo hi (v.take i) nm:=by
 unfold Bp;rw[ra,h,aak];rfl
def qL (K:W.Frag):Sp|vs,H,Q,E=>zqr vs fun x vs=>zqr vs fun pc vs=>zqi vs fun tn vs=>zqn vs ( ∃A a kd n nu rm hd v hs,BK K H x A a/\H pc=some (.tup [kd,n,.int nu,.int rm,.ref hd,v])/\H hd=some (.tup (hs.map V.int))/\Kd a.s hs tn/\∀i H',Kp (foot x A) H H'->BK K H' x {A with st:=i} (K8 a nu rm hs tn)->Q .non H')
theorem dE.dued (h:dE K H z a):dE K H {z with due:=d} {a with due:=d}:={h with due:=rfl}
def kS:Sp|vs,H,Q,E=>zqi vs fun f vs=>zqn vs ((∀H',aA H H'->Q .non H')/\∀t H',aA H H'->Qg H' t (f.toNat / 256)->Q (.ref t) H')
noncomputable def z8 (f:Int):Nat:=f.toNat / 256
noncomputable def Gw (a:nP) (f:Int) (ok:Bool):Bool:=ok&&(decide (V5 (z8 f)<a.R)&&decide (V6 (z8 f)<a.R))
noncomputable def EI (a:nP) (f tn:Int):nP:=K8 a (V6 (z8 f)) (Yl (z8 f)) (MO (z8 f)) tn
noncomputable def Li (a:nP) (f tn:Int) (ok:Bool):nP:=if Gw a f ok then(if FY (z8 f)="bare" then EI a f tn else if FY (z8 f)="ask" then{EI a f tn with due:=true} else LH {EI a f tn with due:=true} (V5 (z8 f)) (FY (z8 f),V4 (z8 f))) else a
noncomputable def Lh (a:nP) (f tn:Int) (ok:Bool):List V:=if Gw a f ok then(if FY (z8 f)="bare" then[.str "bare",.non] else if FY (z8 f)="ask" then[.str "ask",.non] else NI {EI a f tn with due:=true} (V5 (z8 f))) else[.str "spoilt",.non]
def qM (K:W.Frag):Sp|vs,H,Q,E=>zqr vs fun x vs=>zqi vs fun f vs=>zqi vs fun tn vs=>zqn vs ( ∃A a,BK K H x A a/\Kd a.s (MO (z8 f)) tn/\(0<a.R/\0<=a.M/\a.M<=16/\a.o<=a.g/\a.T.length<960)/\∀ok i r H',Kp (foot x A) H H'->BK K H' x {A with st:=i} (Li a f tn ok)->c6 K H' r (Lh a f tn ok)->Q (.ref r) H')
theorem KH:∀{xs:List α} {ys:List β} {i:Nat} {y:β},Paired R xs ys->ys[i]?=some y->∃x,xs[i]?=some x/\R x y
 |_,_,_,_,.nil,e=>by simp at e
 |_,_,0,_,.cons r _,e=>by simp at e;subst e;exact⟨_,rfl,r⟩
 |_,_,i+1,_,.cons _ t,e=>by simpa using KH (i:=i) t (by simpa using e)
theorem Uy {xs:List α} {y:β} (h:Paired R xs ys) (e:kB ys i=some y):∃x,kB xs i=some x/\R x y:=by
 have hl:=cb h;unfold kB at e⊢;rw[hl];cases q:Qo ys.length i with
 |none=>rw[q] at e;cases e
 |some j=>rw[q] at e;exact KH h e
noncomputable def C8 (a:nP):List Int:=((List.range (a.o+a.M-a.g-1).toNat).filter fun j:Nat=>(a.D (a.g+(1+(j:Int)))).isSome).map (fun j:Nat=>1+(j:Int))
theorem dE.held (h:dE K H z a):Ah z.tk.D z.tk.g (z.tk.o+z.tk.M-z.tk.g-1).toNat=C8 a:=by
 unfold Ah C8;rw[h.g,h.o,h.tM];congr 1;congr 1;funext j;cases e:bh z.tk.D (ik (a.g+(1+(j:Int)))) with
 |none=>rw[h.dn _ e];rfl
 |some v=>obtain⟨t,t1,_⟩:=h.ds _ v e;rw[t1];rfl
def jP (K:W.Frag):Sp|vs,H,Q,E=>zqr vs fun x vs=>zqs vs fun w vs=>zqv vs fun pl vs=>zqn vs ( ∃A a,BK K H x A a/\(0<a.R/\0<=a.o+a.M-a.g/\a.o+a.M-a.g<=1000)/\((pl = .non/\∀t H',aA H H'->rD H' t w 0 (a.g % a.R) (a.o+a.M-a.g) (C8 a) ""->Q (.ref t) H')\/(∃p i,pl = .int p/\kB a.T p=some i/\i.2.length<=1000/\∀t H',aA H H'->rD H' t i.1 (p % a.R) (a.g % a.R) (a.o+a.M-a.g) (C8 a) i.2->Q (.ref t) H')))
noncomputable def zt (s:Sd) (n:Int):Sd×Option (Str×Option Int):=
 if s.b<s.t/\Jo s.clk n=true then(Tx s n,some (Str.ofString "again",some s.b))
 else if JO s=true then(WX s n,some (Str.ofString "again",some s.b))
 else if o_ s=true then(WO s n,some (Str.ofString "new",some s.t))
 else if s.t<s.T.length/\s.b=s.t then(match s.clk with
  | .int i=>if n<i then(s,none) else(X7 s n,some (Str.ofString "ask",none))
  |_=>(Wo s n,none))
 else(s,none)
noncomputable def YH:Option Int->V
 |none=> .non
 |some i=> .int i
theorem XA (h:Zl z z' n v H H'):z'=(zt z n).1/\(((zt z n).2=none/\v = .non)\/∃w pl p,(zt z n).2=some (w,pl)/\v = .ref p/\H p=none/\H' p=some (.tup [.str w,YH pl])):=by
 unfold zt;rcases h with⟨G,C,rfl,p,rfl,y,x⟩|⟨G,h⟩
 ·rw[dy ⟨G,C⟩];exact⟨rfl,.inr ⟨_,_,p,rfl,rfl,y,x⟩⟩
 ·rw[de (fun c=>by rw[G c.1] at c;cases c.2)];rcases h with⟨C,rfl,p,rfl,y,x⟩|⟨C,h⟩
  ·rw[dy C];exact⟨rfl,.inr ⟨_,_,p,rfl,rfl,y,x⟩⟩
  ·rw[de (by rw[C];decide)];rcases h with⟨y,rfl,p,rfl,x,F⟩|⟨y,h⟩
   ·rw[dy y];exact⟨rfl,.inr ⟨_,_,p,rfl,rfl,x,F⟩⟩
   ·rw[de (by rw[y];decide)];rcases h with⟨x,F,h⟩|⟨x,rfl,rfl⟩
    ·rw[dy ⟨x,F⟩];rcases h with⟨c,rfl,rfl⟩|⟨i,c,I,rfl,rfl⟩|⟨i,c,I,rfl,p,rfl,J,O⟩
     ·rw[c];exact⟨rfl,.inl ⟨rfl,rfl⟩⟩
     ·rw[c];show _=(if n<i then _ else _:Sd×Option (Str×Option Int)).1/\((if n<i then _ else _:Sd×Option (Str×Option Int)).2=none/\_\/_);rw[dy I];exact⟨rfl,.inl ⟨rfl,rfl⟩⟩
     ·rw[c];refine⟨?_,.inr ⟨Str.ofString "ask",none,p,?_,rfl,J,O⟩⟩
      ·show _=(if n<i then _ else _:Sd×Option (Str×Option Int)).1;rw[de (by lia)]
      ·show(if n<i then _ else _:Sd×Option (Str×Option Int)).2=_;rw[de (by lia)]
    ·rw[de x];exact⟨rfl,.inl ⟨rfl,rfl⟩⟩
theorem XB (hl:s.T.length=vs.length):zt {s with T:=vs} n=({(zt s n).1 with T:=vs},(zt s n).2):=by
 have e1:o_ {s with T:=vs}=o_ s:=by unfold o_;show(decide (s.t<(vs.length:Int))&&_&&_)=_;rw[<-hl];rfl
 unfold zt;rw[e1];show(if s.b<s.t/\Jo s.clk n=true then _ else if JO s=true then _ else if o_ s=true then _ else if s.t<(vs.length:Int)/\s.b=s.t then _ else _)=_;rw[<-hl];split
 ·rfl
 ·split
  ·rfl
  ·split
   ·rfl
   ·split
    ·cases e:s.clk with
     |int i=>
      by_cases c:n<i
      ·simp only[dy c,e]
      ·simp only[de c];rfl
     |_=>first|rfl|(simp only[e];rfl)
    ·rfl
noncomputable def E6 (a:nP) (n:Int):Option (Str×Option Int):=match (zt a.s n).2 with
 |some q=>some q
 |none=>if a.due then some (Str.ofString "bare",none) else none
noncomputable def xC (a:nP) (n:Int):nP:={a with s:=(zt a.s n).1,due:=false}
noncomputable def Ro (a:nP) (w:Str):Option Int->Str×Str
 |none=>(w,Str.ofString "")
 |some p=>(kB a.T p).getD (Str.ofString "",Str.ofString "")
noncomputable def WD (a:nP):Option Int->Int
 |none=>0
 |some p=>p % a.R
noncomputable def NU (a:nP) (w:Str) (pl:Option Int):Bool:=dX (Ro a w pl).1 (WD a pl) (a.g % a.R) (a.o+a.M-a.g) (C8 a) (Ro a w pl).2
structure Qf (a:nP) (n:Int):Prop where
 bz:Bz a.s
 ck:a.s.clk = .non\/∃i,a.s.clk = .int i
 la:a.s.Ag.length<1000000
 lf:a.s.Fi.length<1000000
 r0:0<a.R
 m0:0<=a.o+a.M-a.g
 m1:a.o+a.M-a.g<=1000
 pb:∀w pl,E6 a n=some (w,pl)->NU a w pl=true/\∀p,pl=some p->∃th,kB a.T p=some th/\th.2.length<=1000
theorem dE.sent (h:dE K H z a) (e2:Paired (ET K H) vs a.T) (e3:s2.T.length=vs.length):dE K H {z with sd:={s2 with T:=vs},due:=d} {a with s:=s2,due:=d}:=
 {h with s:=⟨vs,rfl,e2,e3⟩,due:=rfl}
theorem Po:(zt s n).1.T=s.T:=by
 unfold zt;split
 ·rfl
 ·split
  ·rfl
  ·split
   ·rfl
   ·split
    ·cases e:s.clk with
     |int i=>
      by_cases c:n<i
      ·simp only[dy c]
      ·simp only[de c];rfl
     |_=>first|rfl|(simp only[e];rfl)
    ·rfl
def qI (K:W.Frag):Sp|vs,H,Q,E=>zqr vs fun x vs=>zqi vs fun n vs=>zqn vs ( ∃A a,BK K H x A a/\Qf a n/\(E6 a n=none->∀H',Kp (foot x A) H H'->BK K H' x A (xC a n)->Q .non H')/\(∀w pl,E6 a n=some (w,pl)->∀(m:Nat) r H',Kp (foot x A) H H'->BK K H' x A (xC a n)->H' r=some (.tup [.int (m:Int),.str w,YH pl])->Q (.ref r) H'))
structure Gk (z z':Sd):Prop where
 R:z'.R=z.R
 L:z'.L=z.L
 b:z'.b=z.b
 e:z'.e=z.e
 T:z'.T=z.T
 Kn:z'.Kn=z.Kn
 k:z'.k=z.k
 g:z'.g=z.g
 ck:z'.clk = .non\/∃i,z'.clk = .int i
structure Hk (z z':Sd) (nu rm:Int) (hs:List Int):Prop where
 R:z'.R=z.R
 L:z'.L=z.L
 t:z'.t=z.t
 T:z'.T=z.T
 Fi:z'.Fi=z.Fi
 Ag:z'.Ag=z.Ag
 b:z'.b=z.b+far' z nu
 e:z'.e=if z.e<z.b+far' z nu+rm then z.b+far' z nu+rm else z.e
 Kn:z'.Kn=putAll (mj z nu).Kn (xj z nu hs)
 k:z'.k<=z.k+(yJ z nu).length+(xj z nu hs).length
 ck:(z'.clk = .non\/∃i,z'.clk = .int i)
theorem O1:∀{fs:List Int} {s:Ws},(fs.foldl (MJ z tn) s).2.2<=s.2.2+fs.length
 | [],_=>cv _
 |a::l,s=>by
  have i:=O1 (z:=z) (tn:=tn) (fs:=l) (s:=MJ z tn s a);have v:(MJ z tn s a).2.2<=s.2.2+1:=by
   unfold MJ;split
   ·lia
   ·exact cv _
  show((l.foldl (MJ z tn) (MJ z tn s a)).2.2)<=_;rw[nS];lia
theorem WY (hc:z.clk = .non\/∃i,z.clk = .int i):Hk z (hrd z nu rm hs tn) nu rm hs:=by
 refine⟨rfl,rfl,rfl,rfl,rfl,rfl,rfl,rfl,rfl,?_,?_⟩
 ·have x:(hrd z nu rm hs tn).k<=z.k+(fsh z nu hs).length:=O1 (z:=z) (tn:=tn) (fs:=fsh z nu hs) (s:=(z.w,z.g,z.k));have v:(fsh z nu hs).length=(yJ z nu).length+(xj z nu hs).length:=ib;lia
 ·show(if 0<far' z nu then(if z.b+far' z nu<z.t then V.int (tn+(mall z tn (fsh z nu hs)).1) else .non) else z.clk) = .non\/∃i,(if 0<far' z nu then(if z.b+far' z nu<z.t then V.int (tn+(mall z tn (fsh z nu hs)).1) else .non) else z.clk) = .int i;split
  ·split
   ·exact .inr ⟨_,rfl⟩
   ·exact .inl rfl
  ·exact hc
structure Jx (z:Sd) (r tn:Int) (s m:Nat):Prop where
 R:z.R=r
 r0:0<r
 B:Bz z
 te:z.t<=z.e
 tm:z.t<=z.T.length
 tl:z.t<=m
 k:z.k<=cnt z.Kn z.t.toNat
 kn:∀j:Int,z.t<=j->knw z.Kn j=false
 ck:z.clk = .non\/∃i,z.clk = .int i
 tq:∀j:Int,0<=j->j<z.t->∃f,bh z.Fi (ik j)=some (.int f)/\0<=f/\f<=tn
 V2:0<=tn
 Wf:tn<=900000
 s1:z.Kn.length<=540*s
 s2:z.Fi.length<=s
 s3:z.Ag.length<=s
theorem Jx.turn (h:Jx z r tn s m) (x:tn<900000):Jx z r (tn+1) s m:=by
 have e1:=h.V2;exact{h with tq:=fun j a b=>by {obtain⟨f,i,v,y⟩:=h.tq j a b;exact⟨f,i,v,by lia⟩},V2:=by lia,Wf:=by lia}
theorem Jx.Yz (h:Jx z r tn s m) (v:z.T.length<=i.length):Jx {z with T:=i} r tn s m:=by
 have e1:=h.tm;exact{h with B:=⟨h.B.b0,h.B.bt,h.B.t1⟩,tm:=by {show z.t<=(i.length:Int);lia}}
theorem P8:cnt D t<=cnt D (t+1):=by rw[C6];lia
def Zx (z i:Sd) (n:Int) (o:Option (Str×Option Int)):Prop:=(i.t=z.t/\i.Fi=z.Fi/\i.Ag=z.Ag/\(o=none\/o=some (Str.ofString "ask",none)))\/(o=some (Str.ofString "again",some z.b)/\z.b<z.t/\i.t=z.t/\i.Fi=z.Fi/\i.Ag=putK z.Ag (ik z.b) (.bl true))\/(o=some (Str.ofString "new",some z.t)/\z.t<z.T.length/\z.t<z.e/\i.t=z.t+1/\i.Fi=putK z.Fi (ik z.t) (.int n)/\i.Ag=z.Ag)
theorem TF (hc:s.clk = .non\/∃i,s.clk = .int i):Gk s (zt s n).1/\Zx s (zt s n).1 n (zt s n).2:=by
 unfold zt;split
 ·rename_i c;exact⟨⟨rfl,rfl,rfl,rfl,rfl,rfl,rfl,rfl,.inr ⟨_,rfl⟩⟩,.inr (.inl ⟨rfl,c.1,rfl,rfl,rfl⟩)⟩
 ·split
  ·rename_i c;unfold JO at c;rw[fx,fx,eM] at c;exact⟨⟨rfl,rfl,rfl,rfl,rfl,rfl,rfl,rfl,.inr ⟨_,rfl⟩⟩,.inr (.inl ⟨rfl,c.1.1,rfl,rfl,rfl⟩)⟩
  ·split
   ·rename_i c;unfold o_ at c;rw[fx,fx,eM,eM] at c;refine⟨⟨rfl,rfl,rfl,rfl,rfl,rfl,rfl,rfl,?_⟩,.inr (.inr ⟨rfl,c.1.1,c.1.2,rfl,rfl,rfl⟩)⟩;show(if s.b=s.t then V.int (n+s.w) else s.clk) = .non\/∃i,(if s.b=s.t then V.int (n+s.w) else s.clk) = .int i;split
    ·exact .inr ⟨_,rfl⟩
    ·exact hc
   ·split
    ·rcases hc with e|⟨i,e⟩
     ·simp only[e];exact⟨⟨rfl,rfl,rfl,rfl,rfl,rfl,rfl,rfl,.inr ⟨_,rfl⟩⟩,.inl ⟨rfl,rfl,rfl,.inl rfl⟩⟩
     ·simp only[e];split
      ·exact⟨⟨rfl,rfl,rfl,rfl,rfl,rfl,rfl,rfl,.inr ⟨_,e⟩⟩,.inl ⟨rfl,rfl,rfl,.inl rfl⟩⟩
      ·exact⟨⟨rfl,rfl,rfl,rfl,rfl,rfl,rfl,rfl,.inr ⟨_,rfl⟩⟩,.inl ⟨rfl,rfl,rfl,.inr rfl⟩⟩
    ·exact⟨⟨rfl,rfl,rfl,rfl,rfl,rfl,rfl,rfl,hc⟩,.inl ⟨rfl,rfl,rfl,.inl rfl⟩⟩
theorem Jx.go (h:Jx z r tn s m) (hm:m<900):Jx (zt z tn).1 r tn (s+1) (m+1):=by
 obtain⟨g,o⟩:=TF (n:=tn) h.ck;generalize(zt z tn).1=x at*
 have e0:=h.B.b0;have e3:=h.s1;have e4:=h.s2;have e5:=h.s3;have e6:=h.B.bt;have G:=h.tl;have F:=h.tm;have same:x.t=z.t->x.Fi=z.Fi->x.Ag.length<=s+1->Jx x r tn (s+1) (m+1):=fun a1 i v=>
  ⟨g.R.trans h.R,h.r0,⟨by rw[g.b];exact h.B.b0,by rw[g.b,a1];exact h.B.bt,by rw[a1];exact h.B.t1⟩,by rw[a1,g.e];exact h.te,by rw[a1,g.T];exact h.tm,by rw[a1];lia,by rw[g.k,g.Kn,a1];exact h.k,fun j C=>by rw[g.Kn];exact h.kn j (by lia),g.ck,fun j a b=>by rw[i];exact h.tq j a (by lia),h.V2,h.Wf,by rw[g.Kn];lia,by rw[i];lia,v⟩
 rcases o with⟨a1,i,v,_⟩|⟨_,_,a1,i,v⟩|⟨_,b1,I,a1,i,v⟩
 ·exact same a1 i (by rw[v];lia)
 ·exact same a1 i (by rw[v];have:=kG z.Ag (ik z.b) (.bl true);lia)
 ·have y:x.t.toNat=z.t.toNat+1:=by lia
  refine⟨g.R.trans h.R,h.r0,⟨by rw[g.b];exact h.B.b0,by rw[g.b,a1];lia,by lia⟩,by rw[g.e];lia,by rw[g.T];lia,by lia,by rw[g.k,g.Kn,y];exact h7 h.k P8,fun j C=>by rw[g.Kn];exact h.kn j (by lia),g.ck,fun j a b=>?_,h.V2,h.Wf,by rw[g.Kn];lia,by rw[i];have:=kG z.Fi (ik z.t) (.int tn);lia,by rw[v];lia⟩;rw[i,xo];by_cases c:j=z.t
  ·subst c;rw[dy rfl];exact⟨tn,rfl,h.V2,ZR _⟩
  ·rw[de (by intro q;exact c (by injection q))];exact h.tq j a (by lia)
theorem F7:∀{fs:List Int} {D:List (Key×V)},(∀a∈fs,a≠j)->knw (putAll D fs) j=knw D j
 | [],_,_=>rfl
 |a::l,D,h=>by
  show knw (putAll (putK D (ik a) (.bl true)) l) j=_;rw[F7 fun b i=>h b (sh _ i),F0];have:=h a (ZG ..);simp[this.symm]
theorem Vv:(yJ z nu).length<=(far' z nu).toNat:=by
 have v:(yJ z nu).length<=(irg z.b (far' z nu).toNat).length:=me _ _;have i:(irg z.b (far' z nu).toNat).length=(far' z nu).toNat:=by unfold irg;rw[cz,RA]
 lia
theorem Vu:(xj z nu hs).length<=hs.length:=by
 have i:(xj z nu hs).length<=(hld (mj z nu) hs).length:=me _ _;exact h7 i F_
theorem Jx.hrd (h:Jx z r tn s m) (hm:m<=420) (hl:hs.length<=100) (hn:hs.Nodup) (F:∀k∈hs,0<=k) (hf:far' z nu<=z.t-z.b) (g:Hk z z' nu rm hs):Jx z' r tn (s+1) m:=by
 have r0:=h.r0;have eR:=h.R;have x:0<=far' z nu:=C2 _ (by lia);have b0:=h.B.b0;have bt:=h.B.bt;have e3:=h.s1;have e4:=h.s2;have e5:=h.s3;have e7:=h.tl;have Z:=h.tm;have X:=Vv (z:=z) (nu:=nu);have l2:=Vu (z:=z) (nu:=nu) (hs:=hs);have m1:∀a∈yJ z nu,knw z.Kn a=false/\0<=a/\a<(z.t.toNat:Int):=fun a ha=>by
  obtain⟨v,i⟩:=BH ha;have:=K4 v;exact⟨i,by lia,by lia⟩
 have y:∀a∈xj z nu hs,knw (mj z nu).Kn a=false/\0<=a/\a<(z.t.toNat:Int):=fun a ha=>by
  obtain⟨v,i⟩:=BH ha;obtain⟨G,k,J,I⟩:=K7 v;have U:=F k J;have q7:a<z.t:=G;have q8:a=z.b+far' z nu+k:=I;exact⟨i,by lia,by lia⟩
 have P:cnt (mj z nu).Kn z.t.toNat=cnt z.Kn z.t.toNat+(yJ z nu).length:=yu (Eh.filter _) m1;have O:cnt (putAll (mj z nu).Kn (xj z nu hs)) z.t.toNat=cnt (mj z nu).Kn z.t.toNat+(xj z nu hs).length:=yu ((Ei hn).filter _) y;have k1:(mj z nu).Kn.length<=z.Kn.length+(yJ z nu).length:=qX;have k2:(putAll (mj z nu).Kn (xj z nu hs)).length<=(mj z nu).Kn.length+(xj z nu hs).length:=qX;have Q:=g.k;have hk:=h.k;have te:=h.te;refine⟨g.R.trans h.R,h.r0,⟨by rw[g.b];lia,by rw[g.b,g.t];lia,by rw[g.t];exact h.B.t1⟩,by rw[g.t,g.e];split<;>lia,by rw[g.t,g.T];exact h.tm,by rw[g.t];exact h.tl,by rw[g.Kn,g.t,O,P];lia,fun j C=>?_,g.ck,fun j a b=>by rw[g.Fi];exact h.tq j a (by rw[g.t] at b;exact b),h.V2,h.Wf,by rw[g.Kn];lia,by rw[g.Fi];lia,by rw[g.Ag];lia⟩
 rw[g.t] at C;rw[g.Kn,F7 fun a ha=>by have:=(y a ha).2.2;lia];show knw (putAll z.Kn (yJ z nu)) j=false;rw[F7 fun a ha=>by have:=(m1 a ha).2.2;lia];exact h.kn j C
theorem Jx.more (h:Jx z r tn s m) (i:s<=s'):Jx z r tn s' m:=by
 have e3:=h.s1;have e4:=h.s2;have e5:=h.s3;exact{h with s1:=by lia,s2:=by lia,s3:=by lia}
theorem O3 (b:Nat):(MO b).Nodup/\∀k∈MO b,0<=k:=by
 refine⟨aav _ (Held.Hr.imp fun h e=>by lia),fun k hk=>?_⟩;have:=Held.O0.mp (ZF.mp hk).1;lia
noncomputable def fi (nm:Str):Nat:=if nm="shut" \/nm="leaving" \/nm="waiting" \/nm="closing" then 1 else 0
def Lx (t:Th):Prop:=t.2.length<=4/\∀n a r hs,0<=n->n<64->0<=a->a<64->0<=r->r<=16->Held.gZ 0 hs=true->dX t.1 n a r hs t.2=true
theorem UZ (nm:Str):fi ((c7 nm "answered").getD nm)=fi nm:=by
 unfold c7;split
 ·rename_i t ht;have hm:=List.mem_of_find?_eq_some ht;have hp:=List.find?_some ht;rw[fx,eM,eM] at hp;rw[<-hp.1];have key:∀t∈Sx,t.2.1="answered" ->fi t.2.2=fi t.1:=by decide+kernel
  exact key t hm hp.2
 ·rfl
theorem UX (nm:Str):fi ((c7 nm "ended").getD nm)=fi nm:=by
 unfold c7;split
 ·rename_i t ht;have hm:=List.mem_of_find?_eq_some ht;have hp:=List.find?_some ht;rw[fx,eM,eM] at hp;rw[<-hp.1];have key:∀t∈Sx,t.2.1="ended" ->fi t.2.2=fi t.1:=by decide+kernel
  exact key t hm hp.2
 ·rfl
theorem UY (nm:Str):fi ((c7 nm "begun").getD nm)+(if nm="shut" then 1 else 0)<=fi nm:=by
 unfold c7;split
 ·rename_i t ht;have hm:=List.mem_of_find?_eq_some ht;have hp:=List.find?_some ht;rw[fx,eM,eM] at hp;rw[<-hp.1];have key:∀t∈Sx,t.2.1="begun" ->fi t.2.2+(if t.1="shut" then 1 else 0)<=fi t.1:=by decide+kernel
  exact key t hm hp.2
 ·rename_i hn;have i:nm≠"shut" :=fun e=>by
   rw[e] at hn;exact absurd hn (by decide+kernel)
  rw[de i,de (by decide+kernel)];exact cv _
theorem Lu:∀(i:List Int) (nm:Str),fi (Bp lo hi i nm)=fi nm
 | [],_=>rfl
 |p::i,nm=>by
  show fi (Bp lo hi i (if lo<=p/\p<hi then(c7 nm "answered").getD nm else nm))=_;rw[Lu i];split
  ·exact UZ nm
  ·rfl
structure HI (a:nP) (tn:Int) (q m N:Nat):Prop where
 j:Jx a.s a.R tn q m
 r2:2<=a.R
 r6:a.R<=64
 m1:1<=a.M
 m6:a.M<=16
 o0:0<=a.o
 og:a.o<=a.g
 gm:a.g<=a.o+a.M
 gb:a.g<=16*q
 hk:∀i,a.o<=i->i<a.g->(a.D i).isSome=true
 hd:∀i,(a.D i).isSome=true->a.o<=i/\i<a.o+a.M
 gd:∀t∈a.T,Lx t
 tl:a.T.length+fi a.nm<=N
 sl:a.s.T.length=a.T.length
 el:a.ends.length<=N
theorem Gb {k:Str} (hk:k="begin" \/k="end"):Lx (k,Str.ofString ""):=by
 refine⟨lp _,fun n a r hs n0 n1 a0 a1 r0 i hh=>?_⟩;have e1:Du (.str k) rF=true:=by rcases hk with rfl|rfl<;>decide+kernel
 have e2:Du (.str k) [.str "bare",.str "ask"]=false:=by rcases hk with rfl|rfl<;>decide+kernel
 have e3:tf k ""=true:=by rcases hk with rfl|rfl<;>decide+kernel
 show dX k n a r hs ""=true;unfold dX bO;rw[e1,e2,e3,hh];simp;lia
theorem Nb {w:Str} (hw:w="bare" \/w="ask") (a0:0<=a) (a1:a<64) (r0:0<=r) (i:r<=16) (hh:Held.gZ 0 hs=true):dX w 0 a r hs ""=true:=by
 have e1:Du (.str w) rF=true:=by rcases hw with rfl|rfl<;>decide+kernel
 have e2:Du (.str w) [.str "bare",.str "ask"]=true:=by rcases hw with rfl|rfl<;>decide+kernel
 have e3:tf w ""=true:=by rcases hw with rfl|rfl<;>decide+kernel
 unfold dX bO;rw[e1,e2,e3,hh];simp;lia
theorem SO (h:a.o+a.M-a.g<=16):Held.gZ 0 (C8 a)=true:=by
 rw[Held.zr];unfold C8;constructor
 ·rw[List.pairwise_map];exact(List.pairwise_lt_range.filter _).imp fun h=>by lia
 ·intro x hx;obtain⟨j,i,rfl⟩:=h8.mp hx;have:=L1.mp (ZF.mp i).1;lia
theorem Qe {l:List α} {i:Int} (v:0<=i) (y:i<l.length):∃x,kB l i=some x/\x∈l:=by
 obtain⟨j,rfl⟩:∃j:Nat,i=(j:Int):=⟨i.toNat,by lia⟩;exact⟨l[j]'(by lia),sJ (mu (by lia)),aaa _⟩
theorem HI.Ui (h:HI a n q m N) (F:q<900000):Qf a n:=by
 have e1:=h.r2;have e2:=h.r6;have e3:=h.m6;have e4:=h.og;have e5:=h.gm;have b0:=h.j.B.b0;have bt:=h.j.B.bt;have tm:=h.j.tm;have s2:=h.j.s2;have s3:=h.j.s3;have hh:=SO (a:=a) (by lia);have x:=C2 a.g (show a.R≠0 by lia);have G:=L0 a.g (show 0<a.R by lia);have sl:=h.sl;refine⟨h.j.B,h.j.ck,by lia,by lia,by lia,by lia,by lia,fun w pl e=>?_⟩;have word:∀w:Str,w="bare" \/w="ask" ->NU a w none=true:=fun w hw=>by
  unfold NU Ro WD;exact Nb hw x (by lia) (by lia) (by lia) hh
 have i:∀(w:Str) (p:Int),0<=p->p<a.T.length->NU a w (some p)=true/\∀p',some p=some p'->∃v,kB a.T p'=some v/\v.2.length<=1000:=fun w p z y=>by
  obtain⟨v,t1,t2⟩:=Qe z y;obtain⟨k1,k2⟩:=h.gd v t2;constructor
  ·show dX ((kB a.T p).getD (Str.ofString "",Str.ofString "")).1 (p % a.R) (a.g % a.R) (a.o+a.M-a.g) (C8 a) ((kB a.T p).getD (Str.ofString "",Str.ofString "")).2=true;rw[t1];exact k2 _ _ _ _ (C2 _ (by lia)) (by have:=L0 p (show 0<a.R by lia);lia) x (by lia) (by lia) (by lia) hh
  ·intro p' e;injection e with e;subst e;exact⟨v,t1,by lia⟩
 have no:∀p:Int,none=some p->∃v,kB a.T p=some v/\v.2.length<=1000:=fun p e=>by cases e
 obtain⟨_,o⟩:=TF (n:=n) h.j.ck;unfold E6 at e;rcases o with⟨_,_,_,o|o⟩|⟨o,C,_⟩|⟨o,C,_⟩
 ·rw[o] at e;dsimp only at e;split at e
  ·injection e with e;injection e with e1 e2;subst e1 e2;exact⟨word _ (.inl rfl),no⟩
  ·cases e
 ·rw[o] at e;injection e with e;injection e with e1 e2;subst e1 e2;exact⟨word _ (.inr rfl),no⟩
 ·rw[o] at e;injection e with e;injection e with e1 e2;subst e1 e2;exact i _ _ (by lia) (by lia)
 ·rw[o] at e;injection e with e;injection e with e1 e2;subst e1 e2;exact i _ _ (by lia) (by lia)
theorem HI.send (h:HI a n q m N) (hm:m<900):HI (xC a n) n (q+1) (m+1) N:=by
 have e:=h.gb;refine{h with j:=h.j.go hm,gb:=?_,sl:=?_}
 ·show a.g<=16*((q+1:Nat):Int);lia
 ·show(zt a.s n).1.T.length=a.T.length;rw[Po];exact h.sl
theorem HI.turn (h:HI a n q m N) (i:n<900000):HI a (n+1) q m N:={h with j:=h.j.turn i}
theorem HI.more (h:HI a n q m N) (i:q<=q') (v:N<=N'):HI a n q' m N':=by
 have e1:=h.gb;have e2:=h.tl;have e3:=h.el;exact{h with j:=h.j.more i,gb:=by lia,tl:=by lia,el:=by lia}
theorem HI.wsh (h:HI a n q m N) (hg:∀t∈ts,Lx t) (i:a.T.length+ts.length+fi nm<=N') (v:es.length<=N'):HI {a with nm:=nm,ends:=es,T:=a.T++ts,s:={a.s with T:=a.s.T++ts.map fun _=>V.non}} n q m N':=by
 have e:=h.sl;refine{h with j:=h.j.Yz (by rw[ib];lia),gd:=fun t ht=>?_,tl:=?_,sl:=?_,el:=v}
 ·rcases Zy.mp ht with ht|ht
  ·exact h.gd t ht
  ·exact hg t ht
 ·show(a.T++ts).length+fi nm<=N';rw[ib];exact i
 ·show(a.s.T++ts.map fun _=>V.non).length=(a.T++ts).length;rw[ib,ib,cz,e]
theorem N1 (h:z.o<=z.g) (hm:0<=m):z.o+(i7 z m:Int)<=z.g:=by
 unfold i7;split<;>lia
theorem HI.read (h:HI a n q m N) (hm:0<=x):HI (vt a x) n q m N:=by
 have r:=N1 h.og hm;have e1:=h.o0;have e2:=h.gm;have e3:=h.m1;refine{h with o0:=?_,og:=?_,gm:=?_,hk:=fun i F z=>?_,hd:=fun i C=>?_}
 ·show 0<=a.o+_;lia
 ·exact r
 ·show a.g<=a.o+_+a.M;lia
 ·have y:a.o+(i7 a x:Int)<=i:=F;show(if a.o<=i/\i<a.o+(i7 a x:Int) then none else a.D i).isSome=true;rw[de (by lia)];exact h.hk i (by lia) z
 ·have v:(if a.o<=i/\i<a.o+(i7 a x:Int) then none else a.D i).isSome=true:=C;show a.o+(i7 a x:Int)<=i/\i<a.o+(i7 a x:Int)+a.M;split at v
  ·cases v
  ·have:=h.hd i v;lia
theorem HI.std (h:HI a n q m N):HI (sT a k) n q m N:=by
 have e:=h.tl;unfold sT;split
 ·have b:=UY a.nm;by_cases c:a.nm="shut"
  ·rw[dy c] at b⊢;have w:=h.wsh (N':=N) (nm:=(c7 a.nm "begun").getD a.nm) (es:=a.ends) (ts:=[(Str.ofString "begin",Str.ofString "")]) (fun t ht=>by rw[hQ.mp ht];exact Gb (.inl rfl)) (by simp only[ZU];lia) h.el;exact w
  ·rw[de c] at b⊢;exact{h with tl:=by {show a.T.length+fi ((c7 a.nm "begun").getD a.nm)<=N;lia}}
 ·split
  ·exact{h with tl:=by {show a.T.length+fi ((c7 a.nm "ended").getD a.nm)<=N;rw[UX];exact e}}
  ·exact h
theorem HI.BQ {n:Int} {q m N:Nat}:∀(ts:List Th) {a:nP},HI a n q m N->HI (BQ a ts) n q m N
 | [],_,h=>h
 |t::ts,a,h=>HI.BQ ts (a:=sT a t.1) h.std
theorem G6:∀(k:Nat) (g:Int) (j:Nat),j<runN D k g->(D (g+j)).isSome=true
 |0,_,j,h=>by unfold runN at h;lia
 |k+1,g,j,h=>by
  unfold runN at h;split at h
  ·rename_i c;cases j with
   |zero=>rw[show g+((0:Nat):Int)=g by lia];exact c
   |succ j=>
    rw[show g+((j+1:Nat):Int)=g+1+(j:Int) by lia];exact G6 k (g+1) j (by lia)
  ·lia
theorem HI.take (h:HI a n q m N):HI (LH a v t) n (q+1) m N:=by
 have gb:=h.gb;unfold LH;split
 ·exact h.more (vr _) (cv _)
 ·rename_i c;have C:=C2 (v-a.g) (show a.R≠0 by have:=h.r2;lia);have og:=h.og;have gm:=h.gm;have m1:=h.m1;have m6:=h.m6;have nd:∀i,(sL a v t i).isSome=true->a.o<=i/\i<a.o+a.M:=fun i x=>by
   unfold sL at x;split at x
   ·rename_i e;unfold uX at e;lia
   ·exact h.hd i x
  have nl:qm a v t<=a.M.toNat:=Fc _ _;have G:=G6 (D:=sL a v t) a.M.toNat a.g;have J:a.g+(qm a v t:Int)<=a.o+a.M:=by
   by_cases z:qm a v t=0
   ·rw[z];lia
   ·have:=nd _ (G (qm a v t-1) (by unfold qm at z⊢;lia));lia
  refine HI.BQ _ ?_;refine{h with j:=h.j.more (vr _),og:=?_,gm:=J,gb:=?_,hk:=fun i C I=>?_,hd:=nd}
  ·show a.o<=a.g+_;lia
  ·show a.g+(qm a v t:Int)<=16*((q+1:Nat):Int);lia
  ·have y:i<a.g+(qm a v t:Int):=I;show(sL a v t i).isSome=true;by_cases O:i<a.g
   ·have:=h.hk i C O;unfold sL;by_cases F:i=uX a v
    ·rw[dy F,dy this];exact this
    ·rw[de F];exact this
   ·have:=G (i-a.g).toNat (by unfold qm at y;lia);rwa [show a.g+((i-a.g).toNat:Int)=i by lia] at this
theorem HI.Vm (h:HI a n q m N) (F:q<=1600) (hm:m<=420) (b:Nat):Kd a.s (MO b) n:=by
 have l:=FZ b;obtain⟨x,l2⟩:=O3 b;have e1:=h.j.s1;have e2:=h.j.tl;have e3:=h.j.Wf;refine⟨h.j.B,by rw[h.j.R];have:=h.r2;lia,by lia,x,l2,fun j y i=>?_,by lia,by lia,h.j.k⟩;obtain⟨f,v,z,C⟩:=h.j.tq j y i;exact⟨f,v,by lia,by lia⟩
theorem HI.hear (h:HI a n q m N) (hm:m<=420):HI (K8 a nu rm (MO b) n) n (q+1) m N:=by
 have l:=FZ b;obtain⟨i,l2⟩:=O3 b;have gb:=h.gb;have tl:=h.tl;refine{h with j:=?_,gb:=?_,tl:=?_,sl:=?_}
 ·show Jx (kH a.s nu rm (MO b) n) a.R n (q+1) m;unfold kH;split
  ·exact h.j.more (vr _)
  ·rename_i c;exact h.j.hrd hm (by lia) i l2 (by lia) (WY h.j.ck)
 ·show a.g<=16*((q+1:Nat):Int);lia
 ·show a.T.length+fi (Bp _ _ a.ends a.nm)<=N;rw[Lu];exact tl
 ·show(kH a.s nu rm (MO b) n).T.length=_;rw[HP];exact h.sl
theorem HI.dued (h:HI a n q m N) (d:Bool):HI {a with due:=d} n q m N:={h with}
theorem HI.come (h:HI a n q m N) (hm:m<=420):HI (Li a f n ok) n (q+2) m N:=by
 unfold Li;split
 ·have k:=h.hear (nu:=V6 (z8 f)) (rm:=Yl (z8 f)) (b:=z8 f) hm;split
  ·exact k.more (vr _) (cv _)
  ·split
   ·exact(k.dued true).more (vr _) (cv _)
   ·exact(k.dued true).take
 ·exact h.more (by lia) (cv _)
def yI (H:Hp) (c:Addr) (d p r:Int):Prop:=H c=some (.tup [.int d,.int p,.int r])
noncomputable def oJ (d p r i:Int):Bool:=bO d 1 i&&bO p 0 66&&bO r 0 255
noncomputable abbrev Cp:=Int×Int×Int
def du (H:Hp) (x:Addr) (ds:List Cp):Prop:= ∃cs:List Addr,H x=some (.lst (cs.map V.ref))/\Paired (fun c (d:Cp)=>yI H c d.1 d.2.1 d.2.2) cs ds/\ds.length<=1000
noncomputable def rZ (i:Int) (ds:List Cp):Bool:=decide (ds.length<=3)&&ds.all fun d=>oJ d.1 d.2.1 d.2.2 i
def ju (H:Hp) (x:Addr) (i:List (List Cp)):Prop:= ∃xs:List Addr,H x=some (.lst (xs.map V.ref))/\Paired (du H) xs i/\i.length<=1000
theorem nX {x:α} {y:β} (p:Paired R xs ys) (r:R x y):Paired R (xs++ [x]) (ys++ [y]):=qZ p (.cons r .nil)
theorem du.ik (h:du H x ds) (k:vJ H H') (e:∀o,H x=some o->H' x=some o):du H' x ds:=by
 obtain⟨cs,y,i,v⟩:=h;exact⟨cs,e _ y,bu i fun c d q=>k _ _ q (.inl ⟨_,rfl⟩),v⟩
theorem du.same (h:du H x ds) (s:aA H H'):du H' x ds:=h.ik (vJ.of s) fun o e=>s _ _ e
theorem ju.same (h:ju H x dss) (s:aA H H'):ju H' x dss:=by
 obtain⟨xs,y,i,v⟩:=h;exact⟨xs,s _ _ y,bu i fun c d q=>q.same s,v⟩
def yE (v H:Hp) (p:Addr) (i:List (List Cp)):Prop:=v p=none/\∃xs:List Addr,H p=some (.lst (xs.map V.ref))/\Paired (fun x ds=>v x=none/\du H x ds) xs i/\i.length<=1000
noncomputable abbrev Cm:=Int×Int×Int×Int
def IK (H:Hp) (c:Addr) (m:Cm):Prop:=H c=some (.tup [.int m.1,.int m.2.1,.int m.2.2.1,.int m.2.2.2])
def xg (H:Hp) (pd pc:Addr) (i:List (List Cp)):Prop:= ∃xs:List Addr,H pd=some (.lst (xs.map V.ref))/\Paired (fun x ds=>x≠pc/\du H x ds) xs i/\i.length<=1000
structure xh (bM:Addr) (H:Hp) (r:Addr) (dx pd pc:Addr) (dss:List (List Cp)) (sn:Int) (ms:List Cm):Prop where
 hr:H r=some (.ins bM dx (cE (.ref pd) (.int sn) (.ref pc)))
 hd:xg H pd pc dss
 hc:∃cs:List Addr,H pc=some (.lst (cs.map V.ref))/\Paired (IK H) cs ms
 ne:pd≠pc
noncomputable def t6 (i:List (List Cp)) (n:Int):List Cp:=if i.length=0 then[(1,0,0)] else i.getD (n % i.length).toNat []
def kD (g:Int) (i:List (List Cp)):Prop:=(∀ds∈i,rZ g ds=true)/\i.length<=60
noncomputable def xq (k:Str) (v:V):Bool:=if k="put" then(match v with | .str z=>iI z|_=>false) else if k="read" then(match v with | .int i=>bO i 1 60|_=>false) else(decide (k="begin")||decide (k="end"))&&decide (v = .non)
noncomputable abbrev Ww:=Int×Int×Str×V
noncomputable def fE (w:Ww):Bool:=bO w.1 0 400&&bO w.2.1 0 1&&xq w.2.2.1 w.2.2.2
def Qp (H:Hp) (x:Addr) (w:Ww):Prop:=H x=some (.tup [.int w.1,.int w.2.1,.str w.2.2.1,w.2.2.2])
def qk (H:Hp) (p:Addr) (ws:List Ww):Prop:= ∃xs:List Addr,H p=some (.lst (xs.map V.ref))/\Paired (Qp H) xs ws/\ws.length<=1000
theorem qk.ik (h:qk H p ws) (k:vJ H H') (e:∀o,H p=some o->H' p=some o):qk H' p ws:=by
 obtain⟨xs,x,i,v⟩:=h;exact⟨xs,e _ x,bu i fun c d q=>k _ _ q (.inl ⟨_,rfl⟩),v⟩
theorem qk.same (h:qk H p ws) (s:aA H H'):qk H' p ws:=h.ik (vJ.of s) fun o e=>s _ _ e
def TU (ws:List Ww) (M:Int):Prop:=(ws= []/\M = -1)\/((∃w∈ws,w.1=M)/\∀w∈ws,w.1<=M)
structure Cl where
 W:Addr
 R:Addr
 H:Addr
 T:Addr
 S:Addr
 Y:Addr
 M:Addr
 E:Addr
 tb:List (Addr×Str)
structure Cn where
 q:Nat
 m:Nat
 N:Nat
 L:Nat
 B:Nat
structure Wa where
 dx:Addr
 rds:Addr
 ded:Addr
 wl:Addr
 hs:Addr
 os:Addr
 td:Addr
 r:Nat->Addr
 h:Nat->Addr
 o:Nat->Addr
 c:Nat->Addr
structure We where
 tm:Addr
 r:Int
 k:Nat->Int
 g:Int
 f:Int
 l:Int
 d:Nat->List (List Cp)
 ws:List Ww
 M:Int
 n:Int
def Fo (i:Nat) (v:Addr->Nat) (H H':Hp):Prop:=(∀b o,H b=some o->v b≠i->H' b=some o)/\vJ H H'
theorem Fo.of (s:aA H H'):Fo i ow H H':=⟨fun b o e _=>s b o e,vJ.of s⟩
theorem Fo.trans (a:Fo i ow H H1) (b:Fo i ow H1 H2):Fo i ow H H2:=⟨fun c o e n=>b.1 _ _ (a.1 _ _ e n) n,a.2.trans b.2⟩
def HC (c:Cl) (K:W.Frag) (v:Addr->Nat) (i:Nat) (H:Hp) (x:Addr) (n:Int) (p:Cn):Prop:= ∃A a,HM c.H c.T c.S c.Y c.M c.tb K H x A a/\HI a n p.q p.m p.N/\∀b∈foot x A,v b=i
theorem HM.fo (h:HM CH CT CS CW CM tb K H x A a) (k:vJ H H') (d:∀b∈foot x A,∀o,H b=some o->H' b=some o):HM CH CT CS CW CM tb K H' x A a:=by
 obtain⟨z,i,y⟩:=h;refine⟨z,?_,y.keep k⟩;obtain⟨C,dd,e,hm⟩:=i.st;obtain⟨e1,v⟩:=i.sd.ms;have w:∀{b o},H b=some o->b∈foot x A->H' b=some o:=fun e m=>d _ m _ e;exact⟨w i.hx (by simp[foot]),⟨w i.tk.hx (by simp[foot]),w i.tk.hD (by simp[foot])⟩,⟨w i.sd.hx (by simp[foot]),w i.sd.ht (by simp[foot]),w i.sd.hk (by simp[foot]),w i.sd.hf (by simp[foot]),w i.sd.ha (by simp[foot]),i.sd.ws.keep (fun o q=>w q (by simp[foot])) (fun t l q=>k _ _ q (.inl ⟨l,rfl⟩)),⟨w e1 (by simp[foot]),v⟩,i.sd.kf,i.sd.ka,i.sd.fa,i.sd.xw,i.sd.xm,i.sd.wm⟩,⟨C,dd,k _ _ e (.inr (.inl ⟨C,dd,rfl⟩)),hm⟩,w i.he (by simp[foot]),i.nd⟩
theorem HI.wid (h:HI a n q m N) (i:m<=m'):HI a n q m' N:={h with j:={h.j with tl:=by {have:=h.j.tl;lia}}}
structure Cn.le (p p':Cn):Prop where
 q:p.q<=p'.q
 m:p.m<=p'.m
 N:p.N<=p'.N
 L:p.L<=p'.L
 B:p.B<=p'.B
def Rq (v:Addr->Nat) (H:Hp) (p:Addr) (i:List (List Cp)):Prop:=v p=8/\∃xs:List Addr,H p=some (.lst (xs.map V.ref))/\Paired (fun x ds=>v x=8/\du H x ds) xs i/\i.length<=1000
structure RC (C:Addr) (ow:Addr->Nat) (i:Nat) (H:Hp) (r:Addr) (dss:List (List Cp)) (g:Int) (p:Cn) (dx pd pc:Addr) (sn:Int) (ms:List Cm):Prop where
 hr:H r=some (.ins C dx (cE (.ref pd) (.int sn) (.ref pc)))
 or:ow r=i
 oc:ow pc=i
 hd:Rq ow H pd dss
 hc:∃cs:List Addr,H pc=some (.lst (cs.map V.ref))/\Paired (IK H) cs ms
 ok:kD g dss
 lm:ms.length<=p.L
end
section
mutual
variable {ms:List Cm}
theorem HC.fo (h:HC c K ow i H x n p) (f:Fo j ow H H') (ne:i≠j):HC c K ow i H' x n p:=by
 obtain⟨A,a,z,y,v⟩:=h;exact⟨A,a,z.fo f.2 fun b C o e=>f.1 _ _ e (by rw[v b C];exact ne),y,v⟩
theorem HC.le (h:HC c K ow i H x n p) (l:p.le p'):HC c K ow i H x n p':=by
 obtain⟨A,a,z,v,y⟩:=h;exact⟨A,a,z,(v.more l.q l.N).wid l.m,y⟩
theorem HC.owd {H:Hp} {c:Cl} {K:W.Frag} {F v:Addr->Nat} {i:Nat} {x:Addr} {n:Int} {p:Cn} (h:HC c K F i H x n p) (e:∀b o,H b=some o->v b=F b):HC c K v i H x n p:=by
 obtain⟨A,a,y,G,J⟩:=h;refine⟨A,a,y,G,fun b C=>?_⟩;obtain⟨z,I,_⟩:=y;obtain⟨u,O⟩:=I.live C;rw[e b u O];exact J b C
theorem Rq.fo (h:Rq ow H pd dss) (f:Fo j ow H H') (ne:8≠j):Rq ow H' pd dss:=by
 obtain⟨i,xs,z,v,x⟩:=h;exact⟨i,xs,f.1 _ _ z (by rw[i];exact ne),bu v fun y ds q=>⟨q.1,q.2.ik f.2 fun o e=>f.1 _ _ e (by rw[q.1];exact ne)⟩,x⟩
theorem Rq.owd {H:Hp} {z i:Addr->Nat} {pd:Addr} {v:List (List Cp)} (h:Rq z H pd v) (e:∀b o,H b=some o->i b=z b):Rq i H pd v:=by
 obtain⟨C,xs,x,F,G⟩:=h;refine⟨by rw[e _ _ x];exact C,xs,x,bu F fun y ds q=>⟨?_,q.2⟩,G⟩;obtain⟨cs,I,_⟩:=q.2;rw[e _ _ I];exact q.1
theorem Rq.row (h:Rq ow H pd dss):ju H pd dss:=by
 obtain⟨z,xs,x,i,v⟩:=h;exact⟨xs,x,bu i fun y ds q=>q.2,v⟩
theorem RC.at (h:RC C ow i H r dss g p dx pd pc sn ms) (v:i≠8):xh C H r dx pd pc dss sn ms:=by
 obtain⟨F,xs,I,x,G⟩:=h.hd;have ne:∀y,ow y=8->y≠pc:=fun y q z=>v (by rw[<-h.oc,<-z];exact q);exact⟨h.hr,⟨xs,I,bu x fun y ds q=>⟨ne y q.1,q.2⟩,G⟩,h.hc,ne _ F⟩
theorem RC.fo (h:RC C ow i H r dss g p dx pd pc sn ms) (f:Fo j ow H H') (ne:i≠j) (v:8≠j):RC C ow i H' r dss g p dx pd pc sn ms:=by
 obtain⟨cs,x,y⟩:=h.hc;exact⟨f.1 _ _ h.hr (by rw[h.or];exact ne),h.or,h.oc,h.hd.fo f v,⟨cs,f.1 _ _ x (by rw[h.oc];exact ne),bu y fun a m q=>f.2 _ _ q (.inl ⟨_,rfl⟩)⟩,h.ok,h.lm⟩
theorem RC.owd (h:RC C ow i H r dss g p dx pd pc sn ms) (e:∀b o,H b=some o->ow' b=ow b):RC C ow' i H r dss g p dx pd pc sn ms:=by
 obtain⟨cs,v,x⟩:=h.hc;exact⟨h.hr,by rw[e _ _ h.hr];exact h.or,by rw[e _ _ v];exact h.oc,h.hd.owd e,⟨cs,v,x⟩,h.ok,h.lm⟩
end
end
def LC (v:Addr->Nat) (i:Nat) (H:Hp) (b:Addr) (B:Nat):Prop:=v b=i/\∃l,H b=some (.lst l)/\l.length<=B
theorem LC.fo (h:LC ow i H b B) (f:Fo j ow H H') (ne:i≠j):LC ow i H' b B:=by
 obtain⟨v,l,x,y⟩:=h;exact⟨v,l,f.1 _ _ x (by rw[v];exact ne),y⟩
def Zv (i:Addr) (H:Hp) (e:We):Prop:=Dc i H e.tm e.r (e.k 0) (e.k 1) e.g e.f e.l
structure eP (j:Nat) (c:Cl) (K:W.Frag) (ow:Addr->Nat) (H:Hp) (x:Addr) (W:Wa) (e:We) (p:Cn):Prop where
 hx:j≠4->H x=some (.ins c.W W.dx (gp (.ref W.rds) (.ref e.tm) (.ref W.ded) (.ref W.wl) (.int e.M) (.ref W.hs) (.ref W.os) (.ref W.td) (.int e.n)))
 ox:ow x=4
 hr:H W.rds=some (.tup [.ref (W.r 0),.ref (W.r 1)])
 hh:H W.hs=some (.tup [.ref (W.h 0),.ref (W.h 1)])
 ho:H W.os=some (.tup [.ref (W.o 0),.ref (W.o 1)])
 hd:H W.ded=some (.tup [.ref (W.c 0),.ref (W.c 1)])
 dc:∀i,i<2->Rq ow H (W.c i) (e.d i)
 ol:ow W.wl=8
 hw:qk H W.wl e.ws
 ok:e.ws.length<=60/\∀w∈e.ws,fE w=true
 la:TU e.ws e.M
 a:∀i,i<2->j≠i->HC c K ow i H (W.h i) e.n p
 b:∀i,i<2->j≠2+i->∃dx pd pc sn ms,RC c.R ow (2+i) H (W.r i) (e.d i) e.g p dx pd pc sn ms
 t:j≠5->LC ow 5 H W.td p.B
 u:∀i,i<2->j≠6+i->LC ow (6+i) H (W.o i) p.B
 ot:ow e.tm=8
 ht:Zv c.E H e
 gd:good e.r (e.k 0) (e.k 1) e.g e.f e.l
section
mutual
theorem eP.fo (h:eP 99 c K ow H x W e p) (f:Fo j ow H H') (z:j≠8):eP j c K ow H' x W e p:=by
 have y:∀{b l},H b=some (.tup l)->H' b=some (.tup l):=fun q=>f.2 _ _ q (.inl ⟨_,rfl⟩);have C:(99:Nat)≠4:=by decide
 obtain⟨dt,q,t1,t2⟩:=h.ht;refine⟨fun n=>f.1 _ _ (h.hx C) (by rw[h.ox];exact n.symm),h.ox,y h.hr,y h.hh,y h.ho,y h.hd,fun i v=>(h.dc i v).fo f z.symm,h.ol,h.hw.ik f.2 fun o q=>f.1 _ _ q (by rw[h.ol];exact z.symm),h.ok,h.la,fun i v n=>(h.a i v (by lia)).fo f n.symm,fun i v n=>?_,fun n=>(h.t (by decide)).fo f n.symm,fun i v n=>(h.u i v (by lia)).fo f n.symm,h.ot,⟨dt,q,f.1 _ _ t1 (by rw[h.ot];exact z.symm),y t2⟩,h.gd⟩;obtain⟨dx,pd,pc,sn,ms,r⟩:=h.b i v (by lia);exact⟨dx,pd,pc,sn,ms,r.fo f n.symm z.symm⟩
theorem eP.le (h:eP j c K ow H x W e p) (l:p.le p'):eP j c K ow H x W e p':=by
 refine{h with a:=fun i v n=>(h.a i v n).le l,b:=fun i v n=>?_,t:=fun n=>?_,u:=fun i v n=>?_}
 ·obtain⟨dx,pd,pc,sn,ms,r⟩:=h.b i v n;exact⟨dx,pd,pc,sn,ms,{r with lm:=h7 r.lm l.L}⟩
 ·obtain⟨y,l',z,C⟩:=h.t n;exact⟨y,l',z,h7 C l.B⟩
 ·obtain⟨y,l',z,C⟩:=h.u i v n;exact⟨y,l',z,h7 C l.B⟩
theorem eP.owd (h:eP j c K ow H x W e p) (q:∀b o,H b=some o->ow' b=ow b) (G:ow' x=ow x):eP j c K ow' H x W e p:=by
 obtain⟨xs,F,w2⟩:=h.hw;obtain⟨dt,pt,t1,t2⟩:=h.ht;refine{h with ox:=by {rw[G];exact h.ox},dc:=fun i v=>(h.dc i v).owd q,ol:=by {rw[q _ _ F];exact h.ol},a:=fun i v n=>(h.a i v n).owd q,b:=fun i v n=>?_,t:=fun n=>?_,u:=fun i v n=>?_,ot:=by {rw[q _ _ t1];exact h.ot}}
 ·obtain⟨dx,pd,pc,sn,ms,r⟩:=h.b i v n;exact⟨dx,pd,pc,sn,ms,r.owd q⟩
 ·obtain⟨z,l',y,C⟩:=h.t n;exact⟨by rw[q _ _ y];exact z,l',y,C⟩
 ·obtain⟨z,l',y,C⟩:=h.u i v n;exact⟨by rw[q _ _ y];exact z,l',y,C⟩
theorem eP.hand (h:eP i c K ow H x W e p) (F:i<2) (k:HC c K ow i H (W.h i) e.n p):eP 99 c K ow H x W e p:=
 {h with hx:=fun _=>h.hx (by lia),a:=fun C v _=>by {by_cases z:C=i;{subst z;exact k};{exact h.a C v (fun y=>z y.symm)}},b:=fun C v _=>h.b C v (by lia),t:=fun _=>h.t (by lia),u:=fun C v _=>h.u C v (by lia)}
theorem eP.road {ms:List Cm} (h:eP (2+i) c K ow H x W e p) (C:i<2) (k:RC c.R ow (2+i) H (W.r i) (e.d i) e.g p dx pd pc sn ms):eP 99 c K ow H x W e p:=
 {h with hx:=fun _=>h.hx (by lia),a:=fun y v _=>h.a y v (by lia),b:=fun y v _=>by {by_cases z:y=i;{subst z;exact⟨_,_,_,_,_,k⟩};{exact h.b y v (by lia)}},t:=fun _=>h.t (by lia),u:=fun y v _=>h.u y v (by lia)}
theorem eP.told (h:eP 5 c K ow H x W e p) (k:LC ow 5 H W.td p.B):eP 99 c K ow H x W e p:=
 {h with hx:=fun _=>h.hx (by lia),a:=fun v i _=>h.a v i (by lia),b:=fun v i _=>h.b v i (by lia),t:=fun _=>k,u:=fun v i _=>h.u v i (by lia)}
theorem eP.out (h:eP (6+i) c K ow H x W e p) (C:i<2) (k:LC ow (6+i) H (W.o i) p.B):eP 99 c K ow H x W e p:=
 {h with hx:=fun _=>h.hx (by lia),a:=fun y v _=>h.a y v (by lia),b:=fun y v _=>h.b y v (by lia),t:=fun _=>h.t (by lia),u:=fun y v _=>by {by_cases z:y=i;{subst z;exact k};{exact h.u y v (by lia)}}}
end
end
def Fw (v i:Addr->Nat) (H H':Hp):Prop:=(∀b o,H b=some o->8<=v b->H' b=some o/\i b=v b)/\vJ H H'
theorem Fw.of (f:Fo j ow H H') (n:j<8):Fw ow ow H H':=⟨fun b o e g=>⟨f.1 _ _ e (by lia),rfl⟩,f.2⟩
theorem Fw.trans (a:Fw ow ow1 H H1) (b:Fw ow1 ow2 H1 H2):Fw ow ow2 H H2:=⟨fun x o e g=>by
 obtain⟨a1,i⟩:=a.1 x o e g;obtain⟨b1,v⟩:=b.1 x o a1 (by rw[i];exact g);exact⟨b1,v.trans i⟩,a.2.trans b.2⟩
theorem Fw.refl:Fw ow ow H H:=⟨fun _ _ e _=>⟨e,rfl⟩,fun _ _ e _=>e⟩
theorem Fo.upd {i:Nat} {v:Addr->Nat} {H:Hp} {b:Addr} {o o0:HO} (h:H b=some o0) (x: ¬Ny o0) (ho:v b=i):Fo i v H (upd H b o):=⟨fun c u e n=>by rw[ag (fun z=>n (by rw[z];exact ho))];exact e,fun c u e im=>by rw[ag (fun z=>by rw[z,h] at e;cases e;exact x im)];exact e⟩
theorem oo (n:l≠[]): ¬Ny (.ins C d l):=fun q=>by
 rcases q with⟨l,q⟩|⟨C,d,q⟩|⟨u,v,q⟩
 ·cases q
 ·injection q with _ _ q;exact n q
 ·cases q
section
mutual
theorem Cn.le.refl {p:Cn}:p.le p:=⟨cv _,cv _,cv _,cv _,cv _⟩
theorem eP.same (h:eP 99 c K ow H x W e p) (s:aA H H'):eP 99 c K ow H' x W e p:=h.fo (Fo.of s) (by decide)
theorem eP.kp {a:nP} (h:eP 99 c K v H x W e p) (F:i<2) (J:HM c.H c.T c.S c.Y c.M c.tb K H (W.h i) A a) (C:∀b∈foot (W.h i) A,v b=i) (k:Kp (foot (W.h i) A) H H') (G:HM c.H c.T c.S c.Y c.M c.tb K H' (W.h i) {A with st:=st} y) (O:HI y e.n p'.q p'.m p'.N) (l:p.le p'):eP 99 c K v H' x W e p'/\Fw v v H H':=by
 have f:Fo i v H H':=⟨fun b o q n=>k _ _ q fun m=>n (C b m),fun b o q im=>by
  obtain⟨z,I,_⟩:=J;exact k _ _ q (I.imm q im)⟩
 exact⟨((h.fo f (by omega)).le l).hand F ⟨{A with st:=st},y,G,O,C⟩,Fw.of f (by omega)⟩
theorem eP.tell (h:eP 99 c K ow H x W e p) (ht:H W.td=some (.lst l)) (hl:l'.length<=p'.B) (v:p.le p'):eP 99 c K ow (upd H W.td (.lst l')) x W e p'/\Fw ow ow H (upd H W.td (.lst l')):=by
 obtain⟨i,_⟩:=h.t (by decide);have f:Fo 5 ow H (upd H W.td (.lst l')):=Fo.upd ht oj i;exact⟨((h.fo f (by decide)).le v).told ⟨i,l',aa,hl⟩,Fw.of f (by decide)⟩
theorem eP.say {b:Addr} (h:eP 99 c K ow H x W e p) (ht:H W.td=some (.lst lt)) (hn:H b=none) (z:p.le p') (hl:lt.length<p'.B) (v:V):upd H b o W.td=some (.lst lt)/\eP 99 c K ow (upd (upd H b o) W.td (.lst (lt++ [v]))) x W e p'/\Fw ow ow H (upd (upd H b o) W.td (.lst (lt++ [v]))):=by
 have s:=aj (o:=o) hn;have y:=s _ _ ht;obtain⟨a1,C⟩:=(h.same s).tell (l':=lt++ [v]) y (by rw[ib];exact hl) z;exact⟨y,a1,(Fw.of (Fo.of (i:=0) s) (by decide)).trans C⟩
theorem eP.gave (h:eP 99 c K ow H x W e p) (y:i<2) (ht:H (W.o i)=some (.lst l)) (hl:l'.length<=p'.B) (z:p.le p'):eP 99 c K ow (upd H (W.o i) (.lst l')) x W e p'/\Fw ow ow H (upd H (W.o i) (.lst l')):=by
 obtain⟨v,_⟩:=h.u i y (by lia);have f:Fo (6+i) ow H (upd H (W.o i) (.lst l')):=Fo.upd ht oj v;exact⟨((h.fo f (by lia)).le z).out y ⟨v,l',aa,hl⟩,Fw.of f (by lia)⟩
theorem eP.comes {ms:List Cm} (h:eP 99 c K ow H x W e p) (J:i<2) (R:RC c.R ow (2+i) H (W.r i) (e.d i) e.g p dx pd pc sn ms) (b:cI (W.r i) H H') (O:H pc'=none) (C:xh c.R H' (W.r i) dx pd pc' (e.d i) sn ms') (lm:ms'.length<=ms.length):∃v,eP 99 c K v H' x W e p/\Fw ow v H H'/\∀b,H b=none->b≠pc'->v b=9:=by
 let v:Addr->Nat:=fun b=>if(H b).isNone then(if b=pc' then 2+i else 9) else ow b;have y:∀b o,H b=some o->v b=ow b:=fun b o q=>de (by rw[q];simp);have P:=h.owd y (y _ _ (h.hx (by decide)));have f:Fo (2+i) v H H':=⟨fun F o q n=>b _ _ q fun z=>n (by rw[y _ _ q,z];exact R.or),fun F o q im=>b _ _ q fun z=>by
  rw[z,R.hr] at q;cases q;exact oo (by simp[cE,yc]) im⟩
 have G:=R.owd y;have e1:v pc'=2+i:=by show(if(H pc').isNone then(if pc'=pc' then 2+i else 9) else ow pc')=_;simp[O]
 refine⟨v,(P.fo f (by lia)).road J (dx:=dx) (pd:=pd) (pc:=pc') (sn:=sn) (ms:=ms') ⟨C.hr,G.or,e1,G.hd.fo f (by lia),C.hc,R.ok,h7 lm R.lm⟩,⟨fun F o q g=>⟨f.1 _ _ q (by rw[y _ _ q];lia),y _ _ q⟩,f.2⟩,fun b I hn=>?_⟩;show(if(H b).isNone then(if b=pc' then 2+i else 9) else ow b)=9;simp[I,hn]
theorem eP.sends {ms:List Cm} (h:eP 99 c K ow H x W e p) (G:i<2) (R:RC c.R ow (2+i) H (W.r i) (e.d i) e.g p dx pd pc sn ms) (b:∀b o,H b=some o->b≠W.r i->b≠pc->H' b=some o) (v:xh c.R H' (W.r i) dx pd pc (e.d i) sn' ms') (y:p.le p') (lm:ms'.length<=p'.L):eP 99 c K ow H' x W e p'/\Fw ow ow H H':=by
 obtain⟨cs,F,_⟩:=R.hc;have f:Fo (2+i) ow H H':=⟨fun C o q n=>b _ _ q (fun z=>n (by rw[z];exact R.or)) (fun z=>n (by rw[z];exact R.oc)),fun C o q im=>b _ _ q (fun z=>by
  rw[z,R.hr] at q;cases q;exact oo (by simp[cE,yc]) im) (fun z=>by rw[z,F] at q;cases q;exact oj im)⟩
 exact⟨((h.fo f (by lia)).le y).road G (dx:=dx) (pd:=pd) (pc:=pc) (sn:=sn') (ms:=ms') ⟨v.hr,R.or,R.oc,R.hd.fo f (by lia),v.hc,R.ok,lm⟩,Fw.of f (by lia)⟩
theorem eP.turn (h:eP 99 c K y H x W e p) (hn:e.n<900000):eP 99 c K y (upd H x (.ins c.W W.dx (gp (.ref W.rds) (.ref e.tm) (.ref W.ded) (.ref W.wl) (.int e.M) (.ref W.hs) (.ref W.os) (.ref W.td) (.int (e.n+1))))) x W {e with n:=e.n+1} p/\Fw y y H (upd H x (.ins c.W W.dx (gp (.ref W.rds) (.ref e.tm) (.ref W.ded) (.ref W.wl) (.int e.M) (.ref W.hs) (.ref W.os) (.ref W.td) (.int (e.n+1))))):=by
 have f:Fo 4 y H (upd H x (.ins c.W W.dx (gp (.ref W.rds) (.ref e.tm) (.ref W.ded) (.ref W.wl) (.int e.M) (.ref W.hs) (.ref W.os) (.ref W.td) (.int (e.n+1))))):=Fo.upd (h.hx (by decide)) (oo (by simp[gp,cM])) h.ox;have g:=h.fo f (by decide);refine⟨{hx:=fun _=>aa,ox:=g.ox,hr:=g.hr,hh:=g.hh,ho:=g.ho,hd:=g.hd,dc:=g.dc,ol:=g.ol,hw:=g.hw,ok:=g.ok,la:=g.la,a:=fun i v _=>?_,b:=fun i v _=>g.b i v (by lia),t:=fun _=>g.t (by decide),u:=fun i v _=>g.u i v (by lia),ot:=g.ot,ht:=g.ht,gd:=g.gd},Fw.of f (by decide)⟩;obtain⟨A,a,z,C,F⟩:=g.a i v (by lia);exact⟨A,a,z,C.turn hn,F⟩
theorem at2 {i:Nat} {f:Nat->α} (v:i<2):kB [f 0,f 1] (i:Int)=some (f i):=by
 rcases i with _|_|i
 ·rfl
 ·rfl
 ·lia
theorem SF (h:kD g dss) (hg:g<=60):(∀d∈t6 dss sn,oJ d.1 d.2.1 d.2.2 60=true)/\(t6 dss sn).length<=3:=by
 unfold t6;split
 ·exact⟨fun d hd=>by rw[hQ.mp hd];decide,by simp⟩
 ·rename_i c;have m0:=C2 sn (show((dss.length:Nat):Int)≠0 by omega);have m1:=L0 sn (show(0:Int)<((dss.length:Nat):Int) by omega);have hl:(sn % (dss.length:Int)).toNat<dss.length:=by omega
  rw[ZT,mu hl,Option.getD_some];have:=h.1 _ (aaa hl);unfold rZ at this;rw[fx,eM,ON] at this;refine⟨fun d hd=>?_,this.1⟩;have q:=this.2 d hd;unfold oJ bO at q⊢;simp only[fx,eM] at q⊢;omega
end
end
mutual
def two {α:Type} (a b:α) (i:Nat):α:=if i=0 then a else b
def XR:Cn:=⟨0,0,1,0,0⟩
structure Cn.ok (p:Cn):Prop where
 q:p.q<=600
 m:p.m<=420
 N:p.N<=930
 L:p.L<64
 B:p.B<=1000000
theorem Cn.ok.of {p:Cn} (h:p'.ok) (l:p.le p'):p.ok:=⟨h7 l.q h.q,h7 l.m h.m,h7 l.N h.N,Nat.lt_of_le_of_lt l.L h.L,h7 l.B h.B⟩
def Cn.come (p:Cn):Cn:={p with q:=p.q+2*p.L,B:=p.B+p.L}
def wn (w:Str):Nat:=if w="put" then 15 else 2
def Cn.wish (p:Cn) (w:Str):Cn:={p with N:=p.N+wn w}
def Cn.rd (p:Cn):Cn:={p with B:=p.B+1001}
def Cn.dow (p:Cn) (w:Str):Cn:={p with N:=p.N+wn w,B:=p.B+1002}
def Cn.snd (p:Cn):Cn:={p with q:=p.q+1,m:=p.m+1,L:=p.L+3,B:=p.B+1}
def Cn.tl (p:Cn):Cn:={p with B:=p.B+1}
def Cn.step (p:Cn) (k:Nat):Cn:=⟨p.q+4*p.L+2,p.m+2,p.N+15*k+4,p.L+6,p.B+2*p.L+1002*k+3000⟩
def fJ (ws:List Ww) (n:Int):Nat:=(ws.filter fun w=>decide (w.1=n)).length
def vS:Sp|vs,H,Q,E=>zqr vs fun c vs=>zqi vs fun lag vs=>zqn vs ( ∃d p r,yI H c d p r/\oJ d p r lag=true/\Q (.bl true) H)
def vR:Sp|vs,H,Q,E=>zqr vs fun x vs=>zqi vs fun lag vs=>zqn vs ( ∃ds,du H x ds/\rZ lag ds=true/\∀H',aA H H'->Q (.bl true) H')
def oK:Sp|vs,H,Q,E=>zqr vs fun x vs=>zqi vs fun lag vs=>zqn vs ( ∃i,ju H x i/\(1<=lag/\lag<=60)/\kD lag i/\∀H',aA H H'->Q .non H')
def yO:Sp|vs,H,Q,E=>zqr vs fun x vs=>zqn vs ( ∃i,ju H x i/\∀p H',aA H H'->yE H H' p i->Q (.ref p) H')
def vU:Sp|vs,H,Q,E=>zqr vs fun x vs=>zqi vs fun n vs=>zqn vs ( ∃i,ju H x i/\∀p H',aA H H'->H p=none->du H' p (if i.length=0 then[(1,0,0)] else i.getD (n % i.length).toNat [])->Q (.ref p) H')
def VZ (v H:Hp) (pd pc:Addr) (i:List (List Cp)):Prop:=v pd=none/\pd≠pc/\∃xs:List Addr,H pd=some (.lst (xs.map V.ref))/\Paired (fun x ds=>v x=none/\x≠pc/\du H x ds) xs i/\i.length<=1000
def jL:Sp|vs,H,Q,E=>zqr vs fun r vs=>zqr vs fun x vs=>zqi vs fun lag vs=>zqn vs ( ∃i dx,ju H x i/\H r=some (.ins bM dx [])/\(1<=lag/\lag<=60)/\kD lag i/\∀H' pd pc,cI r H H'->H pc=none->H' r=some (.ins bM dx (cE (.ref pd) (.int 0) (.ref pc)))->H' pc=some (.lst [])->VZ H H' pd pc i->Q .non H')
noncomputable def WL (turn sn frame:Int) (i:Nat) (d:Cp):Cm:=(turn+d.1,sn,(i:Int),Builtin.bitXor frame (d.2.2*2 ^ d.2.1.toNat))
noncomputable def FW (turn sn frame:Int) (ds:List Cp):List Cm:=ds.mapIdx (WL turn sn frame)
def Zm (r pc:Addr) (H H':Hp):Prop:= ∀b o,H b=some o->b≠r->b≠pc->H' b=some o
def qG:Sp|vs,H,Q,E=>zqr vs fun r vs=>zqi vs fun turn vs=>zqi vs fun frame vs=>zqn vs ( ∃dx pd pc i sn ms,xh bM H r dx pd pc i sn ms/\(∀d∈t6 i sn,oJ d.1 d.2.1 d.2.2 60=true)/\(t6 i sn).length<=3/\ms.length<=900/\∀H',Zm r pc H H'->xh bM H' r dx pd pc i (sn+1) (ms++FW turn sn frame (t6 i sn))->Q (.int sn) H')
theorem bK {xs:List α} {ys:List β} (p:Paired R xs ys) (h:∀x y,R x y->R' x y):Paired R' xs ys:=bu p h
theorem dq {xs:List α} {ys:List β} (p:Paired R xs ys):xs.length=ys.length:=cb p
theorem kj {ys:List β} {i:Nat} {x:α} (p:Paired R xs ys) (h:xs[i]?=some x):∃y,ys[i]?=some y/\R x y:=jd p h
def Y5 (H:Hp) (c:Addr) (m:Int×Int):Prop:=H c=some (.tup [.int m.1,.int m.2])
def Y4 (H:Hp) (p:Addr) (ms:List (Int×Int)):Prop:= ∃cs:List Addr,H p=some (.lst (cs.map V.ref))/\Paired (Y5 H) cs ms
def Sy (turn:Int) (ms:List Cm):List Cm:=ms.filter fun m=>decide (m.1<=turn)
def Ti (turn:Int) (ms:List Cm):List Cm:=ms.filter fun m=>decide (turn<m.1)
def Fq (ms:List Cm):List (Int×Int):=ms.map fun m=>(m.2.1,m.2.2.2)
def Y_ (ms:List Cm):Prop:= ∀(i:Nat) a b,ms[i]?=some a->ms[i+1]?=some b->Tr b a=false
def V0 (ms i:List Cm):Prop:=i.Perm ms/\(Y_ ms->i=ms)
def qH:Sp|vs,H,Q,E=>zqr vs fun r vs=>zqi vs fun turn vs=>zqn vs ( ∃dx pd pc v sn ms,xh bM H r dx pd pc v sn ms/\ms.length<=1000/\(Sy turn ms).length<64/\∀H' i p x,cI r H H'->H i=none->xh bM H' r dx pd i v sn (Ti turn ms)->V0 (Sy turn ms) x->H p=none->p≠i->Y4 H' p (Fq x)->Q (.ref p) H')
def sV:Sp|vs,H,Q,E=>zqs vs fun k vs=>zqv vs fun v vs=>zqn vs (xq k v=true/\∀H',aA H H'->Q (.bl true) H')
def vN:Sp|vs,H,Q,E=>zqr vs fun x vs=>zqn vs ( ∃w,Qp H x w/\fE w=true/\∀H',aA H H'->Q (.bl true) H')
def kW:Sp|vs,H,Q,E=>zqr vs fun p vs=>zqn vs ( ∃ws,qk H p ws/\(ws.length<=60/\∀w∈ws,fE w=true)/\∀H',aA H H'->Q .non H')
def kU:Sp|vs,H,Q,E=>zqr vs fun p vs=>zqn vs ( ∃ws,qk H p ws/\∀M H',aA H H'->TU ws M->Q (.int M) H')
noncomputable abbrev uW:Cl:=⟨bp,bM,aI,cV,aC,bI,aY,d7,tbl⟩
def jJ (K:W.Frag):Sp|vs,H,Q,E=>zqr vs fun x vs=>zqr vs fun tm vs=>zqr vs fun rd vs=>zqr vs fun wi vs=>zqn vs ( ∃dx r o t g f l pa pb i db ws,H x=some (.ins bp dx [])/\Dc d7 H tm r o t g f l/\good r o t g f l/\H rd=some (.tup [.ref pa,.ref pb])/\ju H pa i/\ju H pb db/\(kD g i/\kD g db)/\qk H wi ws/\(ws.length<=60/\∀w∈ws,fE w=true)/\∀v W M H',cI x H H'->eP 99 uW K v H' x W ⟨tm,r,two o t,g,f,l,two i db,ws,M,0⟩ XR->(∀b u,H b=some u->b≠x->b≠tm->v b=9)->Q .non H')
def jI (K:W.Frag):Sp|vs,H,Q,E=>zqr vs fun x vs=>zqi vs fun side vs=>zqn vs ( ∃i:Nat,∃y W e p,(i<2/\side=i)/\eP 99 uW K y H x W e p/\p.come.ok/\∀v H',eP 99 uW K v H' x W e p.come->Fw y v H H'->Q .non H')
def qA (K:W.Frag):Sp|vs,H,Q,E=>zqr vs fun x vs=>zqi vs fun side vs=>zqs vs fun w vs=>zqv vs fun v vs=>zqn vs ( ∃i:Nat,∃z W e p,(i<2/\side=i)/\eP 99 uW K z H x W e p/\p.ok/\xq w v=true/\∀s y H',eP 99 uW K y H' x W e (p.wish w)->Fw z y H H'->Q (.str s) H')
def jH (K:W.Frag):Sp|vs,H,Q,E=>zqr vs fun x vs=>zqi vs fun side vs=>zqi vs fun m vs=>zqn vs ( ∃i:Nat,∃y W e p,(i<2/\side=i)/\eP 99 uW K y H x W e p/\p.ok/\(0<=m/\m<=1000)/\∀v H',eP 99 uW K v H' x W e p.rd->Fw y v H H'->Q .non H')
def k8 (K:W.Frag):Sp|vs,H,Q,E=>zqr vs fun x vs=>zqi vs fun side vs=>zqs vs fun w vs=>zqv vs fun v vs=>zqn vs ( ∃i:Nat,∃z W e p,(i<2/\side=i)/\eP 99 uW K z H x W e p/\(p.dow w).ok/\xq w v=true/\∀y H',eP 99 uW K y H' x W e (p.dow w)->Fw z y H H'->Q .non H')
def mI (K:W.Frag):Sp|vs,H,Q,E=>zqr vs fun x vs=>zqi vs fun side vs=>zqn vs ( ∃i:Nat,∃v W e p,(i<2/\side=i)/\eP 99 uW K v H x W e p/\∀u,0<=u->u<=16->Q (.int u) H)
def k7 (K:W.Frag):Sp|vs,H,Q,E=>zqr vs fun x vs=>zqi vs fun side vs=>zqn vs ( ∃i:Nat,∃y W e p,(i<2/\side=i)/\eP 99 uW K y H x W e p/\(p.dow "end").ok/\∀v H',eP 99 uW K v H' x W e (p.dow "end")->Fw y v H H'->Q .non H')
def jG (K:W.Frag):Sp|vs,H,Q,E=>zqr vs fun x vs=>zqi vs fun side vs=>zqn vs ( ∃i:Nat,∃y W e p,(i<2/\side=i)/\eP 99 uW K y H x W e p/\p.snd.ok/\∀v H',eP 99 uW K v H' x W e p.snd->Fw y v H H'->Q .non H')
def hX (K:W.Frag):Sp|vs,H,Q,E=>zqr vs fun x vs=>zqi vs fun side vs=>zqn vs ( ∃i:Nat,∃y W e p,(i<2/\side=i)/\eP 99 uW K y H x W e p/\p.tl.ok/\∀v H',eP 99 uW K v H' x W e p.tl->Fw y v H H'->Q .non H')
def qB (K:W.Frag):Sp|vs,H,Q,E=>zqr vs fun x vs=>zqn vs ( ∃v W e p,eP 99 uW K v H x W e p/\(p.step (fJ e.ws e.n)).ok/\e.n<=100000/\∀i H',eP 99 uW K i H' x W {e with n:=e.n+1} (p.step (fJ e.ws e.n))->Fw v i H H'->Q .non H')
def dec (n:Int):Str:=Str.ofString (toString n)
theorem PX (h:0<=n) (k:Nat) (hk:0<k) (i:n<10 ^ k):(dec n).length<=k:=PyProof.Rows.toString_length_le h hk i
theorem uF {b:Str} (h:a.cps.toList=b.cps.toList):a=b:=by
 cases a;cases b;congr 1;exact Array.toList_inj.mp h
theorem oq (g:Str):∀(r:List Str) (acc:Array Nat),r.foldl (fun acc p=>acc++g.cps++p.cps) acc=acc++(r.foldl (fun a p=>a++g.cps++p.cps) #[])
 | [],acc=>by simp
 |p::r,acc=>by
  rw[List.foldl_cons,oq g r,List.foldl_cons,oq g r (#[]++g.cps++p.cps)];simp
theorem F8 (g:Str):∀ws:List Str,Txt.join g ws=Str.join g ws
 | []=>rfl
 | [w]=>rfl
 |w::x::r=>by
  have i:=F8 g (x::r);have e1:Txt.join g (x::r)=⟨r.foldl (fun acc p=>acc++g.cps++p.cps) x.cps⟩:=rfl;have e2:Txt.join g (w::x::r)=⟨(x::r).foldl (fun acc p=>acc++g.cps++p.cps) w.cps⟩:=rfl;rw[e1] at i;rw[e2,List.foldl_cons];show _=(w++g)++Str.join g (x::r);rw[<-i];refine uF ?_;rw[ZN,ZN];show(r.foldl _ (w.cps++g.cps++x.cps)).toList=(w.cps++g.cps++r.foldl _ x.cps).toList;rw[oq g r (w.cps++g.cps++x.cps),oq g r x.cps];simp
theorem mZ (g a b:Str) (r:List Str):Txt.join g (a::b::r)=a++g++Txt.join g (b::r):=by
 rw[F8,F8];rfl
theorem Ef (g a:Str):Txt.join g [a]=a:=rfl
theorem join_le (g:Str):∀ws:List Str,(Txt.join g ws).length<=(ws.map (·.length)).sum+ws.length*g.length
 | []=>lp _
 | [a]=>by rw[Ef];simp
 |a::b::r=>by
  have i:=join_le g (b::r);rw[mZ,ZZ,ZZ];simp only[K5,List.sum_cons,nS,Nat.succ_mul] at i⊢;lia
theorem IZ:∀{ws:List Str},(∀w∈ws,w.length<=B)->(ws.map (·.length)).sum<=ws.length*B
 | [],_=>by simp
 |w::r,h=>by
  have v:=h w (by simp);have i:=IZ (ws:=r) fun x hx=>h x (by simp[hx]);simp only[K5,List.sum_cons,nS,Nat.succ_mul];lia
theorem p_ (h:∀w∈ws,w.length<=B):(Txt.join g ws).length<=ws.length*(B+g.length)/\(ws.map (·.length)).sum+ws.length*g.length<=ws.length*(B+g.length):=by
 have i:=join_le g ws;have v:=IZ h;rw[Nat.mul_add];lia
theorem KZ (a g:Str):∀ws:List Str,Txt.join g (a::ws)=a++Txt.join "" (ws.map fun w=>g++w)
 | []=>by
  rw[Ef];exact uF (by rw[ZN];simp;rfl)
 |b::r=>by
  have i:=KZ b g r;rw[mZ,i];have e:Txt.join "" ((b::r).map fun w=>g++w)=g++b++Txt.join "" (r.map fun w=>g++w):=by
   cases r with
   |nil=>
    show g++b=g++b++Str.ofString "";exact uF (by rw[ZN _ ""];simp;rfl)
   |cons c r=>rw[K5,K5,mZ];exact uF (by simp only[ZN,Array.toList_append];simp;rfl)
  rw[e];exact uF (by simp only[ZN,Array.toList_append,List.append_assoc])
noncomputable def cwd (c:Cp):Str:=Txt.join "," [dec c.1,dec c.2.1,dec c.2.2]
noncomputable def dwd (ds:List Cp):Str:=if ds.length=0 then "-" else Txt.join "+" (ds.map cwd)
noncomputable def rrow (s:Int) (i:List (List Cp)):Str:=Txt.join " " ("road" ::dec s::i.map dwd)
noncomputable def vwd:V->List Str
 | .int i=>[dec i]
 | .str z=>[z]
 |_=>[]
noncomputable def wrow (w:Ww):Str:=Txt.join " " ("wish" ::dec w.1::dec w.2.1::w.2.2.1::vwd w.2.2.2)
noncomputable def trow (r o t g f l:Int):Str:=Txt.join " " ("terms" :: [r,o,t,g,f,l].map dec)
noncomputable def krow (r o t g f l:Int) (i db:List (List Cp)) (ws:List Ww) (n:Int):List Str:=trow r o t g f l::rrow 0 i::rrow 1 db::(ws.map wrow++ [Txt.join " " ["turn",dec n]])
theorem J2 {c:Cp} (h:oJ c.1 c.2.1 c.2.2 g=true) (hg:g<=60):∀n∈[c.1,c.2.1,c.2.2],0<=n/\n<1000000000:=by
 unfold oJ bO at h;simp only[fx,eM] at h;intro n hn;simp only[fy,hL,wh] at hn;omega
theorem vo (h:0<=n/\n<1000000000):(dec n).length<=9:=PX h.1 9 (by decide) (by lia)
theorem J1 (h:oJ c.1 c.2.1 c.2.2 g=true) (hg:g<=60):(cwd c).length<=30:=by
 have k:=J2 h hg;have:=(p_ (g:=",") (B:=9) (ws:=[dec c.1,dec c.2.1,dec c.2.2]) (fun w hw=>by
  simp only[fy,hL,wh] at hw;rcases hw with rfl|rfl|rfl
  ·exact vo (k _ (by simp))
  ·exact vo (k _ (by simp))
  ·exact vo (k _ (by simp)))).1
 exact this
theorem Gs (h:rZ g ds=true):ds.length<=3/\∀d∈ds,oJ d.1 d.2.1 d.2.2 g=true:=by
 unfold rZ at h;rw[fx,eM,ON] at h;exact h
theorem JZ (h:rZ g ds=true) (hg:g<=60):(dwd ds).length<=93:=by
 obtain⟨v,i⟩:=Gs h;unfold dwd;split
 ·decide
 ·have:=(p_ (g:="+") (B:=30) (ws:=ds.map cwd) (fun w hw=>by
   obtain⟨d,hd,rfl⟩:=h8.mp hw;exact J1 (i d hd) hg)).1
  rw[cz] at this;have e:(Str.ofString "+").length=1:=by decide
  rw[e] at this;lia
theorem Fd (hs:0<=s/\s<1000000000) (h:kD g dss) (hg:g<=60):(rrow s dss).length<=6000/\((("road":Str)::dec s::dss.map dwd).map (·.length)).sum+(("road":Str)::dec s::dss.map dwd).length*(Str.ofString " ").length<=6000:=by
 have:=p_ (g:=" ") (B:=93) (ws:="road" ::dec s::dss.map dwd) (fun w hw=>by
  rcases fy.mp hw with rfl|hw
  ·decide
  rcases fy.mp hw with rfl|hw
  ·have:=vo hs;lia
  obtain⟨d,hd,rfl⟩:=h8.mp hw;exact JZ (h.1 d hd) hg)
 have e:(Str.ofString " ").length=1:=by decide
 have l:=h.2;simp only[nS,cz,e] at this⊢;unfold rrow;lia
theorem IQ (h:fE w=true):(0<=w.1/\w.1<1000000000)/\(0<=w.2.1/\w.2.1<1000000000)/\w.2.2.1.length<=5/\∀z∈vwd w.2.2.2,z.length<=60:=by
 unfold fE bO at h;simp only[fx,eM] at h;obtain⟨⟨I,G⟩,i⟩:=h;refine⟨by lia,by lia,?_⟩;unfold xq at i;split at i
 ·rename_i c;rw[c];refine⟨by decide,?_⟩;split at i
  ·rename_i z e;rw[e];intro y x;rw[show y=z from hQ.mp x];unfold iI at i;simp only[fx,eM] at i;lia
  ·cases i
 ·split at i
  ·rename_i c;rw[c];refine⟨by decide,?_⟩;split at i
   ·rename_i z e;rw[e];intro y x;rw[show y=dec z from hQ.mp x];unfold bO at i;simp only[fx,eM] at i;have:=vo (n:=z) (by lia);lia
   ·cases i
  ·rw[fx,aaz,eM,eM,eM] at i;obtain⟨v,C⟩:=i;rw[C];refine⟨?_,fun z F=>by cases F⟩;rcases v with v|v<;>rw[v]<;>decide
theorem QC (v:V):(vwd v).length<=1:=by cases v<;>simp[vwd]
theorem EV (h:fE w=true):(wrow w).length<=400/\((("wish":Str)::dec w.1::dec w.2.1::w.2.2.1::vwd w.2.2.2).map (·.length)).sum+(("wish":Str)::dec w.1::dec w.2.1::w.2.2.1::vwd w.2.2.2).length*(Str.ofString " ").length<=400:=by
 obtain⟨x,v,F,y⟩:=IQ h;have C:=QC w.2.2.2;have:=p_ (g:=" ") (B:=60) (ws:="wish" ::dec w.1::dec w.2.1::w.2.2.1::vwd w.2.2.2) (fun z i=>by
  rcases fy.mp i with rfl|i
  ·decide
  rcases fy.mp i with rfl|i
  ·have:=vo x;lia
  rcases fy.mp i with rfl|i
  ·have:=vo v;lia
  rcases fy.mp i with rfl|i
  ·lia
  exact y z i)
 have e:(Str.ofString " ").length=1:=by decide
 simp only[nS,e] at this⊢;unfold wrow;lia
theorem QJ (h:∀n∈[r,o,t,g,f,l],0<=n/\n<1000000000):(trow r o t g f l).length<=70:=by
 have:=(p_ (g:=" ") (B:=9) (ws:="terms" :: [r,o,t,g,f,l].map dec) (fun w hw=>by
  rcases fy.mp hw with rfl|hw
  ·decide
  obtain⟨n,hn,rfl⟩:=h8.mp hw;exact vo (h n hn))).1
 exact this
theorem QI (h:0<=n/\n<1000000000):(Txt.join " " ["turn",dec n]).length<=20:=by
 have:=(p_ (g:=" ") (B:=9) (ws:=["turn",dec n]) (fun w hw=>by
  simp only[fy,hL,wh] at hw;rcases hw with rfl|rfl
  ·decide
  exact vo h)).1
 exact this
theorem KW (h:∀n∈[r,o,t,g,f,l],0<=n/\n<1000000000) (ha:kD g da) (x:kD g db) (hg:g<=60) (hw:ws.length<=60/\∀w∈ws,fE w=true) (hn:0<=n/\n<1000000000):((krow r o t g f l da db ws n).map (·.length)).sum+(krow r o t g f l da db ws n).length*(Str.ofString "\n").length<=1000000:=by
 have:=(p_ (g:=Str.ofString "\n") (B:=6000) (ws:=krow r o t g f l da db ws n) (fun w i=>by
  unfold krow at i;rcases fy.mp i with rfl|i
  ·have:=QJ h;lia
  rcases fy.mp i with rfl|i
  ·exact(Fd (by lia) ha hg).1
  rcases fy.mp i with rfl|i
  ·exact(Fd (by lia) x hg).1
  rcases Zy.mp i with i|i
  ·obtain⟨z,v,rfl⟩:=h8.mp i;have:=(EV (hw.2 z v)).1;lia
  ·rw[hQ.mp i];have:=QI hn;lia)).2
 have e:(Str.ofString "\n").length=1:=by decide
 have el:(krow r o t g f l da db ws n).length=ws.length+4:=by unfold krow;simp
 rw[e,el] at this⊢;have:=hw.1;lia
def wide (r o t g f l:Int):Prop:=good r o t g f l/\¬r<zo o t g
def iJ:Sp|vs,H,Q,E=>zqs vs fun z vs=>zqr vs fun p vs=>zqn vs ( ∃ns:List Int,H p=some (.lst (ns.map V.int))/\(∀n∈ns,0<=n/\n<1000000000)/\ns.length<=100/\z.length<=100/\∀H',aA H H'->Q (.str (Txt.join " " (z::ns.map dec))) H')
def kR:Sp|vs,H,Q,E=>zqr vs fun x vs=>zqn vs ( ∃r o t g f l,Dc d7 H x r o t g f l/\good r o t g f l/\∀H',aA H H'->Q (.str (trow r o t g f l)) H')
def kQ:Sp|vs,H,Q,E=>zqr vs fun c vs=>zqn vs ( ∃d:Cp,∃g,yI H c d.1 d.2.1 d.2.2/\oJ d.1 d.2.1 d.2.2 g=true/\g<=60/\∀H',aA H H'->Q (.str (cwd d)) H')
def kP:Sp|vs,H,Q,E=>zqr vs fun x vs=>zqn vs ( ∃ds g,du H x ds/\rZ g ds=true/\g<=60/\∀H',aA H H'->Q (.str (dwd ds)) H')
def mH:Sp|vs,H,Q,E=>zqi vs fun s vs=>zqr vs fun p vs=>zqn vs ( ∃i g,ju H p i/\kD g i/\g<=60/\(s=0\/s=1)/\∀H',aA H H'->Q (.str (rrow s i)) H')
def mG:Sp|vs,H,Q,E=>zqr vs fun x vs=>zqn vs ( ∃w,Qp H x w/\fE w=true/\∀H',aA H H'->Q (.str (wrow w)) H')
def E4 (K:W.Frag):Sp|vs,H,Q,E=>zqr vs fun x vs=>zqn vs ( ∃i W e p,eP 99 uW K i H x W e p/\(0<=e.n/\e.n<1000000)/\∀H',aA H H'->Q (.str (Txt.join "\n" (krow e.r (e.k 0) (e.k 1) e.g e.f e.l (e.d 0) (e.d 1) e.ws e.n))) H')
def kZ (K:W.Frag):Sp|vs,H,Q,E=>zqr vs fun a vs=>zqi vs fun k vs=>zqn vs ( ∃ns:List Int,bC K H a (ns.map V.int)/\0<=k/\∀n,Q (.int n) H)
def oM:Sp|vs,H,Q,E=>zqi vs fun c vs=>zqi vs fun k vs=>zqn vs (0<=k/\∀v,0<=v->v<2147483648->Q (.int v) H)
def qw:Sp|vs,H,Q,E=>zqi vs fun c vs=>zqi vs fun n vs=>zqn vs ((0<=n/\n<=100)/\∀z H',aA H H'->(z.length:Int)=n->(∀c∈z.cps.toList,c∈sgl)->Q (.str z) H')
def kY:Sp|vs,H,Q,E=>zqi vs fun c vs=>zqi vs fun n vs=>zqn vs ( ∀p r o t g f l H',aA H H'->H' p=some (.lst ([r,o,t,g,f,l].map V.int))->wide r o t g f l->Q (.ref p) H')
def qz:Sp|vs,H,Q,E=>zqi vs fun c vs=>zqi vs fun k vs=>zqi vs fun g vs=>zqn vs ((0<=k/\k<=60)/\(1<=g/\g<=32)/\∀x ds H',aA H H'->H x=none->du H' x ds->rZ g ds=true->Q (.ref x) H')
def oN:Sp|vs,H,Q,E=>zqi vs fun c vs=>zqi vs fun g vs=>zqn vs ((1<=g/\g<=32)/\∀p i H',aA H H'->yE H H' p i->kD g i->Q (.ref p) H')
def qu:Sp|vs,H,Q,E=>zqi vs fun c vs=>zqn vs ( ∀x w H',aA H H'->Qp H' x w->fE w=true->Q (.ref x) H')
def jE:Sp|vs,H,Q,E=>zqr vs fun x vs=>zqn vs ( ∃ds g,du H x ds/\rZ g ds=true/\g<=60/\∀H',aA H H'->Q (.str (dwd ds)) H')
def qy:Sp|vs,H,Q,E=>zqr vs fun pn vs=>zqr vs fun pr vs=>zqr vs fun pw vs=>zqi vs fun n vs=>zqn vs ( ∃r o t g f l i db ws v x,H pn=some (.lst ([r,o,t,g,f,l].map V.int))/\wide r o t g f l/\H pr=some (.lst [.ref v,.ref x])/\ju H v i/\ju H x db/\(kD g i/\kD g db)/\qk H pw ws/\(ws.length<=60/\∀w∈ws,fE w=true)/\(0<=n/\n<=100)/\∀p H',aA H H'->H' p=some (.lst ((krow r o t g f l i db ws n).map V.str))->Q (.ref p) H')
def qv (K:W.Frag):Sp|vs,H,Q,E=>zqr vs fun pn vs=>zqr vs fun pr vs=>zqr vs fun pw vs=>zqn vs ( ∃r o t g f l i db ws y v C,H pn=some (.lst ([r,o,t,g,f,l].map V.int))/\wide r o t g f l/\H pr=some (.lst [.ref y,.ref v,.ref C])/\ju H y i/\ju H v db/\(kD g i/\kD g db)/\qk H pw ws/\(ws.length<=60/\∀w∈ws,fE w=true)/\∀x z W M tm H',aA H H'->eP 99 uW K z H' x W ⟨tm,r,two o t,g,f,l,two i db,ws,M,0⟩ XR->(∀b u,H b=some u->z b=9)->Q (.ref x) H')
set_option backward.eqns.nonrecursive true
local macro_rules | `(tactic| exists $es,*) => do
  let l := ("zqr zqi zqs zqv zqn T7 Ta II Zb EY tC G1 ou T6 Ki QP BM tB Wi Wl Zd G0 rG yM V3 IY Tf Tc Ze NN Zc Kh Tb Q_ Uq Ul XG Mo D9 Md Mc Q6 Q7 Q5 Q3 Q4 L8 L_ Jf Uo Um QQ Wk QG QF Hh N3 Oe Of NM LK LJ LI LN IW IV LX LW LV J4 Ov N2 Je Hc Fh L6 T5 Ua Zr Yv JS Pr YT T2 I_ NV Option.join_some Yi Qm VM Vz Lake.start List.map_cons List.map_nil List.length_cons List.length_nil List.replicate_zero List.replicate_succ List.append_nil List.nil_append List.cons_append List.getElem?_cons_zero List.getElem?_cons_succ List.set_cons_zero List.set_cons_succ decide_eq_true_eq Bool.not_eq_true' decide_eq_false_iff_not if_true if_false Bool.false_eq_true true_and and_true Bool.not_false Int.reduceLT Int.reduceLE Int.reducePow Int.reduceToNat Int.reduceAdd Int.reduceSub Int.reduceMul Int.reduceNeg Nat.reducePow Nat.reduceLT Nat.reduceLeDiff true_or or_true Int.reduceEq and_self Nat.reduceAdd Nat.reduceSub reduceCtorEq not_true_eq_false not_false_eq_true vQ vP qr sW qo gD h_ gC kX jD vV vK sX vL sU vM vT kT E2 E3 qt qp iK iN iM mL oU jM jN yN jF gw gx hV fX k6 oS mK lg dh gy fw eQ fM fz gz gB gA ia eS jK eT qE lh ie BS iL hZ d8 oQ k_ oR ig yP qC k9 oO vW qD oP vO jQ qK Dh oV s_ s9 qJ jO lj qL kS qM jP qI vS vR oK yO vU jL qG qH sV vN kW kU jJ jI qA jH k8 mI k7 jG hX qB iJ kR kQ kP mH mG E4 kZ oM qw kY qz oN qu jE qy qv Kj Kq Tg NK NL Oi LZ Mn Q2 VA aa QD Lake.Vx tY Ic Aj JW CD CC CB CA Gg Gh CL CK CJ Gp Gq Gn Ie Dy Dx Dw HX HY HW JU Bn Bm Bl Bk Bj Bi Bh Bg zG zF DC DE DB yd CI CG CF Gj Gm Gi Ib DK DJ DI DH DG DF Ii Ij Ig JX DA Dz H_ Ia HZ JV NP Oo VJ VL Mm XM NZ Mj XJ NO Od Vj Ml VG Wj NJ Zq Zf VU VV NX LL L9 Td S_ L7 Jc MP yS IX Wh Yx Zg WV WW NQ T_ T9 Ends.un QO EZ NY Te Mi VB VC XE Vw Om N6 Ol N5 M0 TY Me Oc Nc Sn So Ub Jh XF Hg Ja Hf uI N_ N9 K3 F9 ER IC TN TM XZ XY Mb Ma O5 O4 Mg Q9 Q8 Pd Pe Vy".splitOn " ").toArray.map fun n => (⟨Lean.mkIdent n.toName⟩ : Lean.TSyntax `term)
  let l := l ++ es.getElems
  `(tactic| first|(refine (?f:(?a=?b)->?a) ?e;(case e=>(dsimp only[$[$l:term],*];try exact rfl));refine fun h=>(?_:?b);clear h;try simp only[$[$l:term],*])|simp only[$[$l:term],*])
local macro_rules | `(tactic| exists 9) => `(tactic| exists true_and)
end
section
mutual
variable {P:Program} {w:World} {K:W.Frag} {mg:Str->Option Value} {base:Heap}
variable (T:Txt K mg)
set_option hygiene false in
local macro_rules | `(tactic| exists 8) => `(tactic| ((repeat ((first|refine zqre h ?_|refine zqie h ?_|refine zqse h ?_|refine zqve h ?_);clear h vs;intro _ vs h));refine zqne h ?_;clear h vs;intro h))
set_option hygiene false in
local macro_rules
 | `(tactic| exists 3, $a, $b, $d:ident) => `(tactic| (refine $a ($b).1 ($b).2 (fun vs H Q E h=>?_) fun f cdv A outer s H vs Q E HR h=>?_;(unfold $d at h;exists 8;rfl);unfold $d at h;exists 8))
 | `(tactic| exists 0, $a, $b, $d:ident) => `(tactic| exists 3, ($a).fn, $b, $d:ident)
 | `(tactic| exists 1, $a, $b, $d:ident) => `(tactic| exists 3, ($a).fnX, $b, $d:ident)
set_option hygiene false in
local macro_rules
 | `(tactic| exists 6, $u:ident) => let h := Lean.mkIdent (.mkSimple ("h_" ++ u.getId.toString)); `(tactic| generalize $h:ident : pC _ = $u)
 | `(tactic| exists 7, $u:ident) => let h := Lean.mkIdent (.mkSimple ("h_" ++ u.getId.toString)); `(tactic| rw[<- $h:ident,pC])
 | `(tactic| exists 0, $a, $b, $d:ident, $t) => `(tactic| (exists 0, $a, $b, $d; refine⟨_, $t, ?_⟩))
 | `(tactic| exists 1, $a, $b, $d:ident, $t) => `(tactic| (exists 1, $a, $b, $d; refine⟨_, $t, ?_⟩))
 | `(tactic| exists 8, $u:ident, $v:ident) => `(tactic| (exists 7, $u; exists 6, $v))
theorem b7:OF P w base T.EB wc 1 vQ:=by
 exists 0,T.EB,wc,vQ,(ah (ar (cD (aD (ku K rfl) (by rfl) T.cN cw (bP (pv 0) (vv rfl T.XW VQ))) (cD (OE (aD (ku K rfl) (by rfl) T.cN cw (bP (pv 0) (vv rfl T.VT SM)))) (kh (Hm xK xK (pv 1) (pv 0) (pv 2)))))));rename_i v l i;exists 9;unfold bO at h;by_cases c:l<=v
 ·rw[dy c];simpa only[c,decide_true,L5] using h
 ·rw[de c];simpa only[c,decide_false,ZO] using h
theorem Jt:OF P w base T.EA jR 2 vP:=by
 exists 0,T.EA,jR,vP,(ae (aQ (eZ (mq (aD (ku K rfl) (by rfl) T.cN cw (bP (pv 0) (vv rfl T.rC nJ))))) (ah (ar gr)) aB)
 (ae (ay 1 jR.1.nd af)
 (ae (cJ j0 rfl (aR K rfl (pv 0)) (aw 2 jR.1.nd) (ae (aQ (eZ (mq (aF (b7 T) HR (aZ (pv 2) (bP (aE K (pv 1) af) (bw rfl T.AL)))))) (ah (ar gr)) aB)
 (ah (ay 1 jR.1.nd (pv 2)))))
 (ah (ar gr)))))
 rename_i hh;obtain⟨hs,y,hl,q⟩:=h;exists 9;refine BE y ⟨true,rfl,?_⟩;rw[de (by decide)];refine Cz (c6.of y) (fun i σ H'=>H'=H/\∃l v,Held.gZ 0 hs=Held.gZ l (hs.drop i)/\σ= [some (.ref hh),some (.int l),v]) ⟨rfl,0,none,by rw[List.drop_zero],rfl⟩ (fun i σ H' _ hp=>by rw[hp.1];exact c6.of y) (fun i x σ H' hx hp=>?_) (fun σ H' hp=>?_)
 ·obtain⟨rfl,l,v,e,rfl⟩:=hp;obtain⟨c,rfl,hc⟩:=tL hx;have e2:Held.gZ 0 hs=(bO c (l+1) 15&&Held.gZ c (hs.drop (i+1))):=Held.JP hc e;exists 9;refine NR (fun z=>?_) (fun z=>?_)
  ·rw[e2,z,ZO] at q;exact q
  ·rw[z,L5] at e2;exact⟨c,_,e2,rfl⟩
 ·obtain⟨rfl,l,v,e,rfl⟩:=hp;rw[cz,List.drop_length] at e;exists 9;rw[e] at q;exact q
theorem Fu:OF P w base T.Am qP 1 qr:=by
 exists 0,T.Am,qP,qr,(ae (aQ (wu K HR (pv 0) aG) (ah (ar (d5 (uO K rfl HR.units) (pv 1) aG))) aB)
 (ae (aQ (PW.pt (pw_or (eZ (mq (aD (ku K rfl) (by rfl) T.cN cw (bP (pv 1) (vv rfl T.mi gP))))) (pw_or1 (eZ (Hj xK xK af (aD (dO K rfl) (by rfl) T.gv dH (bj (pv 1))) (bw rfl T.mC)))))) (ah (ar gr)) aB)
 (ah (ar (aD (uU K rfl rfl) (by rfl) T.Lr GH (bj (bL (N:=(["sign"]:List Str)) (nv:=1) (ix:=[]) rfl (c9 (by kernel_rfl)) (aR K rfl (pv 1)) (fun _ _ _ _ _=>(aw 0 (show((["sign"]:List Str)).Nodup by decide))) (fun _ _ _ _ _=>cj) (fun _ _ _ _ _=>(xI (B_ K rfl) (pv 0) (bw rfl T.yy) (jh rfl))))))))))
 rename_i k i;obtain⟨hl,q⟩:=h;exists 9;unfold tf at q;split
 ·rename_i c;rw[de c] at q;exact q _ (aA.refl _)
 ·rename_i c;rw[dy (Decidable.not_not.mp c)] at q;refine⟨ax hl,?_⟩;split
  ·rename_i z;split
   ·rename_i y;have:decide (i.length<=4)=false:=gk (by lia);simp only[this,Bool.and_false,ZO] at q;exact q _ (aA.refl _)
   ·rename_i y;have e1:decide (1<=i.length)=true:=n9 (by lia);have e2:decide (i.length<=4)=true:=n9 (by lia);simp only[e1,e2,L5] at q;refine P7 (p:=fun _=>true) (f:=fun x=> .bl (Ph x)) (ax hl) (fun x _ Q h=>h) (fun x hx _ Q h=>?_) ?_
    ·obtain⟨n,_,rfl⟩:=h8.mp hx;exists 9;exact h
    ·have e3:((fA i).filter fun _=>true)=fA i:=Z2.mpr fun _ _=>rfl;have e4:(fA i).length=i.length:=by simp[fA,Str.length]
     rw[e3];refine⟨ax (by rw[cz,e4];exact hl),fun l v=>⟨(fA i).map Ph,bC.of ?_,?_⟩⟩
     ·rw[aa,FX];rfl
     ·rw[List.all_map];exact q _ (aj v)
  ·rename_i z;have e1:decide (1<=i.length)=false:=gk (by lia);simp only[e1,ZO] at q;exact q _ (aA.refl _)
theorem Aa:OF P w base T.CZ nT 3 sW:=by
 exists 0,T.CZ,nT,sW,(ae (aQ (PW.pt (pw_or (eZ (mq (aD (ku K rfl) (by rfl) T.cN cw (bP (pv 0) (vv rfl T.rC nJ))))) (pw_or1 (wu K HR (aD (dO K rfl) (by rfl) T.gv dH (bj (pv 0))) af)))) (ah (ar gr)) aB)
 (ae (ay 1 nT.1.nd (bq K (pv 0) af))
 (ah (ar (cD (xI (B_ K rfl) (pv 1) (ek K rfl rfl T.BJ) (jh rfl)) (cD (aF (b7 T) HR (aZ (bq K (pv 0) af) (bP af (gV (BA (B_ K rfl) (pv 1) (ek K rfl rfl T.GB) (jh rfl)) af (bw rfl T.vH))))) (cD (aF (b7 T) HR (aZ (bq K (pv 0) af) (bP af (bw rfl T.vH)))) (cD (aF (b7 T) HR (aZ (bq K (pv 0) af) (bP af (bw rfl T.xc)))) (cD (aF (Jt T) HR (bj (bq K (pv 0) af))) (kh (aF (Fu T) HR (bP (pv 1) (bq K (pv 0) af)))))))))))))
 rename_i t;obtain⟨k,n,a,r,hs,X,⟨hh,i,Z,hl,U⟩,q⟩:=h;have y:dX k n a r hs X=false->Q (V.bl false) H:=fun e=>by
  have:=q _ (aA.refl _);rwa [e] at this
 exists 9;refine BE i ⟨true,rfl,?_⟩;rw[de (by decide)];refine⟨_,.inr (c6.of i),?_⟩;rw[de (fun z=>z rfl)];refine bV (c6.of i) rfl ?_;intro a1 G _;refine⟨_,.inr (G _),rfl,rfl,?_⟩;have e0:Du (.str k) rF=Du (.str k) [.str "bare",.str "signs",.str "begin",.str "end",.str "ask"]:=rfl;refine sS (fun v=>y ?_) (fun v=>?_)
 ·simp only[dX,e0,v,ZO]
 refine bV (c6.of i) rfl ?_;intro a2 J _;refine⟨_,.inr (J _),rfl,rfl,?_⟩;split<;>rename_i c<;>(
  refine sS (fun x=>y ?_) (fun x=>?_)
  ·simp only[dX,e0,v,c,x,aax,aas,ite_true,ite_false,L5,ZO,ZV]
  refine bV (c6.of i) rfl ?_;refine sS (fun C=>y ?_) (fun C=>?_)
  ·simp only[dX,e0,v,c,x,C,aax,aas,ite_true,ite_false,L5,ZO,ZV]
  refine bV (c6.of i) rfl ?_;refine sS (fun F=>y ?_) (fun F=>?_)
  ·simp only[dX,e0,v,c,x,C,F,aax,aas,ite_true,ite_false,L5,ZO,ZV]
  refine bV (c6.of i) rfl ?_;refine⟨hs,Z,hl,?_⟩;refine sS (fun I=>y ?_) (fun I=>?_)
  ·simp only[dX,e0,v,c,x,C,F,I,aax,aas,ite_true,ite_false,L5,ZO,ZV]
  refine bV (c6.of i) rfl ?_;refine⟨U,fun H' O=>?_⟩;have:=q H' O;simp only[dX,e0,v,c,x,C,F,I,aax,aas,ite_true,ite_false,L5,ZV] at this;exact this)
theorem xM:OF P w base T.Ak iR 1 qo:=by
 exists 0,T.Ak,iR,qo,(ae (ay 1 iR.1.nd (pv 0))
 (ae (Hl j0 (aS mT (pv 1) (bw rfl T.zW)) (ah (ay 1 iR.1.nd (au OO (pv 1) (au hJ (bw rfl T.Nt) (au fP (Jl K rfl (pv 1)) (bw rfl T.C7)))))))
 (ah (ar (pv 1)))))
 rename_i n;exists 9;obtain⟨⟨C,I⟩,q⟩:=h;refine⟨fun m σ H'=>H'=H/\∃x:Nat,m=x/\(x:Int)<=n/\σ= [some (.int n),some (.int x)],⟨n.toNat,rfl,n.toNat,rfl,by lia,by rw[Int.toNat_of_nonneg C]⟩,?_⟩;rintro x σ H' ⟨rfl,J,rfl,hx,rfl⟩;exists 9;split
 ·rename_i c;obtain⟨k,hk,z,hl⟩:=Uk (n:=x) (by lia);have G:x.log2<400:=(aaS (by lia)).mpr (by lia);refine⟨fun v i=>i=H'/\∃y:Nat,y<x/\v= [some (.int n),some (.int y)],fun v i ⟨e,y,F,es⟩=>⟨y,F,e,y,rfl,by lia,es⟩,?_⟩;exists 9;rw[hk];refine⟨cshl (by lia) (by lia) (by lia) (by decide),x ^^^ (263*2 ^ k),z,?_⟩;have e:(263:Int)*2 ^ ((k:Int)).toNat=((263*2 ^ k:Nat):Int):=by simp
  rw[e,BitI.Qr]
 ·rename_i c;exact q x
theorem ve:OM P w mg base T.nC gJ 1 gD:=by
 exists 0,T.nC,gJ,gD,(ah (xE T.DV T.jC (pv 0) (pv 1)));rename_i e l;obtain⟨he,q⟩:=h;exists he;exact⟨e,rfl,he,q⟩
theorem wD:OM P w mg base T.oC ip 1 h_:=by
 exists 0,T.oC,ip,h_,(ah (xE T.GP T.kN (pv 0) (pv 1)));rename_i e l;obtain⟨he,q⟩:=h;exists he;exact⟨e,rfl,he,q⟩
theorem vd:OM P w mg base T.nB gI 1 gC:=by
 exists 0,T.nB,gI,gC,(ah (xE T.DU T.kO (pv 0) (pv 1)));rename_i e l;obtain⟨he,q⟩:=h;exists he;exact⟨e,rfl,he,q⟩
theorem AY:OF P w base T.uh lD 1 kX:=by
 exists 0,T.uh,lD,kX,(ah (ar (aD (Nk K rfl rfl) (by rfl) T.XU VP (bj (bL (N:=(["step"]:List Str)) (nv:=1) (ix:=[]) rfl (c9 (by kernel_rfl)) (aR K rfl (pv 0)) (fun _ _ _ _ _=>(aw 0 (show((["step"]:List Str)).Nodup by decide))) (fun _ _ _ _ _=>cj) (fun _ _ _ _ _=>(au hJ af (au fP (pv 0) af))))))));rename_i hh;obtain⟨hs,F,z,hl,q⟩:=h;exists 9;have hm:=(Held.zr.mp z).2;refine xb (p:=fun _=>true) (f:=fun v=>match v with | .int i=> .int (1*2 ^ (i-1).toNat)|_=> .non) (c6.of F) (ax (by rw[cz];exact hl)) (fun x _ Q h=>h) (fun x hx _ Q h=>?_) ?_
 ·obtain⟨i,C,rfl⟩:=h8.mp hx;have:=hm i C;exists 9;exact⟨cshl (by lia) (by lia) (by decide) (by decide),h⟩
 ·have e:(((hs.map V.int).filter fun _=>true).map fun v=>match v with | .int i=>V.int (1*2 ^ (i-1).toNat)|_=> .non)=(hs.map fun i=>(1:Int)*2 ^ (i-1).toNat).map V.int:=by
   rw[Z2.mpr (by simp),FX,FX];rfl
  rw[e];refine⟨ax (by rw[cz,cz];exact hl),fun l y=>⟨_,bC.of aa,?_⟩⟩;rw[Ej];exact q _ (aj y)
theorem y2:OF P w base T.r9 c_ 1 jD:=by
 exists 0,T.r9,c_,jD,(ae (ay 1 c_.1.nd af)
 (ae (cJ j0 rfl (aR K rfl (iA K rfl qx PySem.F.slot_str_ljust PySem.F.type_str_ljust OY (pv 0) (bj (bw rfl T.mC)))) (aw 2 c_.1.nd) (ah (ay 1 c_.1.nd (au vw (au hJ (pv 1) af) (iA K rfl qx PySem.F.slot_str_index PySem.F.type_str_index MG (bw rfl T.yy) (bj (pv 2)))))))
 (ah (ar (pv 1)))))
 rename_i v;obtain⟨⟨hl,hm⟩,q⟩:=h;exists 9;obtain⟨y,x⟩:=WQ hl;refine⟨by rw[x];exact ax (by decide),?_⟩;have pm:∀c∈yW v,c∈sgl:=fun c hc=>by
  unfold yW at hc;rcases Zy.mp hc with h|h
  ·exact hm c h
  ·rw[(List.mem_replicate.mp h).2];exact NT
 have sz:(R5 v 4).cps.size=4:=x;refine Vt (fun i σ H'=>H'=H/\∃C,σ= [some (.str v),some (.int (E8 0 ((yW v).take i):Nat)),C]) ⟨rfl,none,by simp[E8]⟩ (fun i c σ H' hc hp=>?_) (fun σ H' hp=>?_)
 ·obtain⟨rfl,C,rfl⟩:=hp;have z:(yW v)[i]?=some c:=by rw[<-y,<-hc];simp
  have I:=pm c (ni z);obtain⟨G,o2,_⟩:=FR I;have J:i<4:=by have:=(Array.getElem?_eq_some_iff.mp hc).1;lia
  have b1:=Km (cs:=(yW v).take i) fun c hc=>pm c (List.mem_of_mem_take hc);have Q:(128:Nat) ^ ((yW v).take i).length<=128 ^ 4:=aau (by decide) (by rw[z1];lia);exists 9;have O:(128:Nat) ^ 4=268435456:=by decide
  refine⟨cshl (by decide) (by decide) (by lia) (by lia),sgn c,[],G,some (.str ⟨#[c]⟩),?_⟩;rw[WI (by lia),ra,z];show[some (V.str v),some (V.int _),some (V.str ⟨#[c]⟩)]= [some (V.str v),some (V.int ((E8 0 ((yW v).take i++ [c]):Nat):Int)),some (V.str ⟨#[c]⟩)];rw[LQ]
 ·obtain⟨rfl,C,rfl⟩:=hp;exists 9;rw[sz,Lo (by rw[<-y];simp;lia)];exact q
theorem Jz:OF P w base T.EG eU 2 vV:=by
 exists 0,T.EG,eU,vV,(ae (ay 1 eU.1.nd (iA K rfl PySem.F.plainAttrs_tuple PySem.F.slot_tuple_index PySem.F.type_tuple_index (JG K rfl) (ek K rfl rfl T.BJ) (bj (bq K (pv 0) af))))
 (ak (ae (ay 1 eU.1.nd (au vw (au hJ (pv 1) af) (bq K (pv 0) af)))
 (ak (ae (ay 1 eU.1.nd (au vw (au hJ (pv 1) af) (bq K (pv 0) af)))
 (ak (ae (ay 1 eU.1.nd (au vw (au hJ (pv 1) af) (bq K (pv 0) af)))
 (ak (ae (ay 1 eU.1.nd (au vw (au hJ (pv 1) af) (aF (AY T) HR (bj (bq K (pv 0) af)))))
 (ak (ae (ay 1 eU.1.nd (au vw (au hJ (pv 1) af) (aD (dO K rfl) (by rfl) T.gv dH (bj (bq K (pv 0) af)))))
 (ak (ah (ar (au vw (au hJ (pv 1) af) (aF (y2 T) HR (bj (bq K (pv 0) af))))))))))))))))))
 rename_i t;obtain⟨k,n,a,r,hs,O,⟨hh,i,hH,hl,Z⟩,p,q⟩:=h;have pb:=p.parts;have pk:=KY p.hk;obtain⟨y,rfl⟩:∃y:Nat,n=y:=⟨n.toNat,by have:=p.n0;lia⟩;obtain⟨x,rfl⟩:∃x:Nat,a=x:=⟨a.toNat,by have:=p.a0;lia⟩;obtain⟨z,rfl⟩:∃z:Nat,r=z:=⟨r.toNat,by have:=p.r0;lia⟩;have U:=pb.n;have X:=pb.a;have p3:=pb.r;rw[qF] at U X p3;unfold Ln Lp at q;rw[qF,qF,qF] at q;simp only[Nat.reducePow] at q;have p4:=pb.h;have p5:=pb.len;have p6:=pb.s;have b1:=pk.2;generalize kidx k=ki at*
 exists 6,u1;exists 9;intro tk htk C;refine⟨C _,bV (c6.of i) rfl ?_⟩;exists 9;refine⟨kinds,htk _,ki,pk.1,?_⟩;exists 8,u1,u2;exists 9;refine⟨cshl (by decide) (by decide) (by lia) (by lia),bV (c6.of i) rfl ?_⟩;exists 9;rw[WH (by lia)];have c1:ki*64+y<512:=by lia
 generalize ki*64+y=B1 at*
 exists 8,u2,u3;exists 9;refine⟨cshl (by decide) (by decide) (by lia) (by lia),bV (c6.of i) rfl ?_⟩;exists 9;rw[WH (by lia)];have c2:B1*64+x<32768:=by lia
 generalize B1*64+x=J at*
 exists 8,u3,u4;exists 9;refine⟨cshl (by decide) (by decide) (by lia) (by lia),bV (c6.of i) rfl ?_⟩;exists 9;rw[YI (by lia)];have c3:J*32+z<1048576:=by lia
 generalize J*32+z=I at*
 exists 8,u4,u5;exists 9;refine⟨cshl (by decide) (by decide) (by lia) (by lia),bV (c6.of i) rfl ?_⟩;exists 9;refine⟨hs,hH,p.hh,hl,fun H2 Q=>?_⟩;rw[RJ (by lia)];have c4:I*32768+rW hs<34359738368:=by lia
 generalize I*32768+rW hs=G at*
 have v:=Q _ _ i;exists 8,u5,u6;exists 9;refine⟨cshl (by decide) (by decide) (by lia) (by lia),bV (c6.of v) rfl ?_⟩;exists 9;refine⟨ax Z,?_⟩;rw[Zu (by lia)];have c5:G*8+O.length<274877906944:=by lia
 generalize G*8+O.length=B5 at*
 exists 7,u6;exists 9;refine⟨cshl (by decide) (by decide) (by lia) (by lia),bV (c6.of v) rfl ?_⟩;exists 9;refine⟨⟨p.hl,p.hs⟩,?_⟩;rw[YJ (by lia)];exact q _ Q
theorem Cb:OF P w base T.Eu qN 4 vK:=by
 exists 0,T.Eu,qN,vK,(ae (aQ (eZ (mq (aF (Aa T) HR (bj (pv 0))))) (ah kE) aB)
 (ak (ae (ay 1 qN.1.nd (au hJ (aF (Jz T) HR (bj (pv 0))) (bw rfl T.yB)))
 (ah (ar (au vw (pv 1) (aF (xM T) HR (bj (pv 1)))))))))
 rename_i t;obtain⟨k,n,a,r,hs,i,x,c,q⟩:=h;exists 6,u1;exists 9;refine⟨k,n,a,r,hs,i,x,fun z v=>?_⟩;rw[c,de (by decide)];have p:=OA c;have pl:Ln k n a r hs i<2 ^ 66:=p.parts.lt;exists 7,u1;exists 9;refine⟨k,n,a,r,hs,i,x.same v,p,fun C y=>?_⟩;generalize Ln k n a r hs i=B at*
 refine⟨cshl (by decide) (by decide) (by lia) (by lia),⟨by lia,by lia⟩,fun r=>?_⟩;rw[show(B:Int)*256=((B*256:Nat):Int) by lia,BitI.Fs];exact q _ _ (v.trans y)
theorem Hv:OF P w base T.C0 tw 1 sX:=by
 exists 0,T.C0,tw,sX,(ah (ar (cD (d5 z_ (pv 0) af) (kh (d5 (uO K rfl HR.units) (au lR (pv 0) (bw rfl T.GD)) af)))));rename_i f;exists 9;by_cases c:0<=f
 ·rw[dy c];have e:decide (f / 18889465931478580854784=0)=decide (0<=f/\f<18889465931478580854784):=by
   rw[decide_eq_decide];omega
  rw[e];exact h
 ·rw[de c];rw[gk (by omega)] at h;exact h
theorem Jq:OF P w base T.Ew vY 1 vL:=by
 exists 0,T.Ew,vY,vL,(ah (ar (gV (aS mS (pv 0) (aD (dO K rfl) (by rfl) T.gv dH (bj (bw rfl T.yy)))) (bq K (bw rfl T.yy) (pv 0)) (bw rfl T.Np))));rename_i c;obtain⟨y,q⟩:=h;exists 9;have i:iO.length=94:=by decide+kernel
 refine⟨by decide+kernel,?_⟩;unfold sgc at q;by_cases v:c<(94:Int)
 ·rw[dy (by show c<((iO.length:Nat):Int);rw[i];exact v)];rw[dy (by lia)] at q;obtain⟨j,rfl⟩:∃j:Nat,c=(j:Int):=⟨c.toNat,by lia⟩;rw[qF] at q;have x:j<sgl.length:=by rw[Ko];lia
  refine⟨sgl.getD j 0,by decide+kernel,?_,q⟩;have e:sgl[j]?=some (sgl.getD j 0):=by rw[ZT,mu x];rfl
  exact sJ e
 ·rw[de (by show¬c<((iO.length:Nat):Int);rw[i];exact v)];rw[de (by lia)] at q;exact q
theorem Ht:OF P w base T.CV tj 2 sU:=by
 exists 0,T.CV,tj,sU,(ah (ar (iA K rfl qx zc zT (fq K rfl) aG (bj (bL (N:=(["shift","bits"]:List Str)) (nv:=1) (ix:=[0]) rfl (c9 (by kernel_rfl)) (aR K rfl (ba (aZ af (aZ af (bP af af))))) (fun _ _ _ _ _=>(aw 0 (show((["shift","bits"]:List Str)).Nodup by decide))) (fun _ _ _ _ _=>cj) (fun _ _ _ _ _=>(aF (Jq T) HR (bj (au wA (au lR (pv 1) (pv 0)) af)))))))));rename_i b;obtain⟨C,q⟩:=h;obtain⟨b,rfl⟩:∃y:Nat,b=(y:Int):=⟨b.toNat,by lia⟩;rw[qF] at q;exists 9;intro p hp;have ht:=aa (H:=H) (a:=p) (o:= .tup [.int 21,.int 14,.int 7,.int 0]);have s1:=aj (o:= .tup [.int 21,.int 14,.int 7,.int 0]) hp;generalize upd H p (.tup [.int 21,.int 14,.int 7,.int 0])=z at*
 refine xb (p:=fun _=>true) (f:=fun v=>match v with | .int i=> .str (sgc (b / 2 ^ i.toNat % 128))|_=> .non) (c6.of ht) (ax (by simp)) (fun x _ Q h=>h) (fun x hx _ Q h=>?_) ?_
 ·obtain⟨i,G,rfl⟩:∃i:Nat,i<=21/\x = .int (i:Int):=by
   simp only[fy,hL,wh] at hx;rcases hx with rfl|rfl|rfl|rfl
   ·exact⟨21,by decide,rfl⟩
   ·exact⟨14,by decide,rfl⟩
   ·exact⟨7,by decide,rfl⟩
   ·exact⟨0,by decide,rfl⟩
  exists 9;refine⟨by lia,?_⟩;have e:(b:Int) / 2 ^ (i:Int).toNat=((b / 2 ^ i:Nat):Int):=by simp
  rw[e,VW];refine⟨by lia,?_⟩;rw[qF];replace h:Q (.str (sgc (b / 2 ^ (i:Int).toNat % 128))) z:=h;rw[qF] at h;exact h
 ·have e:((([.int 21,.int 14,.int 7,.int 0]:List V).filter fun _=>true).map fun v=>match v with | .int i=>V.str (sgc (b / 2 ^ i.toNat % 128))|_=> .non)=(pA b).map V.str:=by
   show[V.str (sgc (b / 2 ^ 21 % 128)),V.str (sgc (b / 2 ^ 14 % 128)),V.str (sgc (b / 2 ^ 7 % 128)),V.str (sgc (b / 2 ^ 0 % 128))]=_;unfold pA;simp
  rw[e];refine⟨ax (by show 4<=1000;decide),fun l hl=>⟨pA b,bC.of aa,?_,q _ (s1.trans (aj hl))⟩⟩;rw[Nj];show 4+4*0<=1000000;decide
theorem Jr:OF P w base T.Ex vZ 1 vM:=by
 exists 0,T.Ex,vZ,vM,(ah (ar (gV (aS mS (pv 0) (aD (dO K rfl) (by rfl) T.gv dH (bj (ek K rfl rfl T.BJ)))) (bq K (ek K rfl rfl T.BJ) (pv 0)) (bw rfl T.Nq))));rename_i c;obtain⟨F,q⟩:=h;exists 9;intro tk htk C;refine⟨_,.inr (htk _),?_⟩;by_cases y:c<(5:Int)
 ·rw[dy (show c<(([V.str "bare",V.str "signs",V.str "begin",V.str "end",V.str "ask"]:List V).length:Int) from y)];rw[dy (by lia)] at q;intro z i _;obtain⟨j,rfl⟩:∃j:Nat,c=(j:Int):=⟨c.toNat,by lia⟩;rw[qF] at q;have x:j<5:=by lia
  refine bV (i _) (v:= .str (kinds.getD j "")) ?_ q;have d:∀j:_root_.Fin 5,([V.str "bare",V.str "signs",V.str "begin",V.str "end",V.str "ask"]:List V)[j.val]?=some (.str (kinds.getD j.val "")):=fun j=>by
   obtain⟨j,x⟩:=j
   match j,x with
   |0,_=>rfl
   |1,_=>rfl
   |2,_=>rfl
   |3,_=>rfl
   |4,_=>rfl
  exact sJ (d ⟨j,x⟩)
 ·rw[de (show¬c<(([V.str "bare",V.str "signs",V.str "begin",V.str "end",V.str "ask"]:List V).length:Int) from y)];rw[de (by lia)] at q;exact q
theorem Jw:OF P w base T.EE wj 1 vT:=by
 exists 0,T.EE,wj,vT,(ah (ar (a_ (AK K rfl) (by rfl) T.rC nJ (bj (bL (N:=(["step","bits"]:List Str)) (nv:=1) (ix:=[0]) rfl (c9 (by kernel_rfl)) (uL rfl T.fc (bP af (aE K (bw rfl T.AL) af))) (fun _ _ _ _ _=>(aw 0 (show((["step","bits"]:List Str)).Nodup by decide))) (fun _ _ _ _ _=>(nW (cQ K HR (au wA (au lR (pv 1) (au fP (pv 0) af)) af) af))) (fun _ _ _ _ _=>(pv 0)))))));rename_i b;obtain⟨z,q⟩:=h;obtain⟨b,rfl⟩:∃y:Nat,b=(y:Int):=⟨b.toNat,by lia⟩;rw[qF] at q;exists 9;refine J5 (p:=fun v=>match v with | .int s=>decide (b / 2 ^ (s-1).toNat % 2=1)|_=>false) (f:=fun v=>v) (ax (by decide)) (fun i x Q h=>?_) (fun i x _ Q h=>?_) ?_
 ·exists 9;refine⟨by lia,?_⟩;have e:(b:Int) / 2 ^ ((1:Int)+(i:Int)-1).toNat=((b / 2 ^ i:Nat):Int):=by
   rw[show((1:Int)+(i:Int)-1).toNat=i by lia];simp
  rw[e,YZ];replace h:Q (decide (b / 2 ^ ((1:Int)+(i:Int)-1).toNat % 2=1)) H:=h;rw[show((1:Int)+(i:Int)-1).toNat=i by lia] at h;have e2:decide (((b / 2 ^ i % 2:Nat):Int)=1)=decide (b / 2 ^ i % 2=1):=by rw[decide_eq_decide];lia
  rw[e2];exact h
 ·exists 9;exact h
 ·rw[LU,Ik];have lf:(Held.ones.filter fun s=>decide (b / 2 ^ (s-1).toNat % 2=1)).length<=15:=h7 (me _ _) (by decide);refine⟨ax (by rw[cz];exact h7 lf (by decide)),fun l hl=>⟨_,.inl ⟨bC.of aa,fun t ht=>q t _ ((aj hl).trans (aj ht)) aa⟩⟩⟩
theorem AV:OF P w base T.ue lB 3 kT:=by
 exists 0,T.ue,lB,kT;rename_i b;refine qex (Fj (Ut (Uu (B6 ⟨(aF (Jr T) HR (bj (au lR (pv 0) af)))⟩ (B6 ⟨(au wA (au lR (pv 0) af) af)⟩ (B6 ⟨(au wA (au lR (pv 0) af) af)⟩ (B6 ⟨(au wA (au lR (pv 0) af) af)⟩ (B6 ⟨(aF (Jw T) HR (bj (au lR (pv 0) af)))⟩ (B6 ⟨(xG (QV K rfl) (aF (Ht T) HR (bj (pv 0))) KI (uK (au wA (au lR (pv 0) af) af)))⟩ Jj))))))))) ?_;obtain⟨X,q⟩:=h;obtain⟨b,rfl⟩:∃J:Nat,b=(J:Int):=⟨b.toNat,by lia⟩;rw[qF] at q;exists 9;refine⟨by lia,by lia,fun hh O Q v=>⟨by lia,fun Z y=>⟨by rw[qF,HK];exact ax (by decide),fun t ht=>?_⟩⟩⟩;have e:∀k:Nat,((b:Int) / (k:Int)).toNat=b / k:=fun k=>by rw[show(b:Int) / (k:Int)=((b / k:Nat):Int) by simp,qF]
 have i:∀k:Nat,(b:Int) / (k:Int)=((b / k:Nat):Int):=fun k=>by simp
 refine q t _ ((Q.trans y).trans (aj ht)) ⟨hh,?_,?_,h7 (FZ b) (by decide),?_⟩
 ·rw[aa];have a1:((b:Int) / 9223372036854775808).toNat=b / 9223372036854775808:=e 9223372036854775808;have C:(b:Int) / 144115188075855872=((b / 144115188075855872:Nat):Int):=i 144115188075855872;have I:(b:Int) / 2251799813685248=((b / 2251799813685248:Nat):Int):=i 2251799813685248;have F:(b:Int) / 70368744177664=((b / 70368744177664:Nat):Int):=i 70368744177664;have U:(b:Int) / 268435456=((b / 268435456:Nat):Int):=i 268435456;rw[a1,C,I,F,U,TQ,TQ,X8,YY,qF];rfl
 ·have z:((b:Int) / 2147483648).toNat=b / 2147483648:=e 2147483648;have G:∀x,x=b / 2147483648->(Held.ones.filter fun s=>decide (x / 2 ^ (s-1).toNat % 2=1))=MO b:=by rintro _ rfl;rfl
  replace v:O hh=some (.tup ((MO b).map V.int)):=v.trans (aaq (fun l=>some (HO.tup (List.map V.int l))) (G _ z));exact aM (y _ _ v) ht
 ·unfold V4;have:=Txt.slice_le (Txt.join "" (pA b)) none (some ((b / 268435456 % 8:Nat):Int));rw[HK] at this;lia
theorem RR:OF P w base T.P2 Bv 5 E2:=by
 exists 1,T.P2,Bv,E2,(ae (aQ (PT.nox (eZ (mq (aF (Hv T) HR (bj (pv 0)))))) (ah (j_ T.DV (ve T) T.JL HR (by decide) z6 rfl rfl rfl (bj (pv 0)))) aB)
 (ak (ae (aQ (PT.nox (wu K HR (aF (xM T) HR (bj (pv 0))) af)) (ah (j_ T.GP (wD T) T.MR HR (by decide) z6 rfl rfl rfl (bj (pv 0)))) aB)
 (ak (ae (PS.nox (ay 1 Bv.1.nd (aF (AV T) HR (bj (au lR (pv 0) (bw rfl T.yB))))))
 (ak (ae (aQ (PT.nox (PW.pt (pw_or (eZ (mq (aF (Aa T) HR (bj (pv 1))))) (pw_or1 (wu K HR (aF (Cb T) HR (bj (pv 1))) (pv 0)))))) (ah (j_ T.DU (vd T) T.JK HR (by decide) z6 rfl rfl rfl (bj (pv 0)))) aB)
 (ak (ah (PS.nox (ar (pv 1))))))))))))
 rename_i F;obtain⟨q1,q2,X,Q⟩:=h;exists 6,u1;exists 9;by_cases O:0<=F/\F<18889465931478580854784;rotate_left
 ·rw[dy O];intro e he
  first|refine⟨aa,fun d hd=>⟨_,aa,?_⟩⟩|refine fun d hd=>⟨_,rfl,?_⟩
  obtain⟨s1,s2⟩:=dropx (C:=aU) (f:="frame") (v:= .int F) (aA.refl _) he hd;exact q1 _ _ d s1 s2
 rw[de (not_not_intro O)];obtain⟨fr,rfl⟩:∃fr:Nat,F=(fr:Int):=⟨F.toNat,by lia⟩;rw[qF] at Q;exists 8,u1,u2;exists 9;refine⟨⟨by lia,by lia⟩,fun r=>?_⟩;by_cases cR:r=0;rotate_left
 ·rw[dy (by lia)];intro e he
  first|refine⟨aa,fun d hd=>⟨_,aa,?_⟩⟩|refine fun d hd=>⟨_,rfl,?_⟩
  obtain⟨s1,s2⟩:=dropx (C:=bc) (f:="frame") (v:= .int (fr:Int)) (aA.refl _) he hd;exact q2 _ _ d s1 s2
 rw[de (by lia)];exists 8,u2,u3;exists 9;have Z:((fr:Int) / 256).toNat=fr / 256:=by lia
 refine⟨by lia,fun t H1 S1 G=>?_⟩;rw[Z] at G;exists 8,u3,u4;exists 9;refine⟨_,_,_,_,_,_,G,fun U J=>?_⟩;have fail:∀i,aA H i->∀e,i e=none->upd i e (.ext (vA e aJ none)) e=some (.ext (vA e aJ none))/\∀d,upd i e (.ext (vA e aJ none)) d=none->∃dx,upd (upd (upd i e (.ext (vA e aJ none))) d (.xd [("what",.int (fr:Int))])) e (.ext (vA e aJ (some d))) e=some (.ext (vA e aJ dx))/\E (.ref aJ) dx (oy (upd (upd (upd i e (.ext (vA e aJ none))) d (.xd [("what",.int (fr:Int))])) e (.ext (vA e aJ (some d)))) e):=fun i I e he=>by
  first|refine⟨aa,fun d hd=>⟨_,aa,?_⟩⟩|refine fun d hd=>⟨_,rfl,?_⟩
  obtain⟨s1,s2⟩:=dropx (C:=aJ) (f:="what") (v:= .int (fr:Int)) I he hd;exact X _ _ d s1 s2
 have y:=S1.trans J;cases cP:dX (FY (fr / 256)) (V5 (fr / 256)) (V6 (fr / 256)) (Yl (fr / 256)) (MO (fr / 256)) (V4 (fr / 256))
 ·rw[dy rfl]
  first|exact fail U y|exact fun e he d hd=>by have z:=(fail U y e he).2 d hd;rw[aa] at z;exact z
 ·rw[de (by decide)];refine⟨_,_,_,_,_,_,G.same J,cP,fun m i I=>?_⟩;have x:=y.trans I;by_cases cF:m=fr
  ·rw[de (by lia)];exists 7,u4;exists 9;exact Q t i x ((G.same J).same I)
  ·rw[dy (by lia)]
   first|exact fail i x|exact fun e he d hd=>by have z:=(fail i x e he).2 d hd;rw[aa] at z;exact z
theorem RS:OF P w base T.P4 E9 1 E3:=by
 exists 0,T.P4,E9,E3,(ah (ar (gV (cQ K HR (pv 0) af) (aE K af (au b9 (pv 1) af)) (au fP (aE K (au je af (pv 0)) (pv 1)) af))));rename_i r l;exists 9;unfold mV at h;split
 ·rename_i c;rw[dy c] at h;exact h
 ·rename_i c;rw[de c] at h;exact h
theorem Ft:OF P w base T.Al qO 2 qp:=by
 exists 0,T.Al,qO,qp,(ah (ar (cD (aF (b7 T) HR (aZ (pv 1) (bP (bw rfl T.nI) (bw rfl T.Iu)))) (kh (aF (b7 T) HR (aZ (pv 0) (bP (bw rfl T.nI) (pv 1))))))));rename_i f l;exists 9;by_cases c:2<=l/\l<=64
 ·rw[dy (Gd c)];have e:bO f 2 l=decide ((2<=l/\l<=64)/\2<=f/\f<=l):=by rw[L4,qb,eM];exact⟨fun k=>⟨c,k⟩,fun k=>k.2⟩
  rw[e];exact h
 ·rw[de (by rw[Sr c];decide)];rw[gk (fun k=>c k.1)] at h;exact h
theorem Fv:OF P w base T.An qQ 2 qt:=by
 exists 0,T.An,qQ,qt,(ah (ar (cD (aD (uT K rfl) (by rfl) T.cN cw (bP (pv 0) (vv rfl T.rC nJ))) (cD (d5 (uO K rfl HR.units) (aD (eI K rfl) (by rfl) T.gv dH (bj (pv 0))) af) (kh (aD (uU K rfl rfl) (by rfl) T.Lr GH (bj (bL (N:=(["room"]:List Str)) (nv:=1) (ix:=[]) rfl (c9 (by kernel_rfl)) (aR K rfl (pv 0)) (fun _ _ _ _ _=>(aw 0 (show((["room"]:List Str)).Nodup by decide))) (fun _ _ _ _ _=>cj) (fun _ _ _ _ _=>(aF (b7 T) HR (aZ (pv 0) (bP af (bw rfl T.yA)))))))))))));rename_i p;obtain⟨o,t,hp,q⟩:=h;exists hp;refine xb (p:=fun _=>true) (f:=fun x=>match x with | .int i=> .bl (bO i 1 16)|_=> .non) (c6.of hp) (ax (by simp)) (fun x _ Q h=>h) (fun x hx _ Q h=>?_) ?_
 ·simp only[fy,hL,wh] at hx;rcases hx with rfl|rfl<;>(exists 9;exact h)
 ·refine⟨ax (by simp),fun l hl=>⟨[bO o 1 16,bO t 1 16],bC.of aa,?_⟩⟩;have:=q _ (aj (o:= .lst [.bl (bO o 1 16),.bl (bO t 1 16)]) hl);have e:([bO o 1 16,bO t 1 16].all id)=decide ((1<=o/\o<=16)/\1<=t/\t<=16):=by
   rw[L4,eM,<-qb,<-qb];simp
  rw[e];exact this
theorem xO:OM P w mg base T.qf fF 3 iK:=by
 exists 0,T.qf,fF,iK,(ae (aQ (eZ (PW.pt (pw_and (mq (aF (b7 T) HR (aZ (pv 1) (bP af (bw rfl T.Iw))))) (pw_and (mq (aF (Fv T) HR (bj (pv 2)))) (pw_and1 (mq (aF (b7 T) HR (aZ (pv 3) (bP af (bw rfl T.zX)))))))))) (ah kE) aB)
 (ak (ae (aQ (eZ (mq (aF (Ft T) HR (bP (pv 4) (pv 5))))) (ah kE) aB)
 (ak (ae (ay 6 fF.1.nd (aD (EJ K rfl rfl) (by rfl) T.EO z0 (bj (bL (N:=(["room","lag"]:List Str)) (nv:=1) (ix:=[3]) rfl (c9 (by kernel_rfl)) (aR K rfl (pv 2)) (fun _ _ _ _ _=>(aw 0 (show((["room","lag"]:List Str)).Nodup by decide))) (fun _ _ _ _ _=>cj) (fun _ _ _ _ _=>(aF (RS T) HR (bP (pv 0) (pv 1))))))))
 (ak (ae (aQ (aS mS (pv 1) (pv 6)) (ah kE) aB)
 (ak (ae (az (pv 0) (pv 1) T.cL T.ji)
 (ae (az (pv 0) (pv 2) T.cL T.gW)
 (ae (az (pv 0) (pv 3) T.cL T.n_)
 (ae (az (pv 0) (pv 4) T.cL T.pj)
 (ah (az (pv 0) (pv 5) T.cL T.lS))))))))))))))
 rename_i x r p g f l;obtain⟨o,t,dx,hp,hx,hg,c5,q⟩:=h;obtain⟨c1,Z,c3,G⟩:=hg;exists 6,u1;exists 9;rw[dy (Gd c1)];refine⟨o,t,hp,fun H1 F=>?_⟩;rw[dy Z];rw[de (by rw[Gd c3];decide)];exists 8,u1,u2;exists 9;rw[de (not_not_intro G)];have C:=F _ _ hp;have z:=F _ _ hx;exists 8,u2,u3;exists 9;refine xb (p:=fun _=>true) (f:=fun x=>match x with | .int i=> .int (mV i g)|_=> .non) (c6.of C) (ax (by simp)) (fun x _ Q h=>h) (fun x hx _ Q h=>?_) ?_
 ·simp only[fy,hL,wh] at hx;rcases hx with rfl|rfl<;>(exists 9;exact h)
 refine⟨ax (by simp),fun J v=>⟨[mV o g,mV t g],bC.of aa,by simp,fun M O hle=>?_⟩⟩;have U:M=zo o t g:=by
  have h1:=hle (mV o g) (by simp);have h2:=hle (mV t g) (by simp);simp only[fy,hL,wh] at O;unfold zo;split<;>lia
 subst U;have X:aA H _:=fun b u e=>aj (o:= .lst ((([V.int o,V.int t]:List V).filter fun _=>true).map fun x=>match x with | .int i=> .int (mV i g)|_=> .non)) v b u (F b u e)
 have Nv:=aM (o:= .lst ((([V.int o,V.int t]:List V).filter fun _=>true).map fun x=>match x with | .int i=> .int (mV i g)|_=> .non)) z v
 generalize upd H1 J (.lst ((([V.int o,V.int t]:List V).filter fun _=>true).map fun x=>match x with | .int i=> .int (mV i g)|_=> .non))=H2 at*
 exists 8,u3,u4;exists 9;rw[de c5];exists 7,u4;exists Nv;refine q _ ?_ aa;exact fun b o I y=>by rw[ag y];exact X _ _ I
theorem xR:OM P w mg base T.qi iZ 1 iN:=by
 exists 0,T.qi,iZ,iN,(ae (az (pv 0) (pv 1) T.bG T.xX)
 (ae (az (pv 0) (aD (uR rfl) (by rfl) T.Lq GG (bP af (pv 1))) T.bG T.bR)
 (ae (az (pv 0) (pv 1) T.bG T.jj)
 (ah (az (pv 0) af T.bG T.dJ)))))
 rename_i p m;obtain⟨dx,hp,q⟩:=h;exists hp;exact q
theorem xQ:OM P w mg base T.qh iY 1 iM:=by
 exists 0,T.qh,iY,iM,(ae (aQ (cQ K HR (ai (pv 0) T.bG T.bR) (ai (pv 0) T.bG T.xX)) (ah KG) aB)
 (ae (aQ (aS mS (ai (pv 0) T.bG T.bR) (ai (pv 0) T.bG T.jj)) (ae (mr (pv 0) af T.bG T.bR mx)
 (ah KG)) aB)
 (ae (mr (pv 0) af T.bG T.dJ mx)
 (ah (aQ (cQ K HR (ai (pv 0) T.bG T.dJ) (ai (pv 0) T.bG T.bR)) (ae (mr (pv 0) af T.bG T.bR mx)
 (ah (az (pv 0) af T.bG T.dJ))) aB)))))
 rename_i p;obtain⟨dx,m,w,k,c,hp,q⟩:=h;exists hp;unfold MeterM.k1 at q;split
 ·rename_i i;rw[dy i] at q;rw[NF hp] at q;exact q
 ·rename_i i;rw[de i] at q;split
  ·rename_i x;rw[dy x] at q;exact q
  ·rename_i x;rw[de x] at q;split
   ·rename_i v;rw[dy v] at q;exact q
   ·rename_i v;rw[de v] at q;exact q
theorem Cg:OM P w mg base T.vG iX 2 mL:=by
 exists 0,T.vG,iX,mL,(ah (cJ j0 rfl (gc rfl T.fc (bj (pv 1))) (aw 2 iX.1.nd) (ah (aH (bQ (pv 0) T.bG (xQ T) HR)))));rename_i p n;obtain⟨hn,dx,m,w,k,c,hp,q⟩:=h;exists 9;refine⟨by lia,?_⟩;refine ro (fun i σ H'=>H'=upd H p (.ins aY dx (aW (.int m) (.int (MeterM.kn m k i (w,c)).1) (.int k) (.int (MeterM.kn m k i (w,c)).2)))/\∃x,σ= [some (.ref p),some (.int n),x]) ⟨by rw[MeterM.kn];exact(NF hp).symm,none,rfl⟩ (fun i σ H' y v=>?_) (fun σ H' v=>?_)
 ·obtain⟨rfl,x,rfl⟩:=v;exists 9;refine⟨dx,m,_,k,_,rfl,?_,_,rfl⟩;rfl
 ·obtain⟨rfl,x,rfl⟩:=v;exact q
theorem vy:OM P w mg base T.yr oZ 1 oU:=by
 exists 0,T.yr,oZ,oU,(ah (ar (aD (uS rfl) (by rfl) T.EO z0 (bP af (au b9 (ai (pv 0) T.bG T.bR) af)))));rename_i p;obtain⟨dx,m,w,k,c,hp,q⟩:=h;exists hp;exact q
theorem ze:OM P w mg base T.sA jZ 2 jM:=by
 exists 0,T.sA,jZ,jM,(ae (az (pv 0) (bQ (pv 0) T.bG (vy T) HR) T.bG T.jj)
 (ae (az (pv 0) af T.bG T.bR)
 (ah (az (pv 0) af T.bG T.dJ))))
 rename_i p;obtain⟨dx,m,w,k,c,hp,q⟩:=h;exists hp;exact⟨dx,m,w,k,c,rfl,q⟩
theorem zf:OM P w mg base T.sC j2 2 jN:=by
 exists 0,T.sC,j2,jN,(ae (az (pv 0) (bQ (pv 0) T.bG (vy T) HR) T.bG T.jj)
 (ae (az (pv 0) (ai (pv 0) T.bG T.jj) T.bG T.bR)
 (ah (az (pv 0) af T.bG T.dJ))))
 rename_i p;obtain⟨dx,m,w,k,c,hp,q⟩:=h;exists hp;exact⟨dx,m,w,k,c,rfl,q⟩
theorem yY:OF P w base T.Io uG 1 yN:=by
 exists 0,T.Io,uG,yN,(ae (ay 2 uG.1.nd (au wA (au vw (pv 0) (pv 1)) (KL EX (au vw (pv 0) (pv 1)))))
 (ah (ar (ba (bP (au Ca (pv 0) (pv 2)) (au Ca (pv 1) (pv 2)))))))
 rename_i t b;obtain⟨⟨v,x,y⟩,q⟩:=h;exists 9;rw[WaysI.lowbit v x];have hl:=WaysI.U4 v x;have hd:∀i,Qn i (WaysM.lb (t.toNat |||b.toNat):Nat):=fun i=>⟨hl.1,y.le (tH hl.1) hl.2⟩;exact⟨hd _,hd _,q⟩
theorem y6:OM P w mg base T.sf jU 1 jF:=by
 exists 0,T.sf,jU,jF,(ae (az (pv 0) (pv 2) T.bB T.mW)
 (ae (az (pv 0) bY T.bB T.br)
 (ae (az (pv 0) bY T.bB T.cK)
 (ah (az (pv 0) (pv 1) T.bB T.fS)))))
 rename_i p f l;obtain⟨dx,hp,q⟩:=h;exists hp;exact q
theorem uZ:OM P w mg base T.m_ cW 2 gw:=by
 exists 0,T.m_,cW,gw,(ae (ay 2 cW.1.nd (au nY (av K (ai (pv 0) T.bB T.br) af) (av K (ai (pv 0) T.bB T.cK) af)))
 (ak (ae (ay 3 cW.1.nd (aD Qb (by rfl) T.XX VR (bj (au fP (av K (ai (pv 0) T.bB T.br) af) (au nY (pv 1) (av K (ai (pv 0) T.bB T.br) af))))))
 (ak (ah (ar (aF (yY T) HR (bP (aE K (au nY (au je af (av K (ai (pv 0) T.bB T.cK) af)) (av K (ai (pv 0) T.bB T.br) af)) (au nY (pv 3) (av K (ai (pv 0) T.bB T.cK) af))) (au je af (pv 2))))))))))
 rename_i p m;obtain⟨dx,L,w,a,A,b,B,W,⟨F,z,hp,hs,i⟩,q⟩:=h;exists 6,u1;exists hp,hs,i;have x:=W.mB;have y:Bd 1002 (3*b):=Bd.mul (a:=2) (Bd.c (k:=3) (by decide)) W.b1;have v:=W.A1.mul W.B1;have d:=((W.a1.up (show 1000<=1020 by decide)).sub (x.mul W.A1)).abs;have C:=Int.mul_pos W.A0 W.B0;refine⟨wJ W.A1 W.B1 (by decide) (by decide),?_⟩;exists 8,u1,u2;exists hp,hs,i;refine⟨wJ x W.A1 (by decide) (by decide),_,rfl,?_⟩;rw[Y1];exists 7,u2;exists hp,hs,i;refine⟨wJ y W.A1 (by decide) (by decide),wJ d W.B1 (by decide) (by decide),⟨?_,by lia,((Bd.c (n:=3) (k:=4) (by decide)).mul v).up (by decide)⟩,q⟩;have:=ZE (ZE (show(0:Int)<=3 by decide) W.b0) (tH W.A0);have:=ZE (aaD (a-m*A).natAbs) (tH W.B0);lia
theorem u_:OM P w mg base T.ng gE 2 gx:=by
 exists 0,T.ng,gE,gx,(ah (ar (aF (yY T) HR (bP (aE K (au je af (av K (ai (pv 0) T.bB T.br) af)) (au nY (pv 1) (av K (ai (pv 0) T.bB T.br) af))) (au je af (av K (ai (pv 0) T.bB T.br) af))))));rename_i p m;obtain⟨dx,L,s,i,w,a,A,⟨m0,m1,a0,A0,A1⟩,hp,hs,q⟩:=h;exists hp,hs;have:=ZE m0 (tH A0);exact⟨U1 (by lia),⟨by lia,by lia,((Bd.c (n:=3) (k:=4) (by decide)).mul A1).up (by decide)⟩,q⟩
theorem wB:OM P w mg base T.oz eV 1 hV:=by
 exists 0,T.oz,eV,hV,(ae (ay 1 eV.1.nd (aE K (au nY (av K (ai (pv 0) T.bB T.br) af) (av K (ai (pv 0) T.bB T.cK) af)) (au nY (au je af (av K (ai (pv 0) T.bB T.cK) af)) (av K (ai (pv 0) T.bB T.br) af))))
 (ak (ah (ar (KL EX (au Ca (KL EX (pv 1)) (au nY (av K (ai (pv 0) T.bB T.br) af) (av K (ai (pv 0) T.bB T.cK) af))))))))
 rename_i p;obtain⟨dx,L,w,a,A,b,B,⟨A0,B0,a1,A1,b1,B1⟩,⟨x,v,hp,hs,i⟩,q⟩:=h;exists 6,u1;exists hp,hs,i;refine⟨wJ a1 B1 (by decide) (by decide),wJ ((Bd.c (n:=3) (k:=4) (by decide)).mul b1) A1 (by decide) (by decide),?_⟩;exists 7,u1;exists hp,hs,i;exact⟨wJ A1 B1 (by decide) (by decide),VI (Int.mul_pos A0 B0) (A1.mul B1) (by decide),q⟩
theorem y4:OM P w mg base T.se jT 3 (fX bI):=by
 exists 0,T.se,jT,fX,(ae (aQ (aS ky (ai (pv 0) T.bB T.br) bY) (ae (az (pv 0) (ba (bP (pv 1) af)) T.bB T.br)
 (ak (ah (az (pv 0) (aF (yY T) HR (bP (pv 1) af)) T.bB T.cK)))) (ae (az (pv 0) (a8 (pv 0) T.bB (uZ T) HR (bj (pv 1))) T.bB T.cK)
 (ak (ah (az (pv 0) (a8 (pv 0) T.bB (u_ T) HR (bj (pv 1))) T.bB T.br)))))
 (ak (ah (az (pv 0) (aD (uS rfl) (by rfl) T.EO z0 (bP (bw rfl T.yw) (aD (uR rfl) (by rfl) T.Lq GG (bP (ai (pv 0) T.bB T.mW) (bQ (pv 0) T.bB (wB T) HR))))) T.bB T.fS))))
 rename_i p m;obtain⟨hm,⟨dx,L,w,hp,q⟩|⟨dx,L,w,a,A,b,B,W,⟨O,pp,hp,hs,hq⟩,q⟩⟩:=h
 ·exists 6,u1;exists 6,u2;exists 6,u3;exists hp;intro J I;have n1:p≠J:=ao hp I;have e1:=aM (o:= .tup [V.int m,V.int 1]) hp I;exists e1;exists 7,u1;exists 9;refine⟨⟨hm.1,Bd.up (a:=2) (Bd.c (k:=2) (by decide)) (by decide)⟩,fun Q i=>?_⟩;have F:Q≠p:=fresh_ne i;have G:J≠Q:=fun e=>by rw[<-e,ag n1.symm,aa] at i;cases i
  have e2:=aM (o:= .tup [V.int (WaysM.low m 2).1,V.int (WaysM.low m 2).2]) (aa (H:=upd H J (.tup [V.int m,V.int 1])) (a:=p) (o:= .ins bI dx (bW (.int L) (.ref J) .non (.int w)))) i;exists e2;exists 7,u3;exists 9;obtain⟨s,X⟩:=WaysM.p9 (t:=m) (b:=2) hm.1 (by decide);have l1:=X.t0;have l2:=X.b0;have l3:=X.tl;have l4:=X.bl;have mb:Bd 20 m:=Bd.of hm.1 (by lia);refine⟨dx,L,w,m,1,(WaysM.low m 2).1,(WaysM.low m 2).2,⟨by decide,l2,mb.up (by decide),Bd.up (a:=1) (Bd.c (k:=1) (by decide)) (by decide),(mb.le l1 l3).up (by decide),(Bd.le (Bd.c (n:=2) (k:=2) (by decide)) (tH l2) l4).up (by decide)⟩,⟨J,Q,aa,?_,?_⟩,?_⟩
  ·rw[ag n1.symm,ag G,ag n1.symm,aa]
  ·rw[ag F,aa]
  ·refine q _ ?_ ⟨J,Q,aa,?_,?_⟩
   ·intro b o z x;rw[ag x,ag,ag x,ag (ao z I)]
    ·exact z
    ·intro e;rw[e] at z;rw[ag F,ag G.symm] at i;rw[z] at i;cases i
   ·rw[ag n1.symm,ag G,ag n1.symm,aa]
   ·rw[ag F,aa]
 ·exists 6,u1;exists 6,u2;exists 6,u3;exists hp,hs,hq;have n0:O≠p:=bN hs hp (by simp);refine⟨dx,L,w,a,A,b,B,W,⟨O,pp,hp,hs,hq⟩,fun C y=>?_⟩;have n1:p≠C:=ao hp y;have n4:O≠C:=ao hs y;have e1:=aM (o:= .tup [V.int (nsp a A b B m).1,V.int (nsp a A b B m).2]) hp y;exists e1;exists 7,u2;exists 9;refine⟨dx,L,.ref C,O,w,a,A,⟨hm.1,hm.2,W.a0,W.A0,W.A1⟩,rfl,by rw[ag n0,ag n4];exact hs,fun U v=>?_⟩;have F:U≠p:=fresh_ne v;have G:C≠U:=fun e=>by rw[<-e,ag n1.symm,aa] at v;cases v
  have e2:=aM (o:= .tup [V.int (nsm a A m).1,V.int (nsm a A m).2]) (aa (H:=upd H C (.tup [V.int (nsp a A b B m).1,V.int (nsp a A b B m).2])) (a:=p) (o:= .ins bI dx (bW (.int L) (.ref O) (.ref C) (.int w)))) v;exists e2;exists 7,u3;exists 9;have B1:=W.YL;have Z:=W.YK;refine⟨dx,L,w,_,_,_,_,⟨B1.2.1,Z.2.1,B1.2.2.1,B1.2.2.2,Z.2.2.1,Z.2.2.2⟩,⟨U,C,aa,?_,?_⟩,?_⟩
  ·rw[ag F,aa]
  ·rw[ag n1.symm,ag G,ag n1.symm,aa]
  ·refine q _ ?_ ⟨U,C,aa,?_,?_⟩
   ·intro b o z x;rw[ag x,ag,ag x,ag (ao z y)]
    ·exact z
    ·intro e;rw[e] at z;rw[ag F,ag G.symm] at v;rw[z] at v;cases v
   ·rw[ag F,aa]
   ·rw[ag n1.symm,ag G,ag n1.symm,aa]
theorem rR:OM P w mg base T.uk lF 1 k6:=by
 exists 0,T.uk,lF,k6,(ah (az (pv 0) (aD (uR rfl) (by rfl) T.Lq GG (bP (au je af (ai (pv 0) T.bB T.fS)) (ai (pv 0) T.bB T.mW))) T.bB T.fS));rename_i p;obtain⟨dx,L,s,sp,w,hp,q⟩:=h;exists hp;exact q
theorem Hw:OF P w base T.Lg BW 1 BS:=by
 exists 0,T.Lg,BW,BS,(ah (ar (au bE (au fP (pv 2) (pv 1)) (pv 0))));rename_i r a b;exists 9;exact h
theorem kz:OM P w mg base T.yp oX 1 oS:=by
 exists 0,T.yp,oX,oS,(ah (aH (bZ K rfl (ai (pv 0) T.aq T.hU) (pv 1))));rename_i x v;obtain⟨A,z,i,hl,q⟩:=h;exists i.hx,i.ht;refine⟨cf (bC.of i.ht),by rw[gn];lia,q _ cI.upd ?_⟩;exact i.row i.ht _ z.Kn z.Fi (by simp) (by simp) aa (by rw[ag (bN i.hk i.ht (by simp))];exact i.hk) (by rw[ag (bN i.hf i.ht (by simp))];exact i.hf) (bN i.ht i.ha (by simp))
theorem tJ:OM P w mg base T.vF mO 1 mK:=by
 exists 0,T.vF,mO,mK,(ah (ar (aD (eI K rfl) (by rfl) T.gv dH (bj (ai (pv 0) T.aq T.hU)))));rename_i x;obtain⟨A,z,i,q⟩:=h;exists i.hx,i.ht;exact q
theorem A7:OM P w mg base T.uu lI 1 lg:=by
 exists 0,T.uu,lI,lg,(ah (ar (av K (ai (pv 0) T.aq T.hU) (pv 1))));rename_i x p;obtain⟨A,z,v,i,y,q⟩:=h;exists i.hx,i.ht;exact⟨v,y,q⟩
theorem fR:OM P w mg base T.gu dj 1 dh:=by
 exists 0,T.gu,dj,dh,(ah (ar (aD (eI K rfl) (by rfl) T.gv dH (bj (bL (N:=(["place","self"]:List Str)) (nv:=1) (ix:=[0]) rfl (c9 (by kernel_rfl)) (uL rfl T.fc (bP (aE K (ai (pv 0) T.aq T.aN) af) (ai (pv 0) T.aq T.bF))) (fun _ _ _ _ _=>(aw 0 (show((["place","self"]:List Str)).Nodup by decide))) (fun _ _ _ _ _=>(nW (yU (OJ HR.units (pv 0) (ai (pv 1) T.aq T.dz)) (jh rfl)))) (fun _ _ _ _ _=>(pv 0)))))));rename_i x;obtain⟨A,z,y,⟨b0,b1,I⟩,q⟩:=h;exists y.hx;refine⟨by omega,?_⟩;refine J5 (p:=fun v=>match v with | .int i=>knw z.Kn i|_=>false) (f:=fun v=>v) (ax (by omega)) ?_ ?_ ?_
 ·intro j G F C;exists y.hx,y.hk;exact C
 ·intro j G _ F C;exists 9;exact C
 have e:=R7 (z:=z) rfl;have kl:=Ve (z:=z);refine⟨ax (by rw[e];omega),fun l hl=>?_⟩;rw[e];exact q _ (aj hl)
theorem va:OM P w mg base T.nh gF 2 gy:=by
 exists 0,T.nh,gF,gy,(ah (ar (au fP (au fP (ai (pv 0) T.aq T.bF) (ai (pv 0) T.aq T.aN)) (bQ (pv 0) T.aq (fR T) HR))));rename_i x;obtain⟨A,z,i,y,q⟩:=h;exists i.hx;exact⟨A,z,i,y,fun H' v=>q H' v⟩
theorem jx:OM P w mg base T.kL fB 2 fw:=by
 exists 0,T.kL,fB,fw,(ah (ar (d5 mS (ai (pv 0) T.aq T.bF) (bQ (pv 0) T.aq (tJ T) HR))));rename_i x;obtain⟨A,z,i,q⟩:=h;exists i.hx;exact⟨A,z,i,q⟩
theorem q9:OM P w mg base T.jz eW 2 eQ:=by
 exists 0,T.jz,eW,eQ,(ah (ar (cD (d5 mS (ai (pv 0) T.aq T.aN) (ai (pv 0) T.aq T.bF)) (cD (OE (ai (pv 0) T.aq T.dA)) (kh (d5 z_ (bQ (pv 0) T.aq (fR T) HR) (bw rfl T.zZ)))))));rename_i x;obtain⟨A,z,v,F,q⟩:=h;exists v.hx;by_cases i:z.b<z.t
 ·rw[dy i];cases y:z.hur
  ·rw[y] at q;refine⟨A,z,v,F,fun H' C=>?_⟩;have:=q H' C;simp only[n9 i,L5,Bool.not_false] at this;simpa using this
  ·rw[y] at q;have:=q H (aA.refl _);simpa [i] using this
 ·rw[de i];have:=q H (aA.refl _);simpa [i] using this
theorem tI:OM P w mg base T.mf fO 3 fM:=by
 exists 0,T.mf,fO,fM,(ah (ar (cD (bQ (pv 0) T.aq (jx T) HR) (cD (d5 mS (ai (pv 0) T.aq T.bF) (ai (pv 0) T.aq T.gX)) (kh (d5 mS (bQ (pv 0) T.aq (va T) HR) (ai (ai (pv 0) T.aq T.eA) T.bG T.bR)))))));rename_i x;obtain⟨A,z,v,G,q⟩:=h;exists v.hx;refine⟨A,z,v,?_⟩;by_cases i:z.t<z.T.length
 ·rw[dy i];by_cases y:z.t<z.e
  ·rw[dy y];refine⟨A,z,v,G,fun H' C=>?_⟩;have F:=v.same C;obtain⟨em,I⟩:=F.ms;exists F.hx,em;have:=q H' C;simpa [i,y] using this
  ·rw[de y];have:=q H (aA.refl _);simpa [i,y] using this
 ·rw[de i];have:=q H (aA.refl _);simpa [i] using this
theorem jy:OM P w mg base T.kM cG 1 fz:=by
 exists 0,T.kM,cG,fz,(ae (Fl (i:=2) (N:=(["place","self"]:List Str)) (nv:=1) (ix:=[0]) rfl cG.1.nd rfl rfl (c9 (by kernel_rfl)) (aR K rfl (pv 1)) (fun _ _ _ _ _=>(aw 0 (show((["place","self"]:List Str)).Nodup by decide))) (fun _ _ _ _ _=>(nW (yU (Jm HR.units (pv 0) (ai (pv 1) T.aq T.dz)) (jh rfl)))) (fun _ _ _ _ _=>(pv 0)))
 (ae (cJ j0 rfl (aR K rfl (pv 2)) (aw 3 cG.1.nd) (ah (Fm HR.units (ai (pv 0) T.aq T.dz) (pv 3) gr)))
 (ah (ar (pv 2)))))
 rename_i x l;obtain⟨A,z,O,U,hl,hk,hpl,q⟩:=h;exists 9;refine rA (xs:=O.map V.int) (p:=fun v=>match v with | .int i=>!knw z.Kn i|_=>false) (f:=fun v=>v) (bC.of hl) (ax (by rw[cz];lia)) ?_ ?_ ?_
 ·intro y J Q' Z;obtain⟨i,_,rfl⟩:=h8.mp J;exists U.hx,U.hk;exact Z
 ·intro y J _ Q' Z;exists 9;exact Z
 rw[Vs];have hfl:(frs z.Kn O).length<=O.length:=me _ _;refine⟨ax (by rw[cz];lia),fun G F=>?_⟩;generalize frs z.Kn O=fs at*
 have S1:=U.same (aj (o:= .lst (fs.map V.int)) F);have s1:=aj (o:= .lst (fs.map V.int)) F;have k1:=aa (H:=H) (a:=G) (o:= .lst (fs.map V.int));generalize upd H G (.lst (fs.map V.int))=H1 at*
 refine my (xs:=fs.map V.int) (bC.of k1) (fun i σ H'=>H' G=some (.lst (fs.map V.int))/\z5 x A H H'/\sQ H' x A {z with Kn:=putAll z.Kn (fs.take i)}/\∃v,σ= [some (.ref x),some (.ref l),some (.ref G),v]) ⟨k1,z5.of s1,S1,none,rfl⟩ (fun i σ H' _ hp=>bC.of hp.1) (fun i y σ H' J hp=>?_) (fun σ H' hp=>?_)
 ·obtain⟨I,Q,C,v,rfl⟩:=hp;obtain⟨c,rfl,hc⟩:=tL J;have X:G≠A.pk:=bN I C.hk (by simp);have hkl:(putAll z.Kn (fs.take i)).length<=z.Kn.length+(fs.take i).length:=qX;have htl:(fs.take i).length<=fs.length:=by rw[z1];exact Nat.min_le_right _ _
  exists C.hx,C.hk;refine⟨by rw[gn];lia,by rw[ag X];exact I,fun b u e a1 a2 a3 a4 a5 a6=>by rw[ag a5];exact Q b u e a1 a2 a3 a4 a5 a6,?_,_,rfl⟩;have et:putK (putAll z.Kn (fs.take i)) (ik c) (.bl true)=putAll z.Kn (fs.take (i+1)):=by
   rw[ra,hc];exact putAll_snoc.symm
  rw[et];exact C.row C.hk z.T (putAll z.Kn (fs.take (i+1))) z.Fi (by simp) (by simp) (by rw[ag (bN C.ht C.hk (by simp))];exact C.ht) aa (by rw[ag C.kf.symm];exact C.hf) C.ka
 ·obtain⟨I,Q,C,v,rfl⟩:=hp;rw[cz,ZL] at C;exists 9;exact q G _ F Q C I
theorem d6:OM P w mg base T.nj gG 1 gz:=by
 exists 0,T.nj,gG,gz,(ah (az (pv 0) (aE K (pv 1) (ai (ai (pv 0) T.aq T.dY) T.bB T.fS)) T.aq T.eB));rename_i x n;obtain⟨A,z,i,q⟩:=h;obtain⟨s0,v,hw⟩:=i.ws.ins;exists i.hx,hw;exact q _ cI.upd (i.put _ _ _ _ _)
theorem vc:OM P w mg base T.nA d4 2 gB:=by
 exists 0,T.nA,d4,gB,(ae (ay 2 d4.1.nd (ai (pv 0) T.aq T.aN))
 (ae (mr (pv 0) (pv 1) T.aq T.aN mx)
 (ah (ar (a8 (pv 0) T.aq (jy T) HR (bj (a_ (J8 K rfl rfl) (by rfl) T.xf rB (bj (Rw rfl T.fc (bP (pv 2) (ai (pv 0) T.aq T.aN)))))))))))
 rename_i x st;obtain⟨A,z,G,⟨b0,b1,C⟩,O,hk,q⟩:=h;exists G.hx;refine⟨by lia,fun p hp=>⟨by lia,by lia,fun l hl=>?_⟩⟩;have S1:=G.put (z.b+st) z.t z.e z.clk z.hur;have b1:cI x H (upd H x (HO.ins aC A.dx (bD (V.int z.R) (V.ref A.pw) (V.ref A.pm) (V.ref A.pt) (V.int (z.b+st)) (V.int z.t) (V.int z.e) z.clk (V.bl z.hur) (V.ref A.pk) (V.ref A.pf) (V.ref A.pa)))):=cI.upd;generalize upd H x (HO.ins aC A.dx (bD (V.int z.R) (V.ref A.pw) (V.ref A.pm) (V.ref A.pt) (V.int (z.b+st)) (V.int z.t) (V.int z.e) z.clk (V.bl z.hur) (V.ref A.pk) (V.ref A.pf) (V.ref A.pa)))=I at*
 have F:=(S1.same (aj (o:= .rng z.b (z.b+st)) hp)).same (aj (o:= .lst (pJ z.b (z.b+st-z.b).toNat)) hl);have C:cI x H (upd (upd I p (.rng z.b (z.b+st))) l (.lst (pJ z.b (z.b+st-z.b).toNat))):=(b1.new hp).new hl;generalize upd (upd I p (.rng z.b (z.b+st))) l (.lst (pJ z.b (z.b+st-z.b).toNat))=H2 at*
 have il:(irg z.b st.toNat).length<=1000:=by unfold irg;rw[cz,RA];lia
 refine⟨A,_,irg z.b st.toNat,F,by rw[show z.b+st-z.b=st by lia,Vk],hk,il,fun v J i fr S3 y=>?_⟩;refine q _ v J rfl ?_ (fun b u e a1 U Z X a5 Q=>fr b u (C b u e a1) a1 U Z X a5 Q) S3 y;cases e:H v with
 |none=>rfl
 |some u=>
  exfalso;by_cases c:v=x
  ·rw[c,F.hx] at i;cases i
  ·rw[C v u e c] at i;cases i
theorem vb:OM P w mg base T.nq gH 2 gA:=by
 exists 0,T.nq,gH,gA,(ah (ar (a8 (pv 0) T.aq (jy T) HR (bj (bL (N:=(["step","self"]:List Str)) (nv:=1) (ix:=[0]) rfl (c9 (by kernel_rfl)) (aR K rfl (pv 1)) (fun _ _ _ _ _=>(aw 0 (show((["step","self"]:List Str)).Nodup by decide))) (fun _ _ _ _ _=>(nW (aS mS (aE K (ai (pv 1) T.aq T.aN) (pv 0)) (ai (pv 1) T.aq T.bF)))) (fun _ _ _ _ _=>(aE K (ai (pv 1) T.aq T.aN) (pv 0))))))));rename_i x t;obtain⟨A,z,hs,F,ht,hl,hk,q⟩:=h;exists F.hx;refine xb (xs:=hs.map V.int) (p:=fun v=>match v with | .int i=>decide (z.b+i<z.t)|_=>false) (f:=fun v=>match v with | .int i=> .int (z.b+i)|v=>v) (c6.of ht) (ax (by rw[cz];lia)) ?_ ?_ ?_
 ·intro y G U J;obtain⟨i,_,rfl⟩:=h8.mp G;exists F.hx;exact J
 ·intro y G _ U J;obtain⟨i,_,rfl⟩:=h8.mp G;exists F.hx;exact J
 rw[Vl];have hl2:=F_ (z:=z) (hs:=hs);refine⟨ax (by rw[cz];lia),fun l C=>?_⟩;have S1:=F.same (aj (o:= .lst ((hld z hs).map V.int)) C);have s1:=aj (o:= .lst ((hld z hs).map V.int)) C;refine⟨A,z,_,S1,rfl,hk,by lia,fun p O hp fr S3 I=>q _ p O rfl ?_ (fun b u e a1 X a3 Z a5 Q=>fr b u (s1 b u e) a1 X a3 Z a5 Q) S3 I⟩;exact BI s1 hp
theorem mU:OM P w mg base T.oF ir 2 ia:=by
 exists 0,T.oF,ir,ia,(ae (aH (a8 (pv 0) T.aq (d6 T) HR (bj (pv 1))))
 (ae (az (pv 0) gr T.aq T.dA)
 (ae (Fm HR.units (ai (pv 0) T.aq T.gO) (ai (pv 0) T.aq T.aN) gr)
 (ah (ar (ba (bP aG (ai (pv 0) T.aq T.aN))))))))
 rename_i x n;obtain⟨A,z,Q,hl,q⟩:=h;exists Q.hx;refine⟨A,z,Q,fun Z hB v=>?_⟩;have i:A.pa≠x:=bN v.ha v.hx (by simp);exists v.hx,v.ha,ag i,ag i.symm;refine⟨by rw[gn];lia,fun p hp=>?_⟩;have X:=v.put z.b z.t z.e (.int (n+z.w)) true;have J:=X.YC (putK z.Ag (ik z.b) (.bl true));have O:Dg x A H (upd (upd Z x (.ins aC A.dx (bD (.int z.R) (.ref A.pw) (.ref A.pm) (.ref A.pt) (.int z.b) (.int z.t) (.int z.e) (.int (n+z.w)) (.bl true) (.ref A.pk) (.ref A.pf) (.ref A.pa)))) A.pa (.dK (putK z.Ag (ik z.b) (.bl true)))):=fun b u e a1 F I G U C y=>by rw[ag y,ag a1];exact hB b u e a1
 exact q p _ (O.none J hp) (fun b u e a1 F I G U C y=>aM (O b u e a1 F I G U C y) hp) (J.same (aj hp)) aa
theorem jg:OM P w mg base T.jA eX 1 eS:=by
 exists 0,T.jA,eX,eS,(ah (ar (cD (d5 B7 (ai (pv 0) T.aq T.eB) bY) (kh (d5 z_ (pv 1) (ai (pv 0) T.aq T.eB))))));rename_i x n;obtain⟨A,z,r,i,hc,q⟩:=h;have hx:=i.hx;rcases hc with⟨hc,rfl⟩|⟨c,hc,rfl⟩
 ·rw[hc] at hx;exists hx;exact q
 ·rw[hc] at hx;exists hx;exact q
theorem zb:OM P w mg base T.su f7 2 jK:=by
 exists 0,T.su,f7,jK,(ae (ay 2 f7.1.nd (ai (pv 0) T.aq T.bF))
 (qY (aQ (cQ K HR (ai (pv 0) T.aq T.aN) (ai (pv 0) T.aq T.bF)) (ah (aH (a8 (pv 0) T.aq (d6 T) HR (bj (pv 1))))) aB)
 (ae (Fm HR.units (ai (pv 0) T.aq T.fV) (pv 2) (pv 1))
 (ae (mr (pv 0) af T.aq T.bF mx)
 (ah (ar (ba (bP aG (pv 2)))))))))
 rename_i x n;obtain⟨A,z,v,hl,q⟩:=h;exists v.hx;refine⟨fun y H'=>cI x H H'/\sQ H' x A {z with clk:=if z.b=z.t then .int (n+z.w) else z.clk}/\y= [some (.ref x),some (.int n),some (.int z.t)],?_,?_⟩
 ·exists v.hx;by_cases c:z.b=z.t
  ·rw[dy c,dy c];exact⟨A,z,v,fun H' G X=>⟨G,X⟩⟩
  ·rw[de c,de c];exact⟨cI.refl,v⟩
 rintro y H1 ⟨G,i,rfl⟩;generalize(if z.b=z.t then V.int (n+z.w) else z.clk)=ck at*
 have F:A.pf≠x:=bN v.hf v.hx (by simp);exists i.hx,i.hf,ag F.symm;refine⟨by rw[gn];lia,fun p hp=>?_⟩;have Z:=i.row (u:= .dK (putK z.Fi (ik z.t) (.int n))) i.hf z.T z.Kn (putK z.Fi (ik z.t) (.int n)) (by simp) (by simp) (by rw[ag (bN i.ht i.hf (by simp))];exact i.ht) (by rw[ag i.kf];exact i.hk) aa i.fa;have Q:=Z.put z.b (z.t+1) z.e ck z.hur;have fr:z5 x A H (upd (upd H1 A.pf (.dK (putK z.Fi (ik z.t) (.int n)))) x (.ins aC A.dx (bD (.int z.R) (.ref A.pw) (.ref A.pm) (.ref A.pt) (.int z.b) (.int (z.t+1)) (.int z.e) ck (.bl z.hur) (.ref A.pk) (.ref A.pf) (.ref A.pa)))):=fun b u e a1 I O J U C=>by rw[ag a1,ag C];exact G b u e a1
 exact q p _ (fr.none Q hp) (fun b u e a1 I O J U C=>aM (fr b u e a1 I O J U C) hp) (Q.same (aj hp)) aa
theorem q_:OM P w mg base T.jB eY 3 eT:=by
 exists 0,T.jB,eY,eT,(ae (aQ (aS ky (ai (pv 0) T.aq T.eB) bY) (ae (aH (a8 (pv 0) T.aq (d6 T) HR (bj (pv 1))))
 (ak (ah (ar bY)))) aB)
 (ak (ae (aQ (eZ (mq (a8 (pv 0) T.aq (jg T) HR (bj (pv 1))))) (ah (ar bY)) aB)
 (ak (ae (aH (bQ (ai (pv 0) T.aq T.dY) T.bB (rR T) HR))
 (ak (ae (aH (a8 (pv 0) T.aq (d6 T) HR (bj (pv 1))))
 (ak (ah (ar (ba (bP aG bY))))))))))))
 rename_i x n;obtain⟨A,z,v,hc,q⟩:=h;exists 6,u1;exists 6,u2;exists v.hx;by_cases C:z.clk = .non
 ·rw[dy C];refine⟨A,z,v,fun X O F=>?_⟩;exists 7,u1;exists 9;exact q .non X _ (fun b u e a1 _ _ _ _ _ _=>O b u e a1) F (.inl ⟨C,rfl,rfl⟩)
 rw[de C];obtain⟨i,G⟩:∃i,z.clk = .int i:=hc.resolve_left C;exists 8,u2,u3;exists v.hx;refine⟨A,z,_,v,.inr ⟨i,G,rfl⟩,?_⟩;by_cases J:i<=n
 ·rw[de (by simpa using J)];exists 8,u3,u4;obtain⟨s0,y,ew,hw⟩:=v.ws.ran;exists v.hx,ew;refine⟨A.dw,z.L,s0,y,z.w,rfl,?_⟩;have F:=v.ways cI.upd hw;have b1:cI A.pw H (upd H A.pw (.ins bI A.dw (bW (V.int z.L) s0 y (V.int (if z.L<2*z.w then z.L else 2*z.w))))):=cI.upd;generalize upd H A.pw (.ins bI A.dw (bW (V.int z.L) s0 y (V.int (if z.L<2*z.w then z.L else 2*z.w))))=X at*
  exists 8,u4,u5;exists F.hx;refine⟨A,_,F,fun H2 O U=>?_⟩;exists 7,u5;exists 9;intro p hp;have Q:Dg x A H H2:=fun b u e a1 I _ _ _ _ _=>O b u (b1 b u e I) a1;exact q (.ref p) _ _ (fun b u e a1 I a3 a4 a5 Z a7=>aM (Q b u e a1 I a3 a4 a5 Z a7) hp) (U.same (aj hp)) (.inr (.inr ⟨i,G,J,rfl,p,rfl,Q.none U hp,aa⟩))
 ·rw[dy (by simpa using J)];exact q .non H z (fun b u e _ _ _ _ _ _ _=>e) v (.inr (.inl ⟨i,G,by omega,rfl,rfl⟩))
theorem FH:OM P w mg base T.Ax qS 4 qE:=by
 exists 0,T.Ax,qS,qE,(ae (aQ (PW.pt (pw_and (aS mS (ai (pv 0) T.aq T.aN) (ai (pv 0) T.aq T.bF)) (pw_and1 (mq (a8 (pv 0) T.aq (jg T) HR (bj (pv 1))))))) (ae (aH (bQ (ai (pv 0) T.aq T.dY) T.bB (rR T) HR))
 (ak (ae (aH (bQ (ai (pv 0) T.aq T.eA) T.bG (ze T) HR))
 (ak (ah (ar (a8 (pv 0) T.aq (mU T) HR (bj (pv 1))))))))) aB)
 (ak (ae (aQ (mq (bQ (pv 0) T.aq (q9 T) HR)) (ae (aH (bQ (ai (pv 0) T.aq T.eA) T.bG (zf T) HR))
 (ak (ah (ar (a8 (pv 0) T.aq (mU T) HR (bj (pv 1))))))) aB)
 (ak (ae (aQ (mq (bQ (pv 0) T.aq (tI T) HR)) (ah (ar (a8 (pv 0) T.aq (zb T) HR (bj (pv 1))))) aB)
 (ak (ae (aQ (PW.pt (pw_and (mq (bQ (pv 0) T.aq (jx T) HR)) (pw_and1 (cQ K HR (ai (pv 0) T.aq T.aN) (ai (pv 0) T.aq T.bF))))) (ah (ar (a8 (pv 0) T.aq (q_ T) HR (bj (pv 1))))) aB)
 (ah (ar bY)))))))))
 rename_i x n;obtain⟨A,z,hS,hb,hc,hAg,hFi,q⟩:=h;exists 6,ua;exists 6,u1;obtain⟨s0,X,ew,hw⟩:=hS.ws.ran;exists hS.hx,ew;have C:(z.b<z.t->Jo z.clk n=false)->u1 {nx:=fun _ H'=>Q .non H',rt:=Q} [some (.ref x),some (.int n)] H:=by
  intro I;exists 8,u1,ub;exists 6,u2;exists hS.hx;refine⟨A,z,hS,hb,fun H1 O=>?_⟩;have G:=hS.same O;obtain⟨em,hi⟩:=G.ms;have ehd:JO z=(decide (z.b<z.t) && !z.hur&&decide ((2:Int)<=kab z)):=rfl;rw[<-ehd];cases hh:JO z
  ·rw[de (by decide)];exists 8,u2,u3;exists G.hx;refine⟨A,z,G,hb,fun H2 Z=>?_⟩;have y:=G.same Z;have J:Dg x A H H2:=fun b u e _ _ _ _ _ _ _=>Z _ _ (O _ _ e);have U:∀p,H2 p=none->H p=none:=fun p hp=>by
    cases e:H p with
    |none=>rfl
    |some u=>rw[Z _ _ (O _ _ e)] at hp;cases hp
   have enm:o_ z=(decide (z.t<z.T.length)&&decide (z.t<z.e)&&decide (z.t-z.b-kab z<z.wi)):=rfl;rw[<-enm];cases hn:o_ z
   ·rw[de (by decide)];exists 7,u3;exists y.hx;refine⟨A,z,y,?_⟩;have qn: ¬(z.t<z.T.length/\z.b=z.t)->Q .non H2:=fun hno2=>q .non H2 z J y (.inr ⟨I,.inr ⟨hh,.inr ⟨hn,.inr ⟨hno2,rfl,rfl⟩⟩⟩⟩);by_cases c1:z.t<z.T.length
    ·by_cases c2:z.b=z.t
     ·rw[dy c1,dy c2];exact⟨A,z,y,hc,fun v H' z' fr S' g=>q v H' z' (J.trans fr) S' (.inr ⟨I,.inr ⟨hh,.inr ⟨hn,.inl ⟨c1,c2,g.fr U⟩⟩⟩⟩)⟩
     ·rw[dy c1,de c2];exact qn fun c=>c2 c.2
    ·rw[de c1];exact qn fun c=>c1 c.1
   ·rw[dy rfl];exists y.hx;refine⟨A,z,y,hFi,fun p H3 hp fr S3 F=>?_⟩;exact q (.ref p) H3 _ (J.trans fr.seven) S3 (.inr ⟨I,.inr ⟨hh,.inl ⟨hn,rfl,p,rfl,U p hp,F⟩⟩⟩)
  ·rw[dy rfl];exists G.hx,em;refine⟨A.dm,z.mo,z.wi,z.kn,z.co,rfl,?_⟩;have hh1:1<=MeterM.hf z.wi/\MeterM.hf z.wi<=z.mo:=MeterM.WZ hi.1 hi.2.1;have y:=G.meter (H':=upd H1 A.pm (.ins aY A.dm (aW (.int z.mo) (.int (MeterM.hf z.wi)) (.int (MeterM.hf z.wi)) (.int 0)))) cI.upd ⟨aa,⟨hh1.1,hh1.2,ZR _,by show(0:Int)<MeterM.hf z.wi;lia⟩⟩;have J:Dg x A H (upd H1 A.pm (.ins aY A.dm (aW (.int z.mo) (.int (MeterM.hf z.wi)) (.int (MeterM.hf z.wi)) (.int 0)))):=fun b u e _ _ a3 _ _ _ _=>by rw[ag a3];exact O b u e
   generalize upd H1 A.pm (.ins aY A.dm (aW (.int z.mo) (.int (MeterM.hf z.wi)) (.int (MeterM.hf z.wi)) (.int 0)))=H2 at*
   exists 7,ub;exists y.hx;refine⟨A,_,y,hAg,fun p H3 hp fr S3 F=>?_⟩;exact q (.ref p) H3 _ (J.trans fr) S3 (.inr ⟨I,.inl ⟨hh,rfl,p,rfl,J.none y hp,F⟩⟩)
 by_cases c0:z.b<z.t
 ·rw[dy c0];have hr:Zn z.clk n (Jo z.clk n):=by
   rcases hc with h|⟨i,h⟩
   ·exact .inl ⟨h,by rw[h];rfl⟩
   ·exact .inr ⟨i,h,by rw[h];rfl⟩
  refine⟨A,z,_,hS,hr,?_⟩;cases ho:Jo z.clk n
  ·rw[de (by decide)];exact C fun _=>ho
  ·rw[dy rfl];refine⟨A.dw,z.L,s0,X,z.w,rfl,?_⟩;have G:=hS.ways cI.upd hw;have b1:cI A.pw H (upd H A.pw (.ins bI A.dw (bW (V.int z.L) s0 X (V.int (if z.L<2*z.w then z.L else 2*z.w))))):=cI.upd;generalize upd H A.pw (.ins bI A.dw (bW (V.int z.L) s0 X (V.int (if z.L<2*z.w then z.L else 2*z.w))))=H1 at*
   obtain⟨em,hi⟩:=G.ms;exists 8,ua,ud;exists G.hx,em;refine⟨A.dm,z.mo,z.wi,z.kn,z.co,rfl,?_⟩;have y:=G.meter (H':=upd H1 A.pm (.ins aY A.dm (aW (.int z.mo) (.int 1) (.int (MeterM.hf z.wi)) (.int 0)))) cI.upd ⟨aa,⟨ZR _,Int.le_trans hi.1 hi.2.1,ZR _,by show(0:Int)<1;lia⟩⟩;have J:Dg x A H (upd H1 A.pm (.ins aY A.dm (aW (.int z.mo) (.int 1) (.int (MeterM.hf z.wi)) (.int 0)))):=fun b u e _ a2 a3 _ _ _ _=>by rw[ag a3];exact b1 b u e a2
   generalize upd H1 A.pm (.ins aY A.dm (aW (.int z.mo) (.int 1) (.int (MeterM.hf z.wi)) (.int 0)))=H2 at*
   exists 7,ud;exists y.hx;refine⟨A,_,y,hAg,fun p H3 hp fr S3 F=>?_⟩;exact q (.ref p) H3 _ (J.trans fr) S3 (.inl ⟨c0,ho,rfl,p,rfl,J.none y hp,F⟩)
 ·rw[de c0];exact C fun c=>absurd c c0
theorem A8:OM P w mg base T.uv dI 4 lh:=by
 exists 0,T.uv,dI,lh,(ae (ay 5 dI.1.nd (aF (Hw T) HR (aZ (ai (pv 0) T.aq T.vz) (bP (ai (pv 0) T.aq T.aN) (pv 1)))))
 (ak (ae (aQ (aS mT (pv 5) (au fP (ai (pv 0) T.aq T.bF) (ai (pv 0) T.aq T.aN))) (ah (ar (cq gN))) aB)
 (ak (ae (ay 6 dI.1.nd (aE K (a8 (pv 0) T.aq (vc T) HR (bj (pv 5))) (a8 (pv 0) T.aq (vb T) HR (bj (pv 3)))))
 (ak (ae (az (pv 0) (aD (uS rfl) (by rfl) T.EO z0 (bP (ai (pv 0) T.aq T.gX) (aE K (ai (pv 0) T.aq T.aN) (pv 2)))) T.aq T.gX)
 (ak (ae (cJ j0 rfl (aR K rfl (pv 6)) (aw 7 dI.1.nd) (ah (aQ (yU (Jm HR.units (pv 7) (ai (pv 0) T.aq T.gO)) (jh rfl)) (ah (aH (a8 (ai (pv 0) T.aq T.dY) T.bB (y4 T) HR (bj (au fP (pv 4) (OG HR.units (ai (pv 0) T.aq T.fV) (pv 7) (fun _ _=>rfl))))))) aB)))
 (ak (ae (aH (a8 (ai (pv 0) T.aq T.eA) T.bG (Cg T) HR (bj (aD (eI K rfl) (by rfl) T.gv dH (bj (pv 6))))))
 (ak (ae (aQ (aS mT (pv 5) af) (ae (az (pv 0) (gV (aS mS (ai (pv 0) T.aq T.aN) (ai (pv 0) T.aq T.bF)) (aE K (pv 4) (ai (ai (pv 0) T.aq T.dY) T.bB T.fS)) bY) T.aq T.eB)
 (ah (az (pv 0) gr T.aq T.dA))) aB)
 (ah (ar (pv 6))))))))))))))))
 rename_i x nu rm hd tn;obtain⟨A,z,hs,hS,hb,hR,hhd,hsl,hnd,Yn,hT,hkl,ht,hk,q⟩:=h;exists 6,u0;exists hS.hx;refine⟨hR,?_⟩;exists 8,u0,u1;exists hS.hx;have ef:(nu-z.b) % z.R=far' z nu:=rfl;rw[ef];have far0:0<=far' z nu:=C2 _ (by lia);by_cases c0:z.t-z.b<far' z nu
 ·rw[dy c0];intro p hp;exact q p _ hp (fun b u e _ _ _ _ _ _ _=>aM e hp) (.inl ⟨c0,aj hp,aa⟩)
 rw[de c0];have b0:=hb.b0;have bt:=hb.bt;exists 8,u1,u2;exists hS.hx;refine⟨A,z,hS,hb,⟨far0,by lia⟩,by lia,fun fs p H1 efs hp fr S1 l1=>?_⟩;obtain rfl:fs=yJ z nu:=efs;replace S1:sQ H1 x A (mj z nu):=S1;have hd1:=fr.tup hS hhd;have npt:p≠A.pt:=fun c=>by rw[c,hS.ht] at hp;cases hp
 have fl1:(yJ z nu).length<=430:=by
  have h1:(yJ z nu).length<=(irg z.b (far' z nu).toNat).length:=me _ _;have h2:(irg z.b (far' z nu).toNat).length=(far' z nu).toNat:=by unfold irg;rw[cz,RA]
  lia
 have kl1:(mj z nu).Kn.length<=z.Kn.length+(yJ z nu).length:=qX;exists S1.hx;refine⟨A,_,hs,S1,hd1,by lia,by lia,fun fs2 p2 H2 efs2 hp2 fr2 S2 l2=>?_⟩;obtain rfl:fs2=xj z nu hs:=efs2;have l12:=fr2.lst S1 l1 npt;have fl2:(xj z nu hs).length<=100:=by
  have h1:(xj z nu hs).length<=(hld (mj z nu) hs).length:=me _ _;have h2:=F_ (z:=mj z nu) (hs:=hs);lia
 refine nL l12 l2 (ax (by rw[cz,cz];lia)) fun G hp3=>?_;have fr3:z5 x A H H2:=fr.trans fr2;have hp30:=fr3.none S2 hp3;have S3:=S2.same (aj (o:= .lst ((yJ z nu).map V.int++(xj z nu hs).map V.int)) hp3);have f3:z5 x A H (upd H2 G (.lst ((yJ z nu).map V.int++(xj z nu hs).map V.int))):=fun b u e a1 I J U a5 O=>aM (fr3 b u e a1 I J U a5 O) hp3;have l3:upd H2 G (.lst ((yJ z nu).map V.int++(xj z nu hs).map V.int)) G=some (.lst ((yJ z nu++xj z nu hs).map V.int)):=by rw[aa,n7]
 generalize upd H2 G (.lst ((yJ z nu).map V.int++(xj z nu hs).map V.int))=H3 at*
 exists 8,u2,u3;exists S3.hx;have tN:((z.t.toNat:Nat):Int)=z.t:=by lia
 have i1:∀a∈yJ z nu,knw z.Kn a=false/\0<=a/\a<((z.t.toNat:Nat):Int):=fun a ha=>by
  obtain⟨m1,m2⟩:=BH ha;have:=K4 m1;exact⟨m2,by lia,by lia⟩
 have i2:∀a∈xj z nu hs,knw (mj z nu).Kn a=false/\0<=a/\a<((z.t.toNat:Nat):Int):=fun a ha=>by
  obtain⟨m1,m2⟩:=BH ha;obtain⟨h1,k,hk1,rfl⟩:=K7 m1;have h2:=Yn k hk1;have h3:(mj z nu).b=z.b+far' z nu:=rfl;have h4:(mj z nu).t=z.t:=rfl;exact⟨m2,by lia,by lia⟩
 have n1:(yJ z nu).Nodup:=aav _ Eh;have n2:(xj z nu hs).Nodup:=aav _ (Ei hnd);have c1:=yu n1 i1;have c2:=yu n2 i2;have c3:=VN (D:=putAll (mj z nu).Kn (xj z nu hs)) (t:=z.t.toNat);have tot:z.k+((yJ z nu).length+(xj z nu hs).length)<=430:=by
  have e1:cnt (mj z nu).Kn z.t.toNat=cnt (putAll z.Kn (yJ z nu)) z.t.toNat:=rfl;lia
 have hpl:∀a∈yJ z nu++xj z nu hs,0<=a/\a<z.t:=fun a ha=>by
  rcases Zy.mp ha with h|h
  ·have:=i1 a h;lia
  ·have:=i2 a h;lia
 have efl:(yJ z nu++xj z nu hs).length=(yJ z nu).length+(xj z nu hs).length:=ib;clear c1 c2 c3 i1 i2 n1 n2;have S4:=S3.put (mj z nu).b (mj z nu).t (if(mj z nu).e<(mj z nu).b+rm then(mj z nu).b+rm else(mj z nu).e) (mj z nu).clk (mj z nu).hur;have n3x:G≠x:=bN l3 S3.hx (by simp);generalize hE:(if(mj z nu).e<(mj z nu).b+rm then(mj z nu).b+rm else(mj z nu).e)=e' at*
 have l4:upd H3 x (HO.ins aC A.dx (bD (V.int (mj z nu).R) (V.ref A.pw) (V.ref A.pm) (V.ref A.pt) (V.int (mj z nu).b) (V.int (mj z nu).t) (V.int e') (mj z nu).clk (V.bl (mj z nu).hur) (V.ref A.pk) (V.ref A.pf) (V.ref A.pa))) G=some (.lst ((yJ z nu++xj z nu hs).map V.int)):=by rw[ag n3x];exact l3
 have f4:z5 x A H (upd H3 x (HO.ins aC A.dx (bD (V.int (mj z nu).R) (V.ref A.pw) (V.ref A.pm) (V.ref A.pt) (V.int (mj z nu).b) (V.int (mj z nu).t) (V.int e') (mj z nu).clk (V.bl (mj z nu).hur) (V.ref A.pk) (V.ref A.pf) (V.ref A.pa)))):=fun b u e a1 I J U a5 O=>by rw[ag a1];exact f3 b u e a1 I J U a5 O
 generalize upd H3 x (HO.ins aC A.dx (bD (V.int (mj z nu).R) (V.ref A.pw) (V.ref A.pm) (V.ref A.pt) (V.int (mj z nu).b) (V.int (mj z nu).t) (V.int e') (mj z nu).clk (V.bl (mj z nu).hur) (V.ref A.pk) (V.ref A.pf) (V.ref A.pa)))=H4 at*
 obtain⟨v,C⟩:∃v:Sd,v=⟨z.R,z.b+far' z nu,z.t,e',z.clk,z.hur,z.T,putAll (mj z nu).Kn (xj z nu hs),z.Fi,z.Ag,z.L,z.w,z.k,z.wi,z.g,z.mo,z.kn,z.co⟩:=⟨_,rfl⟩;replace S4:sQ H4 x A v:=by rw[C];exact S4
 have e4F:v.Fi=z.Fi:=by rw[C]
 have e4k:v.k=z.k:=by rw[C]
 have e4A:v.Ag=z.Ag:=by rw[C]
 have e4L:v.L=z.L:=by rw[C]
 have e4w:v.w=z.w:=by rw[C]
 have e4g:v.g=z.g:=by rw[C]
 have X:v.mo=z.mo/\v.wi=z.wi/\v.kn=z.kn/\v.co=z.co:=by rw[C];exact⟨rfl,rfl,rfl,rfl⟩
 clear S3 S2 S1 l3 f3 l1 l12 l2;exists 8,u3,u4;exists 9;generalize hfs:yJ z nu++xj z nu hs=fs at*
 have kk:∀{i:Nat} {c:Int},fs[i]?=some c->mall z tn (fs.take (i+1))=MJ z tn (mall z tn (fs.take i)) c:=fun{i c} hc=>by
  rw[ra,hc];exact ML
 have S40:sQ H4 x A {v with w:=z.w,g:=z.g,k:=z.k}:=by
  have e:({v with w:=z.w,g:=z.g,k:=z.k}:Sd)=v:=by rw[C]
  rw[e];exact S4
 refine my (xs:=fs.map V.int) (bC.of l4) (fun i σ H'=> ∃v7,(mall z tn (fs.take i)).2.2<=z.k+i/\z5 x A H H'/\H' G=some (.lst (fs.map V.int))/\sQ H' x A {v with w:=(mall z tn (fs.take i)).1,g:=(mall z tn (fs.take i)).2.1,k:=(mall z tn (fs.take i)).2.2}/\σ= [some (.ref x),some (.int nu),some (.int rm),some (.ref hd),some (.int tn),some (.int (far' z nu)),some (.ref G),v7]) ⟨none,by show z.k<=z.k+0;lia,f4,l4,S40,rfl⟩ (fun i σ H' _ hp=>by obtain⟨_,_,_,hh,_⟩:=hp;exact bC.of hh) (fun i y σ H5 hy hp=>?_) (fun σ H5 hp=>?_)
 ·obtain⟨v7,kle,f5,l5,F,rfl⟩:=hp;obtain⟨c,rfl,hci⟩:=tL hy;have il:i<fs.length:=(i4.mp hci).1;obtain⟨c0',c1'⟩:=hpl c (ni hci);obtain⟨f,hf,g0,g1⟩:=hT c c0' c1';obtain⟨s0,sp0,ew⟩:=F.ws.ins;have hf5:=F.hf;have ha5:=F.ha;have ff:Sq z c=f:=by unfold Sq;rw[hf]
  rw[kk hci];generalize mall z tn (fs.take i)=s at*
  exists F.hx,ha5,hf5,ew;cases ea:(bh v.Ag (ik c)).isSome
  ·have e1:MJ z tn s c=(mws z.L (mgs s.2.1 (tn-f)),mgs s.2.1 (tn-f),s.2.2+1):=by
    unfold MJ knw;rw[<-e4A,ea,ff];rfl
   rw[dy rfl,e1];refine⟨_,by rw[e4F];exact hf,?_⟩;exists 9;exact WS.meas (E:=E0) (Q:=fun _ H'=> ∃v7,s.2.2+1<=z.k+(i+1)/\z5 x A H H'/\H' G=some (.lst (fs.map V.int))/\sQ H' x A {v with w:=mws z.L (mgs s.2.1 (tn-f)),g:=mgs s.2.1 (tn-f),k:=s.2.2+1}/\([some (.ref x),some (.int nu),some (.int rm),some (.ref hd),some (.int tn),some (.int (far' z nu)),some (.ref G),some (.int c)]:St)= [some (.ref x),some (.int nu),some (.int rm),some (.ref hd),some (.int tn),some (.int (far' z nu)),some (.ref G),v7]) F.ws (by show s.2.2<=440;lia) g0 g1 (fun H6 hB hw=>⟨_,by lia,fun b u e a1 I J U a5 O=>hB _ _ (f5 b u e a1 I J U a5 O) I,hB _ _ l5 (F.nw l5 (by simp)).2.1,by rw[<-e4L];exact F.ways hB hw,rfl⟩)
  ·have e1:MJ z tn s c=s:=by
    unfold MJ knw;rw[<-e4A,ea];rfl
   rw[de (by decide),e1];exact⟨_,by lia,f5,l5,F,rfl⟩
 obtain⟨v7,kle,f5,l5,F,rfl⟩:=hp;rw[cz,ZL] at F;obtain⟨em,hi⟩:=F.ms;exists 8,u4,u5;exists F.hx,l5,em;refine⟨by rw[cz];lia,A.dm,v.mo,v.wi,v.kn,v.co,rfl,?_⟩;have elen:((fs.map V.int).length:Int).toNat=fs.length:=by rw[cz];lia
 rw[elen];have hst0:MeterM.kn v.mo v.kn fs.length (v.wi,v.co)=MeterM.kn z.mo z.kn fs.length (z.wi,z.co):=by rw[X.1,X.2.1,X.2.2.1,X.2.2.2]
 rw[hst0];generalize hst:MeterM.kn z.mo z.kn fs.length (z.wi,z.co)=st at*
 have hin:MeterM.V1 v.mo st:=by rw[<-hst0];exact MeterM.inb _ _ hi
 have S6:=F.meter (H':=upd H5 A.pm (.ins aY A.dm (aW (.int v.mo) (.int st.1) (.int v.kn) (.int st.2)))) cI.upd ⟨aa,hin⟩;have l6:upd H5 A.pm (.ins aY A.dm (aW (.int v.mo) (.int st.1) (.int v.kn) (.int st.2))) G=some (.lst (fs.map V.int)):=by rw[ag (F.nw l5 (by simp)).2.2];exact l5
 have f6:z5 x A H (upd H5 A.pm (.ins aY A.dm (aW (.int v.mo) (.int st.1) (.int v.kn) (.int st.2)))):=fun b u e a1 I J U a5 O=>by rw[ag J];exact f5 b u e a1 I J U a5 O
 generalize upd H5 A.pm (.ins aY A.dm (aW (.int v.mo) (.int st.1) (.int v.kn) (.int st.2)))=H6 at*
 clear F S4 l5 f5 em;obtain⟨s0,sp0,ew⟩:=S6.ws.ins;have hE':e'=if z.e<z.b+far' z nu+rm then z.b+far' z nu+rm else z.e:=hE.symm;exists 7,u5;exists S6.hx,ew;subst C;have Z:fsh z nu hs=fs:=hfs;by_cases d0:0<far' z nu
 ·rw[dy d0];have fin:∀c:V,c=(if z.b+far' z nu<z.t then .int (tn+(mall z tn fs).1) else .non)->Q (.ref G) (upd H6 x (HO.ins aC A.dx (bD (V.int z.R) (V.ref A.pw) (V.ref A.pm) (V.ref A.pt) (V.int (z.b+far' z nu)) (V.int z.t) (V.int e') c (V.bl false) (V.ref A.pk) (V.ref A.pf) (V.ref A.pa)))):=fun c hcu=>by
   have S7:=S6.put (z.b+far' z nu) z.t e' c false;refine q G _ hp30 (fun b u e a1 I J U a5 O _=>by rw[ag a1];exact f6 b u e a1 I J U a5 O) (.inr ⟨by lia,?_,by rw[ag n3x,Z];exact l6⟩);unfold hrd;rw[Z,dy d0,dy d0,hst,<-hcu,<-hE'];exact S7
  by_cases d1:z.b+far' z nu<z.t
  ·rw[dy d1] at fin⊢;exact fin _ rfl
  ·rw[de d1] at fin⊢;exact fin _ rfl
 ·rw[de d0];refine q G _ hp30 f6.seven (.inr ⟨by lia,?_,by rw[Z];exact l6⟩);unfold hrd;rw[Z,de d0,de d0,hst,<-hE'];exact S6
theorem wG:OM P w mg base T.oG iw 3 ie:=by
 exists 0,T.oG,iw,ie,(ae (az (pv 0) (pv 1) T.aq T.vz)
 (ae (az (pv 0) (o7 T.bB (y6 T) HR (by decide) rfl (bP (pv 2) (pv 3))) T.aq T.dY)
 (ak (ae (az (pv 0) (o7 T.bG (xR T) HR (by decide) rfl (bj (pv 4))) T.aq T.eA)
 (ak (ae (az (pv 0) (cq gN) T.aq T.hU)
 (ae (az (pv 0) af T.aq T.aN)
 (ae (az (pv 0) af T.aq T.bF)
 (ae (az (pv 0) af T.aq T.gX)
 (ae (az (pv 0) bY T.aq T.eB)
 (ae (az (pv 0) gr T.aq T.dA)
 (ak (ae (az (pv 0) xH T.aq T.dz)
 (ak (ae (az (pv 0) xH T.aq T.fV)
 (ak (ah (az (pv 0) xH T.aq T.gO))))))))))))))))))
 rename_i x r f l m;obtain⟨hf,dx,hx,q⟩:=h;exists 6,u1;exists hx;intro pw dw J ndw new;refine⟨dw,rfl,?_⟩;have i:x≠pw:=(fresh_ne J).symm;have ndx:x≠dw:=(fresh_ne ndw).symm;exists ag i,ag ndx;obtain⟨H1,e1⟩:∃H1,H1=upd (upd (upd (upd H x (.ins aC dx (kq (.int r)))) dw (.own pw)) pw (.ins bI dw (bW (.int l) .non .non (.int f)))) x (.ins aC dx (kK (.int r) (.ref pw))):=⟨_,rfl⟩;rw[<-e1];rw[ag i.symm] at J;rw[ag ndx.symm] at ndw;have hx1:H1 x=some (.ins aC dx (kK (.int r) (.ref pw))):=by rw[e1];exact aa
 have w1:H1 pw=some (.ins bI dw (bW (.int l) .non .non (.int f))):=by rw[e1,ag i.symm];exact aa
 have b1:cI x H H1:=fun b o e n=>by rw[e1,ag n,ag (ao e J),ag (ao e ndw),ag n];exact e
 clear e1;exists 8,u1,u2;exists 9;intro pm dm G ndm nem;refine⟨dm,rfl,?_⟩;have v:x≠pm:=ao hx1 G;have ndx2:x≠dm:=ao hx1 ndm;exists ag v,ag ndx2,hx1;obtain⟨X,e2⟩:∃X,X=upd (upd (upd H1 dm (.own pm)) pm (.ins aY dm (aW (.int m) (.int (MeterM.mn 2 m)) (.int m) (.int 0)))) x (.ins aC dx (kJ (.int r) (.ref pw) (.ref pm))):=⟨_,rfl⟩;rw[<-e2];have Nv:X x=some (.ins aC dx (kJ (.int r) (.ref pw) (.ref pm))):=by rw[e2];exact aa
 have m2:X pm=some (.ins aY dm (aW (.int m) (.int (MeterM.mn 2 m)) (.int m) (.int 0))):=by rw[e2,ag v.symm];exact aa
 have b2:cI x H1 X:=fun b o e n=>by rw[e2,ag n,ag (ao e G),ag (ao e ndm)];exact e
 have nwm:pw≠pm:=ao w1 G;have w2:=b2 _ _ w1 i.symm;clear e2;exists 8,u2,u3;exists 9;intro pt npt;have y:x≠pt:=ao Nv npt;exists ag y,Nv;obtain⟨O,e3⟩:∃O,O=upd (upd X pt (.lst [])) x (.ins aC dx (kI (.int r) (.ref pw) (.ref pm) (.ref pt) (.int 0) (.int 0) (.int 1) .non (.bl false))):=⟨_,rfl⟩;rw[<-e3];have hx3:O x=some (.ins aC dx (kI (.int r) (.ref pw) (.ref pm) (.ref pt) (.int 0) (.int 0) (.int 1) .non (.bl false))):=by rw[e3];exact aa
 have t3:O pt=some (.lst []):=by rw[e3,ag y.symm];exact aa
 have b3:cI x X O:=fun b o e n=>by rw[e3,ag n,ag (ao e npt)];exact e
 clear e3;exists 8,u3,u4;exists 9;intro pk npk;have C:x≠pk:=ao hx3 npk;exists ag C,hx3;obtain⟨U,e4⟩:∃U,U=upd (upd O pk (.dK [])) x (.ins aC dx (jr (.int r) (.ref pw) (.ref pm) (.ref pt) (.int 0) (.int 0) (.int 1) .non (.bl false) (.ref pk))):=⟨_,rfl⟩;rw[<-e4];have hx4:U x=some (.ins aC dx (jr (.int r) (.ref pw) (.ref pm) (.ref pt) (.int 0) (.int 0) (.int 1) .non (.bl false) (.ref pk))):=by rw[e4];exact aa
 have k4:U pk=some (.dK []):=by rw[e4,ag C.symm];exact aa
 have b4:cI x O U:=fun b o e n=>by rw[e4,ag n,ag (ao e npk)];exact e
 clear e4;exists 8,u4,u5;exists 9;intro pf F;have I:x≠pf:=ao hx4 F;exists ag I,hx4;obtain⟨Q,e5⟩:∃Q,Q=upd (upd U pf (.dK [])) x (.ins aC dx (jq (.int r) (.ref pw) (.ref pm) (.ref pt) (.int 0) (.int 0) (.int 1) .non (.bl false) (.ref pk) (.ref pf))):=⟨_,rfl⟩;rw[<-e5];have hx5:Q x=some (.ins aC dx (jq (.int r) (.ref pw) (.ref pm) (.ref pt) (.int 0) (.int 0) (.int 1) .non (.bl false) (.ref pk) (.ref pf))):=by rw[e5];exact aa
 have f5:Q pf=some (.dK []):=by rw[e5,ag I.symm];exact aa
 have b5:cI x U Q:=fun b o e n=>by rw[e5,ag n,ag (ao e F)];exact e
 clear e5;exists 7,u5;exists 9;intro pa z;have Z:x≠pa:=ao hx5 z;exists ag Z,hx5;have b6:cI x Q (upd (upd Q pa (.dK [])) x (.ins aC dx (bD (.int r) (.ref pw) (.ref pm) (.ref pt) (.int 0) (.int 0) (.int 1) .non (.bl false) (.ref pk) (.ref pf) (.ref pa)))):=fun b o e n=>by rw[ag n,ag (ao e z)];exact e
 have k5:=b5 _ _ k4 C.symm;have fr:∀b,b∈[pw,pm,pt,pk,pf,pa]->H b=none:=fun b hb=>by
  simp only[fy,hL,wh] at hb;have B2:cI x H X:=fun b o e n=>b2 _ _ (b1 b o e n) n;have B3:cI x H O:=fun b o e n=>b3 _ _ (B2 b o e n) n;have B4:cI x H U:=fun b o e n=>b4 _ _ (B3 b o e n) n;have B5:cI x H Q:=fun b o e n=>b5 _ _ (B4 b o e n) n;rcases hb with rfl|rfl|rfl|rfl|rfl|rfl
  ·exact J
  ·exact eC b1 v G
  ·exact eC B2 y npt
  ·exact eC B3 C npk
  ·exact eC B4 I F
  ·exact eC B5 Z z
 refine q ⟨dx,pw,pm,pt,pk,pf,pa,dw,dm⟩ _ (fun b o e n=>b6 _ _ (b5 _ _ (b4 _ _ (b3 _ _ (b2 _ _ (b1 b o e n) n) n) n) n) n) fr ⟨aa,b6 _ _ (b5 _ _ (b4 _ _ t3 y.symm) y.symm) y.symm,b6 _ _ k5 C.symm,b6 _ _ f5 I.symm,by rw[ag Z.symm];exact aa,⟨by show 2<=l;lia,by show 2<=f/\f<=l;lia,.inl ⟨rfl,rfl,b6 _ _ (b5 _ _ (b4 _ _ (b3 _ _ w2 i.symm) i.symm) i.symm) i.symm⟩⟩,⟨b6 _ _ (b5 _ _ (b4 _ _ (b3 _ _ m2 v.symm) v.symm) v.symm) v.symm,?_⟩,ao k4 F,ao k5 z,ao f5 z,i,v,nwm⟩;show 1<=MeterM.mn 2 m/\MeterM.mn 2 m<=m/\(0:Int)<=0/\(0:Int)<MeterM.mn 2 m;unfold MeterM.mn;split<;>lia
theorem xP:OM P w mg base T.qg iW 1 iL:=by
 exists 0,T.qg,iW,iL,(ae (az (pv 0) (pv 1) T.aT T.rg)
 (ae (az (pv 0) (pv 2) T.aT T.xV)
 (ae (az (pv 0) af T.aT T.cC)
 (ae (az (pv 0) af T.aT T.fU)
 (ah (az (pv 0) xH T.aT T.fb))))))
 rename_i x r m;obtain⟨dx,hx,q⟩:=h;exists hx;intro y v;have n1:x≠y:=(fresh_ne v).symm;exists ag n1;have k1:H y=none:=by rw[ag n1.symm] at v;exact v
 refine q y _ k1 ?_ ⟨aa,?_⟩
 ·intro b o z i;rw[ag i,ag (ao z k1),ag i];exact z
 ·rw[ag n1.symm,aa]
theorem dr:OM P w mg base T.oB ij 1 hZ:=by
 exists 0,T.oB,ij,hZ,(ah (ar (au fP (aE K (ai (pv 0) T.aT T.fU) (ai (pv 0) T.aT T.xV)) (ai (pv 0) T.aT T.cC))));rename_i x;obtain⟨dx,pk,z,i,q⟩:=h;exists i.hx;exact q
theorem pS:OM P w mg base T.js cT 1 d8:=by
 exists 0,T.js,cT,d8,(ae (ay 1 cT.1.nd (cq gN))
 (ae (Hl j0 (yU (OJ HR.units (ai (pv 0) T.aT T.cC) (ai (pv 0) T.aT T.fb)) (jh rfl)) (ae (aH (bZ K rfl (pv 1) (OG HR.units (ai (pv 0) T.aT T.fb) (ai (pv 0) T.aT T.cC) (fun _ _=>rfl))))
 (ah (mr (pv 0) af T.aT T.cC mx))))
 (ah (ar (pv 1)))))
 rename_i x;obtain⟨dx,pk,z,B,G,Z,X,q⟩:=h;exists 9;intro p hp;have y:p≠x:=(ao G.hx hp).symm;have J:p≠pk:=(ao G.hD hp).symm;have U:=G.same (aj (o:= .lst []) hp);have Q:=aa (H:=H) (a:=p) (o:= .lst []);have F1:Ly x pk H (upd H p (.lst [])):=fun b u e _ _=>aM e hp;generalize upd H p (.lst [])=H1 at*
 refine⟨fun m σ H'=> ∃n:Nat,m=(B-(z.g+n)).toNat/\(∀j:Nat,j<n->(bh z.D (ik (z.g+j))).isSome=true)/\Ly x pk H H'/\IJ H' x dx pk {z with g:=z.g+n}/\H' p=some (.lst (vals z.D z.g n))/\σ= [some (.ref x),some (.ref p)],⟨_,0,rfl,fun j hj=>by lia,F1,by simpa using U,by simpa [vals] using Q,rfl⟩,?_⟩;rintro m σ H' ⟨n,rfl,hn,O,i,hl,rfl⟩;exists i.hx,i.hD,hl,ag y.symm;have hlen:(vals z.D z.g n).length=n:=by simp[vals]
 cases I:bh z.D (ik (z.g+n)) with
 |none=>
  rw[de (by simp)];exact q n p H' ⟨hn,I⟩ hp O i hl
 |some v=>
  rw[dy (by simp)];have hb:=Z _ (by rw[I];rfl);refine⟨fun F C=>C=upd (upd H' p (.lst (vals z.D z.g n++ [v]))) x (.ins cV dx (eF (.int z.R) (.int z.M) (.int (z.g+n+1)) (.int z.o) (.ref pk)))/\F= [some (.ref x),some (.ref p)],?_,?_⟩
  ·rintro F C ⟨rfl,rfl⟩;refine⟨(B-(z.g+(n+1:Nat))).toNat,by lia,n+1,rfl,?_,?_,⟨?_,?_⟩,?_,rfl⟩
   ·intro j hj;by_cases c:j<n
    ·exact hn j c
    ·have:j=n:=by lia
     subst this;rw[I];rfl
   ·intro b u e k1 k2;rw[ag k1,ag (ao e hp)];exact O b u e k1 k2
   ·rw[aa];show some (HO.ins cV dx (eF _ _ (.int (z.g+n+1)) _ _))=some (HO.ins cV dx (eF _ _ (.int (z.g+((n+1:Nat):Int))) _ _));rw[show z.g+((n+1:Nat):Int)=z.g+n+1 by lia]
   ·rw[ag G.n1,ag J.symm];exact i.hD
   ·rw[ag y,aa,yK I]
  ·refine⟨cf (bC.of hl),v,rfl,?_⟩;exists i.hx,ag y.symm;rw[hlen,gn];lia
theorem Dm:OM P w mg base T.yj gT 2 oQ:=by
 exists 0,T.yj,gT,oQ,(ae (ay 3 gT.1.nd (aF (Hw T) HR (aZ (ai (pv 0) T.aT T.rg) (bP (ai (pv 0) T.aT T.cC) (pv 1)))))
 (ae (aQ (aS z_ (pv 3) (bQ (pv 0) T.aT (dr T) HR)) (ah (ar (ba (bP bY (cq gN))))) aB)
 (ae (ay 4 gT.1.nd (aE K (ai (pv 0) T.aT T.cC) (pv 3)))
 (ae (aQ (yU (Jm HR.units (pv 4) (ai (pv 0) T.aT T.fb)) (jh rfl)) (ah (Fm HR.units (ai (pv 0) T.aT T.fb) (pv 4) (pv 2))) aB)
 (ah (ar (ba (bP (pv 4) (bQ (pv 0) T.aT (pS T) HR)))))))))
 rename_i x m U;obtain⟨dx,pk,z,B,F,hR,hB,I,hB3,hlen,q⟩:=h;exists F.hx;refine⟨hR,dx,pk,z,F,?_⟩;rcases q with⟨c,q⟩|⟨c,q⟩
 ·rw[dy c];intro l hl p hp;exact q p l _ (fun b o e=>aM (aM e hl) hp) (BI (aj hl) hp) hl aa (aM aa hp)
 ·rw[de (by lia)];exists F.hD,F.hx;have y:∀{H':Hp} {p:Addr} {Z:Tk},Ly x pk H H'->IJ H' x dx pk Z->H' p=none->H p=none:=fun{H' p Z} fr G hp=>by
   cases e:H p with
   |none=>rfl
   |some u=>
    have:=fr p u e (fun c=>by rw[c,G.hx] at hp;cases hp) (fun c=>by rw[c,G.hD] at hp;cases hp);rw[this] at hp;cases hp
  cases hv:bh z.D (ik (z.g+(m-z.g) % z.R)) with
  |some v=>
   rw[de (by simp)];refine⟨dx,pk,z,B,F,hB,I,fun n l H' hr hl fr G C p hp=>?_⟩;refine q z.D (by rw[hv];rfl) n p l _ hr (y fr G hp) hl (fun c=>by rw[c,C] at hp;cases hp) (fun b u e k1 k2=>aM (fr b u e k1 k2) hp) (G.same (aj hp)) (aM C hp) aa
  |none=>
   rw[dy (by simp)];exists F.hD,ag F.n1.symm,F.hx;refine⟨by rw[gn];lia,?_⟩;have T1:IJ (upd H pk (.dK (putK z.D (ik (z.g+(m-z.g) % z.R)) (.ref U)))) x dx pk {z with D:=putK z.D (ik (z.g+(m-z.g) % z.R)) (.ref U)}:=⟨by rw[ag F.n1.symm];exact F.hx,aa⟩;have Q:∀i,(bh (putK z.D (ik (z.g+(m-z.g) % z.R)) (.ref U)) (ik i)).isSome=true->i<B:=fun i O=>by
    rw[xo] at O;split at O
    ·rename_i ce;have:=Sum.inl.inj ce;lia
    ·exact hB i O
   refine⟨dx,pk,_,B,T1,Q,I,fun n l H' hr hl fr G C p hp=>?_⟩;have J:Ly x pk H H':=fun b u e k1 k2=>fr b u (by rw[ag k2];exact e) k1 k2;have X:H l=none:=by
    rw[ag (fun c=>by rw[c,aa] at hl;cases hl)] at hl;exact hl
   exact q _ (by rw[hv];rfl) n p l _ hr (y J G hp) X (fun c=>by rw[c,C] at hp;cases hp) (fun b u e k1 k2=>aM (J b u e k1 k2) hp) (G.same (aj hp)) (aM C hp) aa
theorem A6:OM P w mg base T.ur hG 2 k_:=by
 exists 0,T.ur,hG,k_,(ae (Fl (i:=1) (N:=(["step","self"]:List Str)) (nv:=1) (ix:=[0]) rfl hG.1.nd rfl rfl (c9 (by kernel_rfl)) (uL rfl T.fc (bP af (bQ (pv 0) T.aT (dr T) HR))) (fun _ _ _ _ _=>(aw 0 (show((["step","self"]:List Str)).Nodup by decide))) (fun _ _ _ _ _=>(nW (yU (OJ HR.units (aE K (ai (pv 1) T.aT T.cC) (pv 0)) (ai (pv 1) T.aT T.fb)) (jh rfl)))) (fun _ _ _ _ _=>(pv 0)))
 (ah (ar (ba (aZ (au bE (ai (pv 0) T.aT T.cC) (ai (pv 0) T.aT T.rg)) (bP (bQ (pv 0) T.aT (dr T) HR) (a_ (AK K rfl) (by rfl) T.rC nJ (bj (pv 1)))))))))
 rename_i x;obtain⟨dx,pk,z,y,U,hr,q⟩:=h;exists y.hx;refine⟨dx,pk,z,y,by omega,?_⟩;refine J5 (p:=fun v=>match v with | .int i=>(bh z.D (ik (z.g+i))).isSome|_=>false) (f:=fun v=>v) (ax (by omega)) ?_ ?_ ?_
 ·intro i O J F;exists y.hx,y.hD;exact F
 ·intro i O _ J F;exists 9;exact F
 rw[held_eq];have hlen:(Ah z.D z.g (z.o+z.M-z.g-1).toNat).length<=1000:=by
  unfold Ah;rw[cz];refine h7 (me _ _) ?_;rw[RA];omega
 refine⟨ax (by rw[cz];exact hlen),fun l hl=>?_⟩;generalize I:Ah z.D z.g (z.o+z.M-z.g-1).toNat=hs at*
 have G:=y.same (aj (o:= .lst (hs.map V.int)) hl);have Q:=aa (H:=H) (a:=l) (o:= .lst (hs.map V.int));have C:=aj (o:= .lst (hs.map V.int)) hl;generalize upd H l (.lst (hs.map V.int))=X at*
 exists G.hx;refine⟨U,dx,pk,z,G,_,.inl ⟨bC.of Q,fun t ht p hp=>?_⟩⟩;exact q p t hs _ (fun b o e=>aM (aM (C b o e) ht) hp) rfl (BI (fun b o e=>aM (C b o e) ht) hp) (BI C ht) (aM aa hp) aa
theorem Dp:OM P w mg base T.yn gU 1 oR:=by
 exists 0,T.yn,gU,oR,(ae (ay 2 gU.1.nd (cq gN))
 (ae (cJ j0 rfl (uL rfl T.fc (bP (ai (pv 0) T.aT T.fU) (aD (uR rfl) (by rfl) T.Lq GG (bP (aE K (ai (pv 0) T.aT T.fU) (pv 1)) (ai (pv 0) T.aT T.cC))))) (aw 3 gU.1.nd) (ah (aH (bZ K rfl (pv 2) (RG (ai (pv 0) T.aT T.fb) (pv 3))))))
 (ae (mr (pv 0) (aD (eI K rfl) (by rfl) T.gv dH (bj (pv 2))) T.aT T.fU mx)
 (ah (ar (pv 2))))))
 rename_i x m;obtain⟨dx,pk,z,J,hb,Z,q⟩:=h;exists J.hx;intro p hp;have Q:p≠x:=(ao J.hx hp).symm;have O:p≠pk:=(ao J.hD hp).symm;have T1:=J.same (aj (o:= .lst []) hp);have l1:=aa (H:=H) (a:=p) (o:= .lst []);have F1:Ly x pk H (upd H p (.lst [])):=fun b u e _ _=>aM e hp;generalize upd H p (.lst [])=H1 at*
 exists T1.hx;refine⟨by constructor<;>(try constructor)<;>(try constructor)<;>(try split)<;>omega,?_⟩
 generalize hN:((if z.g<z.o+m then z.g else z.o+m)-z.o).toNat=N at*
 have hN2:z.o+N<=z.g:=by split at hN<;>omega
 refine ro (fun i σ H'=>i<=N/\∃(C:List (Key×V)) (U:Option V),(∀k:Int,bh C (ik k)=if z.o<=k/\k<z.o+i then none else bh z.D (ik k))/\C.Sublist z.D/\Ly x pk H H'/\IJ H' x dx pk {z with D:=C}/\H' p=some (.lst (vals z.D z.o i))/\σ= [some (.ref x),some (.int m),some (.ref p),U])
  ⟨lp _,z.D,none,fun k=>by rw[de (by omega)],List.Sublist.refl _,F1,T1,by simpa [vals] using l1,rfl⟩ (fun i σ H' hi G=>?_) (fun σ H' G=>?_)
 ·obtain⟨X,C,U,F,I,hF,y,hl,rfl⟩:=G;exists y.hx,y.hD,hl,ag O;obtain⟨v,hv⟩:=ZY.mp (Z (z.o+i) (by omega) (by omega));refine⟨cf (bC.of hl),v,by rw[F,de (by omega)];exact hv,?_⟩;refine⟨by simp[vals];rw[gn];omega,by omega,tZ C (ik (z.o+i)),_,fun k=>?_,(show(tZ C (ik (z.o+i))).Sublist C from List.filter_sublist).trans I,?_,⟨?_,?_⟩,by rw[yK hv],rfl⟩
  ·rw[LB,F];by_cases c:k=z.o+i
   ·rw[dy (by rw[c]),dy (by omega)]
   ·rw[de (by intro q;exact c (Sum.inl.inj q))];by_cases c2:z.o<=k/\k<z.o+i
    ·rw[dy c2,dy (by omega)]
    ·rw[de c2,de (by omega)]
  ·intro b u e k1 k2;rw[ag (ao e hp),ag k2];exact hF b u e k1 k2
  ·rw[ag Q.symm,ag J.n1.symm];exact y.hx
  ·rw[ag O.symm,aa]
 ·obtain⟨X,C,U,F,I,hF,y,hl,rfl⟩:=G;exists y.hx,hl;have hlen:(vals z.D z.o N).length=N:=by simp[vals]
  rw[hlen];refine q N p C _ rfl hp F I ?_ (y.put z.R z.M z.g (z.o+N)) ?_
  ·intro b u e k1 k2;rw[ag k1];exact hF b u e k1 k2
  ·rw[ag Q];exact hl
theorem iB:OM P w mg base T.oH iy 1 ig:=by
 exists 0,T.oH,iy,ig,(ae (xE T.sR T.g9 (pv 0) (pv 1))
 (ah (Oy T.sR T.mD (pv 0) (pv 2))))
 rename_i e v u;obtain⟨he,q⟩:=h;exists he;refine⟨e,rfl,he,fun d hd=>?_⟩;have nd:d≠e:=fun z=>by rw[z,he] at hd;cases hd
 refine⟨e,rfl,d,[(("state":Str),v)],aa,by rw[ag nd];exact aa,rfl,(show 1<1000 by decide),?_⟩;have e2:upd (upd (upd H d (.xd [("state",v)])) e (.ext (vA e aL (some d)))) d (.xd ([(("state":Str),v)]++ [(("wish":Str),u)]))=upd (upd H d (.xd [("state",v),("wish",u)])) e (.ext (vA e aL (some d))):=by
  funext z;by_cases i:z=d
  ·subst i;rw[aa,ag nd,aa];rfl
  ·rw[ag i];by_cases x:z=e
   ·subst x;rw[aa,aa]
   ·rw[ag x,ag i,ag x,ag i]
 rw[e2];exact q d hd
theorem FG:OM P w mg base T.Aw qR 1 xt:=by
 exists 0,T.Aw,qR,xt,(ah (ar aG));rename_i x;exists 9;exact h
theorem Be:OM P w mg base T.uB lO 1 rN:=by
 exists 0,T.uB,lO,rN,(ah (ar aG));rename_i x;exists 9;exact h
theorem FK:OM P w mg base T.AA qT 1 xu:=by
 exists 0,T.AA,qT,xu,(ah (ar aG));rename_i x;exists 9;exact h
theorem FL:OM P w mg base T.AD qU 1 xv:=by
 exists 0,T.AD,qU,xv,(ah (ar aG));rename_i x;exists 9;exact h
theorem Ba:OM P w mg base T.uy lL 1 rL:=by
 exists 0,T.uy,lL,rL,(ah (ar aG));rename_i x;exists 9;exact h
theorem A4:OM P w mg base T.uq lH 1 rH:=by
 exists 0,T.uq,lH,rH,(ah (ar aG));rename_i x;exists 9;exact h
theorem Bc:OM P w mg base T.uA lM 1 rM:=by
 exists 0,T.uA,lM,rM,(ah (ar aG));rename_i x;exists 9;exact h
theorem wF:OM P w mg base T.oE iq 1 mJ:=by
 exists 0,T.oE,iq,mJ,(ah (ar (lQ T.iF T.JF rfl)));rename_i x;exists 9;exact fun y dx i nd _=>h y _ (cH i nd) ⟨_,dx,aa,.tail _ (.head _)⟩
theorem vh:OM P w mg base T.nG gM 1 l7:=by
 exists 0,T.nG,gM,l7,(ah (ar (lQ T.gi T.Cj rfl)));rename_i x;exists 9;exact fun y dx i nd _=>h y _ (cH i nd) ⟨_,dx,aa,.tail _ (.tail _ (.tail _ (.tail _ (.head _))))⟩
theorem zd:OM P w mg base T.sy jY 1 pF:=by
 exists 0,T.sy,jY,pF,(ah (ar (lQ T.gi T.Cj rfl)));rename_i x;exists 9;exact fun y dx i nd _=>h y _ (cH i nd) ⟨_,dx,aa,.tail _ (.tail _ (.tail _ (.tail _ (.head _))))⟩
theorem zg:OM P w mg base T.sD j3 1 pG:=by
 exists 0,T.sD,j3,pG,(ah (ar (lQ T.gj T.Ck rfl)));rename_i x;exists 9;exact fun y dx i nd _=>h y _ (cH i nd) ⟨_,dx,aa,.tail _ (.tail _ (.tail _ (.tail _ (.tail _ (.tail _ (.head _))))))⟩
theorem Dq:OM P w mg base T.yo oW 1 vp:=by
 exists 0,T.yo,oW,vp,(ah (ar (lQ T.rj T.KR rfl)));rename_i x;exists 9;exact fun y dx i nd _=>h y _ (cH i nd) ⟨_,dx,aa,.tail _ (.tail _ (.head _))⟩
theorem zk:OM P w mg base T.sI j7 1 pI:=by
 exists 0,T.sI,j7,pI,(ah (ar (lQ T.rj T.KR rfl)));rename_i x;exists 9;exact fun y dx i nd _=>h y _ (cH i nd) ⟨_,dx,aa,.tail _ (.tail _ (.head _))⟩
theorem Dr:OM P w mg base T.yq oY 1 vq:=by
 exists 0,T.yq,oY,vq,(ah (ar (lQ T.tP T.RW rfl)));rename_i x;exists 9;exact fun y dx i nd _=>h y _ (cH i nd) ⟨_,dx,aa,.tail _ (.tail _ (.tail _ (.head _)))⟩
theorem zh:OM P w mg base T.sE j4 1 pH:=by
 exists 0,T.sE,j4,pH,(ah (ar (lQ T.gj T.Ck rfl)));rename_i x;exists 9;exact fun y dx i nd _=>h y _ (cH i nd) ⟨_,dx,aa,.tail _ (.tail _ (.tail _ (.tail _ (.tail _ (.tail _ (.head _))))))⟩
theorem y_:OM P w mg base T.sr jW 1 pD:=by
 exists 0,T.sr,jW,pD,(ah (ar (lQ T.pq T.FV rfl)));rename_i x;exists 9;exact fun y dx i nd _=>h y _ (cH i nd) ⟨_,dx,aa,.head _⟩
theorem vf:OM P w mg base T.nE gK 1 lY:=by
 exists 0,T.nE,gK,lY,(ah (ar (lQ T.iD T.JE rfl)));rename_i x;exists 9;exact fun y dx i nd _=>h y _ (cH i nd) ⟨_,dx,aa,.tail _ (.tail _ (.tail _ (.tail _ (.tail _ (.head _)))))⟩
theorem vg:OM P w mg base T.nF gL 1 lZ:=by
 exists 0,T.nF,gL,lZ,(ah (ar (lQ T.pq T.FV rfl)));rename_i x;exists 9;exact fun y dx i nd _=>h y _ (cH i nd) ⟨_,dx,aa,.head _⟩
include T in theorem fQ {C:Addr} (F:MethAt K C "begun" "State.begun" (ic 79 4)):MA P w K mg base C "begun" 1 ["self"] sZ:=by
 exists 0,F,eg,sZ,(ah (ar (pv 0)));rename_i x;exists 9;exact h
include T in theorem jf {C:Addr} (F:MethAt K C "ended" "State.ended" (ic 79 5)):MA P w K mg base C "ended" 1 ["self"] sY:=by
 exists 0,F,fN,sY,(ah (ar (pv 0)));rename_i x;exists 9;exact h
include T in theorem dS {C:Addr} (F:MethAt K C "answered" "State.answered" (ic 79 6)):MA P w K mg base C "answered" 1 ["self"] nR:=by
 exists 0,F,cU,nR,(ah (ar (pv 0)));rename_i x;exists 9;exact h
theorem wH:OM P w mg base T.oI iz 1 mM:=by
 exists 0,T.oI,iz,mM,(ah (ar gr));rename_i x;exists 9;exact h
theorem A9:OM P w mg base T.uw lJ 1 rJ:=by
 exists 0,T.uw,lJ,rJ,(ah (ar gr));rename_i x;exists 9;exact h
theorem A_:OM P w mg base T.ux lK 1 rK:=by
 exists 0,T.ux,lK,rK,(ah (ar gr));rename_i x;exists 9;exact h
include T in theorem gf {C:Addr} (F:MethAt K C "may_put" "State.may_put" (ic 79 3)):MA P w K mg base C "may_put" 1 ["self"] pE:=by
 exists 0,F,d_,pE,(ah (ar gr));rename_i x;exists 9;exact h
theorem mF {C:Addr} {nm:Str} (h:(C,nm)∈tbl):(C=jv/\nm="shut")\/(C=eO/\nm="calling")\/(C=nM/\nm="open")\/(C=nN/\nm="left")\/(C=eK/\nm="leaving")\/(C=eJ/\nm="waiting")\/(C=eN/\nm="closing"):=by
 simpa [tbl] using h
theorem za (T:Txt K mg):DT P w K mg base (IH P w) "name" 1 yP:=by
 intro x H Q E h;unfold yP at h;split at h;rotate_left
 ·exact h.elim
 rename_i x e;obtain⟨nm,i,q⟩:=h;have v:=i;obtain⟨C,dx,hx,hm⟩:=i;injection e with e1 _;rcases mF hm with⟨rfl,rfl⟩|⟨rfl,rfl⟩|⟨rfl,rfl⟩|⟨rfl,rfl⟩|⟨rfl,rfl⟩|⟨rfl,rfl⟩|⟨rfl,rfl⟩
 ·exact⟨x,_,dx,_,_,_,_,e1,hx,rfl,by decide,T.pq.cl,FG T,q⟩
 ·exact⟨x,_,dx,_,_,_,_,e1,hx,rfl,by decide,T.iF.cl,Be T,q⟩
 ·exact⟨x,_,dx,_,_,_,_,e1,hx,rfl,by decide,T.rj.cl,FK T,q⟩
 ·exact⟨x,_,dx,_,_,_,_,e1,hx,rfl,by decide,T.tP.cl,FL T,q⟩
 ·exact⟨x,_,dx,_,_,_,_,e1,hx,rfl,by decide,T.gi.cl,Ba T,q⟩
 ·exact⟨x,_,dx,_,_,_,_,e1,hx,rfl,by decide,T.iD.cl,A4 T,q⟩
 ·exact⟨x,_,dx,_,_,_,_,e1,hx,rfl,by decide,T.gj.cl,Bc T,q⟩
include T in theorem cB {C:Addr} (F:MethAt K C "wish_begin" "State.wish_begin" (ic 79 1)):MA P w K mg base C "wish_begin" 3 ["self"] lX:=by
 exists 1,F,bX,lX,(ah (j_ T.sR (iB T) T.zp HR (by decide) z6 rfl rfl rfl (bP (wy (pv 0) (za T) HR (by decide)) aG)));rename_i x;obtain⟨nm,i,q⟩:=h;exists 9;refine⟨nm,i,fun e he d hd=>?_⟩;obtain⟨s1,s2⟩:=dropxl (C:=aL) (l:=[("state",.str nm),("wish",.str "begin")]) (aA.refl H) he hd;exact⟨_,rfl,q _ d s1 s2⟩
include T in theorem fG {C:Addr} (F:MethAt K C "wish_end" "State.wish_end" (ic 79 2)):MA P w K mg base C "wish_end" 3 ["self"] nQ:=by
 exists 1,F,dR,nQ,(ah (j_ T.sR (iB T) T.zp HR (by decide) z6 rfl rfl rfl (bP (wy (pv 0) (za T) HR (by decide)) aG)));rename_i x;obtain⟨nm,i,q⟩:=h;exists 9;refine⟨nm,i,fun e he d hd=>?_⟩;obtain⟨s1,s2⟩:=dropxl (C:=aL) (l:=[("state",.str nm),("wish",.str "end")]) (aA.refl H) he hd;exact⟨_,rfl,q _ d s1 s2⟩
theorem A5 (T:Txt K mg):DT P w K mg base (IH P w) "wish_begin" 3 k9:=by
 intro x H Q E h;unfold k9 at h;split at h;rotate_left
 ·exact h.elim
 rename_i x e;obtain⟨nm,v,q⟩:=h;have i:=v;obtain⟨C,dx,hx,hm⟩:=v;injection e with e1 _;rcases mF hm with⟨rfl,rfl⟩|⟨rfl,rfl⟩|⟨rfl,rfl⟩|⟨rfl,rfl⟩|⟨rfl,rfl⟩|⟨rfl,rfl⟩|⟨rfl,rfl⟩
 ·exact⟨x,_,dx,_,_,_,_,e1,hx,rfl,by decide,T.pq.cl,wF T,q.1 _ (by decide+kernel)⟩
 ·exact⟨x,_,dx,_,_,_,_,e1,hx,rfl,by decide,T.iF.cl,cB T T.sP,⟨_,i,q.2 (by decide+kernel)⟩⟩
 ·exact⟨x,_,dx,_,_,_,_,e1,hx,rfl,by decide,T.rj.cl,cB T T.wY,⟨_,i,q.2 (by decide+kernel)⟩⟩
 ·exact⟨x,_,dx,_,_,_,_,e1,hx,rfl,by decide,T.tP.cl,cB T T.wZ,⟨_,i,q.2 (by decide+kernel)⟩⟩
 ·exact⟨x,_,dx,_,_,_,_,e1,hx,rfl,by decide,T.gi.cl,cB T T.sN,⟨_,i,q.2 (by decide+kernel)⟩⟩
 ·exact⟨x,_,dx,_,_,_,_,e1,hx,rfl,by decide,T.iD.cl,cB T T.sM,⟨_,i,q.2 (by decide+kernel)⟩⟩
 ·exact⟨x,_,dx,_,_,_,_,e1,hx,rfl,by decide,T.gj.cl,cB T T.sO,⟨_,i,q.2 (by decide+kernel)⟩⟩
theorem Dk (T:Txt K mg):DT P w K mg base (IH P w) "wish_end" 3 oO:=by
 intro x H Q E h;unfold oO at h;split at h;rotate_left
 ·exact h.elim
 rename_i x e;obtain⟨nm,v,q⟩:=h;have i:=v;obtain⟨C,dx,hx,hm⟩:=v;injection e with e1 _;rcases mF hm with⟨rfl,rfl⟩|⟨rfl,rfl⟩|⟨rfl,rfl⟩|⟨rfl,rfl⟩|⟨rfl,rfl⟩|⟨rfl,rfl⟩|⟨rfl,rfl⟩
 ·exact⟨x,_,dx,_,_,_,_,e1,hx,rfl,by decide,T.pq.cl,fG T T.zM,⟨_,i,q.2 (by decide+kernel)⟩⟩
 ·exact⟨x,_,dx,_,_,_,_,e1,hx,rfl,by decide,T.iF.cl,vh T,q.1 _ (by decide+kernel)⟩
 ·exact⟨x,_,dx,_,_,_,_,e1,hx,rfl,by decide,T.rj.cl,zd T,q.1 _ (by decide+kernel)⟩
 ·exact⟨x,_,dx,_,_,_,_,e1,hx,rfl,by decide,T.tP.cl,zg T,q.1 _ (by decide+kernel)⟩
 ·exact⟨x,_,dx,_,_,_,_,e1,hx,rfl,by decide,T.gi.cl,fG T T.vk,⟨_,i,q.2 (by decide+kernel)⟩⟩
 ·exact⟨x,_,dx,_,_,_,_,e1,hx,rfl,by decide,T.iD.cl,fG T T.vi,⟨_,i,q.2 (by decide+kernel)⟩⟩
 ·exact⟨x,_,dx,_,_,_,_,e1,hx,rfl,by decide,T.gj.cl,fG T T.vm,⟨_,i,q.2 (by decide+kernel)⟩⟩
theorem JC (T:Txt K mg):DT P w K mg base (IH P w) "begun" 1 vW:=by
 intro x H Q E h;unfold vW at h;split at h;rotate_left
 ·exact h.elim
 rename_i x e;obtain⟨nm,v,q⟩:=h;have i:=v;obtain⟨C,dx,hx,hm⟩:=v;injection e with e1 _;rcases mF hm with⟨rfl,rfl⟩|⟨rfl,rfl⟩|⟨rfl,rfl⟩|⟨rfl,rfl⟩|⟨rfl,rfl⟩|⟨rfl,rfl⟩|⟨rfl,rfl⟩
 ·exact⟨x,_,dx,_,_,_,_,e1,hx,rfl,by decide,T.pq.cl,Dq T,q _ (by decide+kernel)⟩
 ·exact⟨x,_,dx,_,_,_,_,e1,hx,rfl,by decide,T.iF.cl,zk T,q _ (by decide+kernel)⟩
 ·exact⟨x,_,dx,_,_,_,_,e1,hx,rfl,by decide,T.rj.cl,fQ T T.DM,q _ (by decide+kernel) _ _ (aA.refl _) i⟩
 ·exact⟨x,_,dx,_,_,_,_,e1,hx,rfl,by decide,T.tP.cl,fQ T T.DO,q _ (by decide+kernel) _ _ (aA.refl _) i⟩
 ·exact⟨x,_,dx,_,_,_,_,e1,hx,rfl,by decide,T.gi.cl,fQ T T.zQ,q _ (by decide+kernel) _ _ (aA.refl _) i⟩
 ·exact⟨x,_,dx,_,_,_,_,e1,hx,rfl,by decide,T.iD.cl,fQ T T.zL,q _ (by decide+kernel) _ _ (aA.refl _) i⟩
 ·exact⟨x,_,dx,_,_,_,_,e1,hx,rfl,by decide,T.gj.cl,fQ T T.zS,q _ (by decide+kernel) _ _ (aA.refl _) i⟩
theorem JB (T:Txt K mg):DT P w K mg base (IH P w) "ended" 1 qD:=by
 intro x H Q E h;unfold qD at h;split at h;rotate_left
 ·exact h.elim
 rename_i x e;obtain⟨nm,v,q⟩:=h;have i:=v;obtain⟨C,dx,hx,hm⟩:=v;injection e with e1 _;rcases mF hm with⟨rfl,rfl⟩|⟨rfl,rfl⟩|⟨rfl,rfl⟩|⟨rfl,rfl⟩|⟨rfl,rfl⟩|⟨rfl,rfl⟩|⟨rfl,rfl⟩
 ·exact⟨x,_,dx,_,_,_,_,e1,hx,rfl,by decide,T.pq.cl,jf T T.DL,q _ (by decide+kernel) _ _ (aA.refl _) i⟩
 ·exact⟨x,_,dx,_,_,_,_,e1,hx,rfl,by decide,T.iF.cl,jf T T.zU,q _ (by decide+kernel) _ _ (aA.refl _) i⟩
 ·exact⟨x,_,dx,_,_,_,_,e1,hx,rfl,by decide,T.rj.cl,Dr T,q _ (by decide+kernel)⟩
 ·exact⟨x,_,dx,_,_,_,_,e1,hx,rfl,by decide,T.tP.cl,jf T T.DN,q _ (by decide+kernel) _ _ (aA.refl _) i⟩
 ·exact⟨x,_,dx,_,_,_,_,e1,hx,rfl,by decide,T.gi.cl,zh T,q _ (by decide+kernel)⟩
 ·exact⟨x,_,dx,_,_,_,_,e1,hx,rfl,by decide,T.iD.cl,y_ T,q _ (by decide+kernel)⟩
 ·exact⟨x,_,dx,_,_,_,_,e1,hx,rfl,by decide,T.gj.cl,jf T T.zR,q _ (by decide+kernel) _ _ (aA.refl _) i⟩
theorem Dl (T:Txt K mg):DT P w K mg base (IH P w) "answered" 1 oP:=by
 intro x H Q E h;unfold oP at h;split at h;rotate_left
 ·exact h.elim
 rename_i x e;obtain⟨nm,v,q⟩:=h;have i:=v;obtain⟨C,dx,hx,hm⟩:=v;injection e with e1 _;rcases mF hm with⟨rfl,rfl⟩|⟨rfl,rfl⟩|⟨rfl,rfl⟩|⟨rfl,rfl⟩|⟨rfl,rfl⟩|⟨rfl,rfl⟩|⟨rfl,rfl⟩
 ·exact⟨x,_,dx,_,_,_,_,e1,hx,rfl,by decide,T.pq.cl,dS T T.zN,q _ (by decide+kernel) _ _ (aA.refl _) i⟩
 ·exact⟨x,_,dx,_,_,_,_,e1,hx,rfl,by decide,T.iF.cl,dS T T.vn,q _ (by decide+kernel) _ _ (aA.refl _) i⟩
 ·exact⟨x,_,dx,_,_,_,_,e1,hx,rfl,by decide,T.rj.cl,dS T T.zO,q _ (by decide+kernel) _ _ (aA.refl _) i⟩
 ·exact⟨x,_,dx,_,_,_,_,e1,hx,rfl,by decide,T.tP.cl,dS T T.zP,q _ (by decide+kernel) _ _ (aA.refl _) i⟩
 ·exact⟨x,_,dx,_,_,_,_,e1,hx,rfl,by decide,T.gi.cl,vf T,q _ (by decide+kernel)⟩
 ·exact⟨x,_,dx,_,_,_,_,e1,hx,rfl,by decide,T.iD.cl,dS T T.vj,q _ (by decide+kernel) _ _ (aA.refl _) i⟩
 ·exact⟨x,_,dx,_,_,_,_,e1,hx,rfl,by decide,T.gj.cl,vg T,q _ (by decide+kernel)⟩
theorem FF (T:Txt K mg):DT P w K mg base (IH P w) "may_put" 1 qC:=by
 intro x H Q E h;unfold qC at h;split at h;rotate_left
 ·exact h.elim
 rename_i x e;obtain⟨nm,i,q⟩:=h;have v:=i;obtain⟨C,dx,hx,hm⟩:=i;injection e with e1 _;rcases mF hm with⟨rfl,rfl⟩|⟨rfl,rfl⟩|⟨rfl,rfl⟩|⟨rfl,rfl⟩|⟨rfl,rfl⟩|⟨rfl,rfl⟩|⟨rfl,rfl⟩
 ·exact⟨x,_,dx,_,_,_,_,e1,hx,rfl,by decide,T.pq.cl,gf T T.Bo,q⟩
 ·exact⟨x,_,dx,_,_,_,_,e1,hx,rfl,by decide,T.iF.cl,wH T,q⟩
 ·exact⟨x,_,dx,_,_,_,_,e1,hx,rfl,by decide,T.rj.cl,A9 T,q⟩
 ·exact⟨x,_,dx,_,_,_,_,e1,hx,rfl,by decide,T.tP.cl,A_ T,q⟩
 ·exact⟨x,_,dx,_,_,_,_,e1,hx,rfl,by decide,T.gi.cl,gf T T.w9,q⟩
 ·exact⟨x,_,dx,_,_,_,_,e1,hx,rfl,by decide,T.iD.cl,gf T T.wX,q⟩
 ·exact⟨x,_,dx,_,_,_,_,e1,hx,rfl,by decide,T.gj.cl,gf T T.w_,q⟩
theorem Cf:OF P w base T.Ez wa 1 vO:=by
 exists 0,T.Ez,wa,vO,(ah (ar (cD (aD (uT K rfl) (by rfl) T.cN cw (bP (pv 0) (vv rfl T.mi gP))) (cD (Hm xK xK af (aD (eI K rfl) (by rfl) T.gv dH (bj (pv 0))) (bw rfl T.Iv)) (kh (aD (uU K rfl rfl) (by rfl) T.Lr GH (bj (bL (N:=(["sign"]:List Str)) (nv:=1) (ix:=[]) rfl (c9 (by kernel_rfl)) (aR K rfl (pv 0)) (fun _ _ _ _ _=>(aw 0 (show((["sign"]:List Str)).Nodup by decide))) (fun _ _ _ _ _=>cj) (fun _ _ _ _ _=>(xI (B_ K rfl) (pv 0) (bw rfl T.yy) (jh rfl)))))))))));rename_i z;obtain⟨C,q⟩:=h;exists 9;refine⟨ax C,?_⟩;by_cases v:1<=(z.length:Int);rotate_left
 ·rw[de v];have e:iI z=false:=by unfold iI;rw[gk (by lia)];rfl
  rw[<-e];exact q H (aA.refl _)
 rw[dy v];by_cases i:(z.length:Int)<=60;rotate_left
 ·rw[de i];have e:iI z=false:=by unfold iI;rw[gk (show¬z.length<=60 by lia),Bool.and_false];rfl
  rw[<-e];exact q H (aA.refl _)
 rw[dy i];refine P7 (p:=fun _=>true) (f:=fun x=> .bl (Ph x)) (by rw[gn];lia) (fun _ _ Q h=>h) (fun x hx _ Q y=>?_) ?_
 ·obtain⟨n,_,rfl⟩:=h8.mp hx;exists 9;exact y
 have e4:(fA z).length=z.length:=by simp[fA,Str.length]
 have e1:((fA z).filter fun _=>true).map (fun x=>V.bl (Ph x))=((fA z).map Ph).map V.bl:=by
  rw[Z2.mpr (fun _ _=>rfl),FX];rfl
 rw[e1];refine⟨by rw[cz,cz,e4,gn];lia,fun p hp=>⟨(fA z).map Ph,bC.of aa,?_⟩⟩;have e2:((fA z).map Ph).all id=iI z:=by
  unfold iI;rw[n9 (show 1<=z.length by lia),n9 (show z.length<=60 by lia),List.all_map];rfl
 rw[e2];exact q _ (aj hp)
theorem pU:OM P w mg base T.sH j6 5 jQ:=by
 exists 0,T.sH,j6,jQ,(ae (az (pv 0) (pv 1) T.aK T.HA)
 (ae (az (pv 0) (ai (pv 2) T.cL T.ji) T.aK T.oh)
 (ae (az (pv 0) (o7 T.aT (xP T) HR (by decide) rfl (bP (ai (pv 2) T.cL T.ji) (av K (ai (pv 2) T.cL T.gW) (pv 1)))) T.aK T.cZ)
 (ak (ae (az (pv 0) (o7 T.aq (wG T) HR (by decide) rfl (aZ (ai (pv 2) T.cL T.ji) (aZ (ai (pv 2) T.cL T.pj) (bP (ai (pv 2) T.cL T.lS) (av K (ai (pv 2) T.cL T.gW) (au fP af (pv 1))))))) T.aK T.bS)
 (ak (ae (az (pv 0) (lQ T.pq T.FV rfl) T.aK T.bU)
 (ae (az (pv 0) gr T.aK T.dU)
 (ah (az (pv 0) (cq gN) T.aK T.jk))))))))))
 rename_i x side tm;obtain⟨dx,r,o,t,g,f,l,hx,⟨dt,p,htm,hp⟩,hg,hs,q⟩:=h;have n1:tm≠x:=bN htm hx (by simp[m9,m8]);have n2:p≠x:=bN hp hx (by simp);obtain⟨g1,⟨g2,g3⟩,g4,g5,g6⟩:=hg;have own:kB [V.int o,V.int t] side=some (.int (if side=0 then o else t))/\kB [V.int o,V.int t] (1-side)=some (.int (if side=0 then t else o)):=by
  rcases hs with rfl|rfl
  ·exact⟨by rw[dy rfl];exact ER,by rw[dy rfl];exact IC⟩
  ·exact⟨by rw[de (by decide)];exact IC,by rw[de (by decide)];exact ER⟩
 have ob:(1<=(if side=0 then o else t)/\(if side=0 then o else t)<=16)/\1<=(if side=0 then t else o):=by split<;>lia
 generalize(if side=0 then o else t)=mo at*
 generalize(if side=0 then t else o)=mt at*
 exists 6,u1;exists hx,htm,ag n1,ag n2,hp,own.1;intro tk dk J ndk nek;refine⟨dk,rfl,fun kd H1 F b1 t1=>?_⟩;have z:x≠tk:=fresh_ne J |>.symm;have xdk:x≠dk:=fresh_ne ndk |>.symm;have x1:H1 x=some (.ins aI dx (qd (.int side) (.int r))):=b1 _ _ (by rw[ag z,ag xdk,aa]) z;have B1:∀b u,H b=some u->b≠x->H1 b=some u:=fun b u e n=>by
  have e1:upd H x (.ins aI dx (qd (.int side) (.int r))) b=some u:=by rw[ag n];exact e
  exact b1 _ _ (by rw[ag (ao e1 J),ag (ao e1 ndk)];exact e1) (ao e1 J)
 have ftk:H tk=none:=by rw[ag z.symm] at J;exact J
 have X:H kd=none/\kd≠x:=by
  have k1:kd≠tk:=fresh_ne F;rw[ag k1] at F;have k2:kd≠dk:=fresh_ne F;rw[ag k2] at F;have k3:kd≠x:=fresh_ne F;rw[ag k3] at F;exact⟨F,k3⟩
 clear b1 F;have htm1:=B1 _ _ htm n1;have hp1:=B1 _ _ hp n2;exists x1;have X1:cI x H (upd H1 x (.ins aI dx (fv (.int side) (.int r) (.ref tk)))):=fun b u e n=>by rw[ag n];exact B1 b u e n
 have x2:upd H1 x (.ins aI dx (fv (.int side) (.int r) (.ref tk))) x=some (.ins aI dx (fv (.int side) (.int r) (.ref tk))):=aa;have t2:IJ (upd H1 x (.ins aI dx (fv (.int side) (.int r) (.ref tk)))) tk dk kd ⟨r,mo,0,0,[]⟩:=⟨by rw[ag z.symm];exact t1.hx,by rw[ag X.2];exact t1.hD⟩;have htm2:upd H1 x (.ins aI dx (fv (.int side) (.int r) (.ref tk))) tm=some (.ins d7 dt (m9 (.int r) (.ref p) (.int g) (.int f) (.int l))):=by rw[ag n1];exact htm1
 have hp2:upd H1 x (.ins aI dx (fv (.int side) (.int r) (.ref tk))) p=some (.tup [.int o,.int t]):=by rw[ag n2];exact hp1
 generalize upd H1 x (.ins aI dx (fv (.int side) (.int r) (.ref tk)))=H2 at*
 clear x1 t1 B1 htm1 hp1;exists 8,u1,u2;exists htm2,hp2,own.2;intro sd ds O nds nes;refine⟨⟨by lia,by lia,by lia⟩,ds,rfl,fun S Z b3 fr3 s3=>?_⟩;have xsd:x≠sd:=ao x2 O;have B3:∀b u,H2 b=some u->Z b=some u:=fun b u e=>b3 _ _ (by rw[ag (ao e O),ag (ao e nds)];exact e) (ao e O);have y:∀b,b∈[S.pw,S.pm,S.pt,S.pk,S.pf,S.pa]->H2 b=none/\b≠sd:=fun b I=>by
  have k0:=fr3 b I;have k1:b≠sd:=fresh_ne k0;rw[ag k1] at k0;have k2:b≠ds:=fresh_ne k0;rw[ag k2] at k0;exact⟨k0,k1⟩
 clear b3 fr3;have x3:=B3 _ _ x2;have t3:IJ Z tk dk kd ⟨r,mo,0,0,[]⟩:=⟨B3 _ _ t2.hx,B3 _ _ t2.hD⟩;exists x3;have X3:cI x H (upd Z x (.ins aI dx (eG (.int side) (.int r) (.ref tk) (.ref sd)))):=fun b u e n=>by rw[ag n];exact B3 _ _ (X1 b u e n)
 have x4:upd Z x (.ins aI dx (eG (.int side) (.int r) (.ref tk) (.ref sd))) x=some (.ins aI dx (eG (.int side) (.int r) (.ref tk) (.ref sd))):=aa;have xS:∀b,b∈[S.pw,S.pm,S.pt,S.pk,S.pf,S.pa]->b≠x:=fun b I e=>by have:=(y b I).1;rw[e,x2] at this;cases this
 have k4:Kp [x] Z (upd Z x (.ins aI dx (eG (.int side) (.int r) (.ref tk) (.ref sd)))):=Kp.one;have s4:sQ (upd Z x (.ins aI dx (eG (.int side) (.int r) (.ref tk) (.ref sd)))) sd S _:=s3.kp k4 (fun b I m=>by
  rw[hQ] at m;rcases fy.mp I with e|I
  ·exact xsd (m.symm.trans e)
  ·exact xS b I m) (fun t l e m=>by rw[hQ.mp m,x3] at e;cases e)
 have t4:IJ (upd Z x (.ins aI dx (eG (.int side) (.int r) (.ref tk) (.ref sd)))) tk dk kd ⟨r,mo,0,0,[]⟩:=⟨by rw[ag z.symm];exact t3.hx,by rw[ag X.2];exact t3.hD⟩;generalize upd Z x (.ins aI dx (eG (.int side) (.int r) (.ref tk) (.ref sd)))=H4 at*
 exists 7,u2;exists 9;intro st dst nst ndst nest;have S5:aA H4 _:=cH (C:=jv) (fs:=[]) nst ndst;have st5:AM (upd (upd H4 dst (.own st)) st (.ins jv dst [])) st "shut" :=⟨_,_,aa,.head _⟩;have x5:=S5 _ _ x4;have v:=s4.same S5;have t5:=t4.same S5;have X5:cI x H _:=fun b u e n=>S5 _ _ (X3 b u e n);generalize upd (upd H4 dst (.own st)) st (.ins jv dst [])=H5 at*
 exists x5;intro pe npe;have Q:x≠pe:=(fresh_ne npe).symm;exists ag Q;have U:H5 pe=none:=by rw[ag Q.symm] at npe;exact npe
 have nod:(foot x ⟨dx,tk,dk,kd,sd,S,st,pe⟩).Nodup:=by
  have n_tk:tk≠x:=z.symm;have in2:∀{b:Addr} {u:HO},H2 b=some u->b ∉ [S.pw,S.pm,S.pt,S.pk,S.pf,S.pa]/\b≠sd:=fun{b u} e=>⟨(fun m=>by have:=(y b m).1;rw[e] at this;cases this),ao e O⟩;have i:∀{b:Addr} {u:HO},H5 b=some u->b≠pe:=fun e=>ao e U;obtain⟨em,_⟩:=v.ms;obtain⟨_,_,ew⟩:=v.ws.ins;have kx:=in2 x2;have kt:=in2 t2.hx;have kk:=in2 t2.hD;have G:sd ∉ [S.pw,S.pm,S.pt,S.pk,S.pf,S.pa]:=fun m=>(y sd m).2 rfl;have m1:S.pm≠S.pt:=bN em v.ht (by simp);have m2:S.pm≠S.pk:=bN em v.hk (by simp);have m3:S.pm≠S.pf:=bN em v.hf (by simp);have m4:S.pm≠S.pa:=bN em v.ha (by simp);have w1:S.pw≠S.pt:=bN ew v.ht (by simp);have w2:S.pw≠S.pk:=bN ew v.hk (by simp);have w3:S.pw≠S.pf:=bN ew v.hf (by simp);have w4:S.pw≠S.pa:=bN ew v.ha (by simp);have v1:S.pt≠S.pk:=bN v.ht v.hk (by simp);have v2:S.pt≠S.pf:=bN v.ht v.hf (by simp);have v3:S.pt≠S.pa:=bN v.ht v.ha (by simp);simp only[fy,hL,wh,not_or] at kx kt kk G;simp only[foot,Z6,fy,hL,wh,not_or,List.nodup_nil,and_true,not_false_eq_true];have tkd:tk≠kd:=t2.n1.symm;exact⟨⟨z,X.2.symm,xsd,kx.1.1,kx.1.2.1,kx.1.2.2.1,kx.1.2.2.2.1,kx.1.2.2.2.2.1,kx.1.2.2.2.2.2,Q⟩,
   ⟨tkd,kt.2,kt.1.1,kt.1.2.1,kt.1.2.2.1,kt.1.2.2.2.1,kt.1.2.2.2.2.1,kt.1.2.2.2.2.2,i t5.hx⟩,
   ⟨kk.2,kk.1.1,kk.1.2.1,kk.1.2.2.1,kk.1.2.2.2.1,kk.1.2.2.2.2.1,kk.1.2.2.2.2.2,i t5.hD⟩,
   ⟨G.1,G.2.1,G.2.2.1,G.2.2.2.1,G.2.2.2.2.1,G.2.2.2.2.2,i v.hx⟩,
   ⟨v.wm,w1,w2,w3,w4,i ew⟩,⟨m1,m2,m3,m4,i em⟩,⟨v1,v2,v3,i v.ht⟩,⟨v.kf,v.ka,i v.hk⟩,⟨v.fa,i v.hf⟩,i v.ha⟩
 have kF:Kp [x] H5 (upd (upd (upd H5 x (.ins aI dx (uP (.int side) (.int r) (.ref tk) (.ref sd) (.ref st) (.bl false)))) pe (.lst [])) x (.ins aI dx (aX (.int side) (.int r) (.ref tk) (.ref sd) (.ref st) (.bl false) (.ref pe)))):=fun b u e n=>by
  rw[hQ] at n;rw[ag n,ag (ao e U),ag n];exact e
 refine q ⟨dx,tk,dk,kd,sd,S,st,pe⟩ _ (fun b u e n=>kF b u (X5 b u e n) (fun m=>n (hQ.mp m))) (fun b I=>?_) ⟨aa,⟨kF _ _ t5.hx (fun m=>z (hQ.mp m).symm),kF _ _ t5.hD (fun m=>X.2 (hQ.mp m))⟩,v.kp kF (fun b I m=>?_) (fun t l e m=>?_),?_,?_,nod⟩
 ·simp only[foot,List.tail_cons,fy,hL,wh] at I;rcases I with e|e|e|e|e|e|e|e|e|e
  ·rw[e];exact ftk
  ·rw[e];exact X.1
  ·rw[e];exact eC X1 xsd O
  ·rw[e];exact eC X1 (xS _ (by simp)).symm (y _ (by simp)).1
  ·rw[e];exact eC X1 (xS _ (by simp)).symm (y _ (by simp)).1
  ·rw[e];exact eC X1 (xS _ (by simp)).symm (y _ (by simp)).1
  ·rw[e];exact eC X1 (xS _ (by simp)).symm (y _ (by simp)).1
  ·rw[e];exact eC X1 (xS _ (by simp)).symm (y _ (by simp)).1
  ·rw[e];exact eC X1 (xS _ (by simp)).symm (y _ (by simp)).1
  ·rw[e];exact eC X5 Q U
 ·rw[hQ] at m;rcases fy.mp I with e|I
  ·exact xsd (m.symm.trans e)
  ·exact xS b I m
 ·rw[hQ.mp m,x5] at e;cases e
 ·obtain⟨C,d,e,hm⟩:=st5;exact⟨C,d,kF _ _ e (fun m=>by have m':st=x:=hQ.mp m;rw[m',x5] at e;injection e with e;injection e with _ _ e;simp[eG,mz] at e),hm⟩
 ·rw[ag Q.symm,aa];rfl
theorem rb:OM P w mg base T.AG qV 2 qK:=by
 exists 0,T.AG,qV,qK,(ah (ar (wy (ai (pv 0) T.aK T.bU) (za T) HR (by decide))));rename_i x;obtain⟨A,z,i,q⟩:=h;exists i.hx;exact⟨_,i.st,q⟩
theorem Ds:OM P w mg base T.yt o3 4 (oV K):=by
 exists 1,T.yt,o3,oV,(ae (az (pv 0) (KO (ai (pv 0) T.aK T.bU) (A5 T) HR (by decide) z6 rfl) T.aK T.bU)
 (ah (PS.nox (aH (a8 (ai (pv 0) T.aK T.bS) T.aq (kz T) HR (bj (ek K rfl rfl T.Lm)))))))
 rename_i x;obtain⟨A,z,v,O,U,Q⟩:=h;exists v.hx;refine⟨_,v.st,fun nx hn y G I s1=>?_,Q⟩;have C:=v.same I;exists C.hx;have i:=C.own s1 z.due;have k2:Kp (foot x A) H (upd G x (.ins aI A.dx (aX (.int z.side) (.int z.R) (.ref A.tk) (.ref A.sd) (.ref y) (.bl z.due) (.ref A.pe)))):=(Kp.of I).trans (Kp.upd (by simp[foot]));generalize upd G x (.ins aI A.dx (aX (.int z.side) (.int z.R) (.ref A.tk) (.ref A.sd) (.ref y) (.bl z.due) (.ref A.pe)))=X at*
 exists i.sd.hx;exact fun a ha _=>⟨_,_,i.sd,O,fun J F s3=>U nx hn a y J ha (k2.trans (Kp.but F (by simp[foot]))) (i.sender (cI.V9 F) s3)⟩
theorem Hy:OM P w mg base T.C3 tx 4 (s_ K):=by
 exists 1,T.C3,tx,s_,(ae (az (pv 0) (KO (ai (pv 0) T.aK T.bU) (Dk T) HR (by decide) z6 rfl) T.aK T.bU)
 (ak (ae (PS.nox (aH (bZ K rfl (ai (pv 0) T.aK T.jk) (bQ (ai (pv 0) T.aK T.bS) T.aq (tJ T) HR))))
 (ah (PS.nox (aH (a8 (ai (pv 0) T.aK T.bS) T.aq (kz T) HR (bj (ek K rfl rfl T.XS)))))))))
 rename_i x;obtain⟨A,z,F,Q,he,q1,Z⟩:=h;exists 6,u1;exists F.hx;refine⟨_,F.st,fun nx hn y I O s1=>?_,Z⟩;have G:=F.same O;exists G.hx;have v:=G.own s1 z.due;have k2:Kp (foot x A) H (upd I x (.ins aI A.dx (aX (.int z.side) (.int z.R) (.ref A.tk) (.ref A.sd) (.ref y) (.bl z.due) (.ref A.pe)))):=(Kp.of O).trans (Kp.upd (by simp[foot]));generalize upd I x (.ins aI A.dx (aX (.int z.side) (.int z.R) (.ref A.tk) (.ref A.sd) (.ref y) (.bl z.due) (.ref A.pe)))=C at*
 exists 7,u1;exists v.hx,v.sd.hx;refine⟨cf (bC.of v.he),_,_,v.sd,_,v.he,by rw[cz,gn];show z.ends.length<_;lia,?_⟩;have i:=v.ends (l:=z.ends++ [(z.sd.T.length:Int)]);rw[n7] at i;show∃dx fs,upd C A.pe (.lst (z.ends.map V.int++ [V.int z.sd.T.length])) x=some (HO.ins aI dx fs)/\_;have k3:Kp (foot x A) H (upd C A.pe (.lst (z.ends.map V.int++ [V.int z.sd.T.length]))):=k2.trans (Kp.upd (by simp[foot]));replace i:Ke (upd C A.pe (.lst (z.ends.map V.int++ [V.int z.sd.T.length]))) x {A with st:=y} {z with nm:=nx,ends:=z.ends++ [(z.sd.T.length:Int)]}:=i;generalize upd C A.pe (.lst (z.ends.map V.int++ [V.int z.sd.T.length]))=H3 at*
 exists i.hx,i.sd.hx;exact fun a ha _=>⟨_,_,i.sd,Q,fun U J X=>q1 nx hn a y U ha (k3.trans (Kp.but J (by simp[foot]))) (i.sender (cI.V9 J) X)⟩
theorem Hx:OM P w mg base T.C1 nU 3 s9:=by
 exists 1,T.C1,nU,s9,(ae (PS.nox (aQ (eZ (mq (aF (Cf T) HR (bj (pv 1))))) (ah kE) aB))
 (ak (ae (aQ (PT.nox (eZ (mq (wy (ai (pv 0) T.aK T.bU) (FF T) HR (by decide))))) (ah (j_ T.sR (iB T) T.zp HR (by decide) z6 rfl rfl rfl (bP (bQ (pv 0) T.aK (rb T) HR) aG))) aB)
 (ak (ah (PS.nox (cJ j0 rfl (Mr rfl T.fc (aZ af (bP (aD (eI K rfl) (by rfl) T.gv dH (bj (pv 1))) (bw rfl T.mC)))) (aw 2 nU.1.nd) (ah (aH (a8 (ai (pv 0) T.aK T.bS) T.aq (kz T) HR (bj (ba (bP aG (xG (QV K rfl) (pv 1) (uK (pv 2)) (uK (aE K (pv 2) (bw rfl T.mC)))))))))))))))))
 rename_i x t;obtain⟨A,z,hH,hT,ht,e1,q2,X⟩:=h;exists 6,u1;exists 9;refine⟨ht,fun H1 Q=>?_⟩;rw[e1,de (by decide)];have y:=hH.same Q;exists 8,u1,u2;exists y.hx;refine⟨_,y.st,?_⟩;cases e2:R3 z.nm
 ·rw[dy rfl];refine⟨A,z,y,fun e he d hd=>⟨_,rfl,?_⟩⟩;obtain⟨s1,s2⟩:=dropxl (C:=aL) (l:=[("state",.str z.nm),("wish",.str "put")]) Q he hd;exact q2 e2 _ d s1 s2
 rw[de (by decide)];have l60:t.length<=60:=by
  unfold iI at e1;simp only[fx,eM] at e1;exact e1.1.2
 exists 7,u2;exists 9;refine⟨ax ht,⟨by lia,by lia⟩,?_⟩;rw[show rcount 0 (t.length:Int) 4=(t.length+3) / 4 by unfold rcount Builtin.Range.rangeSize;rw[dy (by decide)];split<;>lia]
 refine Su (fun k σ H'=>(∃G,σ= [some (.ref x),some (.str t),G])/\Kp (foot x A) H H'/\∃vs,Ke H' x A {z with sd:={z.sd with T:=z.sd.T++vs}}/\Paired (fun v s=>Zi H' v "signs" s) vs ((List.range k).map (chunk t))) ⟨⟨_,rfl⟩,Kp.of Q,[],by rw[aad];exact y,.nil⟩ (fun k σ H' hk hp=>?_) (fun σ H' hp=>?_)
 ·obtain⟨⟨G,rfl⟩,F,vs,hh,i⟩:=hp;exists hh.hx,hh.sd.hx;refine⟨ax ht,fun p hp=>?_⟩;rw[show Txt.slice t (some (0+(k:Int)*4)) (some (0+(k:Int)*4+4))=chunk t k by unfold chunk;rw[show(0:Int)+(k:Int)*4=((4*k:Nat):Int) by lia];rfl];have I:=hh.same (aj (o:= .tup [.str "signs",.str (chunk t k)]) hp);have s2:=aj (o:= .tup [.str "signs",.str (chunk t k)]) hp;have J:=aa (H:=H') (a:=p) (o:= .tup [.str "signs",.str (chunk t k)]);generalize upd H' p (.tup [.str "signs",.str (chunk t k)])=U at*
  have lv:vs.length<=15:=by rw[cb i,cz,RA];lia
  refine⟨_,_,I.sd,by show(z.sd.T++vs).length<1000;rw[ib];lia,fun H4 O s4=>⟨⟨_,rfl⟩,(F.trans (Kp.of s2)).trans (Kp.but O (by simp[foot])),vs++ [.ref p],?_,?_⟩⟩
  ·have Z:=I.sender (cI.V9 O) s4;rw[<-List.append_assoc];exact Z
  ·rw[List.range_succ,n7];have tup:∀{q:Addr} {l:List V},U q=some (.tup l)->H4 q=some (.tup l):=fun e=>O _ _ e (bN e I.sd.ht (by simp));refine qZ (bu i fun v s hv=>?_) (.cons ⟨p,rfl,tup J⟩ .nil);obtain⟨q,rfl,hq⟩:=hv;exact⟨q,rfl,tup (s2 _ _ hq)⟩
 ·obtain⟨⟨G,rfl⟩,F,vs,hh,i⟩:=hp;exact X e2 vs H' F hh i
theorem FO:OM P w mg base T.AF i5 2 (qJ K):=by
 exists 0,T.AF,i5,qJ,(ae (ay 2 i5.1.nd (d5 mT (bQ (ai (pv 0) T.aK T.cZ) T.aT (dr T) HR) af))
 (ak (ae (ay 3 i5.1.nd (a8 (ai (pv 0) T.aK T.cZ) T.aT (Dp T) HR (bj (pv 1))))
 (ak (ae (aQ (PW.pt (pw_and (eZ (mq (pv 2))) (pw_and1 (aS mT (bQ (ai (pv 0) T.aK T.cZ) T.aT (dr T) HR) af)))) (ah (az (pv 0) gr T.aK T.dU)) aB)
 (ak (ah (ar (pv 3)))))))))
 rename_i x m;obtain⟨A,a,⟨z,I,y⟩,⟨m0,m1,o0,og,g1⟩,hD,q⟩:=h;exists 6,u1;exists I.hx,I.tk.hx;refine⟨_,_,_,I.tk,?_⟩;exists 8,u1,u2;exists I.hx,I.tk.hx;have hin:∀i,z.tk.o<=i->i<z.tk.g->(bh z.tk.D (ik i)).isSome=true:=fun i F U=>by
  rw[y.o] at F;rw[y.g] at U;cases e:bh z.tk.D (ik i) with
  |none=>have:=hD i F U;rw[y.dn i e] at this;cases this
  |some v=>rfl
 refine⟨_,_,_,I.tk,by rw[y.o,y.g];lia,hin,fun n p D' G en np hD' sb f1 t1 e1=>?_⟩;have C:n=i7 a m:=by rw[en,y.o,y.g];rfl
 have nle:a.o+n<=a.g:=by rw[C];unfold i7;split<;>lia
 have F:=I.taker f1 t1;have k1:Kp (foot x A) H G:=(Ly.kp f1).more (fun b hb=>by simp only[fy,hL,wh] at hb;rcases hb with e|e<;>subst e<;>simp[foot])
 have X:vJ H G:=fun b u e i=>k1 _ _ e (I.imm e i);have O:∀i:Int,bh D' (ik i)=if a.o<=i/\i<a.o+n then none else bh z.tk.D (ik i):=fun i=>by rw[hD' i,y.o]
 have pv:Paired (ET K G) (vals z.tk.D z.tk.o n) (G9 a m):=by
  have:=y.vals n a.o (fun i F U=>hD i F (by lia));rw[y.o];unfold G9;rw[<-C];exact bu this fun _ _ q=>q.keep X
 have J:=y.keep X;exists 8,u2,u3;by_cases c:0<a.o+a.M-a.g
 ·have e0:(vt a m).due=z.due:=by
   show(a.due||(decide (a.o+a.M-a.g<=0)&&_))=_;rw[gk (by lia),ZO,Bool.or_false,y.due]
  have fin:BK K G x A (vt a m):=⟨_,F,J.read C O sb e0.symm⟩;rw[n9 (by rw[y.o,y.tM,y.g];exact c)];exists 9;exists 7,u3;exists 9;exact q p _ G np k1 fin e1 pv
 ·rw[gk (by rw[y.o,y.tM,y.g];exact c)];exists F.hx,F.tk.hx;refine⟨_,_,_,F.tk,?_⟩;show if 0<z.tk.o+n+z.tk.M-z.tk.g then _ else _;rw[y.o,y.tM,y.g];by_cases Z:0<a.o+n+a.M-a.g
  ·rw[dy Z];have e0:(vt a m).due=true:=by
    show(a.due||(decide (a.o+a.M-a.g<=0)&&decide (0<a.o+(i7 a m:Int)+a.M-a.g)))=_;rw[n9 (by lia),<-C,n9 Z,L5,Bool.or_true]
   have U:=F.own F.st true;have k2:Kp (foot x A) H (upd G x (.ins aI A.dx (aX (.int z.side) (.int z.R) (.ref A.tk) (.ref A.sd) (.ref A.st) (.bl true) (.ref A.pe)))):=k1.trans (Kp.upd (by simp[foot]));have Q:vJ G (upd G x (.ins aI A.dx (aX (.int z.side) (.int z.R) (.ref A.tk) (.ref A.sd) (.ref A.st) (.bl true) (.ref A.pe)))):=fun b u e i=>Kp.upd (S:=foot x A) (by simp[foot]) _ _ e (F.imm e i);have e2:upd G x (.ins aI A.dx (aX (.int z.side) (.int z.R) (.ref A.tk) (.ref A.sd) (.ref A.st) (.bl true) (.ref A.pe))) p=some (.lst (vals z.tk.D z.tk.o n)):=by rw[ag (bN e1 F.hx (by simp))];exact e1
   have fin:BK K (upd G x (.ins aI A.dx (aX (.int z.side) (.int z.R) (.ref A.tk) (.ref A.sd) (.ref A.st) (.bl true) (.ref A.pe)))) x A (vt a m):=⟨_,U,(J.keep Q).read C O sb e0.symm⟩;exists 7,u3;exists 9;exact q p _ _ np k2 fin e2 (bu pv fun _ _ w=>w.keep Q)
  ·rw[de Z];have e0:(vt a m).due=z.due:=by
    show(a.due||(decide (a.o+a.M-a.g<=0)&&decide (0<a.o+(i7 a m:Int)+a.M-a.g)))=_;rw[<-C,gk Z,Bool.and_false,Bool.or_false,y.due]
   have fin:BK K G x A (vt a m):=⟨_,F,J.read C O sb e0.symm⟩;exists 7,u3;exists 9;exact q p _ G np k1 fin e1 pv
theorem zi:OM P w mg base T.sF j5 4 (jO K):=by
 exists 0,T.sF,j5,jO,(ae (aQ (cQ K HR (pv 1) aG) (ae (aQ (cQ K HR (bQ (pv 0) T.aK (rb T) HR) aG) (ah (aH (a8 (ai (pv 0) T.aK T.bS) T.aq (kz T) HR (bj (ek K rfl rfl T.Lm))))) aB)
 (ak (ah (az (pv 0) (wy (ai (pv 0) T.aK T.bU) (JC T) HR (by decide)) T.aK T.bU)))) aB)
 (ak (ah (aQ (cQ K HR (pv 1) aG) (ah (az (pv 0) (wy (ai (pv 0) T.aK T.bU) (JB T) HR (by decide)) T.aK T.bU)) aB))))
 rename_i x k;obtain⟨A,a,⟨z,C,J⟩,hT,q⟩:=h;obtain⟨vs0,X,es2,es3⟩:=J.s;have lT:z.sd.T.length<990:=by
  rw[X];show vs0.length<990;rw[cb es2];exact hT
 exists 6,u1;exists C.hx;by_cases ck:k="begin"
 ·rw[dy ck];have nk:k≠"end" :=by rw[ck];decide+kernel
  refine⟨A,z,C,?_⟩;have go:∀(v:Hn) (a1:nP) (F:Hp),Ke F x A v->dE K F v a1->a1.nm=a.nm->Kp (foot x A) H F->sT a k={a1 with nm:=(c7 a.nm "begun").getD a.nm}->u1 {nx:=pC (QP (BM (II (yT K false) (EY 1) (tC (V.str "end")))) (Kq aI "state" (EY 0) (NJ qD E0 (Kj aI "state" (EY 0)))) Ki) {nx:=fun x H'=>Q V.non H',rt:=Q},rt:=Q} [some (V.ref x),some (V.str k)] F:=fun v a1 F hh hr en kk es=>by
   exists 7,u1;exists hh.hx;refine⟨_,hh.st,fun nx hn y I G s2=>?_⟩;have U:=hh.same G;exists U.hx;have Z:=U.own s2 v.due;have k3:Kp (foot x A) I (upd I x (.ins aI A.dx (aX (.int v.side) (.int v.R) (.ref A.tk) (.ref A.sd) (.ref y) (.bl v.due) (.ref A.pe)))):=Kp.upd (by simp[foot]);have i3:vJ F (upd I x (.ins aI A.dx (aX (.int v.side) (.int v.R) (.ref A.tk) (.ref A.sd) (.ref y) (.bl v.due) (.ref A.pe)))):=fun b u e i=>k3 _ _ (G _ _ e) (U.imm (G _ _ e) i);generalize upd I x (.ins aI A.dx (aX (.int v.side) (.int v.R) (.ref A.tk) (.ref A.sd) (.ref y) (.bl v.due) (.ref A.pe)))=H3 at*
   rw[pC];exists 9;rw[de nk];refine q y H3 ((kk.trans (Kp.of G)).trans k3) ⟨_,Z,?_⟩;have O:nx=(c7 a.nm "begun").getD a.nm:=by
    rw[hr.nm,en,wI (by decide+kernel) (by decide+kernel)] at hn;injection hn with hn;exact hn.symm
   rw[es,O];exact(hr.keep i3).name
  by_cases cs:z.nm="shut"
  ·rw[dy cs];refine⟨_,_,C.sd.hx,?_⟩;rw[yd.1];refine⟨rfl,fun b hb _=>⟨_,_,C.sd,by lia,fun F b1 s1=>?_⟩⟩;have h1:=C.sender (cI.V9 b1) s1;have k1:Kp (foot x A) H F:=Kp.but b1 (by simp[foot]);have i1:vJ H F:=fun c u e i=>k1 _ _ e (C.imm e i);refine go _ (aV a [(Str.ofString "begin",Str.ofString "")]) F h1 ((J.keep i1).YG ⟨b,rfl,hb F⟩) rfl k1 ?_;unfold sT;rw[dy ck,dy (by rw[<-J.nm];exact cs)]
  ·rw[de cs];refine go z a H C J rfl Kp.refl ?_;unfold sT;rw[dy ck,de (by rw[<-J.nm];exact cs)]
 ·rw[de ck,pC];exists C.hx;by_cases ce:k="end"
  ·rw[dy ce];refine⟨_,C.st,fun nx hn y I G s2=>?_⟩;have U:=C.same G;exists U.hx;have Z:=U.own s2 z.due;have k3:Kp (foot x A) I (upd I x (.ins aI A.dx (aX (.int z.side) (.int z.R) (.ref A.tk) (.ref A.sd) (.ref y) (.bl z.due) (.ref A.pe)))):=Kp.upd (by simp[foot]);have i3:vJ H (upd I x (.ins aI A.dx (aX (.int z.side) (.int z.R) (.ref A.tk) (.ref A.sd) (.ref y) (.bl z.due) (.ref A.pe)))):=fun b u e i=>k3 _ _ (G _ _ e) (U.imm (G _ _ e) i);refine q y _ ((Kp.of G).trans k3) ⟨_,Z,?_⟩;have O:nx=(c7 a.nm "ended").getD a.nm:=by
    rw[J.nm,wI (by decide+kernel) (by decide+kernel)] at hn;injection hn with hn;exact hn.symm
   rw[show sT a k={a with nm:=(c7 a.nm "ended").getD a.nm} by unfold sT;rw[de ck,dy ce],O];exact(J.keep i3).name
  ·rw[de ce];refine q A.st H Kp.refl ⟨z,C,?_⟩;rw[show sT a k=a by unfold sT;rw[de ck,de ce]];exact J
theorem Bb:OM P w mg base T.uz fj 5 (lj K):=by
 exists 0,T.uz,fj,lj,(ae (ay 3 fj.1.nd (a8 (ai (pv 0) T.aK T.cZ) T.aT (Dm T) HR (bP (pv 1) (pv 2))))
 (ak (ae (cJ j0 rfl (aR K rfl (av K (pv 3) af)) (aw 4 fj.1.nd) (ah (aH (a8 (pv 0) T.aK (zi T) HR (bj (bq K (pv 4) af))))))
 (ak (ah (ar (gV (aS ky (av K (pv 3) af) bY) (ba (bP aG bY)) (ba (bP aG (av K (pv 3) af))))))))))
 rename_i x m th;obtain⟨A,a,t,⟨z,G,C⟩,hth,⟨r0,m0,m1,og,hT⟩,q⟩:=h;exists 6,u1;exists G.hx,G.tk.hx;have hB:∀i:Int,(bh z.tk.D (ik i)).isSome=true->i<a.o+a.M:=fun i hi=>by
  obtain⟨j,e,_,h2⟩:=C.db _ (GR hi);rw[JN e];exact h2
 have hl:=C.len m0;refine⟨_,_,_,a.o+a.M,G.tk,by rw[C.tR];exact r0,hB,by rw[C.g];lia,by rw[C.o,C.tM];lia,by lia,?_⟩;rw[C.o,C.tM,C.g,C.tR];by_cases c:a.o+a.M-a.g<=(m-a.g) % a.R
 ·refine .inl ⟨c,fun p l Z S1 np nl hp v=>?_⟩;exists 8,u1,u2;exists hp,v;refine my (xs:=[]) (bC.of v) (fun i σ H'=>H'=Z/\σ= [some (.ref x),some (.int m),some (.ref th),some (.ref p),none]) ⟨rfl,rfl⟩ (fun i σ H' _ hp=>by rw[hp.1];exact bC.of v) (fun i y σ H' hy hp=>by simp at hy) (fun σ H' hp'=>?_);obtain⟨rfl,rfl⟩:=hp';exists 7,u2;exists hp,v;intro r nr;have Q:=S1.trans (G5 (o:= .tup [.str "old",.non]) nr);refine q A.st r _ (Kp.of Q) ?_ ?_
  ·unfold LH;rw[dy c];exact HM.same ⟨z,G,C⟩ Q
  ·unfold NI;rw[dy c];exact c6.of aa
 ·refine .inr ⟨by lia,fun D' eD n p l Z rn np nl pl f1 t1 v hp=>?_⟩;have h1:=G.taker f1 t1;have k1:Kp (foot x A) H Z:=(Ly.kp f1).more (fun b hb=>by simp only[fy,hL,wh] at hb;rcases hb with e|e<;>subst e<;>simp[foot])
  have J:vJ H Z:=fun b u e i=>k1 _ _ e (G.imm e i);obtain⟨U,en,pv⟩:=M8 (C.keep J) (hth.keep J) m0 og r0 (by lia) eD rn;rw[C.tR,C.tM,C.g,C.o] at U;have lN:(GZ a m t).length<=16:=by
   unfold GZ qm;rw[cz,RA];have:=Fc (D:=sL a m t) a.M.toNat a.g;lia
  have fl:l ∉ foot x A:=G.fresh nl;have fp:p ∉ foot x A:=G.fresh np;exists 8,u1,u2;exists hp,v;refine my (xs:=vals D' a.g n) (bC.of v) (fun i σ H'=>(∃v4,σ= [some (.ref x),some (.int m),some (.ref th),some (.ref p),v4])/\Kp (foot x A) H H'/\H' l=some (.lst (vals D' a.g n))/\H' p=some (.tup [.int (uX a m),.ref l])/\Paired (ET K H') (vals D' a.g n) (GZ a m t)/\∃F,BK K H' x {A with st:=F} (BQ {a with g:=a.g+(qm a m t:Int),D:=sL a m t} ((GZ a m t).take i))) ⟨⟨_,rfl⟩,k1,v,hp,pv,A.st,_,h1,U⟩ (fun i σ H' _ hp=>bC.of hp.2.2.1) (fun i y σ H' hy hq=>?_) (fun σ H' hq=>?_)
  ·obtain⟨⟨v4,rfl⟩,kk,el,ep,X,F,hh⟩:=hq;obtain⟨tt,et,q0,rfl,hs⟩:=jd X hy;have hh':=hh;obtain⟨zz,hz,_⟩:=hh';exists hz.hx;refine⟨_,_,.inr hs,ER,?_⟩;refine⟨_,_,hh,?_,fun I H2 k2 hm=>?_⟩
   ·have:=G3 ((GZ a m t).take i) {a with g:=a.g+(qm a m t:Int),D:=sL a m t};rw[z1] at this;have e:({a with g:=a.g+(qm a m t:Int),D:=sL a m t}:nP).T=a.T:=rfl;rw[e] at this;lia
   ·have i2:vJ H' H2:=fun b u e j=>k2 _ _ e (hz.imm e j);refine⟨⟨_,rfl⟩,kk.trans k2,k2 _ _ el fl,k2 _ _ ep fp,bu X fun _ _ w=>w.keep i2,I,?_⟩;rw[LP et];exact hm
  ·obtain⟨⟨v4,rfl⟩,kk,el,ep,X,F,hh⟩:=hq;exists 7,u2;exists ep;intro r nr;have Q:aA H' _:=G5 (o:= .tup [.str "filed",.int (uX a m)]) nr;refine q F r _ (kk.trans (Kp.of Q)) ?_ ?_
   ·unfold LH;rw[de c];have O:=hh.same Q;rw[cb X,ZL] at O;exact O
   ·unfold NI;rw[de c];exact c6.of aa
theorem FP:OM P w mg base T.AH i6 5 (qL K):=by
 exists 0,T.AH,i6,qL,(ae (ay 3 i6.1.nd (ai (ai (pv 0) T.aK T.bS) T.aq T.aN))
 (ak (ae (aH (a8 (ai (pv 0) T.aK T.bS) T.aq (A8 T) HR (aZ (av K (pv 1) af) (aZ (av K (pv 1) af) (bP (av K (pv 1) af) (pv 2))))))
 (ak (ah (cJ j0 rfl (aR K rfl (ai (pv 0) T.aK T.jk)) (aw 4 i6.1.nd) (ah (aQ (Hj xK mS (pv 3) (pv 4) (ai (ai (pv 0) T.aK T.bS) T.aq T.aN)) (ah (az (pv 0) (wy (ai (pv 0) T.aK T.bU) (Dl T) HR (by decide)) T.aK T.bU)) aB))))))))
 rename_i x pc tn;obtain⟨A,a,kd,n,nu,rm,hd,sg,hs,⟨z,I,hR⟩,hp,hhd,ok,q⟩:=h;obtain⟨vs,O,es2,es3⟩:=hR.s;have hS:=I.sd;rw[O] at hS;exists 6,u1;exists I.hx,hS.hx;exists 8,u1,u2;exists I.hx,hS.hx,hp;refine⟨_,_,hs,hS,⟨ok.bz.b0,ok.bz.bt,ok.bz.t1⟩,ok.r0,hhd,ok.hl,ok.hn,ok.hp,ok.tq,ok.kl,ok.tm,ok.kc,fun p H1 np f1 alt=>?_⟩;have h1:Ke H1 x A {z with sd:={kH a.s nu rm hs tn with T:=vs}}:=by
  rw[<-Sf];rcases alt with⟨c,S1,_⟩|⟨c,s1,_⟩
  ·have e:kH {a.s with T:=vs} nu rm hs tn={a.s with T:=vs}:=by unfold kH;rw[dy c]
   rw[e,<-O];exact I.same S1
  ·have e:kH {a.s with T:=vs} nu rm hs tn=hrd {a.s with T:=vs} nu rm hs tn:=by unfold kH;rw[de (by omega)]
   rw[e];exact I.sender f1 s1
 have k1:Kp (foot x A) H H1:=(Dg.kp f1).more (fun b hb=>by simp only[fy,hL,wh] at hb;rcases hb with e|e|e|e|e|e|e<;>subst e<;>simp[foot])
 have Q:vJ H H1:=fun b u e i=>k1 _ _ e (I.imm e i);have G:=hR.keep Q;have Z:Paired (ET K H1) vs a.T:=bu es2 fun _ _ w=>w.keep Q;have es3':(kH a.s nu rm hs tn).T.length=vs.length:=by rw[HP];exact es3
 unfold K8 at q;clear alt;generalize kH a.s nu rm hs tn=s2 at*
 exists 7,u2;exists h1.hx,h1.sd.hx;refine my (xs:=z.ends.map V.int) (bC.of h1.he) (fun i σ H'=>(∃v4,σ= [some (.ref x),some (.ref pc),some (.int tn),some (.int a.s.b),v4])/\Kp (foot x A) H H'/\∃C v,v.sd.b=s2.b/\v.ends=z.ends/\v.nm=Bp a.s.b s2.b (a.ends.take i) a.nm/\Ke H' x {A with st:=C} v/\dE K H' v {a with s:=s2,nm:=Bp a.s.b s2.b (a.ends.take i) a.nm}) ⟨⟨_,rfl⟩,k1,A.st,_,rfl,rfl,G.nm,h1,?_⟩ (fun i σ H' _ hq=>?_) (fun i y σ H' hy hq=>?_) (fun σ H' hq=>?_)
 ·show dE K H1 _ {a with s:=s2,nm:=a.nm};rw[G.nm];exact dE.snd G Z es3'
 ·obtain⟨_,_,C,v,_,ee,_,hh,_⟩:=hq;have:=hh.he;rw[ee] at this;exact bC.of this
 ·obtain⟨⟨v4,rfl⟩,kk,C,v,e1,e2,e3,hh,hr⟩:=hq;obtain⟨pl,F,rfl⟩:∃pl,a.ends[i]?=some pl/\y = .int pl:=by
   rw[j1,hR.ends] at hy;cases e:a.ends[i]? with
   |none=>rw[e] at hy;cases hy
   |some pl=>rw[e] at hy;cases hy;exact⟨pl,rfl,rfl⟩
  exists hh.hx,hh.sd.hx;rw[e1];by_cases X:a.s.b<=pl
  ·rw[dy X];by_cases U:pl<s2.b
   ·rw[dy U];refine⟨_,hh.st,fun nx hn y H2 S2 t2=>?_⟩;have h2:=hh.same S2;exists h2.hx;have h3:=h2.own t2 v.due;have k3:Kp (foot x A) H2 (upd H2 x (.ins aI A.dx (aX (.int v.side) (.int v.R) (.ref A.tk) (.ref A.sd) (.ref y) (.bl v.due) (.ref A.pe)))):=Kp.upd (by simp[foot]);have i3:vJ H' (upd H2 x (.ins aI A.dx (aX (.int v.side) (.int v.R) (.ref A.tk) (.ref A.sd) (.ref y) (.bl v.due) (.ref A.pe)))):=fun b u e i=>k3 _ _ (S2 _ _ e) (h2.imm (S2 _ _ e) i);have J:nx=Bp a.s.b s2.b (a.ends.take (i+1)) a.nm:=by
     rw[qj F,dy ⟨X,U⟩];rw[e3,wI (by decide+kernel) (by decide+kernel)] at hn;injection hn with hn;exact hn.symm
    refine⟨⟨_,rfl⟩,(kk.trans (Kp.of S2)).trans k3,y,{v with nm:=nx},e1,e2,J,h3,?_⟩;rw[J];exact(hr.keep i3).name
   ·rw[de U];refine⟨⟨_,rfl⟩,kk,C,v,e1,e2,?_,hh,?_⟩
    ·rw[qj F,de (fun c=>U c.2)];exact e3
    ·rw[qj F,de (fun c=>U c.2)];exact hr
  ·rw[de X];refine⟨⟨_,rfl⟩,kk,C,v,e1,e2,?_,hh,?_⟩
   ·rw[qj F,de (fun c=>X c.1)];exact e3
   ·rw[qj F,de (fun c=>X c.1)];exact hr
 ·obtain⟨⟨v4,rfl⟩,kk,C,v,e1,e2,e3,hh,hr⟩:=hq;rw[cz,hR.ends,ZL] at hr;exact q C H' kk ⟨v,hh,hr⟩
theorem AU:OF P w base T.uc lA 6 kS:=by
 exists 0,T.uc,lA,kS,(ah (Ox (fun _ _ _=>(ah (ar (UI (RR T) HR (by decide) rfl (xJ rfl) (bj (pv 0)))))) (UB rfl (FT T.IP rfl (FT T.Lz rfl (FT T.IM rfl U0))) (by simp) (fun _=>(ah (ar bY))) OC)));rename_i f;obtain⟨x,z⟩:=h;exists T.jc,T.j8,T.lP,T.ja,T.j9,T.i_,T.jn,T.km,T.lV,T.jm,T.ko,T.jl;refine⟨fun l H' d v _ t i y ne=>x _ ((v.trans (aj i)).trans (aj ne)),fun l H' d v _ t i y ne=>x _ ((v.trans (aj i)).trans (aj ne)),fun l H' d v _ t i y ne=>x _ ((v.trans (aj i)).trans (aj ne)),z⟩
theorem FQ:OM P w mg base T.AI mm 7 (qM K):=by
 exists 0,T.AI,mm,qM,(ae (ay 3 mm.1.nd (aF (AU T) HR (bj (pv 1))))
 (ak (ae (aQ (PW.pt (pw_or (aS ky (pv 3) bY) (pw_or (aS z_ (av K (pv 3) af) (ai (pv 0) T.aK T.oh)) (pw_or1 (aS z_ (av K (pv 3) af) (ai (pv 0) T.aK T.oh)))))) (ah (ar (ba (bP aG bY)))) aB)
 (ak (ae (aH (a8 (pv 0) T.aK (FP T) HR (bP (pv 3) (pv 2))))
 (ak (ae (aQ (cQ K HR (av K (pv 3) af) aG) (ah (ar (ba (bP aG bY)))) aB)
 (ak (ae (az (pv 0) gr T.aK T.dU)
 (ak (ae (aQ (cQ K HR (av K (pv 3) af) aG) (ah (ar (ba (bP aG bY)))) aB)
 (ak (ah (ar (a8 (pv 0) T.aK (Bb T) HR (bP (av K (pv 3) af) (ba (bP (av K (pv 3) af) (av K (pv 3) af)))))))))))))))))))
 rename_i x f tn;obtain⟨A,a,⟨z,hH,hR⟩,ok,⟨r0,m0,m1,og,hT⟩,q⟩:=h;have O:∀F,aA H F->∀p,F p=none->Q (.ref p) (upd F p (.tup [.str "spoilt",.non])):=fun F y p J=>by
  have S2:=y.trans (aj (o:= .tup [.str "spoilt",.non]) J);exact q false A.st p _ (Kp.of S2) (HM.same ⟨z,hH,hR⟩ S2) (c6.of aa)
 exists 6,u1;exists hH.hx;refine⟨fun F y=>?_,fun pc F y rt=>?_⟩
 ·exists 8,u1,u2;exists (hH.same y).hx;exact O F y
 have h1:=hH.same y;have hR1:=hR.keep (vJ.of y);obtain⟨hd,hp,hhd⟩:=rt;exists 8,u1,u2;exists h1.hx,hp;rw[hR.R];by_cases c1:a.R<=V5 (f.toNat / 256)
 ·rw[dy c1];exact O F y
 rw[de c1];by_cases c2:a.R<=V6 (f.toNat / 256)
 ·rw[dy c2];exact O F y
 rw[de c2];have Z:Gw a f true=true:=by unfold Gw z8;rw[n9 (by lia),n9 (by lia)];rfl
 have q:=q true;unfold Li Lh at q;rw[dy Z,dy Z] at q;exists 8,u2,u3;exists h1.hx;refine⟨A,a,_,_,_,_,_,_,_,⟨z,h1,hR1⟩,hp,hhd.1,ok,fun v I k2 m2=>?_⟩;have fpc:pc ∉ foot x A:=h1.imm hp (.inl ⟨_,rfl⟩);have hp2:=k2 _ _ hp fpc;have kk:Kp (foot x A) H I:=(Kp.of y).trans k2;have m2':BK K I x {A with st:=v} (EI a f tn):=m2;obtain⟨G,C,hr2⟩:=m2';exists 8,u3,u4;exists hp2;by_cases X:FY (f.toNat / 256)="bare"
 ·rw[dy X];intro p J;have S3:=aj (o:= .tup [.str "bare",.non]) J;refine q v p _ (kk.trans (Kp.of S3)) ?_ ?_
  ·rw[dy (show FY (z8 f)="bare" from X)];exact HM.same m2 S3
  ·rw[dy (show FY (z8 f)="bare" from X)];exact c6.of aa
 rw[de X];rw[de (show¬FY (z8 f)="bare" from X),de (show¬FY (z8 f)="bare" from X)] at q;exists 8,u4,u5;exists C.hx;have h3:=C.own C.st true;have k3:Kp (foot x A) I (upd I x (.ins aI A.dx (aX (.int G.side) (.int G.R) (.ref A.tk) (.ref A.sd) (.ref v) (.bl true) (.ref A.pe)))):=Kp.upd (by simp[foot]);have i3:vJ I (upd I x (.ins aI A.dx (aX (.int G.side) (.int G.R) (.ref A.tk) (.ref A.sd) (.ref v) (.bl true) (.ref A.pe)))):=fun b u e i=>k3 _ _ e (C.imm e i);have m3:BK K (upd I x (.ins aI A.dx (aX (.int G.side) (.int G.R) (.ref A.tk) (.ref A.sd) (.ref v) (.bl true) (.ref A.pe)))) x {A with st:=v} {EI a f tn with due:=true}:=⟨_,h3,(hr2.keep i3).dued⟩;generalize upd I x (.ins aI A.dx (aX (.int G.side) (.int G.R) (.ref A.tk) (.ref A.sd) (.ref v) (.bl true) (.ref A.pe)))=H3 at*
 have hp3:=k3 _ _ hp2 fpc;exists 8,u5,u6;exists hp3;by_cases U:FY (f.toNat / 256)="ask"
 ·rw[dy U];intro p J;have S3:=aj (o:= .tup [.str "ask",.non]) J;refine q v p _ ((kk.trans k3).trans (Kp.of S3)) ?_ ?_
  ·rw[dy (show FY (z8 f)="ask" from U)];exact HM.same m3 S3
  ·rw[dy (show FY (z8 f)="ask" from U)];exact c6.of aa
 rw[de U];rw[de (show¬FY (z8 f)="ask" from U),de (show¬FY (z8 f)="ask" from U)] at q;exists 7,u6;exists h3.hx,hp3;intro p J;have S4:=aj (o:= .tup [.str (FY (f.toNat / 256)),.str (V4 (f.toNat / 256))]) J;exact⟨_,_,(FY (f.toNat / 256),V4 (f.toNat / 256)),HM.same m3 S4,⟨p,rfl,c6.of aa⟩,⟨r0,m0,m1,og,hT⟩,fun st' r H' k4 m4 s4=>q st' r H' (((kk.trans k3).trans (Kp.of S4)).trans k4) m4 s4⟩
theorem zj:OM P w mg base T.sG eh 3 (jP K):=by
 exists 0,T.sG,eh,jP,(ae (ay 3 eh.1.nd (bQ (ai (pv 0) T.aK T.cZ) T.aT (A6 T) HR))
 (ak (ae (aQ (aS ky (pv 2) bY) (ah (ar (ba (aZ (pv 1) (aZ af (aZ (av K (pv 3) af) (aZ (av K (pv 3) af) (bP (av K (pv 3) af) aG)))))))) aB)
 (ak (ae (ay 4 eh.1.nd (a8 (ai (pv 0) T.aK T.bS) T.aq (A7 T) HR (bj (pv 2))))
 (ah (ar (ba (aZ (bq K (pv 4) af) (aZ (au bE (pv 2) (ai (pv 0) T.aK T.oh)) (aZ (av K (pv 3) af) (aZ (av K (pv 3) af) (bP (av K (pv 3) af) (bq K (pv 4) af))))))))))))))
 rename_i x w pl;obtain⟨A,a,⟨z,G,y⟩,⟨r0,m0,m1⟩,q⟩:=h;exists 6,u1;exists G.hx,G.tk.hx;refine⟨_,_,_,G.tk,by rw[y.tR];exact r0,by rw[y.o,y.tM,y.g];exact⟨m0,m1⟩,fun p t hs H1 I C np nt ht hp=>?_⟩;rw[y.held] at C;rw[y.o,y.tM,y.g,y.tR] at hp;subst C;have hl:(C8 a).length<=1000:=by
  unfold C8;rw[cz];refine h7 (me _ _) ?_;rw[RA];omega
 have F:=G.same I;have O:=y.keep (vJ.of I);exists 8,u1,u2;rcases q with⟨rfl,q⟩|⟨pp,th,rfl,J,U,q⟩
 ·exists hp;intro p' i;exact q p' _ (I.trans (aj i)) ⟨t,aa,by rw[ag (fun z=>by rw[z,i] at ht;cases ht)];exact ht,hl,by decide+kernel⟩
 ·exists hp;exists 8,u2,u3;exists F.hx,F.sd.hx;obtain⟨vs,Q,X,Z⟩:=O.s;obtain⟨v,hv,tp,rfl,hs⟩:=Uy X J;refine⟨_,_,.ref tp,F.sd,by rw[Q];exact hv,?_⟩;refine⟨_,_,.inr hs,ER,?_⟩;exists F.hx,hp;rw[y.R];refine⟨r0,?_⟩;refine⟨_,_,.inr hs,IC,fun p' i=>?_⟩;exact q p' _ (I.trans (aj i)) ⟨t,aa,by rw[ag (fun z=>by rw[z,i] at ht;cases ht)];exact ht,hl,U⟩
theorem FN:OM P w mg base T.AE f_ 5 (qI K):=by
 exists 0,T.AE,f_,qI,(ae (ay 2 f_.1.nd (a8 (ai (pv 0) T.aK T.bS) T.aq (FH T) HR (bj (pv 1))))
 (ak (ae (aQ (PW.pt (pw_and (aS ky (pv 2) bY) (pw_and1 (eZ (mq (ai (pv 0) T.aK T.dU)))))) (ah (ar bY)) aB)
 (ak (ae (ay 3 f_.1.nd (gV (aS ky (pv 2) bY) aG (av K (pv 2) af)))
 (ak (ae (ay 4 f_.1.nd (gV (aS ky (pv 2) bY) bY (av K (pv 2) af)))
 (ak (ae (az (pv 0) gr T.aK T.dU)
 (ak (ah (ar (ba (aZ (aF (Cb T) HR (bj (a8 (pv 0) T.aK (zj T) HR (bP (pv 3) (pv 4))))) (bP (pv 3) (pv 4))))))))))))))))
 rename_i x n;obtain⟨A,a,⟨z,hH,hR⟩,ok,q1,q2⟩:=h;obtain⟨vs,es1,es2,es3⟩:=hR.s;have hS:=hH.sd;rw[es1] at hS;exists 6,u1;exists hH.hx,hS.hx;refine⟨_,_,hS,⟨ok.bz.b0,ok.bz.bt,ok.bz.t1⟩,ok.ck,ok.la,ok.lf,fun v C z' f1 s1 g1=>?_⟩;obtain⟨e1,alt⟩:=XA g1;rw[XB es3] at e1 alt;subst e1;have F:Ke C x A {z with sd:={(zt a.s n).1 with T:=vs}}:=hH.sender f1 s1;have k1:Kp (foot x A) H C:=(Dg.kp f1).more (fun b hb=>by simp only[fy,hL,wh] at hb;rcases hb with e|e|e|e|e|e|e<;>subst e<;>simp[foot])
 have im1:vJ H C:=fun b u e i=>k1 _ _ e (hH.imm e i);have O:=hR.keep im1;have G:Paired (ET K C) vs a.T:=bu es2 fun _ _ w=>w.keep im1;have el:(zt a.s n).1.T.length=vs.length:=by rw[Po];exact es3
 exists 8,u1,u2;rcases alt with⟨e2,rfl⟩|⟨w,pl,p,e2,rfl,np,hp⟩
 ·exists F.hx;cases ed:z.due
  ·rw[dy rfl];have ea:a.due=false:=by rw[<-hR.due];exact ed
   refine q1 (by unfold E6;rw[show(zt a.s n).2=none from e2];show(if a.due then _ else _)=_;rw[ea];rfl) C k1 ⟨_,F,?_⟩;have m:=dE.sent (d:=z.due) O G el;rw[show xC a n={a with s:=(zt a.s n).1,due:=z.due} by unfold xC;rw[ed]];exact m
  rw[de (by decide)];have ea:a.due=true:=by rw[<-hR.due];exact ed
  have sw:E6 a n=some (Str.ofString "bare",none):=by unfold E6;rw[show(zt a.s n).2=none from e2];show(if a.due then _ else _)=_;rw[ea];rfl
  have pb:=ok.pb _ _ sw;exists 8,u2,u3;exists 9;exists 8,u3,u4;exists 9;exists 8,u4,u5;exists F.hx;have U:=F.own F.st false;have k3:Kp (foot x A) C (upd C x (.ins aI A.dx (aX (.int z.side) (.int z.R) (.ref A.tk) (.ref A.sd) (.ref A.st) (.bl false) (.ref A.pe)))):=Kp.upd (by simp[foot]);have Z:vJ C (upd C x (.ins aI A.dx (aX (.int z.side) (.int z.R) (.ref A.tk) (.ref A.sd) (.ref A.st) (.bl false) (.ref A.pe)))):=fun b u e i=>k3 _ _ e (F.imm e i);have Q:BK K (upd C x (.ins aI A.dx (aX (.int z.side) (.int z.R) (.ref A.tk) (.ref A.sd) (.ref A.st) (.bl false) (.ref A.pe)))) x A (xC a n):=⟨{z with sd:={(zt a.s n).1 with T:=vs},due:=false},U,dE.sent (O.keep Z) (bu G fun _ _ w=>w.keep Z) el⟩;generalize upd C x (.ins aI A.dx (aX (.int z.side) (.int z.R) (.ref A.tk) (.ref A.sd) (.ref A.st) (.bl false) (.ref A.pe)))=H3 at*
  exists 7,u5;exists U.hx;refine⟨A,xC a n,Q,⟨ok.r0,ok.m0,ok.m1⟩,?_⟩;refine .inl fun t H4 J tt=>?_;refine⟨_,_,_,_,_,_,tt,pb.1,fun m H5 I p' y=>?_⟩;exact q2 _ _ sw m p' _ (((k1.trans k3).trans (Kp.of J)).trans (Kp.of (I.trans (aj y)))) (HM.same Q ((J.trans I).trans (aj y))) aa
 ·exists F.hx;have sw:E6 a n=some (w,pl):=by unfold E6;rw[show(zt a.s n).2=some (w,pl) from e2]
  have pb:=ok.pb _ _ sw;exists 8,u2,u3;exists hp;exists 8,u3,u4;exists hp;exists 8,u4,u5;exists F.hx;have U:=F.own F.st false;have k3:Kp (foot x A) C (upd C x (.ins aI A.dx (aX (.int z.side) (.int z.R) (.ref A.tk) (.ref A.sd) (.ref A.st) (.bl false) (.ref A.pe)))):=Kp.upd (by simp[foot]);have Z:vJ C (upd C x (.ins aI A.dx (aX (.int z.side) (.int z.R) (.ref A.tk) (.ref A.sd) (.ref A.st) (.bl false) (.ref A.pe)))):=fun b u e i=>k3 _ _ e (F.imm e i);have Q:BK K (upd C x (.ins aI A.dx (aX (.int z.side) (.int z.R) (.ref A.tk) (.ref A.sd) (.ref A.st) (.bl false) (.ref A.pe)))) x A (xC a n):=⟨{z with sd:={(zt a.s n).1 with T:=vs},due:=false},U,dE.sent (O.keep Z) (bu G fun _ _ w=>w.keep Z) el⟩;generalize upd C x (.ins aI A.dx (aX (.int z.side) (.int z.R) (.ref A.tk) (.ref A.sd) (.ref A.st) (.bl false) (.ref A.pe)))=H3 at*
  exists 7,u5;exists U.hx;refine⟨A,xC a n,Q,⟨ok.r0,ok.m0,ok.m1⟩,?_⟩;cases pl with
  |none=>
   refine .inl ⟨rfl,fun t H4 J tt=>?_⟩;refine⟨_,_,_,_,_,_,tt,pb.1,fun m H5 I p' y=>?_⟩;exact q2 _ _ sw m p' _ (((k1.trans k3).trans (Kp.of J)).trans (Kp.of (I.trans (aj y)))) (HM.same Q ((J.trans I).trans (aj y))) aa
  |some X=>
   obtain⟨th,t1,t2⟩:=pb.2 X rfl;have et:Ro a w (some X)=th:=by
    show(kB a.T X).getD _=th;rw[t1];rfl
   have sb:dX th.1 (X % a.R) (a.g % a.R) (a.o+a.M-a.g) (C8 a) th.2=true:=by
    have:=pb.1;unfold NU at this;rw[et] at this;exact this
   refine .inr ⟨X,th,rfl,t1,t2,fun t H4 J tt=>?_⟩;refine⟨_,_,_,_,_,_,tt,sb,fun m H5 I p' y=>?_⟩;exact q2 _ _ sw m p' _ (((k1.trans k3).trans (Kp.of J)).trans (Kp.of (I.trans (aj y)))) (HM.same Q ((J.trans I).trans (aj y))) aa
theorem Jv:OF P w base T.ED wg 2 vS:=by
 exists 0,T.ED,wg,vS,(ah (ar (cD (aD (ku K rfl) (by rfl) T.cN cw (bP (pv 0) (vv rfl T.rC nJ))) (cD (d5 (uO K rfl HR.units) (aD (dO K rfl) (by rfl) T.gv dH (bj (pv 0))) af) (cD (aF (b7 T) HR (aZ (bq K (pv 0) af) (bP af (pv 1)))) (cD (aF (b7 T) HR (aZ (bq K (pv 0) af) (bP af (bw rfl T.GC)))) (kh (aF (b7 T) HR (aZ (bq K (pv 0) af) (bP af (bw rfl T.J_)))))))))));rename_i c v;obtain⟨d,p,r,hc,i,q⟩:=h;unfold oJ at i;rw[fx,fx] at i;exists hc;refine BE hc ⟨true,rfl,?_⟩;rw[dy rfl];refine⟨_,.inr (c6.of hc),?_⟩;rw[dy (by simp)];refine bV (c6.of hc) rfl ?_;exists 9;rw[dy i.1.1];refine bV (c6.of hc) rfl ?_;exists 9;rw[dy i.1.2];refine bV (c6.of hc) rfl ?_;show Q (V.bl (bO r 0 255)) H;rw[i.2];exact q
theorem Ju:OF P w base T.EC wd 3 vR:=by
 exists 0,T.EC,wd,vR,(ah (ar (cD (d5 xK (aD (dO K rfl) (by rfl) T.gv dH (bj (pv 0))) (bw rfl T.DS)) (kh (aD (uU K rfl rfl) (by rfl) T.Lr GH (bj (bL (N:=(["copy","lag"]:List Str)) (nv:=1) (ix:=[1]) rfl (c9 (by kernel_rfl)) (aR K rfl (pv 0)) (fun _ _ _ _ _=>(aw 0 (show((["copy","lag"]:List Str)).Nodup by decide))) (fun _ _ _ _ _=>cj) (fun _ _ _ _ _=>(aF (Jv T) HR (bP (pv 0) (pv 1)))))))))));rename_i x U;obtain⟨ds,⟨cs,C,F,G⟩,v,q⟩:=h;have ln:=dq F;unfold rZ at v;rw[fx,eM,ON] at v;exists 9;refine⟨_,.inl (bC.of C),?_⟩;rw[cz,ln,dy (by lia)];refine rA (p:=fun _=>true) (f:=fun _=>V.bl true) (bC.of C) (ax (by rw[cz,ln];exact G)) (fun x _ Q h=>h) (fun y J _ Q h=>?_) ?_
 ·obtain⟨X,z,rfl⟩:=h8.mp J;obtain⟨i,I⟩:=List.getElem?_of_mem z;obtain⟨d,O,hd⟩:=kj F I;exists 9;exact⟨_,_,_,hd,v.2 d (ni O),h⟩
 rw[Z2.mpr (by simp)];refine⟨ax (by rw[cz,cz,ln];exact G),fun l hl=>⟨List.replicate (cs.map V.ref).length true,?_,?_⟩⟩
 ·have e:List.map (fun _=>V.bl true) (cs.map V.ref)=(List.replicate (cs.map V.ref).length true).map V.bl:=by rw[List.map_const',List.map_replicate]
  rw[<-e];exact bC.of aa
 rw[show(List.replicate (cs.map V.ref).length true).all id=true by simp];exact q _ (aj hl)
theorem Dj:OF P w base T.yg gR 4 oK:=by
 exists 0,T.yg,gR,oK,(ae (aQ (PW.pt (pw_or (eZ (mq (aF (b7 T) HR (aZ (pv 1) (bP af (bw rfl T.zY)))))) (pw_or1 (aS mT (aD (dO K rfl) (by rfl) T.gv dH (bj (pv 0))) (bw rfl T.GF))))) (ah kE) aB)
 (ah (cJ j0 rfl (Fn rfl T.uC (bj (pv 0))) (uN K (n:=2) rfl rfl (jw (aw 2 gR.1.nd) (jw (aw 3 gR.1.nd) uM))) (ah (aQ (eZ (mq (aF (Ju T) HR (bP (pv 3) (pv 1))))) (ah kE) aB)))))
 rename_i x z;obtain⟨Z,X,hg,ok,q⟩:=h;obtain⟨xs,I,Q,h3⟩:=X;have ln:=dq Q;have U:bO z 1 60=true:=by unfold bO;simp;lia
 exists 9;rw[de (by rw[U];decide)];refine⟨_,.inl (bC.of I),?_⟩;rw[cz,ln,de (by have:=ok.2;lia)];refine Gf I (fun i σ H'=>aA H H'/\∃F G,σ= [some (V.ref x),some (V.int z),F,G]) ⟨aA.refl _,none,none,rfl⟩ (fun i σ H' _ h=>h.1 _ _ I) (fun i y pt σ H' O h v=>?_) (fun σ H' h=>?_)
 ·obtain⟨C,F,G,rfl⟩:=h;rw[j1] at O;obtain⟨y,ey,rfl⟩:=nc.mp O;obtain⟨ds,J,hD⟩:=kj Q ey;exists aa;refine⟨ds,(hD.same C).same (aj v),ok.1 ds (ni J),fun H2 s2=>?_⟩;exact⟨(C.trans (aj v)).trans s2,_,_,rfl⟩
 ·obtain⟨C,F,G,rfl⟩:=h;exact q _ C
theorem none_of {H H':Hp} {l:Addr} (i:aA H H') (nl:H' l=none):H l=none:=by
 cases e:H l with
 |none=>rfl
 |some o=>rw[i _ _ e] at nl;cases nl
theorem yZ:OF P w base T.Ip yR 1 yO:=by
 exists 0,T.Ip,yR,yO,(ah (ar (bL (N:=(["deed"]:List Str)) (nv:=1) (ix:=[]) rfl (c9 (by kernel_rfl)) (aR K rfl (pv 0)) (fun _ _ _ _ _=>(aw 0 (show((["deed"]:List Str)).Nodup by decide))) (fun _ _ _ _ _=>cj) (fun _ _ _ _ _=>(a_ (fW K rfl) (by rfl) T.xf rB (bj (pv 0)))))));rename_i x;obtain⟨I,⟨xs,J,Q,G⟩,q⟩:=h;have ln:=dq Q;exists 9;refine g8 (bC.of J) (ax (by rw[cz,ln];exact G)) (fun i ys σ H'=>aA H H'/\∃zs:List Addr,ys=zs.map V.ref/\Paired (fun x ds=>H x=none/\du H' x ds) zs (I.take i)/\∃v,σ= [v]) ⟨aA.refl _,[],rfl,.nil,none,rfl⟩ (fun i ys σ H' hh=>?_) (fun i ys σ H' hh=>bC.of (hh.1 _ _ J)) (fun i y ys σ H' O hh=>?_) (fun ys σ H' hh=>?_)
 ·obtain⟨_,zs,e,p,_⟩:=hh;rw[e,cz,dq p];exact List.length_take_le _ _
 ·obtain⟨C,zs,e,p,v,z⟩:=hh;subst z e;rw[j1] at O;obtain⟨y,Z,rfl⟩:=nc.mp O;obtain⟨ds,F,hD⟩:=kj Q Z;obtain⟨cs,d1,X,U⟩:=hD.same C;exists 9;refine⟨_,.inl (bC.of d1),fun l nl=>⟨C.trans (aj nl),zs++ [l],by simp,?_⟩⟩;rw[ra,F];refine⟨?_,_,rfl⟩;exact nX (R:=fun x ds=>H x=none/\du (upd H' l (.lst (cs.map V.ref))) x ds) (y:=ds) (bK p fun a b q=>⟨q.1,q.2.same (aj nl)⟩) ⟨none_of C nl,cs,aa,bK X (fun c d q=>aM q nl),U⟩
 ·obtain⟨C,zs,e,p,v,z⟩:=hh;subst z e;rw[cz,ln,ZL] at p;exact⟨ax (by rw[cz,dq p];exact G),fun l nl=>q l _ (C.trans (aj nl)) ⟨none_of C nl,zs,aa,bK p fun a b r=>⟨r.1,r.2.same (aj nl)⟩,G⟩⟩
theorem Jy:OF P w base T.EF wk 1 vU:=by
 exists 0,T.EF,wk,vU,(ae (aQ (cQ K HR (aD (dO K rfl) (by rfl) T.gv dH (bj (pv 0))) af) (ah (ar (cq (bj (ba (aZ af (bP af af))))))) aB)
 (ah (ar (a_ (fW K rfl) (by rfl) T.xf rB (bj (bq K (pv 0) (au bE (pv 1) (aD (dO K rfl) (by rfl) T.gv dH (bj (pv 0))))))))))
 rename_i x n;obtain⟨i,⟨xs,z,G,X⟩,q⟩:=h;have ln:=dq G;exists 9;refine⟨_,.inl (bC.of z),?_⟩;rw[cz,ln];by_cases c:i.length=0
 ·rw[dy (by lia)];rw[dy c] at q;intro J n1 Q F;exact q Q _ ((aj n1).trans (aj F)) (zu F) ⟨[J],aa,.cons (aM aa F) .nil,by simp⟩
 rw[de (by lia)];rw[de c] at q;refine⟨_,.inl (bC.of z),?_⟩;rw[cz,ln];refine⟨by lia,?_⟩;have m0:=C2 n (show((i.length:Nat):Int)≠0 by lia);have m1:=L0 n (show(0:Int)<((i.length:Nat):Int) by lia);obtain⟨j,I⟩:∃j:Nat,n % (i.length:Int)=(j:Int):=⟨(n % (i.length:Int)).toNat,by lia⟩;rw[I] at m1⊢;rw[I,qF] at q;have hx:xs[j]?=some (xs[j]'(by lia)):=mu (by lia);generalize xs[j]'(by lia)=y at hx;obtain⟨ds,C,cs,d1,U,O⟩:=kj G hx;rw[ZT,C] at q;refine Ct (bC.of z) (v:= .ref y) (sJ (by rw[j1,hx];rfl)) ?_;exact⟨_,.inl (bC.of d1),fun l nl=>q l _ (aj nl) nl ⟨cs,aa,bK U (fun c d r=>aM r nl),O⟩⟩
theorem du.but {C:Addr} {H H':Hp} {r x dx:Addr} {fs:List (Str×V)} {ds:List Cp} (h:du H x ds) (b:cI r H H') (hr:H r=some (.ins C dx fs)):du H' x ds:=by
 obtain⟨cs,i,v,y⟩:=h;refine⟨cs,b _ _ i (fun z=>by rw[z,hr] at i;cases i),bK v fun c d q=>b _ _ q (fun z=>?_),y⟩;unfold yI at q;rw[z,hr] at q;cases q
theorem pT:OM P w mg base T.sv jX 5 jL:=by
 exists 0,T.sv,jX,jL,(ae (aH (aF (Dj T) HR (bP (pv 1) (pv 2))))
 (ae (az (pv 0) (aF (yZ T) HR (bj (pv 1))) T.jo T.xW)
 (ae (az (pv 0) af T.jo T.lU)
 (ah (az (pv 0) (cq gN) T.jo T.gY)))))
 rename_i r x lag;obtain⟨I,dx,U,hr,g1,Z,q1⟩:=h;exists 9;refine⟨I,U,g1,Z,fun H1 s1=>⟨I,U.same s1,fun pd G s2 X=>?_⟩⟩;have C:=s2 _ _ (s1 _ _ hr);have F:=s1.trans s2;refine⟨dx,_,C,by decide,?_,fun pc i=>?_⟩
 ·rw[kA.1];exact kA.2
 rw[kA.1,pz.1] at i;rw[kA.1,pz.1];have J:r≠pc:=fun z=>by rw[<-z,aa] at i;cases i
 refine⟨dx,_,by rw[ag J,aa],pz.2,?_⟩;rw[tY.1];obtain⟨n0,xs,e1,e2,e3⟩:=X;have Q:cI r G (upd (upd (upd G r (.ins bM dx (kr (.ref pd) (.int 0)))) pc (.lst [])) r (.ins bM dx (cE (.ref pd) (.int 0) (.ref pc)))):=((cI.upd).new i).write;have ec:upd (upd (upd G r (.ins bM dx (kr (.ref pd) (.int 0)))) pc (.lst [])) r (.ins bM dx (cE (.ref pd) (.int 0) (.ref pc))) pc=some (.lst []):=by rw[ag (L3 J),aa]
 have er:=aa (H:=upd (upd G r (.ins bM dx (kr (.ref pd) (.int 0)))) pc (.lst [])) (a:=r) (o:= .ins bM dx (cE (.ref pd) (.int 0) (.ref pc)));generalize upd (upd (upd G r (.ins bM dx (kr (.ref pd) (.int 0)))) pc (.lst [])) r (.ins bM dx (cE (.ref pd) (.int 0) (.ref pc)))=HF at*
 have v:=zu i;have O:=Q _ _ e1 (fun z=>by rw[z,C] at e1;cases e1);refine q1 HF pd pc (fun b o e ne=>Q b o (F b o e) ne) (none_of F v) er ec ⟨none_of s1 n0,?_,xs,O,bK e2 fun y ds q=>⟨none_of s1 q.1,(fun z=>by obtain⟨_,u,_⟩:=q.2;rw[z,v] at u;cases u),q.2.but Q C⟩,e3⟩;intro z;rw[z,v] at e1;cases e1
theorem xg.row {H:Hp} {pd pc:Addr} {i:List (List Cp)} (h:xg H pd pc i):ju H pd i:=by
 obtain⟨xs,y,v,x⟩:=h;exact⟨xs,y,bK v fun _ _ q=>q.2,x⟩
theorem xg.same {H H':Hp} {pd pc:Addr} {i:List (List Cp)} (h:xg H pd pc i) (s:aA H H'):xg H' pd pc i:=by
 obtain⟨xs,y,v,x⟩:=h;exact⟨xs,s _ _ y,bK v fun _ _ q=>⟨q.1,q.2.same s⟩,x⟩
theorem xg.but {C:Addr} {H H':Hp} {r x pc dx:Addr} {fs:List (Str×V)} {i:List (List Cp)} (h:xg H x pc i) (b:cI r H H') (hr:H r=some (.ins C dx fs)):xg H' x pc i:=by
 obtain⟨xs,v,F,G⟩:=h;exact⟨xs,b _ _ v (fun z=>by rw[z,hr] at v;cases v),bK F fun y ds q=>⟨q.1,q.2.but b hr⟩,G⟩
theorem xg.YW {H H':Hp} {x pc:Addr} {l:List V} {i:List (List Cp)} (h:xg H x pc i) (b:cI pc H H') (hp:H pc=some (.lst l)) (ne:x≠pc):xg H' x pc i:=by
 obtain⟨xs,v,C,F⟩:=h;refine⟨xs,b _ _ v ne,bK C fun y ds q=>⟨q.1,?_⟩,F⟩;obtain⟨cs,I,G,J⟩:=q.2;exact⟨cs,b _ _ I q.1,bK G fun c d u=>b _ _ u (fun z=>by unfold yI at u;rw[z,hp] at u;cases u),J⟩
theorem MD {turn sn frame:Int} {ds:List Cp} {i:Nat} {d:Cp} (h:ds[i]?=some d):FW turn sn frame (ds.take (i+1))=FW turn sn frame (ds.take i)++ [WL turn sn frame i d]:=by
 have hl:i<ds.length:=(i4.mp h).1;unfold FW;rw[ra,h];show List.mapIdx _ (ds.take i++ [d])=_;rw[List.mapIdx_concat,z1,Nat.min_eq_left (by lia)]
theorem FI:OM P w mg base T.Ay f9 2 qG:=by
 exists 0,T.Ay,f9,qG,(ae (ay 3 f9.1.nd (ai (pv 0) T.jo T.lU))
 (ak (ae (mr (pv 0) af T.jo T.lU mx)
 (ak (ae (cJ j0 rfl (Fn rfl T.uC (bj (aF (Jy T) HR (bP (ai (pv 0) T.jo T.xW) (pv 3))))) (uN K (n:=2) rfl rfl (jw (aw 4 f9.1.nd) (jw (aw 5 f9.1.nd) uM))) (ah (aH (bZ K rfl (ai (pv 0) T.jo T.gY) (ba (aZ (aE K (pv 1) (bq K (pv 5) af)) (aZ (pv 3) (bP (pv 4) (au OO (pv 2) (au hJ (bq K (pv 5) af) (bq K (pv 5) af)))))))))))
 (ah (ar (pv 3))))))))
 rename_i r turn frame;obtain⟨dx,pd,pc,U,sn,ms,F,hg,hl,hm,q⟩:=h;exists 6,u1;exists F.hr;exists 8,u1,u2;exists F.hr;exists 7,u2;exists 9;obtain⟨Z,hc0,hp0⟩:=F.hc;have b1:cI r H (upd H r (.ins bM dx (cE (.ref pd) (.int (sn+1)) (.ref pc)))):=cI.upd;refine⟨U,(F.hd.but b1 F.hr).row,fun p H1 s1 np hD=>?_⟩;replace hD:du H1 p (t6 U sn):=hD;have J:r≠pc:=fun z=>by have:=F.hr;rw[z,hc0] at this;cases this
 have I:=b1 _ _ hc0 (L3 J);have ppc:p≠pc:=fun z=>by rw[z,I] at np;cases np
 have X:=s1 _ _ (aa (H:=H) (a:=r) (o:= .ins bM dx (cE (.ref pd) (.int (sn+1)) (.ref pc))));have v:=s1 _ _ I;have hd1:=(F.hd.but b1 F.hr).same s1;have hcm1:Paired (IK H1) Z ms:=bK hp0 fun c m h=>s1 _ _ (b1 _ _ h (fun z=>by unfold IK at h;rw[z,F.hr] at h;cases h));have fr1:Zm r pc H H1:=fun b o e n1 _=>s1 _ _ (b1 _ _ e n1);have G:=F.ne;generalize t6 U sn=ds at*
 obtain⟨ps,e1,e2,e3⟩:=hD;have ln:=dq e2;refine Gf e1 (fun i σ H'=>cI pc H1 H'/\(∃cs:List Addr,H' pc=some (.lst (cs.map V.ref))/\Paired (IK H') cs (ms++FW turn sn frame (ds.take i)))/\∃v4 v5,σ= [some (V.ref r),some (V.int turn),some (V.int frame),some (V.int sn),v4,v5]) ⟨cI.refl,⟨Z,v,by rw[List.take_zero];simpa [FW] using hcm1⟩,none,none,rfl⟩ (fun i σ H' _ h=>h.1 _ _ e1 ppc) (fun i y pt σ H' hy h C=>?_) (fun σ H' h=>?_)
 ·obtain⟨bt,⟨cs,k1,k2⟩,v4,v5,rfl⟩:=h;rw[j1] at hy;obtain⟨c,ec,rfl⟩:=nc.mp hy;obtain⟨d,ed,hd⟩:=kj e2 ec;have cne:c≠pc:=fun z=>by unfold yI at hd;rw[z,v] at hd;cases hd
  have O:=aM (o:= .tup [.int i,.ref c]) (bt _ _ hd cne) C;have hr2:=aM (o:= .tup [.int i,.ref c]) (bt _ _ X J) C;have Q:=aM (o:= .tup [.int i,.ref c]) k1 C;have hgd:=hg d (ni ed);have hnl:(FW turn sn frame (ds.take i)).length<=3:=by
   unfold FW;rw[List.length_mapIdx];exact h7 (List.length_take_le' _ _) hl
  have kl:=dq k2;rw[ib] at kl;unfold oJ bO at hgd;simp only[fx,eM] at hgd;exists aa,hr2;refine⟨cf (bC.of Q),bV (c6.of O) rfl ?_⟩;exists 9;refine bV (c6.of O) rfl (bV (c6.of O) rfl ?_);exists 9;refine⟨cshl (by lia) (by lia) (by lia) (by lia),fun pn x=>?_⟩;have pnc:pn≠pc:=fun z=>by rw[z,Q] at x;cases x
  refine⟨_,aM Q x,h9 (show(cs.map V.ref).length<1000 by rw[cz];lia) (ax (cv _)),((bt.new C).new x).write,⟨cs++ [pn],by simp,?_⟩,_,_,rfl⟩;rw[MD ed,<-List.append_assoc];refine nX (bK k2 fun a m u=>?_) ?_
  ·have ane:a≠pc:=fun z=>by unfold IK at u;rw[z,k1] at u;cases u
   unfold IK at u⊢;rw[ag ane];exact aM (aM u C) x
  ·unfold IK;rw[ag pnc,aa];rfl
 ·obtain⟨bt,⟨cs,k1,k2⟩,v4,v5,rfl⟩:=h;rw[cz,ln,ZL] at k2;exists 9;have mv:∀b o,H1 b=some o->(∀xs,o≠ .lst xs)->H' b=some o:=fun b o e n=>bt b o e (fun z=>by rw[z,v] at e;cases e;exact n _ rfl);refine q H' (fun b o e n1 n2=>bt _ _ (fr1 b o e n1 n2) n2) ⟨bt _ _ X J,hd1.YW bt v G,⟨cs,k1,k2⟩,G⟩
theorem Jn {α β:Type} {R:α->β->Prop} {xs:List α} {ys:List β} (p:Paired R xs ys):∃qs:List (α×β),xs=qs.map (·.1)/\ys=qs.map (·.2)/\∀q∈qs,R q.1 q.2:=by
 induction p with
 |nil=>exact⟨[],rfl,rfl,fun q i=>by cases i⟩
 |cons r _ v=>
  obtain⟨qs,rfl,rfl,h⟩:=v;refine⟨(_,_)::qs,rfl,rfl,fun q i=>?_⟩;rcases fy.mp i with rfl|i
  ·exact r
  ·exact h q i
theorem Eb {α β:Type} {R:α->β->Prop}:∀{qs:List (α×β)},(∀q∈qs,R q.1 q.2)->Paired R (qs.map (·.1)) (qs.map (·.2))
 | [],_=> .nil
 |q::qs,h=> .cons (h q (.head _)) (Eb fun r hr=>h r (.tail _ hr))
noncomputable def CN (H:Hp) (v:V):Int:=match v with
 | .ref c=>match H c with
  |some (.tup (.int t::_))=>t
  |_=>0
 |_=>0
theorem zK {H:Hp} {c:Addr} {m:Cm} (h:IK H c m):CN H (.ref c)=m.1:=by
 have i:H c=some (.tup [.int m.1,.int m.2.1,.int m.2.2.1,.int m.2.2.2]):=h;simp only[CN,i]
theorem CP {H:Hp} (b:Int->Bool):∀{qs:List (Addr×Cm)},(∀q∈qs,IK H q.1 q.2)->(((qs.map (·.1)).map V.ref).filter fun v=>b (CN H v))=(qs.filter fun q=>b q.2.1).map fun q=>V.ref q.1
 | [],_=>rfl
 |q::qs,h=>by
  rw[K5,K5,ZI,ZI,zK (h q (.head _)),CP b fun r hr=>h r (.tail _ hr)];split<;>rfl
theorem CO (b:Int->Bool) (qs:List (Addr×Cm)):(qs.filter fun q=>b q.2.1).map (·.2)=(qs.map (·.2)).filter fun m=>b m.1:=by
 rw[aae];rfl
theorem xg.repc {H:Hp} {pd pc v:Addr} {i:List (List Cp)} (h:xg H pd pc i) (n:H v=none):xg H pd v i:=by
 obtain⟨xs,F,y,C⟩:=h;refine⟨xs,F,bK y fun x ds q=>⟨fun z=>?_,q.2⟩,C⟩;obtain⟨_,u,_⟩:=q.2;rw[z,n] at u;cases u
theorem UK {qs v:List (Addr×Cm)} (h:SS qs v):V0 (qs.map (·.2)) (v.map (·.2)):=by
 refine⟨h.1.map _,fun a=>?_⟩;rw[h.2 fun i x y hx z=>a i x.2 y.2 (by rw[j1,hx];rfl) (by rw[j1,z];rfl)]
theorem FJ:OM P w mg base T.Az ml 1 qH:=by
 exists 0,T.Az,ml,qH,(ae (ay 2 ml.1.nd (aD (DQ K rfl) (by rfl) T.Qd Nu (bj (bL (N:=(["copy","turn"]:List Str)) (nv:=1) (ix:=[1]) rfl (c9 (by kernel_rfl)) (aR K rfl (ai (pv 0) T.jo T.gY)) (fun _ _ _ _ _=>(aw 0 (show((["copy","turn"]:List Str)).Nodup by decide))) (fun _ _ _ _ _=>(nW (aS xK (bq K (pv 0) af) (pv 1)))) (fun _ _ _ _ _=>(pv 0))))))
 (ak (ae (Oz (pv 0) (bL (N:=(["copy","turn"]:List Str)) (nv:=1) (ix:=[1]) rfl (c9 (by kernel_rfl)) (aR K rfl (ai (pv 0) T.jo T.gY)) (fun _ _ _ _ _=>(aw 0 (show((["copy","turn"]:List Str)).Nodup by decide))) (fun _ _ _ _ _=>(nW (aS mT (bq K (pv 0) af) (pv 1)))) (fun _ _ _ _ _=>(pv 0))) T.jo T.gY)
 (ak (ah (ar (bL (N:=(["copy"]:List Str)) (nv:=1) (ix:=[]) rfl (c9 (by kernel_rfl)) (aR K rfl (pv 2)) (fun _ _ _ _ _=>(aw 0 (show((["copy"]:List Str)).Nodup by decide))) (fun _ _ _ _ _=>cj) (fun _ _ _ _ _=>(ba (bP (bq K (pv 0) af) (bq K (pv 0) af)))))))))))
 rename_i r turn;obtain⟨dx,pd,pc,dss,sn,ms,U,hm,hd,q⟩:=h;obtain⟨cs0,hc0,hp0⟩:=U.hc;obtain⟨qs,rfl,rfl,hq⟩:=Jn hp0;exists 6,u1;exists U.hr;have hmq:qs.length<=1000:=by rw[cz] at hm;exact hm
 refine rA (p:=fun v=>decide (CN H v<=turn)) (f:=id) (bC.of hc0) (ax (by rw[cz,cz];exact hmq)) (fun x hx Q h=>?_) (fun x hx _ Q h=>h) ?_
 ·obtain⟨c,hc,rfl⟩:=h8.mp hx;obtain⟨F,hq0,rfl⟩:=h8.mp hc;have X:=hq F hq0;rw[zK X] at h;exists 9;refine bV (c6.of X) rfl ?_;exists 9;exact h
 rw[List.map_id,CP (fun t=>decide (t<=turn)) hq];have hl1:∀b:Addr×Cm->Bool,(qs.filter b).length<=1000:=fun b=>h7 (me _ _) hmq;refine⟨ax (by rw[cz];exact hl1 _),fun l1 n1=>⟨qs.filter fun q=>decide (q.2.1<=turn),bC.of aa,fun F I=>c6.of (aM (hq F (ZF.mp I).1) n1),?_,fun l2 C n2 o4=>?_⟩⟩
 ·have e:=CO (fun t=>decide (t<=turn)) qs;unfold Sy at hd;rw[<-e,cz] at hd;exact hd
 have om:=UK o4;rw[CO (fun t=>decide (t<=turn)) qs] at om;replace om:V0 (Sy turn (qs.map (·.2))) (C.map (·.2)):=om;have hq':∀q∈C,IK H q.1 q.2:=fun q h=>hq q (ZF.mp (o4.1.mem_iff.mp h)).1;have ql:C.length<=1000:=by rw[o4.1.length_eq];exact hl1 _
 have J:aA H (upd (upd H l1 (.lst ((qs.filter fun q=>decide (q.2.1<=turn)).map fun q=>V.ref q.1))) l2 (.lst (C.map fun q=>V.ref q.1))):=(aj n1).trans (aj n2);have hl2:=aa (H:=upd H l1 (.lst ((qs.filter fun q=>decide (q.2.1<=turn)).map fun q=>V.ref q.1))) (a:=l2) (o:= .lst (C.map fun q=>V.ref q.1));have nl2:H l2=none:=zu n2;generalize upd (upd H l1 (.lst ((qs.filter fun q=>decide (q.2.1<=turn)).map fun q=>V.ref q.1))) l2 (.lst (C.map fun q=>V.ref q.1))=H2 at*
 have O:=J _ _ U.hr;exists 8,u1,u2;exists O;refine rA (p:=fun v=>decide (turn<CN H2 v)) (f:=id) (bC.of (J _ _ hc0)) (ax (by rw[cz,cz];exact hmq)) (fun x hx Q h=>?_) (fun x hx _ Q h=>h) ?_
 ·obtain⟨c,hc,rfl⟩:=h8.mp hx;obtain⟨F,hq0,rfl⟩:=h8.mp hc;have X:IK H2 F.1 F.2:=J _ _ (hq F hq0);rw[zK X] at h;exists 9;refine bV (c6.of X) rfl ?_;exists 9;exact h
 rw[List.map_id,CP (fun t=>decide (turn<t)) fun q h=>J _ _ (hq q h)];refine⟨ax (by rw[cz];exact hl1 _),fun G n3=>⟨dx,_,aM O n3,tY.2,?_⟩⟩;rw[Aj.2];have rne:r≠G:=fun z=>by rw[<-z,O] at n3;cases n3
 have nl3:H G=none:=none_of J n3;have b4:cI r H2 (upd (upd H2 G (.lst ((qs.filter fun q=>decide (turn<q.2.1)).map fun q=>V.ref q.1))) r (.ins bM dx (cE (.ref pd) (.int sn) (.ref G)))):=fun b o e ne=>by rw[ag ne];exact aM e n3
 have h4:upd (upd H2 G (.lst ((qs.filter fun q=>decide (turn<q.2.1)).map fun q=>V.ref q.1))) r (.ins bM dx (cE (.ref pd) (.int sn) (.ref G))) G=some (.lst ((qs.filter fun q=>decide (turn<q.2.1)).map fun q=>V.ref q.1)):=by rw[ag (L3 rne),aa]
 have hr4:=aa (H:=upd H2 G (.lst ((qs.filter fun q=>decide (turn<q.2.1)).map fun q=>V.ref q.1))) (a:=r) (o:= .ins bM dx (cE (.ref pd) (.int sn) (.ref G)));generalize upd (upd H2 G (.lst ((qs.filter fun q=>decide (turn<q.2.1)).map fun q=>V.ref q.1))) r (.ins bM dx (cE (.ref pd) (.int sn) (.ref G)))=H4 at*
 exists 7,u2;exists 9;have rl2:l2≠r:=fun z=>by rw[z,U.hr] at nl2;cases nl2
 have hl4:=b4 _ _ hl2 rl2;refine g8 (bC.of hl4) (ax (by rw[cz];exact ql)) (fun i ys σ H'=>aA H4 H'/\∃zs:List Addr,ys=zs.map V.ref/\Paired (Y5 H') zs (Fq ((C.map (·.2)).take i))/\∃v,σ= [v]) ⟨aA.refl _,[],rfl,.nil,none,rfl⟩ (fun i ys σ H' hh=>?_) (fun i ys σ H' hh=>bC.of (hh.1 _ _ hl4)) (fun i y ys σ H' hy hh=>?_) (fun ys σ H' hh=>?_)
 ·obtain⟨_,zs,e,p,_⟩:=hh;rw[e,cz,dq p];unfold Fq;rw[cz];exact List.length_take_le _ _
 ·obtain⟨sm,zs,e,p,v,eσ⟩:=hh;subst eσ e;rw[j1] at hy;obtain⟨F,e0,rfl⟩:=nc.mp hy;have I:=hq' F (ni e0);have hr0:F.1≠r:=fun z=>by unfold IK at I;rw[z,U.hr] at I;cases I
  have X:IK H' F.1 F.2:=sm _ _ (b4 _ _ (J _ _ I) hr0);exists 9;refine bV (c6.of X) rfl ?_;refine bV (c6.of X) rfl ?_;intro pn npn;refine⟨sm.trans (aj npn),zs++ [pn],by simp,?_,_,rfl⟩;have et:Fq ((C.map (·.2)).take (i+1))=Fq ((C.map (·.2)).take i)++ [(F.2.2.1,F.2.2.2.2)]:=by
   unfold Fq;rw[ra,j1,e0,n7];rfl
  rw[et];exact nX (bK p fun a m u=>aM u npn) aa
 ·obtain⟨sm,zs,e,p,v,eσ⟩:=hh;subst eσ e;rw[Lo (by rw[cz,cz];exact cv _)] at p;have zl:zs.length<=1000:=by
   rw[dq p];unfold Fq;rw[cz,cz];exact ql
  refine⟨ax (by rw[cz];exact zl),fun l5 Z=>?_⟩;have S5:aA H4 (upd H' l5 (.lst (zs.map V.ref))):=sm.trans (aj Z);have h5:=aa (H:=H') (a:=l5) (o:= .lst (zs.map V.ref));have p5:Paired (Y5 (upd H' l5 (.lst (zs.map V.ref)))) zs (Fq (C.map (·.2))):=bK p fun a m u=>aM u Z;have nl5:H l5=none:=by
   cases e:H l5 with
   |none=>rfl
   |some o=>
    exfalso;by_cases z:l5=r
    ·rw[z,sm _ _ hr4] at Z;cases Z
    ·rw[sm _ _ (b4 _ _ (J _ _ e) z)] at Z;cases Z
  generalize upd H' l5 (.lst (zs.map V.ref))=H5 at*
  have cn:∀q∈qs,IK H5 q.1 q.2:=fun F h=>by
   have I:=hq F h;have hr0:F.1≠r:=fun z=>by unfold IK at I;rw[z,U.hr] at I;cases I
   exact S5 _ _ (b4 _ _ (J _ _ I) hr0)
  refine q H5 G l5 (C.map (·.2)) (fun b o e ne=>S5 _ _ (b4 _ _ (J _ _ e) ne)) nl3 ⟨S5 _ _ hr4,(((U.hd.repc nl3).same J).but b4 O).same S5,⟨(qs.filter fun q=>decide (turn<q.2.1)).map (·.1),?_,?_⟩,?_⟩ om nl5 (fun z=>by rw[z,sm _ _ h4] at Z;cases Z) ⟨zs,h5,p5⟩
  ·rw[FX];exact S5 _ _ h4
  ·unfold Ti;rw[<-CO (fun t=>decide (turn<t)) qs];exact Eb fun F h=>cn F (ZF.mp h).1
  ·intro z;obtain⟨_,u,_⟩:=U.hd;rw[z,nl3] at u;cases u
theorem in_words {k:Str}:Du (.str k) [.str "begin",.str "end"]=(decide (k="begin")||decide (k="end")):=by
 show(("begin" == k)||(("end" == k)||false))=_;rw[Bool.or_false];congr 1
 ·rw[L4,ZS,eM];exact⟨fun h=>h.symm,fun h=>h.symm⟩
 ·rw[L4,ZS,eM];exact⟨fun h=>h.symm,fun h=>h.symm⟩
theorem Hu:OF P w base T.CY tu 2 sV:=by
 exists 0,T.CY,tu,sV,(ae (aQ (cQ K HR (pv 0) aG) (ah (ar (aF (Cf T) HR (bj (pv 1))))) aB)
 (ae (aQ (cQ K HR (pv 0) aG) (ah (ar (aF (b7 T) HR (aZ (pv 1) (bP af (bw rfl T.Iy)))))) aB)
 (ah (ar (cD (xI (B_ K rfl) (pv 0) (ba (bP aG aG)) (jh rfl)) (kh (d5 ky (pv 1) bY)))))))
 rename_i k v;obtain⟨y,q⟩:=h;unfold xq at y;by_cases C:k="put"
 ·rw[dy C] at y;cases v with
  |str z=>
   exists 9;rw[dy C];have x:iI z=true:=y;refine⟨?_,fun H' s=>by rw[x];exact q H' s⟩;unfold iI at x;simp only[fx,eM] at x;lia
  |_=>cases y
 ·rw[de C] at y;by_cases F:k="read"
  ·rw[dy F] at y;cases v with
   |int i=>
    exists 9;rw[de C,dy F];have x:bO i 1 60=true:=y;rw[x];exact q H (aA.refl _)
   |_=>cases y
  ·rw[de F,fx,eM] at y;obtain⟨hk,rfl⟩:=y;exists 9;rw[de C,de F];intro p hp;have G:=aj (o:= .tup [V.str "begin",V.str "end"]) hp;refine⟨_,.inr (c6.of aa),rfl,rfl,?_⟩;rw[in_words,hk,dy rfl];exact q _ G
theorem Js:OF P w base T.Ey v_ 3 vN:=by
 exists 0,T.Ey,v_,vN,(ah (ar (cD (aD (uT K rfl) (by rfl) T.cN cw (bP (pv 0) (vv rfl T.rC nJ))) (cD (d5 (uO K rfl HR.units) (aD (eI K rfl) (by rfl) T.gv dH (bj (pv 0))) af) (cD (aF (b7 T) HR (aZ (av K (pv 0) af) (bP af (bw rfl T.zV)))) (cD (aF (b7 T) HR (aZ (av K (pv 0) af) (bP af af))) (kh (aF (Hu T) HR (bP (av K (pv 0) af) (av K (pv 0) af))))))))));rename_i x;obtain⟨w,v,i,q⟩:=h;unfold fE at i;rw[fx,fx] at i;unfold Qp at v;exists v;rw[dy (by decide),i.1.1,dy rfl,i.1.2,dy rfl];exact⟨i.2,q⟩
theorem AX:OF P w base T.ug fh 4 kW:=by
 exists 0,T.ug,fh,kW,(ah (cJ j0 rfl (Fn rfl T.uC (bj (pv 0))) (uN K (n:=2) rfl rfl (jw (aw 1 fh.1.nd) (jw (aw 2 fh.1.nd) uM))) (ah (aQ (PW.pt (pw_or (aS z_ (pv 1) (bw rfl T.DR)) (pw_or1 (eZ (mq (aF (Js T) HR (bj (pv 2)))))))) (ah kE) aB))));rename_i p;obtain⟨ws,⟨xs,G,J,Z⟩,ok,q⟩:=h;have X:=cb J;exists 9;refine Gf G (fun i σ H'=>aA H H'/\∃z C,σ= [some (V.ref p),z,C]) ⟨aA.refl _,none,none,rfl⟩ (fun i σ H' _ h=>h.1 _ _ G) (fun i y pt σ H' I h F=>?_) (fun σ H' h=>?_)
 ·obtain⟨x,z,C,rfl⟩:=h;rw[j1] at I;obtain⟨y,U,rfl⟩:=nc.mp I;obtain⟨w,O,hD⟩:=jd J U;have Q:=(i4.mp O).1;exists aa;have v:=x.trans (aj (o:= .tup [V.int (i:Int),V.ref y]) F);rw[de (by have:=ok.1;lia)];refine⟨w,v _ _ hD,ok.2 w (ni O),fun H2 s2=>?_⟩;exact⟨v.trans s2,_,_,rfl⟩
 ·obtain⟨x,z,C,rfl⟩:=h;exact q _ x
theorem AW:OF P w base T.uf lC 1 kU:=by
 exists 0,T.uf,lC,kU,(ah (ar (Ry K rfl rfl rfl T.EO (bj (bL (N:=(["wish"]:List Str)) (nv:=1) (ix:=[]) rfl (c9 (by kernel_rfl)) (aR K rfl (pv 0)) (fun _ _ _ _ _=>(aw 0 (show((["wish"]:List Str)).Nodup by decide))) (fun _ _ _ _ _=>cj) (fun _ _ _ _ _=>(av K (pv 0) af)))) (KL EX af))));rename_i p;obtain⟨ws,⟨xs,z,F,J⟩,q⟩:=h;have hl:=cb F;exists 9;refine g8 (xs:=xs.map V.ref) (bC.of z) (ax (by rw[cz];lia)) (fun i ys σ H'=>H'=H/\ys=((ws.take i).map (fun w=>w.1)).map V.int/\∃v,σ= [v]) ⟨rfl,rfl,_,rfl⟩ (fun i ys σ H' hh=>by rw[hh.2.1,cz,cz,z1];exact aaf _ _) (fun i ys σ H' hh=>by rw[hh.1];exact bC.of z) (fun i x ys σ H' hx hh=>?_) (fun ys σ H' hh=>?_)
 ·obtain⟨rfl,rfl,v,rfl⟩:=hh;rw[j1] at hx;obtain⟨a,ha,rfl⟩:=nc.mp hx;obtain⟨w,hw,C⟩:=jd F ha;unfold Qp at C;exists C;refine⟨?_,_,rfl⟩;rw[ra,hw,n7,n7];rfl
 obtain⟨rfl,rfl,v,rfl⟩:=hh;rw[Lo (by rw[cz];lia)];refine⟨ax (by rw[cz,cz];lia),fun l hl=>⟨_,bC.of aa,fun e=>?_,fun _ M I hle=>?_⟩⟩
 ·have G:ws= []:=List.map_eq_nil_iff.mp e;exact q _ _ (aj hl) (.inl ⟨G,rfl⟩)
 ·obtain⟨w,hw,rfl⟩:=h8.mp I;exact q _ _ (aj hl) (.inr ⟨⟨w,hw,rfl⟩,fun O y=>hle _ (List.mem_map_of_mem y)⟩)
theorem cI.nw {r:Addr} {H v i:Hp} (n:H r=none) (s:aA H v) (b:cI r v i):aA H i:=fun c o e=>b c o (s _ _ e) (fun z=>by rw[z,n] at e;cases e)
theorem du.bx {C:Addr} {H H':Hp} {r x dx:Addr} {fs:List (Str×V)} {ds:List Cp} (h:du H x ds) (b:cI r H H') (hr:H r=some (.ins C dx fs)):du H' x ds:=by
 obtain⟨cs,i,v,y⟩:=h;exact⟨cs,b _ _ i (fun z=>by rw[z,hr] at i;cases i),bu v fun c d u=>b _ _ u (fun z=>by unfold yI at u;rw[z,hr] at u;cases u),y⟩
theorem ju.bx {C:Addr} {H H':Hp} {r x dx:Addr} {fs:List (Str×V)} {i:List (List Cp)} (h:ju H x i) (b:cI r H H') (hr:H r=some (.ins C dx fs)):ju H' x i:=by
 obtain⟨xs,v,F,G⟩:=h;exact⟨xs,b _ _ v (fun z=>by rw[z,hr] at v;cases v),bu F fun y ds q=>q.bx b hr,G⟩
theorem qk.bx {C:Addr} {H H':Hp} {r x dx:Addr} {fs:List (Str×V)} {ws:List Ww} (h:qk H x ws) (b:cI r H H') (hr:H r=some (.ins C dx fs)):qk H' x ws:=by
 obtain⟨xs,i,v,F⟩:=h;exact⟨xs,b _ _ i (fun z=>by rw[z,hr] at i;cases i),bu v fun y ds q=>b _ _ q (fun z=>by unfold Qp at q;rw[z,hr] at q;cases q),F⟩
theorem Dc.bx {v x r:Addr} {H H':Hp} {C F:Addr} {fs:List (Str×V)} {a o t g f l:Int} (h:Dc v H x a o t g f l) (b:cI r H H') (hr:H r=some (.ins C F fs)) (ne:x≠r):Dc v H' x a o t g f l:=by
 obtain⟨dx,p,y,i⟩:=h;exact⟨dx,p,b _ _ y ne,b _ _ i (fun z=>by rw[z,hr] at i;cases i)⟩
theorem tupset {H:Hp} {p x C dx:Addr} {o:HO} {fs fs':List (Str×V)} (i:H p=none) (hx:H x=some (.ins C dx fs)):cI x H (upd (upd H p o) x (.ins C dx fs'))/\upd (upd H p o) x (.ins C dx fs') x=some (.ins C dx fs')/\upd (upd H p o) x (.ins C dx fs') p=some o/\upd H p o x=some (.ins C dx fs):=by
 have n:x≠p:=ao hx i;exact⟨(cI.refl.new i).write,aa,by rw[ag n.symm];exact aa,by rw[ag n];exact hx⟩
noncomputable def Yn (side R own other f l:Int):nP:=⟨side,R,own,0,0,fun _=>none,(Pn side R own other f l).sd,[],"shut",false,[]⟩
theorem dE.new {K:W.Frag} {H:Hp} {s r o t f l:Int}:dE K H (Pn s r o t f l) (Yn s r o t f l):=
 ⟨rfl,rfl,rfl,rfl,rfl,rfl,fun _ _=>rfl,fun _ _ e=>by (cases e),List.nodup_nil,fun _ h=>absurd h hL,⟨[],rfl,.nil,rfl⟩,rfl,rfl,rfl⟩
theorem HI.new {s r o t f l:Int} (hr:2<=r/\r<=64) (ho:1<=o/\o<=16):HI (Yn s r o t f l) 0 0 0 1:=by
 have r0:0<r:=by omega
 exact
 ⟨⟨rfl,r0,⟨ZR _,ZR _,by show(0:Int)<=900;omega⟩,by show(0:Int)<=1;omega,ZR _,ZR _,lp _,fun _ _=>rfl,.inl rfl,fun j a b=>by have:j<0:=b;omega,ZR _,by omega,lp _,lp _,lp _⟩,hr.1,hr.2,ho.1,ho.2,ZR _,ZR _,by show(0:Int)<=0+o;omega,ZR _,fun i a b=>by have x:(0:Int)<=i:=a;have v:i<0:=b;omega,(fun i h=>by cases h),fun t h=>absurd h hL,by show 0+fi "shut" <=1;decide+kernel,rfl,lp _⟩
theorem VZ.rq {z v x:Hp} {pd pc:Addr} {i:List (List Cp)} {F:Addr->Nat} (h:VZ z v pd pc i) (k:∀y l,v y=some (.lst l)->x y=some (.lst l)) (im:∀y l,v y=some (.tup l)->x y=some (.tup l)) (o:∀y l,v y=some (.lst l)->z y=none->y≠pc->F y=8):Rq F x pd i:=by
 obtain⟨I,U,xs,G,J,Q⟩:=h;refine⟨o _ _ G I U,xs,k _ _ G,bu J fun y ds q=>?_,Q⟩;obtain⟨q1,X,cs,C,Z,O⟩:=q;exact⟨o _ _ C q1 X,cs,k _ _ C,bu Z fun c d u=>im _ _ u,O⟩
theorem yE.rq {z x v:Hp} {pd:Addr} {i:List (List Cp)} {C:Addr->Nat} (h:yE z x pd i) (k:∀y l,x y=some (.lst l)->v y=some (.lst l)) (im:∀y l,x y=some (.tup l)->v y=some (.tup l)) (o:∀y,z y=none->C y=8):Rq C v pd i:=by
 obtain⟨G,xs,Q,I,O⟩:=h;refine⟨o _ G,xs,k _ _ Q,bu I fun y ds q=>?_,O⟩;obtain⟨X,cs,F,U,J⟩:=q;exact⟨o _ X,cs,k _ _ F,bu U fun c d u=>im _ _ u,J⟩
noncomputable def z9 (H:Hp) (x tm r0 v y i:Addr) (b:Addr):Nat:=if b=x then 4 else if b=tm then 8 else if(H b).isSome then 9 else if b=r0\/b=v then 2 else if b=y\/b=i then 3 else 8
noncomputable def OK (H:Hp) (v:Addr->Nat) (y x:List Addr) (td o0 i:Addr) (b:Addr):Nat:=if(H b).isSome then v b else if b∈y then 0 else if b∈x then 1 else if b=td then 5 else if b=o0 then 6 else if b=i then 7 else 8
theorem y9:OM P w mg base T.so jV 7 (jJ K):=by
 exists 0,T.so,jV,jJ,(ae (az (pv 0) (ba (bP (o7 T.jo (pT T) HR (by decide) rfl (bP (av K (pv 2) af) (ai (pv 1) T.cL T.n_))) (o7 T.jo (pT T) HR (by decide) rfl (bP (av K (pv 2) af) (ai (pv 1) T.cL T.n_))))) T.aP T.rf)
 (ak (ae (aH (aF (AX T) HR (bj (pv 3))))
 (ak (ae (az (pv 0) (pv 1) T.aP T.xT)
 (ae (az (pv 0) (ba (bP (aF (yZ T) HR (bj (av K (pv 2) af))) (aF (yZ T) HR (bj (av K (pv 2) af))))) T.aP T.xU)
 (ak (ae (az (pv 0) (a_ (fW K rfl) (by rfl) T.xf rB (bj (pv 3))) T.aP T.ph)
 (ae (az (pv 0) (aF (AW T) HR (bj (pv 3))) T.aP T.pV)
 (ak (ae (az (pv 0) (ba (bP (o7 T.aK (pU T) HR (by decide) rfl (bP af (pv 1))) (o7 T.aK (pU T) HR (by decide) rfl (bP af (pv 1))))) T.aP T.e_)
 (ak (ae (az (pv 0) (ba (bP (cq gN) (cq gN))) T.aP T.Ac)
 (ae (az (pv 0) (cq gN) T.aP T.fT)
 (ah (az (pv 0) af T.aP T.bJ))))))))))))))))
 rename_i x tm rd wi;obtain⟨dx,r,o,t,g,f,l,pa,pb,da,db,ws,hx,hT,hg,hrd,hda,hdb,⟨okA,okB⟩,hwi,okW,q⟩:=h;have hT':=hT;obtain⟨dt,pt,ht1,ht2⟩:=hT;have n1:tm≠x:=bN ht1 hx (by simp[m9,m8]);have hg':=hg;obtain⟨g1,⟨g2,g3⟩,g4,g5,g6⟩:=hg';exists 6,u1;exists hx,hrd,ht1;intro r0 x0 nr0 nx0 _;have s0:=cH (C:=bM) (fs:=[]) nr0 nx0;refine⟨da,x0,hda.same s0,rfl,⟨by omega,by omega⟩,okA,fun H1 pd pc b1 np1c hR1 hc1 F1=>?_⟩;have S1:aA H H1:=cI.nw nr0 s0 b1;have y0:r0≠x:=(ao hx nr0).symm;have npc0:H pc=none:=none_of s0 np1c;have F1n:∀y,(upd (upd H x0 (.own r0)) r0 (.ins bM x0 [])) y=none->H y=none:=fun y e=>none_of s0 e;exists S1 _ _ hrd,S1 _ _ ht1;intro r1 x1 nr1 nx1 _;have s1:=cH (C:=bM) (fs:=[]) nr1 nx1;refine⟨db,x1,hdb.same (S1.trans s1),rfl,⟨by omega,by omega⟩,okB,fun H2 pd2 U b2 np2c hR2 hc2 F2=>?_⟩;have J:aA H1 H2:=cI.nw nr1 s1 b2;have S2:=S1.trans J;have y1:r1≠x:=(ao (S1 _ _ hx) nr1).symm;have npc1:H1 U=none:=none_of s1 np2c;have F2n:∀y,(upd (upd H1 x1 (.own r1)) r1 (.ins bM x1 [])) y=none->H1 y=none:=fun y e=>none_of s1 e;have x2:=S2 _ _ hx;intro v np1;obtain⟨B23,x3,O,xx⟩:=tupset (o:= .tup [V.ref r0,V.ref r1]) (fs':=Lake.aV "roads" (V.ref v) []) np1 x2;refine⟨dx,_,xx,by simp,?_⟩;generalize upd (upd H2 v (.tup [V.ref r0,V.ref r1])) x (.ins bp dx (Lake.aV "roads" (V.ref v) []))=H3 at*
 have B3:cI x H H3:=fun b u e n=>B23 _ _ (S2 _ _ e) n;have X:∀y l,H2 y=some (.lst l)->H3 y=some (.lst l):=fun y l e=>B23 _ _ e (fun z=>by rw[z,x2] at e;cases e);have tup3:∀y l,H2 y=some (.tup l)->H3 y=some (.tup l):=fun y l e=>B23 _ _ e (fun z=>by rw[z,x2] at e;cases e);have e8:∀y,H y=none->y≠r0->y≠pc->y≠r1->y≠U->z9 H x tm r0 pc r1 U y=8:=fun y a b c d e=>by
  unfold z9;rw[de (fun z=>by rw[z,hx] at a;cases a),de (fun z=>by rw[z,ht1] at a;cases a),de (by rw[a];decide),de (by intro z;rcases z with z|z;exact b z;exact c z),de (by intro z;rcases z with z|z;exact d z;exact e z)]
 have e2:∀y,H y=none->(y=r0\/y=pc)->z9 H x tm r0 pc r1 U y=2:=fun y a b=>by
  unfold z9;rw[de (fun z=>by rw[z,hx] at a;cases a),de (fun z=>by rw[z,ht1] at a;cases a),de (by rw[a];decide),dy b]
 have e3:∀y,H1 y=none->(y=r1\/y=U)->z9 H x tm r0 pc r1 U y=3:=fun y a b=>by
  have a':=none_of S1 a;unfold z9;rw[de (fun z=>by rw[z,hx] at a';cases a'),de (fun z=>by rw[z,ht1] at a';cases a'),de (by rw[a'];decide),de (by intro z;rcases z with z|z;(rw[z,hR1] at a;cases a);(rw[z,hc1] at a;cases a)),dy b]
 have e9:∀b u,H b=some u->b≠x->b≠tm->z9 H x tm r0 pc r1 U b=9:=fun b u e a c=>by
  unfold z9;rw[de a,de c,e];rfl
 have ex:z9 H x tm r0 pc r1 U x=4:=dy rfl;have et:z9 H x tm r0 pc r1 U tm=8:=by unfold z9;rw[de n1,dy rfl]
 generalize z9 H x tm r0 pc r1 U=ow at*
 have K1:RC bM ow 2 H3 r0 da g XR x0 pd pc 0 []:=⟨B23 _ _ (J _ _ hR1) y0,e2 _ nr0 (.inl rfl),e2 _ npc0 (.inr rfl),F1.rq (fun y l e=>X _ _ (J _ _ e)) (fun y l e=>tup3 _ _ (J _ _ e)) (fun y l a b c=>e8 y (F1n y b) (fun z=>by rw[z,hR1] at a;cases a) c (ao a nr1) (ao a npc1)),⟨[],X _ _ (J _ _ hc1),.nil⟩,okA,lp _⟩;have K2:RC bM ow 3 H3 r1 db g XR x1 pd2 U 0 []:=⟨B23 _ _ hR2 y1,e3 _ nr1 (.inl rfl),e3 _ npc1 (.inr rfl),F2.rq X tup3 (fun y l a b c=>e8 y (none_of S1 (F2n y b)) (ao hR1 (F2n y b)).symm (ao hc1 (F2n y b)).symm (fun z=>by rw[z,hR2] at a;cases a) c),⟨[],X _ _ hc2,.nil⟩,okB,lp _⟩;have F:∀y,H3 y=none->ow y=8:=fun y a=>e8 y (by
   cases e:H y with
   |none=>rfl
   |some u=>exfalso;by_cases z:y=x;(rw[z,x3] at a;cases a);(rw[B3 _ _ e z] at a;cases a)) (fun z=>by rw[z,K1.hr] at a;cases a) (fun z=>by rw[z,X _ _ (J _ _ hc1)] at a;cases a) (fun z=>by rw[z,K2.hr] at a;cases a) (fun z=>by rw[z,X _ _ hc2] at a;cases a)
 have xp1:v≠x:=(ao x2 np1).symm;clear F1 F2 F1n F2n b1 b2 s0 s1 S1 J S2 B23 X tup3 e8 e2 e3 hR1 hR2 hc1 hc2 xx np1 x2 np1c np2c npc0 npc1 nr0 nx0 nr1 nx1;have hwi3:=hwi.bx B3 hx;exists 8,u1,u2;exists 9;refine⟨ws,hwi3,okW,fun H4 S34=>?_⟩;have x4:=S34 _ _ x3;have B4:cI x H H4:=B3.same S34;have f34:Fo 4 ow H3 H4:=Fo.of S34;have K1:=K1.fo f34 (by decide) (by decide);have K2:=K2.fo f34 (by decide) (by decide);have O:=S34 _ _ O;have F:∀y,H4 y=none->ow y=8:=fun y a=>F y (none_of S34 a);clear hwi3 x3 S34 B3 f34;exists 8,u2,u3;exists x4;have f45:Fo 4 ow H4 (upd H4 x (HO.ins bp dx (dN (V.ref v) (V.ref tm)))):=Fo.upd x4 (oo (by simp[Lake.aV])) ex;have B45:cI x H4 (upd H4 x (HO.ins bp dx (dN (V.ref v) (V.ref tm)))):=cI.upd;have x5:upd H4 x (HO.ins bp dx (dN (V.ref v) (V.ref tm))) x=some (HO.ins bp dx (dN (V.ref v) (V.ref tm))):=aa;generalize upd H4 x (HO.ins bp dx (dN (V.ref v) (V.ref tm)))=H5 at*
 have B5:=B4.trans B45;have K1:=K1.fo f45 (by decide) (by decide);have K2:=K2.fo f45 (by decide) (by decide);have O:=B45 _ _ O xp1;have bt8:∀{Ha Hb:Hp},cI x Ha Hb->(∃u,Ha x=some u)->(∃u,Hb x=some u)->(∀y,Ha y=none->ow y=8)->∀y,Hb y=none->ow y=8:=fun{Ha Hb} bt ha hb h y a=>h y (by
  cases e:Ha y with
  |none=>rfl
  |some u=>exfalso;by_cases z:y=x;(rw[z] at a;obtain⟨w,hw⟩:=hb;rw[hw] at a;cases a);(rw[bt _ _ e z] at a;cases a))
 have F:=bt8 B45 ⟨_,x4⟩ ⟨_,x5⟩ F;have nrd:rd≠x:=bN hrd hx (by simp);have hrd5:=B5 _ _ hrd nrd;clear B4 B45 x4 f45;exists hrd5;refine⟨da,hda.bx B5 hx,fun c1 H6 S56 rn1=>?_⟩;exists S56 _ _ hrd5;refine⟨db,(hdb.bx B5 hx).same S56,fun c2 H7 S67 rn2=>?_⟩;have D1:Rq ow H7 c1 da:=rn1.rq (fun y l e=>S67 _ _ e) (fun y l e=>S67 _ _ e) F;have D2:Rq ow H7 c2 db:=rn2.rq (fun y l e=>e) (fun y l e=>e) (fun y e=>F y (none_of S56 e));clear rn1 rn2;intro G np2;have S57:=S56.trans S67;have x7:=S57 _ _ x5;have f57:Fo 4 ow H5 H7:=Fo.of S57;have K1:=K1.fo f57 (by decide) (by decide);have K2:=K2.fo f57 (by decide) (by decide);have O:=S57 _ _ O;have F:∀y,H7 y=none->ow y=8:=fun y a=>F y (none_of S57 a);obtain⟨B78,x8,hp2,xx⟩:=tupset (o:= .tup [V.ref c1,V.ref c2]) (fs':=Lake.aV "deeds" (V.ref G) (dN (V.ref v) (V.ref tm))) np2 x7;have f78:Fo 4 ow H7 (upd (upd H7 G (.tup [V.ref c1,V.ref c2])) x (.ins bp dx (Lake.aV "deeds" (V.ref G) (dN (V.ref v) (V.ref tm))))):=⟨fun b u e n=>B78 _ _ e (fun z=>n (by rw[z];exact ex)),fun b u e im=>B78 _ _ e (fun z=>by rw[z,x7] at e;cases e;exact oo (by simp[dN,cM]) im)⟩;refine⟨dx,_,xx,by simp[dN,cM],?_⟩;generalize upd (upd H7 G (.tup [V.ref c1,V.ref c2])) x (.ins bp dx (Lake.aV "deeds" (V.ref G) (dN (V.ref v) (V.ref tm))))=H8 at*
 have B8:=(B5.same S57).trans B78;have K1:=K1.fo f78 (by decide) (by decide);have K2:=K2.fo f78 (by decide) (by decide);have O:=B78 _ _ O xp1;have D1:=D1.fo f78 (by decide);have D2:=D2.fo f78 (by decide);have F:=bt8 B78 ⟨_,x7⟩ ⟨_,x8⟩ F;have np2x:G≠x:=(ao x7 np2).symm;clear B5 B78 x7 x5 S57 S56 S67 xx np2 hrd5 f57 f78;have hwi8:=hwi.bx B8 hx;exists 8,u3,u4;obtain⟨wx,hw1,hw2,hw3⟩:=hwi8;have hw4:=cb hw2;exists hw1;refine⟨_,.inl (bC.of hw1),fun I nl3=>?_⟩;have ef3:∃f3,f3=Lake.aV "deeds" (V.ref G) (dN (V.ref v) (V.ref tm)):=⟨_,rfl⟩;obtain⟨f3,ef3⟩:=ef3;rw[<-ef3] at x8;have ff3:f3=zD (V.ref v) (V.ref tm) (V.ref G):=by rw[ef3];rfl
 obtain⟨B89,x9,hl3,xx⟩:=tupset (o:= .lst (wx.map V.ref)) (fs':=Lake.aV "wishes" (V.ref I) f3) nl3 x8;have f89:Fo 4 ow H8 (upd (upd H8 I (.lst (wx.map V.ref))) x (.ins bp dx (Lake.aV "wishes" (V.ref I) f3))):=⟨fun b u e n=>B89 _ _ e (fun z=>n (by rw[z];exact ex)),fun b u e im=>B89 _ _ e (fun z=>by rw[z,x8] at e;cases e;exact oo (by rw[ff3];simp[zD,cM]) im)⟩;refine⟨dx,_,xx,by rw[ff3];simp[zD,cM],?_⟩;have ol3:=F _ nl3;generalize upd (upd H8 I (.lst (wx.map V.ref))) x (.ins bp dx (Lake.aV "wishes" (V.ref I) f3))=H9 at*
 have B9:=B8.trans B89;have K1:=K1.fo f89 (by decide) (by decide);have K2:=K2.fo f89 (by decide) (by decide);have O:=B89 _ _ O xp1;have hp2:=B89 _ _ hp2 np2x;have D1:=D1.fo f89 (by decide);have D2:=D2.fo f89 (by decide);have F:=bt8 B89 ⟨_,x8⟩ ⟨_,x9⟩ F;have W9:qk H9 I ws:=⟨wx,hl3,bu hw2 fun y ds q=>f89.2 _ _ q (.inl ⟨_,rfl⟩),hw3⟩;clear B89 x8 xx nl3 B8 f89;refine⟨ws,hwi.bx B9 hx,fun M H10 Z hM=>?_⟩;have x10:=Z _ _ x9;have ef4:∃f4,f4=Lake.aV "wishes" (V.ref I) f3:=⟨_,rfl⟩;obtain⟨f4,ef4⟩:=ef4;rw[<-ef4] at x10;have ff4:f4=zC (V.ref v) (V.ref tm) (V.ref G) (V.ref I):=by rw[ef4,ff3];rfl
 refine⟨dx,_,x10,by rw[ff4];simp[zC,cM],?_⟩;have ef5:Lake.aV "last_wish" (V.int M) f4=eE (V.ref v) (V.ref tm) (V.ref G) (V.ref I) (V.int M):=by rw[ff4];rfl
 rw[ef5];have B101:cI x H10 (upd H10 x (.ins bp dx (eE (V.ref v) (V.ref tm) (V.ref G) (V.ref I) (V.int M)))):=cI.upd;have f101:Fo 4 ow H10 (upd H10 x (.ins bp dx (eE (V.ref v) (V.ref tm) (V.ref G) (V.ref I) (V.int M)))):=Fo.upd x10 (oo (by rw[ff4];simp[zC,cM])) ex;have x11:upd H10 x (.ins bp dx (eE (V.ref v) (V.ref tm) (V.ref G) (V.ref I) (V.int M))) x=some (.ins bp dx (eE (V.ref v) (V.ref tm) (V.ref G) (V.ref I) (V.int M))):=aa;generalize upd H10 x (.ins bp dx (eE (V.ref v) (V.ref tm) (V.ref G) (V.ref I) (V.int M)))=H11 at*
 have B11:=(B9.same Z).trans B101;have Q:Fo 4 ow H9 H11:=(Fo.of Z).trans f101;have K1:=K1.fo Q (by decide) (by decide);have K2:=K2.fo Q (by decide) (by decide);have O:=B101 _ _ (Z _ _ O) xp1;have hp2:=B101 _ _ (Z _ _ hp2) np2x;have D1:=D1.fo Q (by decide);have D2:=D2.fo Q (by decide);have W9:=W9.ik Q.2 fun u e=>Q.1 _ _ e (by rw[ol3];decide);have F:=bt8 B101 ⟨_,x10⟩ ⟨_,x11⟩ (fun y a=>F y (none_of Z a));have hT:=hT'.bx B11 hx n1;clear B9 B101 x10 Z x9 ef5 ef4 ef3 ff3 ff4 hw1 hw2 hw3 hw4 f101 Q;exists 8,u4,u5;exists 9;intro h0 d0 nh0 nd0 _;have t0:=cH (C:=aI) (fs:=[]) nh0 nd0;refine⟨d0,r,o,t,g,f,l,rfl,hT.same t0,hg,fun A0 H12 b12 fr0 hH0=>?_⟩;have J:aA H11 H12:=cI.nw nh0 t0 b12;have x12:=J _ _ x11;have k0:∀b∈foot h0 A0,H11 b=none:=fun b hb=>by
  rcases fy.mp hb with e|e
  ·rw[e];exact nh0
  ·exact none_of t0 (fr0 b e)
 clear b12 fr0 t0 nh0 nd0;intro h1 d1 nh1 nd1 _;have t1:=cH (C:=aI) (fs:=[]) nh1 nd1;refine⟨d1,r,o,t,g,f,l,rfl,hT.same (J.trans t1),hg,fun A1 H13 b13 fr1 hH1=>?_⟩;have S13:aA H12 H13:=cI.nw nh1 t1 b13;have k1:∀b∈foot h1 A1,H12 b=none:=fun b hb=>by
  rcases fy.mp hb with e|e
  ·rw[e];exact nh1
  ·exact none_of t1 (fr1 b e)
 have k01:∀b∈foot h1 A1,b ∉ foot h0 A0:=fun b hb hb0=>by
  obtain⟨u,eu⟩:=hH0.live hb0;have:=k1 b hb;rw[eu] at this;cases this
 have x13:=S13 _ _ x12;have hH0:=hH0.same S13;have S113:=J.trans S13;clear b13 fr1 t1 nh1 nd1 S13 x12;intro p3 np3;obtain⟨B134,x14,hp3,xx⟩:=tupset (o:= .tup [V.ref h0,V.ref h1]) (fs':=Lake.aV "hands" (V.ref p3) (eE (V.ref v) (V.ref tm) (V.ref G) (V.ref I) (V.int M))) np3 x13;refine⟨dx,_,xx,by simp[eE,cM],?_⟩;have hp3x:p3≠x:=(ao x13 np3).symm;generalize upd (upd H13 p3 (.tup [V.ref h0,V.ref h1])) x (.ins bp dx (Lake.aV "hands" (V.ref p3) (eE (V.ref v) (V.ref tm) (V.ref G) (V.ref I) (V.int M))))=H14 at*
 have ef6:Lake.aV "hands" (V.ref p3) (eE (V.ref v) (V.ref tm) (V.ref G) (V.ref I) (V.int M))=qc (V.ref v) (V.ref tm) (V.ref G) (V.ref I) (V.int M) (V.ref p3):=rfl;rw[ef6] at x14;clear xx np3;exists 7,u5;exists 9;intro o0 no0 o1 no1 p4 np4;have SA:=(aj (o:= .lst []) no0).trans (aj (o:= .lst []) no1);have ho0:upd (upd H14 o0 (.lst [])) o1 (.lst []) o0=some (.lst []):=aj no1 _ _ aa;have ho1:upd (upd H14 o0 (.lst [])) o1 (.lst []) o1=some (.lst []):=aa;have no01:o0≠o1:=fun z=>by rw[<-z,aa] at no1;cases no1
 have no1':=none_of (aj (o:= .lst []) no0) no1;clear no1;generalize upd (upd H14 o0 (.lst [])) o1 (.lst [])=H15 at*
 have x15:=SA _ _ x14;have np4x:p4≠x:=(ao x15 np4).symm;obtain⟨B156,x16,hp4,xx⟩:=tupset (o:= .tup [V.ref o0,V.ref o1]) (fs':=Lake.aV "outs" (V.ref p4) (qc (V.ref v) (V.ref tm) (V.ref G) (V.ref I) (V.int M) (V.ref p3))) np4 x15;refine⟨dx,_,xx,by simp[qc,cM],?_⟩;clear xx;generalize upd (upd H15 p4 (.tup [V.ref o0,V.ref o1])) x (.ins bp dx (Lake.aV "outs" (V.ref p4) (qc (V.ref v) (V.ref tm) (V.ref G) (V.ref I) (V.int M) (V.ref p3))))=H16 at*
 have ef7:Lake.aV "outs" (V.ref p4) (qc (V.ref v) (V.ref tm) (V.ref G) (V.ref I) (V.int M) (V.ref p3))=zB (V.ref v) (V.ref tm) (V.ref G) (V.ref I) (V.int M) (V.ref p3) (V.ref p4):=rfl;rw[ef7] at x16;intro p5 np5;have ef8:Lake.aV "told" (V.ref p5) (zB (V.ref v) (V.ref tm) (V.ref G) (V.ref I) (V.int M) (V.ref p3) (V.ref p4))=zA (V.ref v) (V.ref tm) (V.ref G) (V.ref I) (V.int M) (V.ref p3) (V.ref p4) (V.ref p5):=rfl;have ef9:Lake.aV "turn" (V.int 0) (zA (V.ref v) (V.ref tm) (V.ref G) (V.ref I) (V.int M) (V.ref p3) (V.ref p4) (V.ref p5))=gp (V.ref v) (V.ref tm) (V.ref G) (V.ref I) (V.int M) (V.ref p3) (V.ref p4) (V.ref p5) (V.int 0):=rfl;obtain⟨B167,x17,hp5,xx⟩:=tupset (o:= .lst []) (fs':=gp (V.ref v) (V.ref tm) (V.ref G) (V.ref I) (V.int M) (V.ref p3) (V.ref p4) (V.ref p5) (V.int 0)) np5 x16;refine⟨dx,_,xx,by simp[zB,cM],by rw[ef8];simp[zA,cM],?_⟩;rw[ef8,ef9];clear xx ef7 ef8 ef9;generalize upd (upd H16 p5 (.lst [])) x (.ins bp dx (gp (V.ref v) (V.ref tm) (V.ref G) (V.ref I) (V.int M) (V.ref p3) (V.ref p4) (V.ref p5) (V.int 0)))=H17 at*
 have B14:cI x H13 H14:=B134;have B16:cI x H13 H16:=(B14.same SA).trans B156;have Bt:cI x H13 H17:=B16.trans B167;have nx:∀{y l},H13 y=some (HO.tup l)->y≠x:=fun e z=>by rw[z,x13] at e;cases e
 have im:∀b u,H13 b=some u->Ny u->b ∉ [x]:=fun b u e iu z=>by
  rw[hQ.mp z,x13] at e;cases e;exact oo (by simp[eE,cM]) iu
 have kx0:∀b∈foot h0 A0,b ∉ [x]:=fun b hb z=>by
  have:=k0 b hb;rw[hQ.mp z,x11] at this;cases this
 have kx1:∀b∈foot h1 A1,b ∉ [x]:=fun b hb z=>by
  have:=none_of J (k1 b hb);rw[hQ.mp z,x11] at this;cases this
 have lv:∀{Hz:Hp} {b y:Addr},cI x H13 Hz->Hz x≠none->Hz y=none->(∃u,H13 b=some u)->y≠b:=fun{Hz b y} bt hz hy hb z=>by
  obtain⟨u,eu⟩:=hb;by_cases zx:b=x
  ·rw[z,zx] at hy;exact hz hy
  ·rw[z,bt _ _ eu zx] at hy;cases hy
 have fr:∀{Hz:Hp} {y:Addr},cI x H13 Hz->Hz x≠none->Hz y=none->H11 y=none/\y ∉ foot h0 A0/\y ∉ foot h1 A1:=fun{Hz y} bt hz hy=>⟨by
   cases e:H11 y with
   |none=>rfl
   |some u=>exact absurd rfl (lv bt hz hy ⟨u,S113 _ _ e⟩),fun hm=>absurd rfl (lv bt hz hy (hH0.live hm)),fun hm=>absurd rfl (lv bt hz hy (hH1.live hm))⟩
 obtain⟨a0,a1,a2⟩:=fr B14 (by rw[x14];simp) no0;obtain⟨b0,b1,b2⟩:=fr B14 (by rw[x14];simp) no1';obtain⟨c0,c3,c4⟩:=fr B16 (by rw[x16];simp) np5;have n5o:∀{y},H15 y=some (HO.lst [])->p5≠y:=fun{y} e z=>by
  have yx:y≠x:=fun z=>by rw[z,x15] at e;cases e
  rw[z,B156 _ _ e yx] at np5;cases np5
 let ow':=OK H11 ow (foot h0 A0) (foot h1 A1) p5 o0 o1;have eo:∀b u,H11 b=some u->ow' b=ow b:=fun b u e=>dy (by rw[e];rfl);have nn:∀{y},H11 y=none->¬(H11 y).isSome=true:=fun e=>by rw[e];decide
 have w0:∀b∈foot h0 A0,ow' b=0:=fun b hb=>by show OK _ _ _ _ _ _ _ b=0;unfold OK;rw[de (nn (k0 b hb)),dy hb]
 have w1:∀b∈foot h1 A1,ow' b=1:=fun b hb=>by show OK _ _ _ _ _ _ _ b=1;unfold OK;rw[de (nn (none_of J (k1 b hb))),de (k01 b hb),dy hb]
 have w5:ow' p5=5:=by show OK _ _ _ _ _ _ _ p5=5;unfold OK;rw[de (nn c0),de c3,de c4,dy rfl]
 have w6:ow' o0=6:=by show OK _ _ _ _ _ _ _ o0=6;unfold OK;rw[de (nn a0),de a1,de a2,de (n5o ho0).symm,dy rfl]
 have w7:ow' o1=7:=by show OK _ _ _ _ _ _ _ o1=7;unfold OK;rw[de (nn b0),de b1,de b2,de (n5o ho1).symm,de no01.symm,dy rfl]
 have wx:ow' x=4:=(eo _ _ x11).trans ex;have f17:Fo 4 ow' H11 H17:=(Fo.of S113).trans ⟨fun b u e n=>Bt _ _ e (fun z=>n (by rw[z];exact wx)),fun b u e iu=>Bt _ _ e (fun z=>im _ _ e iu (hQ.mpr z))⟩;have ox0:o0≠x:=fun z=>by rw[z,x15] at ho0;cases ho0
 have ox1:o1≠x:=fun z=>by rw[z,x15] at ho1;cases ho1
 refine q ow' ⟨dx,v,G,I,p3,p4,p5,two r0 r1,two h0 h1,two o0 o1,two c1 c2⟩ M H17 (((B11.same S113).trans B14).trans ((cI.refl.same SA |>.trans B156).trans B167)) ⟨fun _=>x17,wx,f17.2 _ _ O (.inl ⟨_,rfl⟩),((cI.refl.same SA |>.trans B156).trans B167) _ _ hp3 hp3x,B167 _ _ hp4 np4x,f17.2 _ _ hp2 (.inl ⟨_,rfl⟩),?_,(by obtain⟨xs,e,_⟩:=W9;exact(eo _ _ e).trans ol3),W9.ik f17.2 fun u e=>f17.1 _ _ e (by rw[eo _ _ e,ol3];decide),okW,hM,?_,?_,fun _=>⟨w5,[],hp5,lp _⟩,?_,(by obtain⟨dt,pt,e,_⟩:=hT;exact(eo _ _ e).trans et),?_,hg⟩ (fun b u e n1 n2=>?_)
 ·intro i hi;rcases i with _|_|i
  ·exact(D1.owd eo).fo f17 (by decide)
  ·exact(D2.owd eo).fo f17 (by decide)
  ·omega
 ·intro i hi _;rcases i with _|_|i
  ·exact⟨A0,_,⟨_,hH0.kp (S:=[x]) (Kp.but Bt (hQ.mpr rfl)) kx0 im,dE.new⟩,HI.new g1 g2,w0⟩
  ·exact⟨A1,_,⟨_,hH1.kp (S:=[x]) (Kp.but Bt (hQ.mpr rfl)) kx1 im,dE.new⟩,HI.new g1 g3,w1⟩
  ·omega
 ·intro i hi _;rcases i with _|_|i
  ·exact⟨_,_,_,_,_,(K1.owd eo).fo f17 (by decide) (by decide)⟩
  ·exact⟨_,_,_,_,_,(K2.owd eo).fo f17 (by decide) (by decide)⟩
  ·omega
 ·intro i hi _;rcases i with _|_|i
  ·exact⟨w6,[],B167 _ _ (B156 _ _ ho0 ox0) ox0,lp _⟩
  ·exact⟨w7,[],B167 _ _ (B156 _ _ ho1 ox1) ox1,lp _⟩
  ·omega
 ·obtain⟨dt',pt',t1,t2⟩:=hT;exact⟨dt',pt',f17.1 _ _ t1 (by rw[eo _ _ t1,et];decide),f17.2 _ _ t2 (.inl ⟨_,rfl⟩)⟩
 ·have:=B11 _ _ e n1;rw[eo _ _ this];exact e9 _ _ e n1 n2
theorem tG:OM P w mg base T.vE iV 1 (mI K):=by
 exists 0,T.vE,iV,mI,(ae (ay 2 iV.1.nd (ai (av K (ai (pv 0) T.aP T.e_) (pv 1)) T.aK T.cZ))
 (ah (ar (au fP (ai (pv 2) T.aT T.cC) (ai (pv 2) T.aT T.fU)))))
 rename_i x side;obtain⟨i,Q,W,e,p,⟨y,rfl⟩,X,q⟩:=h;have J:=X.hx (by decide);have a1:kB [V.ref (W.h 0),V.ref (W.h 1)] (i:Int)=some (V.ref (W.h i)):=at2 (f:=fun k=>V.ref (W.h k)) y;obtain⟨A,a,I,v,O⟩:=X.a i y (by lia);obtain⟨z,C,hr⟩:=I;have F:=C.hx;have G:=C.tk.hx;exists J,X.hh,a1,F,G;have e1:=v.og;have e2:=v.gm;have e3:=v.m6;exact q _ (by rw[hr.g,hr.o];lia) (by rw[hr.g,hr.o];lia)
theorem y8:OM P w mg base T.sk df 8 (jI K):=by
 exists 0,T.sk,df,jI,(ah (cJ j0 rfl (aR K rfl (a8 (av K (ai (pv 0) T.aP T.rf) (au fP af (pv 1))) T.jo (FJ T) HR (bj (ai (pv 0) T.aP T.bJ)))) (uN K (n:=2) rfl rfl (jw (aw 2 df.1.nd) (jw (aw 3 df.1.nd) uM))) (ae (ay 4 df.1.nd (a8 (av K (ai (pv 0) T.aP T.e_) (pv 1)) T.aK (FQ T) HR (bP (pv 3) (ai (pv 0) T.aP T.bJ))))
 (ak (ah (aH (bZ K rfl (ai (pv 0) T.aP T.fT) (ba (aZ aG (aZ (ai (pv 0) T.aP T.bJ) (aZ (pv 1) (aZ (pv 2) (aZ (pv 3) (bP (bq K (pv 4) af) (bq K (pv 4) af)))))))))))))))
 rename_i x side;obtain⟨i,ow,W,e,p,⟨hi,rfl⟩,X,ok,q⟩:=h;have X0:=X.hx (by decide);obtain⟨dx,pd,pc,sn,ms,R⟩:=X.b (1-i) (by lia) (by lia);have a0:kB [V.ref (W.r 0),V.ref (W.r 1)] (1-(i:Int))=some (V.ref (W.r (1-i))):=by
  rw[show(1-(i:Int))=((1-i:Nat):Int) by lia];exact at2 (f:=fun k=>V.ref (W.r k)) (by lia)
 have Rr:=R.hr;have okL:p.L<64:=ok.L;have lm:=R.lm;exists X0,X.hr,a0,Rr;refine⟨dx,pd,pc,_,sn,ms,R.at (by lia),by lia,Nat.lt_of_le_of_lt (me _ _) (by lia),fun H1 pc' l1 ms' b1 n1 R1 om nl nlc P1=>?_⟩;obtain⟨Q,X1,F1,o9⟩:=X.comes (i:=1-i) (by lia) R b1 n1 R1 (me _ _);have hl9:=o9 l1 nl nlc;obtain⟨cs,O,I⟩:=P1;have cl:cs.length<=p.L:=by
  rw[cb I];unfold Fq;rw[cz,om.1.length_eq];exact h7 (me _ _) lm
 refine my (bC.of O) (fun k σ H'=> ∃v,eP 99 uW K v H' x W e {p with q:=p.q+2*k,B:=p.B+k}/\Fw Q v H1 H'/\∃v2 v3 v4,σ= [some (V.ref x),some (V.int i),v2,v3,v4]) ⟨Q,X1,Fw.refl,none,none,none,rfl⟩ (fun k σ H' _ h=>?_) (fun k y σ H' hy h=>?_) (fun σ H' h=>?_)
 ·obtain⟨v,_,F,_⟩:=h;exact bC.of (F.1 _ _ O (by lia)).1
 ·obtain⟨v,G,F,v2,v3,v4,rfl⟩:=h;rw[j1] at hy;obtain⟨cc,ec,rfl⟩:=nc.mp hy;obtain⟨m,em,hm⟩:=jd I ec;have kl:=(i4.mp ec).1;have hc':H' cc=some (.tup [.int m.1,.int m.2]):=F.2 _ _ hm (.inl ⟨_,rfl⟩);obtain⟨A,a,hM,C,ft⟩:=G.a i hi (by lia);have hM0:=hM;obtain⟨z,hz,hr⟩:=hM0;have h1:=hz.hx;have X0':=G.hx (by decide);have a1:kB [V.ref (W.h 0),V.ref (W.h 1)] (i:Int)=some (V.ref (W.h i)):=at2 (f:=fun k=>V.ref (W.h k)) hi;have okq:p.q+2*p.L<=600:=ok.q;have J:p.m<=420:=ok.m;have okN:p.N<=930:=ok.N;have okB:p.B+p.L<=1000000:=ok.B;have tl:=C.tl;have r2:=C.r2;have m1:=C.m1;exists 6,u1;exists hc',X0',G.hh,a1,h1;refine⟨A,a,hM,C.Vm (by show p.q+2*k<=1600;lia) J _,⟨by lia,by lia,C.m6,C.og,by have:a.T.length+fi a.nm<=p.N:=tl;lia⟩,fun okb st' r H2 k2 h2 sq=>?_⟩;obtain⟨X2,F2⟩:=G.kp (p':={p with q:=p.q+2*k+2,B:=p.B+k}) hi hM ft k2 h2 (C.come J) ⟨by show p.q+2*k<=p.q+2*k+2;lia,cv _,cv _,cv _,cv _⟩;have X02:=X2.hx (by decide);obtain⟨o5,lt,ht,U⟩:=X2.t (by decide);have U:lt.length<=p.B+k:=U;exists 7,u1;exists X02;have Z:∃w1 w2,Lh a m.2 e.n okb= [w1,w2]:=by
   unfold Lh NI;split
   ·split
    ·exact⟨_,_,rfl⟩
    ·split
     ·exact⟨_,_,rfl⟩
     ·split<;>exact⟨_,_,rfl⟩
   ·exact⟨_,_,rfl⟩
  obtain⟨w1,w2,Z⟩:=Z;rw[Z] at sq;refine⟨cf (bC.of ht),bV sq rfl (bV sq rfl fun b nb=>?_)⟩;obtain⟨t1,t2,t3⟩:=X2.say (p':={p with q:=p.q+2*(k+1),B:=p.B+(k+1)}) (o:= .tup [V.str "came",V.int e.n,V.int i,V.int m.1,V.int m.2,w1,w2]) ht nb ⟨by show p.q+2*k+2<=p.q+2*(k+1);lia,cv _,cv _,cv _,vr _⟩ (by show _<p.B+(k+1);lia) (V.ref b);exact⟨lt,t1,by rw[gn];lia,v,t2,(F.trans F2).trans t3,_,_,_,rfl⟩
 ·obtain⟨v,G,F,v2,v3,v4,rfl⟩:=h;rw[cz] at G;exact q v H' (G.le ⟨by show p.q+2*cs.length<=p.q+2*p.L;lia,cv _,cv _,cv _,by show p.B+cs.length<=p.B+p.L;lia⟩) (F1.trans F)
theorem dE.putn {K:W.Frag} {H:Hp} {z:Hn} {a:nP} {us:List V} {ts:List Th} {nm:Str} {es:List Int} (h:dE K H z a) (i:Paired (ET K H) us ts):dE K H {z with nm:=nm,ends:=es,sd:={z.sd with T:=z.sd.T++us}} {a with nm:=nm,ends:=es,T:=a.T++ts,s:={a.s with T:=a.s.T++ts.map fun _=>V.non}}:=by
 obtain⟨vs,e1,e2,e3⟩:=h.s;refine{h with s:=⟨vs++us,?_,qZ e2 i,?_⟩,nm:=rfl,ends:=rfl}
 ·show{z.sd with T:=z.sd.T++us}=_;rw[e1]
 ·show(a.s.T++ts.map fun _=>V.non).length=_;rw[ib,ib,e3,cz,cb i]
theorem NW {z:Str} {a b:Nat} (h:z.length<=b):Txt.slice z (some (a:Int)) (some (b:Int))=Txt.slice z (some (a:Int)) (some (z.length:Int)):=by
 have x:Builtin.Str.strSliceIndices (some (a:Int)) (some (b:Int)) 1 z.length=Builtin.Str.strSliceIndices (some (a:Int)) (some (z.length:Int)) 1 z.length:=by
  have a1: ¬((b:Int)<0):=by lia
  have i: ¬((z.length:Int)<0):=by lia
  have v:max (0:Int) (min (b:Int) (z.length:Int))=max (0:Int) (min (z.length:Int) (z.length:Int)):=by lia
  simp only[Builtin.Str.strSliceIndices,a1,i,aas,v,show((1:Int) > 0)=True from by simp,aax]
 show StrLaws.sliceText z _ _=StrLaws.sliceText z _ _;unfold StrLaws.sliceText;rw[x]
theorem JQ {t:Str} (h:iI t=true):∀s∈chunks t,Lx (Str.ofString "signs",s):=by
 intro s hs;unfold iI at h;rw[fx,ON] at h;unfold chunks at hs;obtain⟨i,x,rfl⟩:=h8.mp hs;rw[L1] at x;have hl:t.cps.toList.length=t.length:=by simp[Str.length]
 obtain⟨b,F,z,e⟩:∃b,4*i<b/\(b<=t.length/\b<=4*i+4)/\chunk t i=⟨((t.cps.toList.drop (4*i)).take (b-4*i)).toArray⟩:=by
  unfold chunk;by_cases c:4*i+4<=t.length
  ·exact⟨4*i+4,by lia,⟨c,by lia⟩,StrLaws.sliceText_nat t (by lia) c⟩
  ·rw[NW (by lia)];exact⟨t.length,by lia,⟨by lia,by lia⟩,StrLaws.sliceText_nat t (by lia) (by lia)⟩
 rw[e];have ln:(⟨((t.cps.toList.drop (4*i)).take (b-4*i)).toArray⟩:Str).length=b-4*i:=by
  show((t.cps.toList.drop (4*i)).take (b-4*i)).toArray.size=_;rw[ny,z1,aaM,hl];lia
 refine⟨by show Str.length _<=4;rw[ln];lia,fun n a r hs n0 n1 a0 a1 r0 G hh=>?_⟩;unfold dX;rw[show Du (.str "signs") rF=true by decide+kernel,show Du (.str "signs") [.str "bare",.str "ask"]=false by decide+kernel,hh];have C:tf "signs" ⟨((t.cps.toList.drop (4*i)).take (b-4*i)).toArray⟩=true:=by
  unfold tf;rw[dy rfl,ln,n9 (show 1<=b-4*i by lia),n9 (show b-4*i<=4 by lia),L5,L5,ON];intro v y;obtain⟨c,hm,rfl⟩:=h8.mp y;exact h.2 _ (List.mem_map_of_mem (List.mem_of_mem_drop (List.mem_of_mem_take hm)))
 rw[C];simp[bO];lia
theorem TJ (nm:Str):fi nm<=1:=by unfold fi;split<;>lia
theorem xN:OM P w mg base T.Au iU 5 (qA K):=by
 exists 0,T.Au,iU,qA,(ae (ay 4 iU.1.nd (av K (ai (pv 0) T.aP T.e_) (pv 1)))
 (ak (ae (Ox (fun _ _ _=>(qY (aQ (cQ K HR (pv 2) aG) (ah (aH (KP (pv 4) T.aK (Ds T) HR (by decide) (xJ rfl)))) aB)
 (ae (aQ (cQ K HR (pv 2) aG) (ah (aH (KP (pv 4) T.aK (Hy T) HR (by decide) (xJ rfl)))) aB)
 (ah (aQ (cQ K HR (pv 2) aG) (ah (aH (UG (pv 4) T.aK (Hx T) HR (by decide) (xJ rfl) (bj (pv 3))))) aB))))) (Rp (i:=5) rfl T.LA rfl iU.1.nd rfl rfl (fun _=>(ah (ar (RE (pv 5) T.Cy T.g9 rfl)))) OC))
 (ah (ar aG)))))
 rename_i x side w v;obtain⟨i,ow,W,e,p,⟨hi,rfl⟩,X,ok,O,q⟩:=h;have X0:=X.hx (by decide);have a1:kB [V.ref (W.h 0),V.ref (W.h 1)] (i:Int)=some (V.ref (W.h i)):=at2 (f:=fun k=>V.ref (W.h k)) hi;obtain⟨A,a,hM,U,ft⟩:=X.a i hi (by lia);have hM0:=hM;obtain⟨z,J,hr⟩:=hM0;have okN:=ok.N;have tl:=U.tl;have el:=U.el;have le:=Cn.le.refl (p:=p);have lw:p.le (p.wish w):=⟨cv _,cv _,n5 _ _,cv _,cv _⟩;exists 6,u1;exists X0,X.hh,a1;exists 7,u1;have fin:∀G C I y,Kp (foot (W.h i) A) H y->BK K y (W.h i) {A with st:=C} I->HI I e.n p.q p.m (p.N+wn w)->Q (.str G) y:=fun G C I y k m hI'=>by
  obtain⟨X2,F2⟩:=X.kp (p':=p.wish w) hi hM ft k m hI' lw;exact q G ow y X2 F2
 have no:∀G y,aA H y->Q (.str G) y:=fun G y s2=>q G ow y ((X.same s2).le lw) (Fw.of (Fo.of (i:=0) s2) (by decide));have ik:∀y,Kp (foot (W.h i) A) H y->vJ H y:=fun y k p o e i=>k p o e (J.imm e i);have lz:z.sd.T.length=a.T.length:=by obtain⟨vs,e1,e2,_⟩:=hr.s;rw[e1];exact cb e2
 have lez:z.ends.length=a.ends.length:=by rw[hr.ends]
 have tlN:a.T.length+fi a.nm<=p.N:=tl;have elN:a.ends.length<=p.N:=el;exists 9;refine⟨fun Z H'=>Z= [some (V.ref x),some (V.int i),some (V.str w),some v,some (V.ref (W.h i)),none]/\((w="begin" /\∃C I,Kp (foot (W.h i) A) H H'/\BK K H' (W.h i) {A with st:=C} I/\HI I e.n p.q p.m (p.N+wn w))\/(w≠"begin" /\H'=H)),?_,?_⟩
 ·exists J.hx,T.Ep,T.jC,T.BZ,T.l9,T.ma,T.jc,T.jn,T.pP,T.p7,T.nV,T.oi,T.pQ,T.p8,T.HU,T.kN,T.D_,T.mQ,T.mX,T.j8,T.km,T.lP,T.lV,T.pL,T.pW,T.rO,T.rS,T.Eo,T.kO,T.BY,T.l8,T.l_,T.ja,T.jm,T.j9,T.ko,T.i_,T.jl,T.pO,T.pZ,T.Cy,T.g9,T.mD,T.Ea,T.mR,T.mY,T.pN,T.pY,T.rP,T.rT,T.pM,T.pX,T.rQ,T.rV;by_cases c:w="begin"
  ·rw[dy c];have ew:wn w=2:=by rw[c];decide+kernel
   refine⟨A,z,J,by lia,fun nx hn b C y hp kp hh=>?_,fun hn y d S2 hd=>?_⟩
   ·exact .inl ⟨c,C,_,kp,⟨_,hh,(hr.keep (ik y kp)).putn (us:=[.ref b]) (ts:=[(Str.ofString "begin",Str.ofString "")]) (.cons ⟨b,rfl,hp y⟩ .nil)⟩,U.wsh (es:=z.ends) (fun t ht=>by rw[hQ.mp ht];exact Gb (.inl rfl)) (by simp only[ZU];have:=TJ nx;lia) (by lia)⟩
   ·intro ea F;exact⟨_,by rw[ag (ao hd F)];exact hd,_,rfl,no _ _ (S2.trans (aj F))⟩
  ·rw[de c];exact .inr c
 ·rintro Z H' ⟨rfl,⟨c,C,I,k',m',i'⟩|⟨c,rfl⟩⟩
  ·exists 9;rw[de (by rw[c];decide+kernel),de (by rw[c];decide+kernel)];exact fin _ C I H' k' m' i'
  ·exists J.hx,T.Ep,T.jC,T.BZ,T.l9,T.ma,T.jc,T.jn,T.pP,T.p7,T.nV,T.oi,T.pQ,T.p8,T.HU,T.kN,T.D_,T.mQ,T.mX,T.j8,T.km,T.lP,T.lV,T.pL,T.pW,T.rO,T.rS,T.Eo,T.kO,T.BY,T.l8,T.l_,T.ja,T.jm,T.j9,T.ko,T.i_,T.jl,T.pO,T.pZ,T.Cy,T.g9,T.mD,T.Ea,T.mR,T.mY,T.pN,T.pY,T.rP,T.rT,T.pM,T.pX,T.rQ,T.rV;by_cases c2:w="end"
   ·have ew:wn w=2:=by rw[c2];decide+kernel
    rw[dy c2];refine⟨A,z,J,by lia,by lia,fun nx hn b C y hp kp hh=>?_,fun hn y d S2 hd ea F=>?_⟩
    ·rw[de (by rw[c2];decide+kernel)];exact fin _ C _ y kp ⟨_,hh,(hr.keep (ik y kp)).putn (us:=[.ref b]) (ts:=[(Str.ofString "end",Str.ofString "")]) (.cons ⟨b,rfl,hp y⟩ .nil)⟩ (U.wsh (es:=z.ends++ [(z.sd.T.length:Int)]) (fun t ht=>by rw[hQ.mp ht];exact Gb (.inr rfl)) (by simp only[ZU];have:=TJ nx;lia) (by simp only[ib,ZU];lia))
    ·exact⟨_,by rw[ag (ao hd F)];exact hd,_,rfl,no _ _ (S2.trans (aj F))⟩
   ·rw[de c2];by_cases c3:w="put"
    ·have ew:wn w=15:=by rw[c3];decide+kernel
     rw[dy c3];unfold xq at O;rw[dy c3] at O;cases v with
     |str t=>
      have tb:iI t=true:=O;have tb':=tb;unfold iI at tb';simp only[fx,eM] at tb';refine⟨A,z,J,by lia,by lia,tb,fun _ y d S2 hd ea F=>?_,fun _ vs y k2 hh pp=>?_⟩
      ·exact⟨_,by rw[ag (ao hd F)];exact hd,_,rfl,no _ _ (S2.trans (aj F))⟩
      ·refine fin _ A.st _ y k2 ⟨_,hh,(hr.keep (ik y k2)).putn (nm:=z.nm) (es:=z.ends) (us:=vs) (ts:=(chunks t).map fun s=>(Str.ofString "signs",s)) (uJ (bu pp fun v s O=>?_))⟩ (U.wsh (fun t' ht=>?_) ?_ (by lia))
       ·obtain⟨p',rfl,hp⟩:=O;exact⟨p',rfl,c6.of hp⟩
       ·obtain⟨G,hs,rfl⟩:=h8.mp ht;exact JQ tb G hs
       ·rw[cz];unfold chunks;rw[cz,RA,hr.nm];lia
     |_=>cases O
    ·rw[de c3];exact no _ _ (aA.refl _)
theorem pR:OM P w mg base T.sj fZ 3 (jH K):=by
 exists 0,T.sj,fZ,jH,(ae (ay 3 fZ.1.nd (a8 (av K (ai (pv 0) T.aP T.e_) (pv 1)) T.aK (FO T) HR (bj (pv 2))))
 (ak (ah (aQ (aS mT (aD (eI K rfl) (by rfl) T.gv dH (bj (pv 3))) af) (ae (aH (Ho aab PySem.F.slot_list_extend PySem.F.type_list_extend zm (av K (ai (pv 0) T.aP T.Ac) (pv 1)) (bj (pv 3))))
 (ah (aH (bZ K rfl (ai (pv 0) T.aP T.fT) (ba (aZ aG (aZ (ai (pv 0) T.aP T.bJ) (bP (pv 1) (pv 3))))))))) aB))))
 rename_i x side m;obtain⟨i,Z,W,e,p,⟨v,rfl⟩,X,ok,hm,q⟩:=h;have X0:=X.hx (by decide);have a1:kB [V.ref (W.h 0),V.ref (W.h 1)] (i:Int)=some (V.ref (W.h i)):=at2 (f:=fun k=>V.ref (W.h k)) v;have a2:kB [V.ref (W.o 0),V.ref (W.o 1)] (i:Int)=some (V.ref (W.o i)):=at2 (f:=fun k=>V.ref (W.o k)) v;obtain⟨A,a,Q,C,ft⟩:=X.a i v (by lia);have O:=Q;obtain⟨z,hz,hr⟩:=O;have h1:=hz.hx;have gb:=C.gb;have okq:=ok.q;have okB:=ok.B;exists 6,u1;exists X0,X.hh,a1,h1;refine⟨A,a,Q,⟨hm.1,hm.2,C.o0,C.og,by lia⟩,C.hk,fun l vs H1 nl k1 h2 hl pr=>?_⟩;obtain⟨G,F1⟩:=X.kp (p':=p) v Q ft k1 (st:=A.st) h2 (C.read hm.1) Cn.le.refl;have ll:=cb pr;have lr:(G9 a m).length<=1000:=by
  unfold G9 i7;rw[cz,RA];split<;>lia
 exists 7,u1;have J:=G.hx (by decide);obtain⟨o6,lo,ho,lo2⟩:=G.u i v (by lia);exists hl;split
 ·exists J,G.ho,a2;refine⟨cf (bC.of ho),_,_,_,_,rfl,rfl,ho,hl,by rw[gn];lia,?_⟩;obtain⟨U,F2⟩:=G.gave (p':={p with B:=p.B+1000}) v (l':=lo++vs) ho (by rw[ib];show _<=p.B+1000;lia) ⟨cv _,cv _,cv _,cv _,n5 _ _⟩;have I:=U.hx (by decide);obtain⟨o5,lt,ht,y⟩:=U.t (by decide);have y:lt.length<=p.B+1000:=y;generalize upd H1 (W.o i) (.lst (lo++vs))=H2 at*
  exists I;refine⟨cf (bC.of ht),fun b nb=>?_⟩;obtain⟨t1,t2,t3⟩:=U.say (p':=p.rd) (o:= .tup [V.str "read",V.int e.n,V.int i,V.ref l]) ht nb ⟨cv _,cv _,cv _,cv _,vr _⟩ (by show _<p.B+1001;lia) (V.ref b);exact⟨lt,t1,by rw[gn];lia,q Z _ t2 ((F1.trans F2).trans t3)⟩
 ·exact q Z H1 (G.le ⟨cv _,cv _,cv _,cv _,n5 _ _⟩) F1
theorem A3:OM P w mg base T.uo g_ 6 (k8 K):=by
 exists 0,T.uo,g_,k8,(ae (ay 4 g_.1.nd (a8 (pv 0) T.aP (xN T) HR (aZ (pv 1) (bP (pv 2) (pv 3)))))
 (ak (ae (aH (bZ K rfl (ai (pv 0) T.aP T.fT) (ba (aZ aG (aZ (ai (pv 0) T.aP T.bJ) (aZ (pv 1) (aZ (pv 2) (bP (pv 3) (pv 4)))))))))
 (ak (ah (aQ (cQ K HR (pv 2) aG) (ah (aH (a8 (pv 0) T.aP (pR T) HR (bP (pv 1) (pv 3))))) aB))))))
 rename_i x side w v;obtain⟨i,ow,W,e,p,⟨Q,rfl⟩,X,ok,z,q⟩:=h;have X0:=X.hx (by decide);have okB:p.B+1002<=1000000:=ok.B;have J:(p.wish w).ok:=ok.of ⟨cv _,cv _,cv _,cv _,n5 _ _⟩;exists 6,u1;exists X0;refine⟨i,ow,W,e,p,⟨Q,rfl⟩,X,J.of ⟨cv _,cv _,n5 _ _,cv _,cv _⟩,z,fun O y H1 I F1=>?_⟩;have G:=I.hx (by decide);obtain⟨o5,lt,ht,C⟩:=I.t (by decide);have C:lt.length<=p.B:=C;exists 8,u1,u2;exists G;refine⟨cf (bC.of ht),fun b nb=>?_⟩;obtain⟨t1,t2,Z⟩:=I.say (p':={p.wish w with B:=p.B+1}) (o:= .tup [V.str "wish",V.int e.n,V.int i,V.str w,v,V.str O]) ht nb ⟨cv _,cv _,cv _,cv _,vr _⟩ (by show _<p.B+1;lia) (V.ref b);refine⟨lt,t1,by rw[gn];lia,?_⟩;generalize upd (upd H1 b (.tup [V.str "wish",V.int e.n,V.int i,V.str w,v,V.str O])) W.td (.lst (lt++ [V.ref b]))=H2 at*
 have F:=t2.hx (by decide);have U:=F1.trans Z;exists 7,u2;exists F;by_cases c:w="read"
 ·rw[dy c];unfold xq at z;rw[de (by rw[c];decide+kernel),dy c] at z;cases v with
  |int m=>
   have hm:bO m 1 60=true:=z;unfold bO at hm;simp only[fx,eM] at hm;refine⟨i,y,W,e,_,⟨Q,rfl⟩,t2,ok.of ⟨cv _,cv _,cv _,cv _,by show p.B+1<=p.B+1002;lia⟩,⟨by lia,by lia⟩,fun z9 H3 X3 F3=>?_⟩;exact q z9 H3 (X3.le ⟨cv _,cv _,cv _,cv _,by show p.B+1+1001<=p.B+1002;lia⟩) (U.trans F3)
  |_=>cases z
 ·rw[de c];exact q y H2 (t2.le ⟨cv _,cv _,cv _,cv _,by show p.B+1<=p.B+1002;lia⟩) U
theorem A2:OM P w mg base T.um lG 6 (k7 K):=by
 exists 0,T.um,lG,k7,(ae (aQ (cQ K HR (a8 (pv 0) T.aP (xN T) HR (aZ (pv 1) (bP aG bY))) aG) (ah (aH (bZ K rfl (ai (pv 0) T.aP T.fT) (ba (aZ aG (aZ (ai (pv 0) T.aP T.bJ) (aZ (pv 1) (aZ aG (bP bY aG))))))))) aB)
 (ak (ah (aQ (aS mT (a8 (pv 0) T.aP (tG T) HR (bj (pv 1))) af) (ah (aH (a8 (pv 0) T.aP (pR T) HR (bP (pv 1) (a8 (pv 0) T.aP (tG T) HR (bj (pv 1))))))) aB))))
 rename_i x side;obtain⟨i,Z,W,e,p,⟨I,rfl⟩,X,ok,q⟩:=h;have X0:=X.hx (by decide);have okB:p.B+1002<=1000000:=ok.B;have U:(p.wish "end").ok:=ok.of ⟨cv _,cv _,cv _,cv _,n5 _ _⟩;exists 6,O;have fin:∀v C,eP 99 uW K v C x W e {p.wish "end" with B:=p.B+1}->Fw Z v H C->O {nx:=fun x H'=>Q V.non H',rt:=Q} [some (V.ref x),some (V.int i)] C:=fun v C y G=>by
  have z:=y.hx (by decide);have J:Cn.ok {p.wish "end" with B:=p.B+1}:=ok.of ⟨cv _,cv _,cv _,cv _,by show p.B+1<=p.B+1002;lia⟩;exists 7,O;exists z;refine⟨i,v,W,e,_,⟨I,rfl⟩,y,fun u u0 O=>?_⟩;split
  ·refine⟨i,v,W,e,_,⟨I,rfl⟩,y,fun u' u0' u1'=>?_⟩;refine⟨i,v,W,e,_,⟨I,rfl⟩,y,J,⟨by lia,by lia⟩,fun z9 H3 X3 F3=>?_⟩;exact q z9 H3 (X3.le ⟨cv _,cv _,cv _,cv _,by show p.B+1+1001<=p.B+1002;lia⟩) (G.trans F3)
  ·exact q v C (y.le ⟨cv _,cv _,cv _,cv _,by show p.B+1<=p.B+1002;lia⟩) G
 exists X0;refine⟨i,Z,W,e,p,⟨I,rfl⟩,X,U.of ⟨cv _,cv _,n5 _ _,cv _,cv _⟩,by decide+kernel,fun s' v C y G=>?_⟩;have z:=y.hx (by decide);obtain⟨o5,lt,ht,F⟩:=y.t (by decide);have F:lt.length<=p.B:=F;split
 ·exists z;refine⟨cf (bC.of ht),fun b nb=>?_⟩;obtain⟨t1,t2,t3⟩:=y.say (p':={p.wish "end" with B:=p.B+1}) (o:= .tup [V.str "wish",V.int e.n,V.int i,V.str "end",V.non,V.str "ok"]) ht nb ⟨cv _,cv _,cv _,cv _,vr _⟩ (by show _<p.B+1;lia) (V.ref b);exact⟨lt,t1,by rw[gn];lia,fin v _ t2 (G.trans t3)⟩
 ·exact fin v C (y.le ⟨cv _,cv _,cv _,cv _,vr _⟩) G
theorem y7:OM P w mg base T.si d9 6 (jG K):=by
 exists 0,T.si,d9,jG,(ae (ay 2 d9.1.nd (a8 (av K (ai (pv 0) T.aP T.e_) (pv 1)) T.aK (FN T) HR (bj (ai (pv 0) T.aP T.bJ))))
 (ak (ah (aQ (aS B7 (pv 2) bY) (ae (ay 3 d9.1.nd (a8 (av K (ai (pv 0) T.aP T.rf) (pv 1)) T.jo (FI T) HR (bP (ai (pv 0) T.aP T.bJ) (av K (pv 2) af))))
 (ah (aH (bZ K rfl (ai (pv 0) T.aP T.fT) (ba (aZ aG (aZ (ai (pv 0) T.aP T.bJ) (aZ (pv 1) (aZ (pv 3) (aZ (av K (pv 2) af) (bP (av K (pv 2) af) (av K (pv 2) af)))))))))))) aB))))
 rename_i x side;obtain⟨i,ow,W,e,p,⟨y,rfl⟩,X,ok,q⟩:=h;have X0:=X.hx (by decide);have a1:kB [V.ref (W.h 0),V.ref (W.h 1)] (i:Int)=some (V.ref (W.h i)):=at2 (f:=fun k=>V.ref (W.h k)) y;have a2:kB [V.ref (W.r 0),V.ref (W.r 1)] (i:Int)=some (V.ref (W.r i)):=at2 (f:=fun k=>V.ref (W.r k)) y;obtain⟨A,a,G,O,ft⟩:=X.a i y (by lia);have U:=G;obtain⟨z,hz,hr⟩:=U;have h1:=hz.hx;have okq:p.q+1<=600:=ok.q;have okm:p.m+1<=420:=ok.m;have okL:p.L+3<64:=ok.L;have okB:p.B+1<=1000000:=ok.B;exists 6,u1;exists X0,X.hh,a1,h1;refine⟨A,a,G,O.Ui (by lia),fun _ H1 k1 h2=>?_,fun w' pl _ fr r H1 k1 h2 v=>?_⟩
 ·obtain⟨C,Z⟩:=X.kp (p':=p.snd) y G ft k1 (st:=A.st) h2 (O.send (by lia)) ⟨vr _,vr _,cv _,n5 _ _,vr _⟩;exists 7,u1;exists 9;exact q ow H1 C Z
 ·obtain⟨C,Z⟩:=X.kp (p':={p with q:=p.q+1,m:=p.m+1}) y G ft k1 (st:=A.st) h2 (O.send (by lia)) ⟨vr _,vr _,cv _,cv _,cv _⟩;have X01:=C.hx (by decide);obtain⟨dx,pd,pc,sn,ms,R⟩:=C.b i y (by lia);have lm:ms.length<=p.L:=R.lm;have Rr:=R.hr;obtain⟨dk,dl⟩:=SF (sn:=sn) R.ok (by have:=C.gd.2.2.1;lia);exists 7,u1;exists X01,C.hr,a2,Rr,v;refine⟨dx,pd,pc,_,sn,ms,R.at (by lia),dk,dl,by lia,fun H2 f2 R2=>?_⟩;obtain⟨Q,F2⟩:=C.sends (p':={p with q:=p.q+1,m:=p.m+1,L:=p.L+3}) y R f2 R2 ⟨cv _,cv _,cv _,n5 _ _,cv _⟩ (by show _<=p.L+3;unfold FW;rw[ib,List.length_mapIdx];lia);have I:=Q.hx (by decide);have J:=f2 _ _ v (fun z=>by rw[z,Rr] at v;cases v) (fun z=>by obtain⟨cs,c1,_⟩:=R.hc;rw[z,c1] at v;cases v);obtain⟨o5,lt,ht,F⟩:=Q.t (by decide);have F:lt.length<=p.B:=F;exists I,J;refine⟨cf (bC.of ht),fun b nb=>?_⟩;obtain⟨t1,t2,t3⟩:=Q.say (p':=p.snd) (o:= .tup [V.str "sent",V.int e.n,V.int i,V.int sn,V.int (fr:Int),V.str w',YH pl]) ht nb ⟨cv _,cv _,cv _,cv _,vr _⟩ (by show _<p.B+1;lia) (V.ref b);exact⟨lt,t1,by rw[gn];lia,q ow _ t2 ((Z.trans F2).trans t3)⟩
theorem wC:OM P w mg base T.oA b_ 3 (hX K):=by
 exists 0,T.oA,b_,hX,(ae (ay 2 b_.1.nd (av K (ai (pv 0) T.aP T.e_) (pv 1)))
 (ak (ae (ay 3 b_.1.nd (ai (pv 2) T.aK T.bS))
 (ak (ae (ay 4 b_.1.nd (ba (aZ (ai (pv 3) T.aq T.aN) (aZ (ai (pv 3) T.aq T.bF) (aZ (ai (pv 3) T.aq T.gX) (bP (ai (ai (pv 2) T.aK T.cZ) T.aT T.cC) (ai (ai (pv 2) T.aK T.cZ) T.aT T.fU)))))))
 (ak (ae (ay 5 b_.1.nd (ba (bP (ai (ai (pv 3) T.aq T.eA) T.bG T.bR) (ai (ai (pv 3) T.aq T.dY) T.bB T.fS))))
 (ak (ah (aH (bZ K rfl (ai (pv 0) T.aP T.fT) (aE K (aE K (ba (aZ aG (aZ (ai (pv 0) T.aP T.bJ) (bP (pv 1) (bQ (pv 2) T.aK (rb T) HR))))) (pv 4)) (pv 5)))))))))))))
 rename_i x side;obtain⟨i,ow,W,e,p,⟨hi,rfl⟩,X,ok,q⟩:=h;have X0:=X.hx (by decide);have a1:kB [V.ref (W.h 0),V.ref (W.h 1)] (i:Int)=some (V.ref (W.h i)):=at2 (f:=fun k=>V.ref (W.h k)) hi;obtain⟨A,a,hM,hI,ft⟩:=X.a i hi (by lia);have hM0:=hM;obtain⟨z,F,hr⟩:=hM0;have U:=F.hx;have h2:=F.sd.hx;have h3:=F.tk.hx;exists 6,u1;exists X0,X.hh,a1;exists 8,u1,u2;exists U;exists 8,u2,u3;exists U,h2,h3;intro p1 np1;have J:=aj (o:= .tup [V.int z.sd.b,V.int z.sd.t,V.int z.sd.e,V.int z.tk.g,V.int z.tk.o]) np1;have v:=aa (H:=H) (a:=p1) (o:= .tup [V.int z.sd.b,V.int z.sd.t,V.int z.sd.e,V.int z.tk.g,V.int z.tk.o]);generalize upd H p1 (.tup [V.int z.sd.b,V.int z.sd.t,V.int z.sd.e,V.int z.tk.g,V.int z.tk.o])=H1 at*
 exists 8,u3,u4;obtain⟨s1,sp1,e1⟩:=F.sd.ws.ins;obtain⟨e2,_⟩:=F.sd.ms;exists J _ _ h2,J _ _ e1,J _ _ e2;intro Z I;have G:=J.trans (aj (o:= .tup [V.int z.sd.wi,V.int z.sd.w]) I);have y:=aa (H:=H1) (a:=Z) (o:= .tup [V.int z.sd.wi,V.int z.sd.w]);have v:=aj (o:= .tup [V.int z.sd.wi,V.int z.sd.w]) I _ _ v;generalize upd H1 Z (.tup [V.int z.sd.wi,V.int z.sd.w])=H2 at*
 exists 7,u4;exists G _ _ X0,G _ _ U;have X2:=X.same G;obtain⟨o5,lt,ht,lt2⟩:=X2.t (by decide);have okB:p.B+1<=1000000:=ok.B;refine⟨cf (bC.of ht),A,z,F.same G,fun p3 Q=>?_⟩;have S3:=aj (o:= .tup [V.str "end",V.int e.n,V.int i,V.str z.nm]) Q;have hp3:=aa (H:=H2) (a:=p3) (o:= .tup [V.str "end",V.int e.n,V.int i,V.str z.nm]);generalize upd H2 p3 (.tup [V.str "end",V.int e.n,V.int i,V.str z.nm])=H3 at*
 have v:=S3 _ _ v;have y:=S3 _ _ y;rw[pK];refine .inr ⟨_,_,_,_,rfl,rfl,c6.of hp3,c6.of v,by simp,ax (by simp),(fun c=>by cases c),fun _ p4 np4=>?_⟩;have S4:=aj (o:= .tup ([V.str "end",V.int e.n,V.int i,V.str z.nm]++ [V.int z.sd.b,V.int z.sd.t,V.int z.sd.e,V.int z.tk.g,V.int z.tk.o])) np4;have O:=aa (H:=H3) (a:=p4) (o:= .tup ([V.str "end",V.int e.n,V.int i,V.str z.nm]++ [V.int z.sd.b,V.int z.sd.t,V.int z.sd.e,V.int z.tk.g,V.int z.tk.o]));generalize upd H3 p4 (.tup ([V.str "end",V.int e.n,V.int i,V.str z.nm]++ [V.int z.sd.b,V.int z.sd.t,V.int z.sd.e,V.int z.tk.g,V.int z.tk.o]))=H4 at*
 show tE K (V.ref p4) (V.ref Z) H4 _;rw[pK];refine .inr ⟨_,_,_,_,rfl,rfl,c6.of O,c6.of (S4 _ _ y),by simp,ax (by simp),(fun c=>by cases c),fun _ p5 np5=>?_⟩;have C:=S3.trans S4;obtain⟨t1,t2,t3⟩:=(X2.same C).say (p':=p.tl) (o:= .tup ([V.str "end",V.int e.n,V.int i,V.str z.nm]++ [V.int z.sd.b,V.int z.sd.t,V.int z.sd.e,V.int z.tk.g,V.int z.tk.o]++ [V.int z.sd.wi,V.int z.sd.w])) (C _ _ ht) np5 ⟨cv _,cv _,cv _,cv _,vr _⟩ (by show _<p.B+1;lia) (V.ref p5);exact⟨lt,t1,by rw[gn];lia,q ow _ t2 ((Fw.of (Fo.of (i:=0) (G.trans C)) (by decide)).trans t3)⟩
theorem BL {y:V} {k:Nat} (h: [V.int 0,V.int 1][k]?=some y):k<2/\y=V.int k:=by
 rcases k with _|_|k
 ·exact⟨by lia,(Zz h).symm⟩
 ·exact⟨by lia,(Zz h).symm⟩
 ·cases h
theorem OR {ws:List Ww} {n:Int} {k:Nat} {w:Ww} (h:ws[k]?=some w):fJ (ws.take (k+1)) n=fJ (ws.take k) n+if w.1=n then 1 else 0:=by
 unfold fJ;rw[ra,h,List.filter_append,ib];congr 1;show(List.filter _ [w]).length=_;by_cases c:w.1=n
 ·rw[dy c];simp[c]
 ·rw[de c];simp[c]
theorem JD {ws:List Ww} {n:Int} {k:Nat}:fJ (ws.take k) n<=fJ ws n:=((List.take_sublist k ws).filter _).length_le
theorem FE:OM P w mg base T.Av dQ 9 (qB K):=by
 exists 0,T.Av,dQ,qB,(ae (cJ j0 rfl (aR K rfl (ek K rfl rfl T.yz)) (aw 1 dQ.1.nd) (ah (aH (a8 (pv 0) T.aP (y8 T) HR (bj (pv 1))))))
 (ak (ae (cJ j0 rfl (aR K rfl (ai (pv 0) T.aP T.ph)) (aw 2 dQ.1.nd) (ah (aQ (cQ K HR (av K (pv 2) af) (ai (pv 0) T.aP T.bJ)) (ah (aH (a8 (pv 0) T.aP (A3 T) HR (aZ (av K (pv 2) af) (bP (av K (pv 2) af) (av K (pv 2) af)))))) aB)))
 (ak (qY (aQ (aS mT (ai (pv 0) T.aP T.bJ) (ai (pv 0) T.aP T.pV)) (ah (cJ j0 rfl (aR K rfl (ek K rfl rfl T.yz)) (aw 1 dQ.1.nd) (ah (aH (a8 (pv 0) T.aP (A2 T) HR (bj (pv 1))))))) aB)
 (ak (ae (cJ j0 rfl (aR K rfl (ek K rfl rfl T.yz)) (aw 1 dQ.1.nd) (ah (aH (a8 (pv 0) T.aP (y7 T) HR (bj (pv 1))))))
 (ak (ae (cJ j0 rfl (aR K rfl (ek K rfl rfl T.yz)) (aw 1 dQ.1.nd) (ah (aH (a8 (pv 0) T.aP (wC T) HR (bj (pv 1))))))
 (ak (ah (mr (pv 0) af T.aP T.bJ mx))))))))))))
 rename_i x;obtain⟨ow,W,e,p,X,ok,hn,q⟩:=h;have okq:p.q+4*p.L+2<=600:=ok.q;have okm:p.m+2<=420:=ok.m;have okN:p.N+15*fJ e.ws e.n+4<=930:=ok.N;have okL:p.L+6<64:=ok.L;have okB:p.B+2*p.L+1002*fJ e.ws e.n+3000<=1000000:=ok.B;exists 6,u1;exists 9;intro a sa _;refine Cz (sa H) (fun k σ H'=> ∃i,eP 99 uW K i H' x W e {p with q:=p.q+2*(p.L*k),B:=p.B+p.L*k}/\Fw ow i H H'/\∃v,σ= [some (V.ref x),v,none]) ⟨ow,X.le ⟨by show p.q<=p.q+2*(p.L*0);lia,cv _,cv _,cv _,by show p.B<=p.B+p.L*0;lia⟩,Fw.refl,none,rfl⟩ (fun k σ H' _ h=>sa H') (fun k y σ H' Z h=>?_) (fun σ H1 h=>?_)
 ·obtain⟨i,G,J,v,rfl⟩:=h;obtain⟨hk,rfl⟩:=BL Z;have kl:p.L*k<=p.L:=h7 (Nat.mul_le_mul_left _ (show k<=1 by lia)) (by lia);have X0:=G.hx (by decide);exists X0;refine⟨k,i,W,e,_,⟨hk,rfl⟩,G,ok.of ⟨by show p.q+2*(p.L*k)+2*p.L<=p.q+4*p.L+2;lia,n5 _ _,by show p.N<=p.N+15*_+4;lia,n5 _ _,by show p.B+p.L*k+p.L<=p.B+2*p.L+1002*_+3000;lia⟩,fun z H2 I O=>?_⟩;exact⟨z,I.le ⟨by show p.q+2*(p.L*k)+2*p.L<=p.q+2*(p.L*(k+1));rw[Nat.mul_succ];lia,cv _,cv _,cv _,by show p.B+p.L*k+p.L<=p.B+p.L*(k+1);rw[Nat.mul_succ];lia⟩,J.trans O,_,rfl⟩
 obtain⟨ow1,X1,F1,v,rfl⟩:=h;have X1:eP 99 uW K ow1 H1 x W e {p with q:=p.q+4*p.L,B:=p.B+2*p.L}:=X1.le ⟨by show p.q+2*(p.L*2)<=p.q+4*p.L;lia,cv _,cv _,cv _,by show p.B+p.L*2<=p.B+2*p.L;lia⟩;have X01:=X1.hx (by decide);have hw1:=X1.hw;obtain⟨xs,w1,w2,w3⟩:=hw1;have ol1:=X1.ol;show u1 _ _ _;exists 8,u1,u2;exists X01;refine my (bC.of w1) (fun k σ H'=> ∃i,eP 99 uW K i H' x W e {p with q:=p.q+4*p.L,N:=p.N+15*fJ (e.ws.take k) e.n,B:=p.B+2*p.L+1002*fJ (e.ws.take k) e.n}/\Fw ow1 i H1 H'/\∃F C,σ= [some (V.ref x),F,C]) ⟨ow1,X1.le ⟨cv _,cv _,n5 _ _,cv _,n5 _ _⟩,Fw.refl,_,_,rfl⟩ (fun k σ H' _ h=>?_) (fun k y σ H' Z h=>?_) (fun σ H2 h=>?_)
 ·obtain⟨i,_,J,_⟩:=h;exact bC.of (J.1 _ _ w1 (by lia)).1
 ·obtain⟨i,G,J,F,C,rfl⟩:=h;rw[j1] at Z;obtain⟨wx,ex,rfl⟩:=nc.mp Z;obtain⟨U,ew,hw'⟩:=jd w2 ex;have hw':H' wx=some (.tup [.int U.1,.int U.2.1,.str U.2.2.1,U.2.2.2]):=J.2 _ _ hw' (.inl ⟨_,rfl⟩);have X0:=G.hx (by decide);have wb:=G.ok.2 U (ni ew);unfold fE at wb;rw[fx,fx] at wb;obtain⟨⟨_,ws⟩,wv⟩:=wb;unfold bO at ws;simp only[fx,eM] at ws;have sn:=OR (n:=e.n) ew;have nl:=JD (ws:=e.ws) (n:=e.n) (k:=k+1);exists hw',X0;by_cases c:U.1=e.n
  ·rw[dy c] at sn⊢;have wle:wn U.2.2.1<=15:=by unfold wn;split<;>lia
   refine⟨U.2.1.toNat,i,W,e,_,⟨by lia,by lia⟩,G,ok.of ⟨by show p.q+4*p.L<=p.q+4*p.L+2;lia,n5 _ _,by show p.N+15*fJ (e.ws.take k) e.n+wn U.2.2.1<=p.N+15*_+4;lia,n5 _ _,by show p.B+2*p.L+1002*fJ (e.ws.take k) e.n+1002<=p.B+2*p.L+1002*_+3000;lia⟩,wv,fun z H2 I O=>?_⟩;exact⟨z,I.le ⟨cv _,cv _,by show p.N+15*fJ (e.ws.take k) e.n+wn U.2.2.1<=p.N+15*fJ (e.ws.take (k+1)) e.n;lia,cv _,by show p.B+2*p.L+1002*fJ (e.ws.take k) e.n+1002<=p.B+2*p.L+1002*fJ (e.ws.take (k+1)) e.n;lia⟩,J.trans O,_,_,rfl⟩
  ·rw[de c] at sn⊢;exact⟨i,G.le ⟨cv _,cv _,by show p.N+15*fJ (e.ws.take k) e.n<=p.N+15*fJ (e.ws.take (k+1)) e.n;lia,cv _,by show p.B+2*p.L+1002*fJ (e.ws.take k) e.n<=p.B+2*p.L+1002*fJ (e.ws.take (k+1)) e.n;lia⟩,J,_,_,rfl⟩
 obtain⟨z,I,O,F,C,rfl⟩:=h;have O:=F1.trans O;have I:eP 99 uW K z H2 x W e {p with q:=p.q+4*p.L,N:=p.N+15*fJ e.ws e.n,B:=p.B+2*p.L+1002*fJ e.ws e.n}:=I.le ⟨cv _,cv _,by have:=JD (ws:=e.ws) (n:=e.n) (k:=(xs.map V.ref).length);show p.N+15*fJ (e.ws.take _) e.n<=p.N+15*fJ e.ws e.n;lia,cv _,by have:=JD (ws:=e.ws) (n:=e.n) (k:=(xs.map V.ref).length);show p.B+2*p.L+1002*fJ (e.ws.take _) e.n<=p.B+2*p.L+1002*fJ e.ws e.n;lia⟩;clear F1 X1 X01 w1 w2 w3 ol1;have X02:=I.hx (by decide);generalize fJ e.ws e.n=nw at*
 show u2 _ _ _;exists 8,u2,u3;have fin:∀z9 H3 F C,eP 99 uW K z9 H3 x W e {p with q:=p.q+4*p.L,N:=p.N+15*nw+4,B:=p.B+2*p.L+1002*nw+2004}->Fw ow z9 H H3->u3 {nx:=fun x H'=>Q V.non H',rt:=Q} [some (V.ref x),F,C] H3:=by
  intro z9 H3 F C X3 F3;exists 8,u3,u4;exists 9;intro a sa _;refine Cz (sa H3) (fun k σ H'=> ∃i,eP 99 uW K i H' x W e ⟨p.q+4*p.L+k,p.m+k,p.N+15*nw+4,p.L+3*k,p.B+2*p.L+1002*nw+2004+k⟩/\Fw ow i H H'/\∃F C,σ= [some (V.ref x),F,C]) ⟨z9,X3,F3,_,_,rfl⟩ (fun k σ H' _ h=>sa H') (fun k y σ H' Z h=>?_) (fun σ H4 h=>?_)
  ·obtain⟨i,G,J,F,C,rfl⟩:=h;obtain⟨hk,rfl⟩:=BL Z;have X0:=G.hx (by decide);exists X0;refine⟨k,i,W,e,_,⟨hk,rfl⟩,G,ok.of ⟨by show p.q+4*p.L+k+1<=p.q+4*p.L+2;lia,by show p.m+k+1<=p.m+2;lia,cv _,by show p.L+3*k+3<=p.L+6;lia,by show p.B+2*p.L+1002*nw+2004+k+1<=p.B+2*p.L+1002*nw+3000;lia⟩,fun z H2 I O=>?_⟩;exact⟨z,I,J.trans O,_,_,rfl⟩
  obtain⟨ow4,X4,F4,F,C,rfl⟩:=h;show u4 _ _ _;exists 8,u4,u5;exists 9;intro a sa _;refine Cz (sa H4) (fun k σ H'=> ∃i,eP 99 uW K i H' x W e ⟨p.q+4*p.L+2,p.m+2,p.N+15*nw+4,p.L+6,p.B+2*p.L+1002*nw+2006+k⟩/\Fw ow i H H'/\∃F C,σ= [some (V.ref x),F,C]) ⟨ow4,X4,F4,_,_,rfl⟩ (fun k σ H' _ h=>sa H') (fun k y σ H' Z h=>?_) (fun σ H5 h=>?_)
  ·obtain⟨i,G,J,F,C,rfl⟩:=h;obtain⟨hk,rfl⟩:=BL Z;have X0:=G.hx (by decide);exists X0;refine⟨k,i,W,e,_,⟨hk,rfl⟩,G,ok.of ⟨cv _,cv _,cv _,cv _,by show p.B+2*p.L+1002*nw+2006+k+1<=p.B+2*p.L+1002*nw+3000;lia⟩,fun z H2 I O=>?_⟩;exact⟨z,I,J.trans O,_,_,rfl⟩
  obtain⟨ow5,X5,F5,F,C,rfl⟩:=h;have X05:=X5.hx (by decide);obtain⟨X6,F6⟩:=X5.turn (by lia);show u5 _ _ _;exists 7,u5;exists X05;exact q ow5 _ (X6.le ⟨cv _,cv _,cv _,cv _,by show p.B+2*p.L+1002*nw+2006+2<=p.B+2*p.L+1002*nw+3000;lia⟩) (F5.trans F6)
 unfold Yw;refine⟨fun σ' H'=> ∃z9 F C,eP 99 uW K z9 H' x W e {p with q:=p.q+4*p.L,N:=p.N+15*nw+4,B:=p.B+2*p.L+1002*nw+2004}/\Fw ow z9 H H'/\σ'= [some (V.ref x),F,C],?_,?_⟩
 ·exists X02;split
  ·intro a sa _;refine Cz (sa H2) (fun k σ H'=> ∃i,eP 99 uW K i H' x W e {p with q:=p.q+4*p.L,N:=p.N+15*nw+2*k,B:=p.B+2*p.L+1002*nw+1002*k}/\Fw ow i H H'/\∃F C,σ= [some (V.ref x),F,C]) ⟨z,I,O,_,_,rfl⟩ (fun k σ H' _ h=>sa H') (fun k y σ H' Z h=>?_) (fun σ H4 h=>?_)
   ·obtain⟨i,G,J,F,C,rfl⟩:=h;obtain⟨hk,rfl⟩:=BL Z;have X0:=G.hx (by decide);have w2:wn "end" = 2:=by decide+kernel
    exists X0;refine⟨k,i,W,e,_,⟨hk,rfl⟩,G,ok.of ⟨n5 _ _,n5 _ _,by show p.N+15*nw+2*k+wn "end" <=p.N+15*nw+4;lia,n5 _ _,by show p.B+2*p.L+1002*nw+1002*k+1002<=p.B+2*p.L+1002*nw+3000;lia⟩,fun z H2 I O=>?_⟩;exact⟨z,I.le ⟨cv _,cv _,by show p.N+15*nw+2*k+wn "end" <=p.N+15*nw+2*(k+1);lia,cv _,by show p.B+2*p.L+1002*nw+1002*k+1002<=p.B+2*p.L+1002*nw+1002*(k+1);lia⟩,J.trans O,_,_,rfl⟩
   ·obtain⟨i,G,J,F,C,rfl⟩:=h;exact⟨i,_,_,G,J,rfl⟩
  ·exact⟨z,_,_,I.le ⟨cv _,cv _,n5 _ _,cv _,n5 _ _⟩,O,rfl⟩
 ·rintro σ' H' ⟨z9,F,C,X3,F3,rfl⟩;exact fin z9 H' F C X3 F3
theorem gq {n:Int} (h:0<=n) (i:n<1000000000):n.natAbs.log2<1920:=by
 have:n.natAbs<2 ^ 30:=by omega
 by_cases z:n.natAbs=0
 ·rw[z];decide
 ·exact Nat.lt_trans ((aaS z).mpr this) (by decide)
theorem nZ:OF P w base T.qe iQ 1 iJ:=by
 exists 0,T.qe,iQ,iJ,(ah (ar (iA K rfl qx zc zT (fq K rfl) aG (bj (aE K (cq (bj (pv 0))) (bL (N:=(["number"]:List Str)) (nv:=1) (ix:=[]) rfl (c9 (by kernel_rfl)) (aR K rfl (pv 1)) (fun _ _ _ _ _=>(aw 0 (show((["number"]:List Str)).Nodup by decide))) (fun _ _ _ _ _=>cj) (fun _ _ _ _ _=>(a_ dg (by rfl) T.mi gP (bj (pv 0))))))))));rename_i z p;obtain⟨ns,hp,hn,hl,hz,q⟩:=h;exists hp;intro X J;have U:=aj (o:= .lst [V.str z]) J;have I:=U _ _ hp;refine rA (p:=fun _=>true) (f:=fun v=>match v with | .int i=> .str (dec i)|_=> .non) (bC.of I) (ax (by rw[cz];lia)) (fun x _ Q h=>h) (fun x hx _ Q h=>?_) ?_
 ·obtain⟨i,y,rfl⟩:=h8.mp hx;obtain⟨C,O⟩:=hn i y;exists 9;exact⟨gq C O,h⟩
 rw[Z2.mpr (fun _ _=>rfl),FX];refine⟨by rw[cz,gn];lia,fun l nl=>?_⟩;have nn:X≠l:=ao aa nl;rw[pK];refine .inl ⟨_,_,_,_,rfl,rfl,by rw[ag nn];exact aa,aa,by rw[cz,gn];simp;lia,fun p2 G=>?_⟩;show rJoin K _ _ _ _;rw[uI];refine⟨z::ns.map dec,?_,?_,q _ ((U.trans (aj nl)).trans (aj G))⟩
 ·rw[K5,FX];exact bC.of aa
 ·have Z:(((ns.map dec)).map (·.length)).sum<=(ns.map dec).length*9:=IZ fun w hw=>by
   obtain⟨i,y,rfl⟩:=h8.mp hw;obtain⟨C,O⟩:=hn i y;exact PX C 9 (by decide) (by lia)
  simp only[K5,List.sum_cons,nS,cz] at Z⊢;rw[show(Str.ofString " ").length=1 by decide];lia
theorem BG {r o t g f l:Int} (h:good r o t g f l):∀n∈[r,o,t,g,f,l],0<=n/\n<1000000000:=by
 obtain⟨y,v,x,z,i⟩:=h;intro n hn;simp only[fy,hL,wh] at hn;rcases hn with rfl|rfl|rfl|rfl|rfl|rfl<;>omega
theorem AS:OF P w base T.t_ ly 2 kR:=by
 exists 0,T.t_,ly,kR,(ah (ar (aF (nZ T) HR (bP aG (cq (aZ (ai (pv 0) T.cL T.ji) (aZ (av K (ai (pv 0) T.cL T.gW) af) (aZ (av K (ai (pv 0) T.cL T.gW) af) (aZ (ai (pv 0) T.cL T.n_) (bP (ai (pv 0) T.cL T.pj) (ai (pv 0) T.cL T.lS)))))))))));rename_i x;obtain⟨r,o,t,g,f,l,v,hk,q⟩:=h;obtain⟨dx,p,y,i⟩:=v;exists y,i;intro z nl;exact⟨[r,o,t,g,f,l],rfl,BG hk,by simp,by decide,fun H' s=>q H' ((aj nl).trans s)⟩
theorem AR:OF P w base T.t9 lx 1 kQ:=by
 exists 0,T.t9,lx,kQ,(ah (ar (iA K rfl qx zc zT (fq K rfl) aG (bj (bL (N:=(["number"]:List Str)) (nv:=1) (ix:=[]) rfl (c9 (by kernel_rfl)) (aR K rfl (pv 0)) (fun _ _ _ _ _=>(aw 0 (show((["number"]:List Str)).Nodup by decide))) (fun _ _ _ _ _=>cj) (fun _ _ _ _ _=>(a_ dg (by rfl) T.mi gP (bj (pv 0)))))))));rename_i c;obtain⟨d,g,hc,z,hg,q⟩:=h;unfold yI at hc;have k:=J2 z hg;exists 9;refine xb (xs:=[d.1,d.2.1,d.2.2].map V.int) (p:=fun _=>true) (f:=fun v=>match v with | .int i=> .str (dec i)|_=> .non) (c6.of hc) (ax (by simp)) (fun x _ Q h=>h) (fun x hx _ Q h=>?_) ?_
 ·obtain⟨i,y,rfl⟩:=h8.mp hx;obtain⟨G,C⟩:=k i y;exists 9;exact⟨gq G C,h⟩
 refine⟨ax (by simp),fun l nl=>⟨[dec d.1,dec d.2.1,dec d.2.2],bC.of aa,?_,q _ (aj nl)⟩⟩;have b:=(p_ (g:=",") (B:=9) (ws:=[dec d.1,dec d.2.1,dec d.2.2]) (fun w hw=>by
  obtain⟨i,y,rfl⟩:=h8.mp (show w∈[d.1,d.2.1,d.2.2].map dec from hw);exact vo (k i y))).2
 have e:(Str.ofString ",").length=1:=by decide
 rw[e] at b⊢;simp only[nS,aaC] at b⊢;lia
theorem AQ:OF P w base T.t7 lu 2 kP:=by
 exists 0,T.t7,lu,kP,(ah (ar (gV (cQ K HR (aD (eI K rfl) (by rfl) T.gv dH (bj (pv 0))) af) (bw rfl T.Nr) (iA K rfl qx zc zT (fq K rfl) aG (bj (bL (N:=(["copy"]:List Str)) (nv:=1) (ix:=[]) rfl (c9 (by kernel_rfl)) (aR K rfl (pv 0)) (fun _ _ _ _ _=>(aw 0 (show((["copy"]:List Str)).Nodup by decide))) (fun _ _ _ _ _=>cj) (fun _ _ _ _ _=>(aF (AR T) HR (bj (pv 0))))))))));rename_i x;obtain⟨ds,g,hD,Q,hg,q⟩:=h;obtain⟨cs,C,O,X⟩:=hD;obtain⟨d1,J⟩:=Gs Q;have ln:=cb O;exists C;rw[cz,ln];unfold dwd at q;by_cases c:ds.length=0
 ·rw[dy (by omega)];rw[dy c] at q;exact q H (aA.refl _)
 rw[de (by omega)];rw[de c] at q;refine g8 (bC.of C) (ax (by rw[cz,ln];omega)) (fun i ys σ H'=>aA H H'/\ys=((ds.take i).map cwd).map V.str/\∃v,σ= [v]) ⟨aA.refl _,rfl,none,rfl⟩ (fun i ys σ H' hh=>by rw[hh.2.1,cz,cz,z1];exact aaf _ _) (fun i ys σ H' hh=>bC.of (hh.1 _ _ C)) (fun i y ys σ H' G hh=>?_) (fun ys σ H' hh=>?_)
 ·obtain⟨z,rfl,v,rfl⟩:=hh;rw[j1] at G;obtain⟨y,U,rfl⟩:=nc.mp G;obtain⟨d,I,hd⟩:=jd O U;exists 9;refine⟨d,g,z _ _ hd,J d (ni I),hg,fun Z s2=>⟨z.trans s2,?_,_,rfl⟩⟩;rw[ra,I,n7,n7];rfl
 obtain⟨z,rfl,v,rfl⟩:=hh;rw[Lo (by rw[cz];omega)];refine⟨ax (by rw[cz,cz];omega),fun l nl=>⟨ds.map cwd,bC.of aa,?_,q _ (z.trans (aj nl))⟩⟩;have b:=(p_ (g:="+") (B:=30) (ws:=ds.map cwd) (fun w hw=>by
  obtain⟨d,hd,rfl⟩:=h8.mp hw;exact J1 (J d hd) hg)).2
 have e:(Str.ofString "+").length=1:=by decide
 rw[e] at b⊢;rw[cz] at b⊢;omega
theorem Cd:OF P w base T.vC mN 3 mH:=by
 exists 0,T.vC,mN,mH,(ah (ar (iA K rfl qx zc zT (fq K rfl) aG (bj (aE K (cq (bP aG (a_ dg (by rfl) T.mi gP (bj (pv 0))))) (bL (N:=(["deed"]:List Str)) (nv:=1) (ix:=[]) rfl (c9 (by kernel_rfl)) (aR K rfl (pv 1)) (fun _ _ _ _ _=>(aw 0 (show((["deed"]:List Str)).Nodup by decide))) (fun _ _ _ _ _=>cj) (fun _ _ _ _ _=>(aF (AQ T) HR (bj (pv 0))))))))));rename_i s p;obtain⟨G,g,hR,ok,hg,hs,q⟩:=h;obtain⟨xs,U,h2,h3⟩:=hR;have ln:=cb h2;have l60:=ok.2;have x:0<=s/\s<1000000000:=by lia
 exists 9;refine⟨gq x.1 x.2,fun J Q=>?_⟩;have I:=aj (o:= .lst [V.str "road",V.str (Str.ofString (toString s))]) Q;have C:=aa (H:=H) (a:=J) (o:= .lst [V.str "road",V.str (Str.ofString (toString s))]);generalize upd H J (.lst [V.str "road",V.str (Str.ofString (toString s))])=H1 at*
 refine g8 (bC.of (I _ _ U)) (ax (by rw[cz,ln];lia)) (fun i ys σ H'=>aA H1 H'/\ys=((G.take i).map dwd).map V.str/\∃v,σ= [v]) ⟨aA.refl _,rfl,none,rfl⟩ (fun i ys σ H' hh=>by rw[hh.2.1,cz,cz,z1];exact aaf _ _) (fun i ys σ H' hh=>bC.of (hh.1 _ _ (I _ _ U))) (fun i y ys σ H' X hh=>?_) (fun ys σ H' hh=>?_)
 ·obtain⟨z,rfl,v,rfl⟩:=hh;rw[j1] at X;obtain⟨y,ey,rfl⟩:=nc.mp X;obtain⟨d,Z,hd⟩:=jd h2 ey;exists 9;refine⟨d,g,hd.same (I.trans z),ok.1 d (ni Z),hg,fun H2 s2=>⟨z.trans s2,?_,_,rfl⟩⟩;rw[ra,Z,n7,n7];rfl
 obtain⟨z,rfl,v,rfl⟩:=hh;rw[Lo (by rw[cz];lia)];refine⟨ax (by rw[cz,cz];lia),fun l nl=>?_⟩;have nn:J≠l:=ao (z _ _ C) nl;rw[pK];refine .inl ⟨_,_,_,_,rfl,rfl,by rw[ag nn];exact z _ _ C,aa,by rw[gn,cz,cz];simp;lia,fun p2 O=>?_⟩;show rJoin K _ _ _ _;rw[uI];refine⟨Str.ofString "road" ::dec s::G.map dwd,bC.of aa,?_,q _ ((I.trans z).trans ((aj nl).trans (aj O)))⟩;exact h7 (Fd x ok hg).2 (by decide)
theorem Cc:OF P w base T.vB iP 1 mG:=by
 exists 0,T.vB,iP,mG,(ae (ay 1 iP.1.nd (cq (aZ aG (aZ (a_ dg (by rfl) T.mi gP (bj (av K (pv 0) af))) (bP (a_ dg (by rfl) T.mi gP (bj (av K (pv 0) af))) (av K (pv 0) af))))))
 (ah (ar (iA K rfl qx zc zT (fq K rfl) aG (bj (gV (aS ky (av K (pv 0) af) bY) (pv 1) (aE K (pv 1) (cq (bj (a_ dg (by rfl) T.mi gP (bj (av K (pv 0) af))))))))))))
 rename_i x;obtain⟨v,hw,C,q⟩:=h;unfold Qp at hw;have wl:=(EV C).2;obtain⟨w1,w2,w3,w4⟩:=IQ C;exists hw;refine⟨gq w1.1 w1.2,gq w2.1 w2.2,fun p np=>?_⟩;have xp:x≠p:=ao hw np;rw[ag xp,hw,F9];refine⟨_,rfl,?_⟩;have Z:=aj (o:= .lst [V.str "wish",V.str (Str.ofString (toString v.1)),V.str (Str.ofString (toString v.2.1)),V.str v.2.2.1]) np;have hp:=aa (H:=H) (a:=p) (o:= .lst [V.str "wish",V.str (Str.ofString (toString v.1)),V.str (Str.ofString (toString v.2.1)),V.str v.2.2.1]);have U:=Z _ _ hw;generalize upd H p (.lst [V.str "wish",V.str (Str.ofString (toString v.1)),V.str (Str.ofString (toString v.2.1)),V.str v.2.2.1])=J at*
 unfold wrow at q;by_cases c:v.2.2.2=V.non
 ·rw[dy c];rw[c] at q wl;exact⟨[Str.ofString "wish",dec v.1,dec v.2.1,v.2.2.1],bC.of hp,h7 wl (by decide),q _ Z⟩
 rw[de c,U,F9];refine⟨_,rfl,?_⟩;have fin:∀z,vwd v.2.2.2= [z]->∀G,J G=none->tE K (V.ref p) (V.ref G) (upd J G (.lst [V.str z])) fun x J=>rJoin K (V.str " ") [x] J Q:=fun z ez G O=>by
  have pp:p≠G:=ao hp O;rw[ez] at q wl;rw[pK];refine .inl ⟨_,_,_,_,rfl,rfl,by rw[ag pp];exact hp,aa,by rw[gn];simp,fun p2 X=>?_⟩;show rJoin K _ _ _ _;rw[uI];exact⟨[Str.ofString "wish",dec v.1,dec v.2.1,v.2.2.1,z],bC.of aa,h7 wl (by decide),q _ ((Z.trans (aj O)).trans (aj X))⟩
 cases e:v.2.2.2 with
 |int i=>
  rw[e] at w4 fin;have hi:0<=i/\i<1000000000:=by
   unfold fE xq at C;rw[e] at C;simp only[fx] at C;have y:=C.2;split at y
   ·cases y
   ·split at y
    ·have I:bO i 1 60=true:=y;unfold bO at I;simp only[fx,eM] at I;omega
    ·simp at y
  show Ks [V.int i] J _;rw[yS];exact⟨gq hi.1 hi.2,fin (dec i) rfl⟩
 |str z=>rw[e] at fin;exact fin z rfl
 |non=>exact absurd e c
 |_=>
  exfalso;unfold fE xq at C;rw[e] at C;simp only[fx] at C;have y:=C.2;split at y
  ·cases y
  ·split at y
   ·cases y
   ·simp at y
theorem RT:OF P w base T.P5 Bw 4 (E4 K):=by
 exists 0,T.P5,Bw,E4,(ae (ay 1 Bw.1.nd (cq (bj (aF (AS T) HR (bj (ai (pv 0) T.aP T.xT))))))
 (ak (ae (aH (Ho aab PySem.F.slot_list_extend PySem.F.type_list_extend zm (pv 1) (bj (bL (N:=(["side","walk"]:List Str)) (nv:=1) (ix:=[0]) rfl (c9 (by kernel_rfl)) (aR K rfl (ek K rfl rfl T.yz)) (fun _ _ _ _ _=>(aw 0 (show((["side","walk"]:List Str)).Nodup by decide))) (fun _ _ _ _ _=>cj) (fun _ _ _ _ _=>(aF (Cd T) HR (bP (pv 0) (av K (ai (pv 1) T.aP T.xU) (pv 0)))))))))
 (ak (ae (aH (Ho aab PySem.F.slot_list_extend PySem.F.type_list_extend zm (pv 1) (bj (bL (N:=(["wish"]:List Str)) (nv:=1) (ix:=[]) rfl (c9 (by kernel_rfl)) (aR K rfl (ai (pv 0) T.aP T.ph)) (fun _ _ _ _ _=>(aw 0 (show((["wish"]:List Str)).Nodup by decide))) (fun _ _ _ _ _=>cj) (fun _ _ _ _ _=>(aF (Cc T) HR (bj (pv 0))))))))
 (ak (ae (aH (bZ K rfl (pv 1) (aF (nZ T) HR (bP aG (cq (bj (ai (pv 0) T.aP T.bJ)))))))
 (ak (ah (ar (iA K rfl qx zc zT (fq K rfl) aG (bj (pv 1)))))))))))))
 rename_i x;obtain⟨ow,W,e,p,X,hn,q⟩:=h;have X0:=X.hx (by decide);exists 6,u1;exists X0;refine⟨_,_,_,_,_,_,X.ht,X.gd,fun H1 S1 l nl=>?_⟩;have S2:=S1.trans (aj (o:= .lst [V.str (trow e.r (e.k 0) (e.k 1) e.g e.f e.l)]) nl);have pf:∀{b u},H b=some u->b≠l:=fun e=>ao (S1 _ _ e) nl;have hl:upd H1 l (.lst [V.str (trow e.r (e.k 0) (e.k 1) e.g e.f e.l)]) l=some (.lst [V.str (trow e.r (e.k 0) (e.k 1) e.g e.f e.l)]):=aa;generalize upd H1 l (.lst [V.str (trow e.r (e.k 0) (e.k 1) e.g e.f e.l)])=H2 at*
 exists 8,u1,u2;exists 9;refine⟨cf (bC.of hl),fun a sa _=>?_⟩;have Z:e.g<=60:=by have:=X.gd.2.2.1;lia
 have rk:∀i,i<2->kD e.g (e.d i):=fun i J=>by
  obtain⟨_,_,_,_,_,R⟩:=X.b i J (by lia);exact R.ok
 refine SH (sa _) (ax (by simp)) (fun i ys σ H'=>aA H2 H'/\(∃v,σ= [v,some (V.ref x)])/\ys=([rrow 0 (e.d 0),rrow 1 (e.d 1)].take i).map V.str) ⟨aA.refl _,⟨_,rfl⟩,rfl⟩ (fun i ys σ H' h=>by rw[h.2.2];simp;lia) (fun i ys σ H' h=>sa _) (fun i y ys σ H' hy h=>?_) (fun ys σ H3 h=>?_)
 ·obtain⟨z,⟨v,rfl⟩,rfl⟩:=h;obtain⟨J,rfl⟩:=BL hy;have S3:=S2.trans z;have a1:kB [V.ref (W.c 0),V.ref (W.c 1)] (i:Int)=some (V.ref (W.c i)):=at2 (f:=fun k=>V.ref (W.c k)) J;exists S3 _ _ X0,S3 _ _ X.hd,a1;refine⟨e.d i,e.g,(X.dc i J).row.same S3,rk i J,Z,by lia,fun H4 s4=>⟨z.trans s4,⟨_,rfl⟩,?_⟩⟩;rcases i with _|_|i
  ·rfl
  ·rfl
  ·lia
 obtain⟨z,_,C⟩:=h;replace C:ys= [V.str (rrow 0 (e.d 0)),V.str (rrow 1 (e.d 1))]:=C;subst C;refine⟨ax (by simp),fun l1 nl1=>?_⟩;have S4:=z.trans (aj (o:= .lst [V.str (rrow 0 (e.d 0)),V.str (rrow 1 (e.d 1))]) nl1);have O:=S4 _ _ hl;refine⟨l,l1,_,_,rfl,rfl,O,aa,by rw[gn];simp,?_⟩;show u2 _ _ _;have Q:∀{b u},H b=some u->upd (upd H3 l1 (.lst [V.str (rrow 0 (e.d 0)),V.str (rrow 1 (e.d 1))])) l (.lst ([V.str (trow e.r (e.k 0) (e.k 1) e.g e.f e.l)]++ [V.str (rrow 0 (e.d 0)),V.str (rrow 1 (e.d 1))])) b=some u:=fun e=>by rw[ag (pf e)];exact S4 _ _ (S2 _ _ e)
 have U:upd (upd H3 l1 (.lst [V.str (rrow 0 (e.d 0)),V.str (rrow 1 (e.d 1))])) l (.lst ([V.str (trow e.r (e.k 0) (e.k 1) e.g e.f e.l)]++ [V.str (rrow 0 (e.d 0)),V.str (rrow 1 (e.d 1))])) l=some (.lst ([V.str (trow e.r (e.k 0) (e.k 1) e.g e.f e.l)]++ [V.str (rrow 0 (e.d 0)),V.str (rrow 1 (e.d 1))])):=aa;generalize upd (upd H3 l1 (.lst [V.str (rrow 0 (e.d 0)),V.str (rrow 1 (e.d 1))])) l (.lst ([V.str (trow e.r (e.k 0) (e.k 1) e.g e.f e.l)]++ [V.str (rrow 0 (e.d 0)),V.str (rrow 1 (e.d 1))]))=H5 at*
 clear S4 O z hl nl1;obtain⟨xs,w1,w2,w3⟩:=X.hw;have wl:=cb w2;have wo:=X.ok;exists 8,u2,u3;exists Q X0;refine⟨cf (bC.of U),?_⟩;refine g8 (bC.of (Q w1)) (ax (by rw[cz,wl];lia)) (fun i ys σ H'=>aA H5 H'/\ys=((e.ws.take i).map wrow).map V.str/\∃v,σ= [v]) ⟨aA.refl _,rfl,none,rfl⟩ (fun i ys σ H' hh=>by rw[hh.2.1,cz,cz,z1];exact aaf _ _) (fun i ys σ H' hh=>bC.of (hh.1 _ _ (Q w1))) (fun i y ys σ H' hy hh=>?_) (fun ys σ H6 hh=>?_)
 ·obtain⟨z,rfl,v,rfl⟩:=hh;rw[j1] at hy;obtain⟨y,ey,rfl⟩:=nc.mp hy;obtain⟨w',ew,hw'⟩:=jd w2 ey;exists 9;refine⟨w',z _ _ (Q hw'),wo.2 w' (ni ew),fun H7 s7=>⟨z.trans s7,?_,_,rfl⟩⟩;rw[ra,ew,n7,n7];rfl
 obtain⟨z,rfl,v,rfl⟩:=hh;rw[Lo (by rw[cz];lia)];refine⟨ax (by rw[cz,cz];lia),fun l2 I=>?_⟩;refine⟨l,l2,_,_,rfl,rfl,aj I _ _ (z _ _ U),aa,by rw[gn,cz,cz];simp;lia,?_⟩;show u3 _ _ _;have K6:∀{b u},H b=some u->upd (upd H6 l2 (.lst ((e.ws.map wrow).map V.str))) l (.lst ([V.str (trow e.r (e.k 0) (e.k 1) e.g e.f e.l)]++ [V.str (rrow 0 (e.d 0)),V.str (rrow 1 (e.d 1))]++(e.ws.map wrow).map V.str)) b=some u:=fun e=>by rw[ag (pf e)];exact aj I _ _ (z _ _ (Q e))
 have hl6:upd (upd H6 l2 (.lst ((e.ws.map wrow).map V.str))) l (.lst ([V.str (trow e.r (e.k 0) (e.k 1) e.g e.f e.l)]++ [V.str (rrow 0 (e.d 0)),V.str (rrow 1 (e.d 1))]++(e.ws.map wrow).map V.str)) l=some (.lst ([V.str (trow e.r (e.k 0) (e.k 1) e.g e.f e.l)]++ [V.str (rrow 0 (e.d 0)),V.str (rrow 1 (e.d 1))]++(e.ws.map wrow).map V.str)):=aa;generalize upd (upd H6 l2 (.lst ((e.ws.map wrow).map V.str))) l (.lst ([V.str (trow e.r (e.k 0) (e.k 1) e.g e.f e.l)]++ [V.str (rrow 0 (e.d 0)),V.str (rrow 1 (e.d 1))]++(e.ws.map wrow).map V.str))=H7 at*
 exists 8,u3,u4;exists K6 X0;refine⟨cf (bC.of hl6),fun l3 G=>?_⟩;refine⟨[e.n],rfl,by simp;lia,by simp,by decide,fun H8 s8=>⟨_,s8 _ _ (aj G _ _ hl6),by rw[gn];simp;lia,?_⟩⟩;exists 7,u4;exists 9;refine⟨krow e.r (e.k 0) (e.k 1) e.g e.f e.l (e.d 0) (e.d 1) e.ws e.n,?_,KW (BG X.gd) (rk 0 (by decide)) (rk 1 (by decide)) Z wo (by lia),q _ fun b u e=>by rw[ag (pf e)];exact s8 _ _ (aj G _ _ (K6 e))⟩;have el:List.map V.str (krow e.r (e.k 0) (e.k 1) e.g e.f e.l (e.d 0) (e.d 1) e.ws e.n)= [V.str (trow e.r (e.k 0) (e.k 1) e.g e.f e.l)]++ [V.str (rrow 0 (e.d 0)),V.str (rrow 1 (e.d 1))]++List.map V.str (List.map wrow e.ws)++ [V.str (Txt.join " " (Str.ofString "turn" ::List.map dec [e.n]))]:=by unfold krow;simp
 rw[el];exact bC.of aa
theorem fm:OF P w base T.uj lE 1 (kZ K):=by
 exists 0,T.uj,lE,kZ,(ae (aQ (aS mS (pv 1) (aD (dO K rfl) (by rfl) T.gv dH (bj (pv 0)))) (ah (ar (bq K (pv 0) (pv 1)))) aB)
 (ah (ar af)))
 rename_i a k;obtain⟨ns,i,v,q⟩:=h;exists 9;refine⟨_,.inl i,?_⟩;rw[cz];split
 ·rename_i c;exact Pb i v c (q _)
 ·exact q _
theorem o8:OF P w base T.yh fu 1 oM:=by
 exists 0,T.yh,fu,oM,(ae (aQ (PW.pt (pw_and (aS z_ (pv 0) (au hJ af af)) (pw_and1 (aS mT (au lR (pv 0) (aE K af (au je af (pv 1)))) af)))) (ah (ar (au bE (au lR (pv 0) (aE K af (au je af (pv 1)))) af))) aB)
 (ak (ae (ay 2 fu.1.nd (aE K (au bE (pv 0) af) af))
 (ae (cJ j0 rfl (gc rfl T.fc (bj af)) (aw 3 fu.1.nd) (ah (ay 2 fu.1.nd (au bE (aE K (aE K (au je (pv 2) (pv 2)) (au je af (pv 2))) (pv 1)) af))))
 (ah (ar (pv 2)))))))
 rename_i c k;obtain⟨x,q⟩:=h;exists 6,u1;exists 9;have C:Qk 1 90:=⟨⟨by decide,by decide⟩,by decide+kernel,by decide+kernel⟩;have tail:u1 {nx:=fun _ H'=>Q .non H',rt:=Q} [some (.int c),some (.int k),none,none] H:=by
  exists 7,u1;exists 9;refine ro (lo:=0) (n:=3) (fun i σ H'=>H'=H/\∃v y,σ= [some (.int c),some (.int k),some (.int v),y]/\0<=v/\v<2147483647+(if i=0 then 48271 else 0)) ⟨rfl,_,none,rfl,by lia,by rw[dy rfl];lia⟩ (fun i σ H' _ hp=>?_) (fun σ H' hp=>?_)
  ·obtain⟨rfl,v,y,rfl,x,z⟩:=hp;exists 9;have F:v<3000000000:=by split at z<;>lia
   exact⟨.inl ⟨by lia,by lia⟩,_,_,rfl,C2 _ (by decide),L0 _ (by decide)⟩
  ·obtain⟨rfl,v,y,rfl,x,z⟩:=hp;exists 9;exact q v x (by rw[de (by decide)] at z;lia)
 refine⟨C,?_⟩;split
 ·refine⟨by lia,?_⟩;split
  ·exact⟨by lia,q _ (C2 _ (by decide)) (L0 _ (by decide))⟩
  ·exact tail
 ·exact tail
theorem Fz:OF P w base T.Aq dP 2 qw:=by
 exists 0,T.Aq,dP,qw,(ae (ay 2 dP.1.nd aG)
 (ae (ay 2 dP.1.nd (aE K (pv 2) aG))
 (ak (ae (ay 3 dP.1.nd aG)
 (ak (ae (cJ j0 rfl (gc rfl T.fc (bj (pv 1))) (aw 4 dP.1.nd) (ah (ay 3 dP.1.nd (aE K (pv 3) (av K (pv 2) (au bE (au b9 (aF (o8 T) HR (bP (pv 0) (aE K af (au b9 (pv 4) af)))) (av K (cq (aZ af (aZ af (bP af af)))) (au bE (pv 4) af))) af))))))
 (ak (ah (ar (pv 3))))))))))
 rename_i c n;obtain⟨hn,q⟩:=h;exists 6,u1;exists 9;refine⟨by rw[gn];decide+kernel,?_⟩;rw[show(Str.ofString " !\"#$&'()*+,-./0123456789:;<=>?@ABCDEFGHIJKLMNOPQRSTUVWXYZ[\\]^_`" ++Str.ofString "abcdefghijklmnopqrstuvwxyz{|}~")=iO by decide+kernel];exists 8,u1,u2;exists 9;exists 8,u2,u3;exists 9;refine⟨by lia,?_⟩;refine ro (lo:=0) (n:=n.toNat) (fun k σ H'=>aA H H'/\∃z x,σ= [some (.int c),some (.int n),some (.str iO),some (.str z),x]/\z.length=k/\∀c∈z.cps.toList,c∈sgl) ⟨aA.refl _,_,_,rfl,rfl,fun c hc=>by cases hc⟩ (fun k σ H' hk hp=>?_) (fun σ H' hp=>?_)
 ·obtain⟨G,z,x,rfl,C,y⟩:=hp;exists 9;refine⟨by lia,fun v Z U p hp=>?_⟩;obtain⟨d,Q,bd⟩:∃d,kB [V.int 1,V.int 94,V.int 8836,V.int 830584] ((0+(k:Int)) % 4)=some (.int d)/\(0<d/\d<1000000):=by
   obtain e|e|e|e:(0+(k:Int)) % 4=0\/(0+(k:Int)) % 4=1\/(0+(k:Int)) % 4=2\/(0+(k:Int)) % 4=3:=by lia
   ·rw[e];exact⟨_,ER,by decide⟩
   ·rw[e];exact⟨_,IC,by decide⟩
   ·rw[e];exact⟨_,TN,by decide⟩
   ·rw[e];exact⟨_,TM,by decide⟩
  refine⟨_,Q,?_⟩;exists 9;refine⟨⟨bd.1,by lia⟩,?_⟩;rw[Ob];have X:=C2 (v / d) (show(94:Int)≠0 by decide);have J:=L0 (v / d) (show(0:Int)<94 by decide);obtain⟨j,O⟩:∃j:Nat,v / d % 94=(j:Int):=⟨(v / d % 94).toNat,by lia⟩;rw[O] at J⊢;have I:j<sgl.length:=by rw[Ko];lia
  refine⟨sgl[j],by rw[gn];decide+kernel,sJ (mu I),?_⟩;exists 9;refine⟨by rw[gn];simp[Str.length];rw[show z.cps.size=z.length from rfl,C];lia,G.trans (aj hp),_,_,rfl,?_,fun F hc=>?_⟩
  ·show(z.cps ++ #[sgl[j]]).size=k+1;rw[Array.size_append,show z.cps.size=z.length from rfl,C];rfl
  ·have i:F∈(z.cps ++ #[sgl[j]]).toList:=hc;rw[Array.toList_append,Zy] at i;rcases i with i|i
   ·exact y F i
   ·have e:F=sgl[j]:=by simpa using i
    rw[e];exact aaa I
 ·obtain⟨G,z,x,rfl,C,y⟩:=hp;exists 7,u3;exists 9;exact q z H' G (by lia) y
theorem AZ:OF P w base T.ui bH 1 kY:=by
 exists 0,T.ui,bH,kY,(ae (ay 2 bH.1.nd (cq (bP (aE K af (au bE (pv 0) af)) (aE K af (au bE (au b9 (pv 0) af) af)))))
 (ae (ay 3 bH.1.nd (aE K af (au bE (au b9 (pv 0) af) af)))
 (ak (qY (aQ (aS mT (au bE (au b9 (pv 0) af) af) af) (ae (ay 2 bH.1.nd (cq (bP (aE K af (au bE (pv 0) af)) (aE K af (au bE (au b9 (pv 0) af) af)))))
 (ah (ay 3 bH.1.nd (aE K af (au bE (au b9 (pv 0) af) af))))) aB)
 (ak (ae (ay 4 bH.1.nd (aD (EJ K rfl rfl) (by rfl) T.EO z0 (bj (aE K (cq (bj (aE K af (au b9 (pv 3) af)))) (bL (N:=(["_law_room","_law_lag"]:List Str)) (nv:=1) (ix:=[3]) rfl (c9 (by kernel_rfl)) (aR K rfl (pv 2)) (fun _ _ _ _ _=>(aw 0 (show((["_law_room","_law_lag"]:List Str)).Nodup by decide))) (fun _ _ _ _ _=>(nW (aS mT (pv 0) af))) (fun _ _ _ _ _=>(au fP (aE K (au je af (pv 0)) (pv 1)) af)))))))
 (ak (ae (ay 5 bH.1.nd (aE K af (au bE (pv 1) af)))
 (ak (qY (aQ (aS mT (au bE (au b9 (pv 1) af) af) af) (ah (ay 5 bH.1.nd (aE K af (au bE (pv 1) af)))) aB)
 (ak (ae (ay 6 bH.1.nd (aE K (pv 4) (au bE (au b9 (pv 1) af) (au fP af (pv 4)))))
 (ak (ah (ar (aE K (aE K (cq (bj (pv 6))) (pv 2)) (cq (aZ (pv 3) (bP (pv 5) (aE K (pv 5) (au bE (au b9 (pv 1) af) (au fP af (pv 5)))))))))))))))))))))))
 rename_i c n;exists 6,u1;exists 9;have S0:aA H H:=aA.refl H;intro p0 n_p0;have e_p0:=aa (H:=H) (a:=p0) (o:=(.lst [.int (1+c % 16),.int (1+c / 16 % 16)]));have U:=aj (H:=H) (o:=(.lst [.int (1+c % 16),.int (1+c / 16 % 16)])) n_p0;replace S0:=S0.trans U;generalize upd H p0 ((.lst [.int (1+c % 16),.int (1+c / 16 % 16)]))=H1 at*
 exists 8,u1,u2;refine⟨fun v H'=> ∃p o t g,v= [some (.int c),some (.int n),some (.ref p),some (.int g),none,none,none]/\aA H H'/\H' p=some (.lst [.int o,.int t])/\(1<=o/\o<=16)/\(1<=t/\t<=16)/\(1<=g/\g<=32),?_,?_⟩
 ·exists 9;split
  ·intro p1 hp1;exact⟨p1,_,_,_,rfl,S0.trans (aj hp1),aa,by lia,by lia,by lia⟩
  ·exact⟨p0,_,_,_,rfl,S0,e_p0,by lia,by lia,by lia⟩
 rintro v H2 ⟨p,o,t,g,rfl,S2,hp,bo,bt,bg⟩;exists 8,u2,u3;exists 9;intro p3 n_p3;have y:=aa (H:=H2) (a:=p3) (o:=(.lst [.int (2+g / 2)]));have F:=aj (H:=H2) (o:=(.lst [.int (2+g / 2)])) n_p3;replace hp:=F _ _ hp;replace S2:=S2.trans F;generalize upd H2 p3 ((.lst [.int (2+g / 2)]))=H3 at*
 refine rA (p:=fun x=>match x with | .int i=>decide (1<i)|_=>false) (f:=fun x=>match x with | .int i=> .int (2*i+g-1)|_=> .non) (bC.of hp) (ax (by simp)) (fun x hx Q h=>?_) (fun x hx _ Q h=>?_) ?_
 ·simp only[fy,hL,wh] at hx;rcases hx with rfl|rfl<;>(exists 9;exact h)
 ·simp only[fy,hL,wh] at hx;rcases hx with rfl|rfl<;>(exists 9;exact h)
 obtain⟨ns,en,ln,n1,n2,n3⟩:∃ns:List Int,List.map (fun x=>match x with|V.int i=>V.int (2*i+g-1)|_=>V.non) (List.filter (fun x=>match x with|V.int i=>decide (1<i)|_=>false) [V.int o,V.int t])=ns.map V.int/\ns.length<=2/\(1<o->2*o+g-1∈ns)/\(1<t->2*t+g-1∈ns)/\∀m∈ns,m<=63:=by
  by_cases J:1<o<;>by_cases I:1<t
  ·exact⟨[2*o+g-1,2*t+g-1],by simp[J,I],by simp,fun _=>by simp,fun _=>by simp,fun m hm=>by simp at hm;lia⟩
  ·exact⟨[2*o+g-1],by simp[J,I],by simp,fun _=>by simp,fun h=>absurd h I,fun m hm=>by simp at hm;lia⟩
  ·exact⟨[2*t+g-1],by simp[J,I],by simp,fun h=>absurd h J,fun _=>by simp,fun m hm=>by simp at hm;lia⟩
  ·exact⟨[],by simp[J,I],by simp,fun h=>absurd h J,fun h=>absurd h I,fun m hm=>by cases hm⟩
 rw[en];refine⟨ax (by rw[cz];lia),?_⟩;intro p4 Z;have e_p4:=aa (H:=H3) (a:=p4) (o:=(.lst (ns.map V.int)));have z:=aj (H:=H3) (o:=(.lst (ns.map V.int))) Z;replace hp:=z _ _ hp;replace y:=z _ _ y;replace S2:=S2.trans z;generalize upd H3 p4 ((.lst (ns.map V.int)))=H4 at*
 refine nL y e_p4 (by rw[cz,gn];simp;lia) ?_;intro p5 hp5;have S5:=S2.trans (aj (o:= .lst ([V.int (2+g / 2)]++ns.map V.int)) hp5);have hp':=aM (o:= .lst ([V.int (2+g / 2)]++ns.map V.int)) hp hp5;refine⟨(2+g / 2)::ns,bC.of aa,by simp,fun M hM hle=>?_⟩;generalize upd H4 p5 (.lst ([V.int (2+g / 2)]++ns.map V.int))=H5 at*
 have M1:=hle _ (ZG ..);have M2:1<o->2*o+g-1<=M:=fun q=>hle _ (sh _ (n1 q));have M3:1<t->2*t+g-1<=M:=fun q=>hle _ (sh _ (n2 q));have M4:M<=63:=by
  rcases fy.mp hM with q|q
  ·lia
  ·exact n3 _ q
 exists 8,u3,u4;exists 9;exists 8,u4,u5;refine⟨fun v H'=> ∃f,v= [some (.int c),some (.int n),some (.ref p),some (.int g),some (.int M),some (.int f),none]/\H'=H5/\(2<=f/\f<=64),?_,?_⟩
 ·exists 9;split
  ·exact⟨_,rfl,by lia,by lia⟩
  ·exact⟨_,rfl,by lia,by lia⟩
 rintro v H' ⟨f,rfl,rfl,bf⟩;exists 8,u5,u6;exists 9;have r0:=C2 (n / 252) (show 65-M≠0 by lia);have r1:=L0 (n / 252) (show 0<65-M by lia);generalize n / 252 % (65-M)=C at*
 refine⟨by lia,?_⟩;exists 7,u6;exists 9;have l0:=C2 (n / 16128) (show 65-f≠0 by lia);have l1:=L0 (n / 16128) (show 0<65-f by lia);generalize n / 16128 % (65-f)=O at*
 intro q1 nq1;have S6:=S5.trans (aj (o:= .lst [V.int (M+C)]) nq1);have hp6:=aM (o:= .lst [V.int (M+C)]) hp' nq1;have hq1:=aa (H:=H') (a:=q1) (o:= .lst [V.int (M+C)]);generalize upd H' q1 (.lst [V.int (M+C)])=H6 at*
 refine nL hq1 hp6 (by rw[gn];simp) ?_;intro q2 nq2;have S7:=S6.trans (aj (o:= .lst ([V.int (M+C)]++ [V.int o,V.int t])) nq2);have G:=aa (H:=H6) (a:=q2) (o:= .lst ([V.int (M+C)]++ [V.int o,V.int t]));generalize upd H6 q2 (.lst ([V.int (M+C)]++ [V.int o,V.int t]))=H7 at*
 refine⟨by lia,fun q3 X=>?_⟩;have S8:=S7.trans (aj (o:= .lst [V.int g,V.int f,V.int (f+O)]) X);have G:=aM (o:= .lst [V.int g,V.int f,V.int (f+O)]) G X;have hq3:=aa (H:=H7) (a:=q3) (o:= .lst [V.int g,V.int f,V.int (f+O)]);generalize upd H7 q3 (.lst [V.int g,V.int f,V.int (f+O)])=H8 at*
 refine nL G hq3 (by rw[gn];simp) ?_;intro q4 nq4;have hg:good (M+C) o t g f (f+O):=⟨by lia,⟨bo,bt⟩,bg,by lia,by lia⟩;have hw: ¬M+C<zo o t g:=by
  unfold zo mV;split<;>split<;>lia
 exact h q4 (M+C) o t g f (f+O) _ (S8.trans (aj nq4)) aa ⟨hg,hw⟩
theorem FD:OF P w base T.As cY 2 qz:=by
 exists 0,T.As,cY,qz,(ae (ay 3 cY.1.nd (aF (o8 T) HR (bP (pv 0) (au je af (pv 1)))))
 (ak (ae (ay 4 cY.1.nd (cq gN))
 (ak (ae (cJ j0 rfl (gc rfl T.fc (bj (au bE (pv 3) af))) (aw 5 cY.1.nd) (ae (ay 6 cY.1.nd (aF (o8 T) HR (bP (pv 0) (aE K (aE K (au je af (pv 1)) (pv 5)) af))))
 (ak (ae (ay 7 cY.1.nd af)
 (ak (ae (aQ (cQ K HR (au bE (pv 6) af) af) (ah (ay 7 cY.1.nd (au bE (au b9 (pv 6) af) af))) aB)
 (ak (ah (aH (bZ K rfl (pv 4) (ba (aZ (aE K af (au bE (au b9 (pv 6) af) (pv 2))) (bP (au bE (au b9 (pv 6) af) af) (pv 7))))))))))))))
 (ak (ah (ar (pv 4)))))))))
 rename_i c k g;obtain⟨hk,hg,q⟩:=h;exists 6,u1;exists 9;refine⟨by lia,fun v v0 v1=>?_⟩;exists 8,u1,u2;exists 9;intro p I;have S1:=aj (o:= .lst []) I;have hp:=aa (H:=H) (a:=p) (o:= .lst []);generalize upd H p (.lst [])=H1 at*
 exists 8,u2,u3;exists 9;have Z:=C2 v (show(4:Int)≠0 by decide);have Q:=L0 v (show(0:Int)<4 by decide);refine⟨⟨by lia,by lia⟩,?_⟩;refine ro (fun i σ H'=>cI p H1 H'/\(∃cs:List Addr,∃ds:List Cp,H' p=some (.lst (cs.map V.ref))/\Paired (fun c (d:Cp)=>yI H' c d.1 d.2.1 d.2.2) cs ds/\ds.length=i/\∀d∈ds,oJ d.1 d.2.1 d.2.2 g=true)/\∃G O F,σ= [some (V.int c),some (V.int k),some (V.int g),some (V.int v),some (V.ref p),G,O,F]) ⟨cI.refl,⟨[],[],hp,.nil,rfl,fun d hd=>absurd hd hL⟩,_,_,_,rfl⟩ (fun i σ H' hi hh=>?_) (fun σ H' hh=>?_)
 ·obtain⟨bt,⟨cs,ds,e1,e2,e3,e4⟩,G,O,F,rfl⟩:=hh;exists 9;refine⟨by lia,fun y y0 y1=>?_⟩;refine HS fun X J=>?_;exists 8,u3,u4;exists 9;exists 8,u4,u5;have fin:∀x:Int,0<=x->x<=255->u5 X [some (V.int c),some (V.int k),some (V.int g),some (V.int v),some (V.ref p),some (V.int (0+(i:Int))),some (V.int y),some (V.int x)] H':=fun x r0 r1=>by
   exists 7,u5;exists e1;have m0:=C2 (y / 1024) (show g≠0 by lia);have m1:=L0 (y / 1024) (show 0<g by lia);refine⟨cf (bC.of e1),by lia,fun b nb=>?_⟩;have pb:p≠b:=ao e1 nb;have kl:=cb e2;refine⟨_,by rw[ag pb];exact e1,by rw[cz,gn];lia,?_⟩;rw[J];refine⟨(bt.new nb).write,⟨cs++ [b],ds++ [(1+y / 1024 % g,y / 61440 % 67,x)],by rw[aa];simp,?_,by simp[e3],fun d hd=>?_⟩,_,_,_,rfl⟩
   ·refine qZ (bu e2 fun a d u=>?_) (.cons ?_ .nil)
    ·have C:H' a=some (.tup [.int d.1,.int d.2.1,.int d.2.2]):=u;show upd (upd H' b _) p _ a=some (.tup [.int d.1,.int d.2.1,.int d.2.2]);rw[ag (fun z=>by rw[z,e1] at C;cases C)];exact aM C nb
    ·show upd (upd H' b _) p _ b=some (.tup [.int _,.int _,.int _]);rw[ag pb.symm,aa]
   ·rcases Zy.mp hd with hd|hd
    ·exact e4 d hd
    ·rw[hQ.mp hd];unfold oJ bO;simp only[fx,eM];lia
  exists 9;split
  ·exact fin _ (by lia) (by lia)
  ·exact fin _ (by lia) (by lia)
 ·obtain⟨bt,⟨cs,ds,e1,e2,e3,e4⟩,G,O,F,rfl⟩:=hh;have U:aA H H':=fun b u e=>bt _ _ (S1 _ _ e) (ao e I);show pC _ _ _ _;rw[pC];exists 9;refine q p ds H' U I ⟨cs,e1,e2,by lia⟩ ?_;unfold rZ;rw[n9 (show ds.length<=3 by lia),L5,ON];exact e4
theorem vx:OF P w base T.yi gS 3 oN:=by
 exists 0,T.yi,gS,oN,(ae (ay 2 gS.1.nd (au bE (pv 0) af))
 (ak (ae (aQ (cQ K HR (au bE (au b9 (pv 0) af) af) af) (ah (ay 2 gS.1.nd (au bE (au b9 (pv 0) af) af))) aB)
 (ak (ah (ar (bL (N:=(["_law_k","_law_cell","_law_lag"]:List Str)) (nv:=1) (ix:=[0,1]) rfl (c9 (by kernel_rfl)) (gc rfl T.fc (bj (pv 2))) (fun _ _ _ _ _=>(aw 0 (show((["_law_k","_law_cell","_law_lag"]:List Str)).Nodup by decide))) (fun _ _ _ _ _=>cj) (fun _ _ _ _ _=>(aF (FD T) HR (aZ (pv 1) (bP (pv 0) (pv 2))))))))))))
 rename_i c g;obtain⟨hg,q⟩:=h;exists 6,u1;exists 9;exists 8,u1,u2;have fin:∀m:Int,0<=m->m<=60->u2 {nx:=fun x H'=>Q V.non H',rt:=Q} [some (V.int c),some (V.int g),some (V.int m)] H:=fun m m0 m1=>by
  exists 7,u2;exists 9;refine⟨⟨by lia,by lia⟩,?_⟩;refine SI (fun i ys σ H'=>aA H H'/\(∃zs:List Addr,∃y:List (List Cp),ys=zs.map V.ref/\Paired (fun x ds=>H x=none/\du H' x ds) zs y/\y.length=i/\∀ds∈y,rZ g ds=true)/\∃v,σ= [v,some (V.int c),some (V.int g)]) ⟨aA.refl _,⟨[],[],rfl,.nil,rfl,fun d hd=>absurd hd hL⟩,none,rfl⟩ (ax (by lia)) (fun i ys σ H' hh=>?_) (fun i ys σ H' J hh=>?_) (fun ys σ H' hh=>?_)
  ·obtain⟨_,⟨zs,y,rfl,z,F,_⟩,_⟩:=hh;rw[cz,cb z,F];exact cv _
  ·obtain⟨C,⟨zs,y,rfl,z,F,G⟩,v,rfl⟩:=hh;exists 9;refine⟨⟨by lia,by lia⟩,hg,fun x ds U s2 nx hD I=>⟨C.trans s2,⟨zs++ [x],y++ [ds],by simp,qZ (bu z fun a b u=>⟨u.1,u.2.same s2⟩) (.cons ⟨none_of C nx,hD⟩ .nil),by simp[F],fun d hd=>?_⟩,_,rfl⟩⟩;rcases Zy.mp hd with hd|hd
   ·exact G d hd
   ·rw[hQ.mp hd];exact I
  ·obtain⟨C,⟨zs,y,rfl,z,F,G⟩,v,rfl⟩:=hh;have O:=cb z;refine⟨ax (by rw[cz];lia),fun l nl=>?_⟩;exact q l y _ (C.trans (aj nl)) ⟨none_of C nl,zs,aa,bu z fun a b u=>⟨u.1,u.2.same (aj nl)⟩,by lia⟩ ⟨G,by lia⟩
 exists 9;split
 ·exact fin _ (by lia) (by lia)
 ·exact fin _ (by lia) (by lia)
theorem Ug {c:Nat} (h:c∈sgl):Ph (.str ⟨#[c]⟩)=true:=by
 show(!(Builtin.Str.occurrences iO ⟨#[c]⟩ 0 iO.length 1).isEmpty)=true;rw[(FR h).1];rfl
theorem QL {z:Str} (x:1<=z.length) (i:z.length<=60) (hc:∀c∈z.cps.toList,c∈sgl):iI z=true:=by
 unfold iI;rw[n9 x,n9 i,L5,L5,ON];intro v y;obtain⟨c,hm,rfl⟩:=h8.mp y;exact Ug (hc c hm)
theorem Fx:OF P w base T.Ao fY 3 qu:=by
 exists 0,T.Ao,fY,qu,(ae (ay 1 fY.1.nd (au bE (au b9 (pv 0) af) af))
 (ak (qY (aQ (cQ K HR (au bE (au b9 (pv 0) af) af) af) (ah (ay 1 fY.1.nd (au bE (au b9 (pv 0) af) af))) aB)
 (ak (ae (ay 2 fY.1.nd (au bE (au b9 (pv 0) af) af))
 (ak (ae (aQ (aS mS (au bE (pv 0) af) af) (ah (ar (ba (aZ (pv 1) (aZ (pv 2) (bP aG bY)))))) aB)
 (ak (ae (aQ (cQ K HR (au bE (pv 0) af) af) (ah (ar (ba (aZ (pv 1) (aZ (pv 2) (bP aG bY)))))) aB)
 (ak (ae (aQ (aS mS (au bE (pv 0) af) af) (ah (ar (ba (aZ (pv 1) (aZ (pv 2) (bP aG (aE K af (au bE (au b9 (pv 0) af) af)))))))) aB)
 (ak (ah (ar (ba (aZ (pv 1) (aZ (pv 2) (bP aG (aF (Fz T) HR (bP (au b9 (pv 0) af) (aE K af (au bE (au b9 (pv 0) af) af))))))))))))))))))))))
 rename_i c;exists 6,u1;exists 9;exists 8,u1,u2;refine⟨fun x H'=> ∃m:Int,x= [some (V.int c),some (V.int m),none]/\H'=H/\0<=m/\m<=400,?_,?_⟩
 ·exists 9;split
  ·exact⟨_,rfl,by lia,by lia⟩
  ·exact⟨_,rfl,by lia,by lia⟩
 rintro x H' ⟨m,rfl,rfl,m0,m1⟩;exists 8,u2,u3;exists 9;have G:0<=c / 8 % 2/\c / 8 % 2<=1:=by lia
 generalize c / 8 % 2=sd at*
 have y:∀(k:Str) (v:V),xq k v=true->fE (m,sd,k,v)=true:=fun k v C=>by
  unfold fE bO;simp only[fx,eM];exact⟨⟨⟨m0,m1⟩,G⟩,C⟩
 exists 8,u3,u4;exists 9;split
 ·intro p i;exact h p (m,sd,Str.ofString "begin",V.non) _ (aj i) aa (y _ _ (by decide+kernel))
 exists 8,u4,u5;exists 9;split
 ·intro p i;exact h p (m,sd,Str.ofString "end",V.non) _ (aj i) aa (y _ _ (by decide+kernel))
 exists 8,u5,u6;exists 9;split
 ·intro p i;refine h p (m,sd,Str.ofString "read",V.int (1+c / 192 % 60)) _ (aj i) aa (y _ _ ?_);unfold xq;rw[de (by decide+kernel),dy rfl];show bO (1+c / 192 % 60) 1 60=true;unfold bO;simp only[fx,eM];lia
 exists 7,u6;exists 9;refine⟨⟨by lia,by lia⟩,fun z J s2 I F p i=>?_⟩;refine h p (m,sd,Str.ofString "put",V.str z) _ (s2.trans (aj i)) aa (y _ _ ?_);unfold xq;rw[dy rfl];exact QL (by lia) (by lia) F
theorem xF {α β i:Type} {R:i->β->Prop} {f:α->i}:∀{xs:List α} {ys:List β},Paired (fun x y=>R (f x) y) xs ys->Paired R (xs.map f) ys
 |_,_,.nil=> .nil
 |_,_,.cons r t=> .cons r (xF t)
theorem y3:OF P w base T.r_ jS 1 jE:=by
 exists 0,T.r_,jS,jE,(ae (aQ (cQ K HR (pv 0) (cq gN)) (ah (ar aG)) aB)
 (ak (ah (ar (iA K rfl qx zc zT (fq K rfl) aG (bj (bL (N:=(["_law_copy"]:List Str)) (nv:=1) (ix:=[]) rfl (c9 (by kernel_rfl)) (aR K rfl (pv 0)) (fun _ _ _ _ _=>(aw 0 (show((["_law_copy"]:List Str)).Nodup by decide))) (fun _ _ _ _ _=>cj) (fun _ _ _ _ _=>(iA K rfl qx zc zT (fq K rfl) aG (bj (bL (N:=(["_law_number"]:List Str)) (nv:=1) (ix:=[]) rfl (c9 (by kernel_rfl)) (aR K rfl (pv 0)) (fun _ _ _ _ _=>(aw 0 (show((["_law_number"]:List Str)).Nodup by decide))) (fun _ _ _ _ _=>cj) (fun _ _ _ _ _=>(a_ dg (by rfl) T.mi gP (bj (pv 0)))))))))))))))
 rename_i x;obtain⟨ds,g,hD,hb,hg,q⟩:=h;obtain⟨cs,I,O,h3⟩:=hD;obtain⟨d1,d2⟩:=Gs hb;have ln:=cb O;exists 6,u1;exists 9;intro p np;have C:=aj (o:= .lst []) np;have hp:=aa (H:=H) (a:=p) (o:= .lst []);generalize upd H p (.lst [])=H1 at*
 have cd:Paired (Dn K H1 1) (cs.map V.ref) (ds.map fun d=>Dt.t [.int d.1,.int d.2.1,.int d.2.2]):=uJ (xF (bu O fun c d u=>J0 (C _ _ u) (.cons rp (.cons rp (.cons rp .nil)))));unfold dwd at q;have X:(Dt.l (ds.map fun d=>Dt.t [.int d.1,.int d.2.1,.int d.2.2]) = .l [])↔ds.length=0:=by
  constructor
  ·intro z;injection z with z;rw[List.map_eq_nil_iff] at z;rw[z];rfl
  ·intro z;rw[List.length_eq_zero_iff.mp z];rfl
 refine⟨2,_,_,by decide,wW (C _ _ I) cd,wW hp .nil,?_⟩;by_cases c:ds.length=0
 ·refine .inl ⟨X.mpr c,_,rfl,?_⟩;rw[dy (by decide)];rw[dy c] at q;exact q _ C
 refine .inr ⟨fun z=>c (X.mp z),_,rfl,?_⟩;rw[de (by decide)];rw[de c] at q;exists 7,u1;exists 9;refine g8 (bC.of (C _ _ I)) (ax (by rw[cz,ln];lia)) (fun i ys σ H'=>aA H1 H'/\ys=((ds.take i).map cwd).map V.str/\∃v,σ= [v]) ⟨aA.refl _,rfl,none,rfl⟩ (fun i ys σ H' hh=>by rw[hh.2.1,cz,cz,z1];exact aaf _ _) (fun i ys σ H' hh=>bC.of (hh.1 _ _ (C _ _ I))) (fun i y ys σ H' Z hh=>?_) (fun ys σ H' hh=>?_)
 ·obtain⟨G,rfl,v,rfl⟩:=hh;rw[j1] at Z;obtain⟨y,ey,rfl⟩:=nc.mp Z;obtain⟨d,ed,hd⟩:=jd O ey;have U:H' y=some (.tup [.int d.1,.int d.2.1,.int d.2.2]):=G _ _ (C _ _ hd);have k:=J2 (d2 d (ni ed)) hg;exists 9;refine xb (xs:=[d.1,d.2.1,d.2.2].map V.int) (p:=fun _=>true) (f:=fun v=>match v with | .int i=> .str (dec i)|_=> .non) (c6.of U) (ax (by simp)) (fun x _ Q h=>h) (fun x hx _ Q h=>?_) ?_
  ·obtain⟨i,J,rfl⟩:=h8.mp hx;obtain⟨i0,i1⟩:=k i J;exists 9;exact⟨gq i0 i1,h⟩
  refine⟨ax (by simp),fun l nl=>⟨[dec d.1,dec d.2.1,dec d.2.2],bC.of aa,?_,G.trans (aj nl),?_,_,rfl⟩⟩
  ·have b:=(p_ (g:=",") (B:=9) (ws:=[dec d.1,dec d.2.1,dec d.2.2]) (fun w hw=>by
    obtain⟨i,J,rfl⟩:=h8.mp (show w∈[d.1,d.2.1,d.2.2].map dec from hw);exact vo (k i J))).2
   have e:(Str.ofString ",").length=1:=by decide
   rw[e] at b⊢;simp only[nS,aaC] at b⊢;lia
  ·rw[ra,ed,n7,n7];rfl
 obtain⟨G,rfl,v,rfl⟩:=hh;rw[Lo (by rw[cz];lia)];refine⟨ax (by rw[cz,cz];lia),fun l nl=>⟨ds.map cwd,bC.of aa,?_,q _ ((C.trans G).trans (aj nl))⟩⟩;have b:=(p_ (g:="+") (B:=30) (ws:=ds.map cwd) (fun w hw=>by
  obtain⟨d,hd,rfl⟩:=h8.mp hw;exact J1 (d2 d hd) hg)).2
 have e:(Str.ofString "+").length=1:=by decide
 rw[e] at b⊢;rw[cz] at b⊢;lia
theorem wval {w:Ww} (h:fE w=true):w.2.2.2=V.non\/(∃i:Int,w.2.2.2 = .int i/\0<=i/\i<1000000000)\/∃z,w.2.2.2 = .str z:=by
 unfold fE xq at h;simp only[fx] at h;have v:=h.2;split at v
 ·split at v
  ·rename_i z e;exact .inr (.inr ⟨z,e⟩)
  ·cases v
 ·split at v
  ·split at v
   ·rename_i i e;unfold bO at v;simp only[fx,eM] at v;exact .inr (.inl ⟨i,e,by lia,by lia⟩)
   ·cases v
  ·rw[fx,eM] at v;exact .inl v.2
theorem YX (a b c:Str):a++b++c=a++(b++c):=uF (by simp only[ZN,Array.toList_append,List.append_assoc])
theorem QK {r o t g f l:Int}:Str.ofString "terms " ++Txt.join " " ([r,o,t,g,f,l].map dec)=trow r o t g f l:=by
 unfold trow;rw[K5,mZ,show Str.ofString "terms " = Str.ofString "terms" ++Str.ofString " " by decide+kernel]
theorem Qz {a b:Int} {w:Str} {ts:List Str}:Txt.join " " (Str.ofString "wish" ::dec a::dec b::w::ts)=Txt.join " " ((Str.ofString "wish " ++Str.ofString (toString a)++Str.ofString " " ++Str.ofString (toString b)++Str.ofString " " ++w)::ts):=by
 have e:Str.ofString "wish " = Str.ofString "wish" ++Str.ofString " " :=by decide+kernel
 cases ts with
 |nil=>
  rw[mZ,mZ,mZ,Ef,Ef,e];simp only[YX];rfl
 |cons t r=>
  rw[mZ,mZ,mZ,mZ,mZ,e];simp only[YX];rfl
theorem QX {s:Int} {i:List (List Cp)}:Str.ofString "road " ++dec s++Txt.join "" (i.map fun d=>Str.ofString " " ++dwd d)=rrow s i:=by
 unfold rrow;rw[mZ,KZ,FX,show Str.ofString "road " = Str.ofString "road" ++Str.ofString " " by decide+kernel,YX (Str.ofString "road" ++Str.ofString " ")];rfl
theorem FC:OF P w base T.Ar cx 2 qy:=by
 exists 0,T.Ar,cx,qy,(ae (ay 4 cx.1.nd (cq (bj (aE K aG (iA K rfl qx zc zT (fq K rfl) aG (bj (bL (N:=(["_law_number"]:List Str)) (nv:=1) (ix:=[]) rfl (c9 (by kernel_rfl)) (aR K rfl (pv 0)) (fun _ _ _ _ _=>(aw 0 (show((["_law_number"]:List Str)).Nodup by decide))) (fun _ _ _ _ _=>cj) (fun _ _ _ _ _=>(a_ dg (by rfl) T.mi gP (bj (pv 0)))))))))))
 (ak (ae (cJ j0 rfl (gc rfl T.fc (bj af)) (aw 5 cx.1.nd) (ah (aH (bZ K rfl (pv 4) (aE K (aE K aG (a_ dg (by rfl) T.mi gP (bj (pv 5)))) (iA K rfl qx zc zT (fq K rfl) aG (bj (bL (N:=(["_law_deed_here"]:List Str)) (nv:=1) (ix:=[]) rfl (c9 (by kernel_rfl)) (aR K rfl (av K (pv 1) (pv 5))) (fun _ _ _ _ _=>(aw 0 (show((["_law_deed_here"]:List Str)).Nodup by decide))) (fun _ _ _ _ _=>cj) (fun _ _ _ _ _=>(aE K aG (aF (y3 T) HR (bj (pv 0)))))))))))))
 (ak (ae (cJ j0 rfl (aR K rfl (pv 2)) (uN K (n:=4) rfl rfl (jw (aw 6 cx.1.nd) (jw (aw 5 cx.1.nd) (jw (aw 7 cx.1.nd) (jw (aw 8 cx.1.nd) uM))))) (ae (ay 9 cx.1.nd (aE K (aE K (aE K (aE K (aE K aG (a_ dg (by rfl) T.mi gP (bj (pv 6)))) aG) (a_ dg (by rfl) T.mi gP (bj (pv 5)))) aG) (pv 7)))
 (ak (ae (aQ (aS B7 (pv 8) bY) (ah (ay 9 cx.1.nd (aE K (aE K (pv 9) aG) (a_ dg (by rfl) T.mi gP (bj (pv 8)))))) aB)
 (ak (ah (aH (bZ K rfl (pv 4) (pv 9)))))))))
 (ak (ah (ar (aE K (pv 4) (cq (bj (aE K aG (a_ dg (by rfl) T.mi gP (bj (pv 3)))))))))))))))
 rename_i pn pr pw n;obtain⟨r,o,t,g,f,l,U,db,ws,p0,p1,hpn,hwd,hpr,hda,hdb,⟨oka,okb⟩,hW,okw,hn,q⟩:=h;have gl:=BG hwd.1;have Z:g<=60:=by have:=hwd.1.2.2.1;lia
 exists 6,u1;exists 9;refine rA (xs:=[r,o,t,g,f,l].map V.int) (p:=fun _=>true) (f:=fun v=>match v with | .int i=> .str (dec i)|_=> .non) (bC.of hpn) (ax (by simp)) (fun x _ Q h=>h) (fun x hx _ Q h=>?_) ?_
 ·obtain⟨i,hi,rfl⟩:=h8.mp hx;obtain⟨i0,i1⟩:=gl i hi;exists 9;exact⟨gq i0 i1,h⟩
 have jb:=p_ (g:=" ") (B:=9) (ws:=[r,o,t,g,f,l].map dec) (fun w hw=>by
  obtain⟨i,hi,rfl⟩:=h8.mp hw;exact vo (gl i hi))
 have e1:(Str.ofString " ").length=1:=by decide
 rw[e1,cz] at jb;simp only[nS,aaC] at jb;refine⟨ax (by simp),fun l1 nl1=>⟨[r,o,t,g,f,l].map dec,bC.of aa,by rw[e1,cz];simp only[nS,aaC];lia,(by rw[gn,show(Str.ofString "terms ").length=6 by decide];lia),fun I npp=>?_⟩⟩;rw[QK];have S1:aA H (upd (upd H l1 (.lst (List.map (fun v=>match v with | .int i=> .str (dec i)|_=> .non) (List.filter (fun _=>true) ([r,o,t,g,f,l].map V.int))))) I (.lst [V.str (trow r o t g f l)])):=(aj nl1).trans (aj npp)
 have hpp:=aa (H:=upd H l1 (.lst (List.map (fun v=>match v with | .int i=> .str (dec i)|_=> .non) (List.filter (fun _=>true) ([r,o,t,g,f,l].map V.int))))) (a:=I) (o:= .lst [V.str (trow r o t g f l)])
 have npp':=none_of (aj nl1) npp;generalize upd (upd H l1 (.lst (List.map (fun v=>match v with | .int i=> .str (dec i)|_=> .non) (List.filter (fun _=>true) ([r,o,t,g,f,l].map V.int))))) I (.lst [V.str (trow r o t g f l)])=H1 at*
 have pf:∀{b u},H b=some u->b≠I:=fun e=>ao e npp';exists 8,u1,u2;exists 9;have hT:∀i:Nat,i<2->ju H (two p0 p1 i) (two U db i)/\kD g (two U db i):=fun i hi=>by
  rcases i with _|_|i
  ·exact⟨hda,oka⟩
  ·exact⟨hdb,okb⟩
  ·lia
 refine ro (fun i σ H'=>cI I H1 H'/\H' I=some (.lst (([trow r o t g f l]++ [rrow 0 U,rrow 1 db].take i).map V.str))/\∃v5,σ= [some (V.ref pn),some (V.ref pr),some (V.ref pw),some (V.int n),some (V.ref I),v5,none,none,none,none]) ⟨cI.refl,hpp,_,rfl⟩ (fun i σ H' hi hh=>?_) (fun σ H' hh=>?_)
 ·obtain⟨bt,hl,v5,rfl⟩:=hh;have O:∀{b u},H b=some u->H' b=some u:=fun e=>bt _ _ (S1 _ _ e) (pf e);have hi2:i<2:=hi;obtain⟨hR,okR⟩:=hT i hi2;obtain⟨xs,x1,x2,x3⟩:=hR;have xl:=cb x2;have d60:=okR.2;have a1:kB [V.ref p0,V.ref p1] (i:Int)=some (V.ref (two p0 p1 i)):=at2 (f:=fun k=>V.ref (two p0 p1 k)) hi2;have di:(dec (i:Int)).length<=9:=vo (by lia);have hpr':=O hpr;rw[Int.zero_add];exists hpr',a1;have e5:(Str.ofString "road ").length=5:=by decide
  have e0:(Str.ofString "").length=0:=by decide
  have e1:(Str.ofString " ").length=1:=by decide
  have di':(Str.ofString (toString (i:Int))).length<=9:=di;refine⟨cf (bC.of hl),gq (by lia) (by lia),by rw[gn,e5];lia,?_⟩;refine g8 (bC.of (O x1)) (ax (by rw[cz,xl];lia)) (fun j ys σ G=>aA H' G/\ys=(((two U db i).take j).map fun d=>Str.ofString " " ++dwd d).map V.str/\∃v,σ= [v]) ⟨aA.refl _,rfl,none,rfl⟩ (fun j ys σ G hh=>by rw[hh.2.1,cz,cz,z1];exact aaf _ _) (fun j ys σ G hh=>bC.of (hh.1 _ _ (O x1))) (fun j y ys σ G hy hh=>?_) (fun ys σ G hh=>?_)
  ·obtain⟨X,rfl,v,rfl⟩:=hh;rw[j1] at hy;obtain⟨y,ey,rfl⟩:=nc.mp hy;obtain⟨d,ed,hd⟩:=jd x2 ey;have hd':du G y d:=hd.ik (fun b u e _=>X _ _ (O e)) fun u e=>X _ _ (O e);have db:=okR.1 d (ni ed);have dl:=JZ db Z;exists 9;refine⟨d,g,hd',db,Z,fun H3 s3=>⟨by rw[gn,e1];lia,X.trans s3,?_,_,rfl⟩⟩;rw[ra,ed,n7,n7];rfl
  obtain⟨X,rfl,v,rfl⟩:=hh;rw[Lo (by rw[cz];lia)];have jb:=p_ (g:="") (B:=94) (ws:=(two U db i).map fun d=>Str.ofString " " ++dwd d) (fun w hw=>by
   obtain⟨d,hd,rfl⟩:=h8.mp hw;have:=JZ (okR.1 d hd) Z;rw[ZZ,e1];lia)
  rw[e0,cz] at jb;refine⟨ax (by rw[cz,cz];lia),fun l2 nl2=>⟨(two U db i).map fun d=>Str.ofString " " ++dwd d,bC.of aa,by rw[e0,cz];lia,by rw[gn,ZZ,e5];lia,_,(by rw[ag (ao (X _ _ hl) nl2)];exact X _ _ hl),(by rw[gn];simp;lia),((bt.same X).new nl2).write,?_,_,rfl⟩⟩;rw[show Str.ofString "road " ++Str.ofString (toString (i:Int))++Txt.join "" ((two U db i).map fun d=>Str.ofString " " ++dwd d)=rrow i (two U db i) from QX];rcases i with _|_|i
  ·rfl
  ·rfl
  ·lia
 obtain⟨bt,hl,v5,rfl⟩:=hh;have O:∀{b u},H b=some u->H' b=some u:=fun e=>bt _ _ (S1 _ _ e) (pf e);show u2 _ _ _;exists 8,u2,u3;obtain⟨wx,w1,w2,w3⟩:=hW;have wl:=cb w2;exists 9;refine my (bC.of (O w1)) (fun i σ G=>cI I H' G/\G I=some (.lst (([trow r o t g f l,rrow 0 U,rrow 1 db]++(ws.take i).map wrow).map V.str))/\∃v5 v6 v7 v8 v9,σ= [some (V.ref pn),some (V.ref pr),some (V.ref pw),some (V.int n),some (V.ref I),v5,v6,v7,v8,v9]) ⟨cI.refl,hl,_,_,_,_,_,rfl⟩ (fun i σ G _ h=>bC.of (h.1 _ _ (O w1) (pf w1))) (fun i y σ G hy hh=>?_) (fun σ G hh=>?_)
 ·obtain⟨b2,J,v5,v6,v7,v8,v9,rfl⟩:=hh;rw[j1] at hy;obtain⟨y,ey,rfl⟩:=nc.mp hy;obtain⟨C,ew,hw'⟩:=jd w2 ey;have hy2:G y=some (.tup [.int C.1,.int C.2.1,.str C.2.2.1,C.2.2.2]):=b2 _ _ (O hw') (pf hw');have wb:=okw.2 C (ni ew);have wrl:=(EV wb).1;obtain⟨n1,n2,n3,n4⟩:=IQ wb;have l1:(Str.ofString (toString C.1)).length<=9:=vo n1;have l2:(Str.ofString (toString C.2.1)).length<=9:=vo n2;have e5:(Str.ofString "wish ").length=5:=by decide
  have e1:(Str.ofString " ").length=1:=by decide
  exists hy2;simp only[ZZ,e5,e1,gn];refine⟨gq n1.1 n1.2,by lia,by lia,gq n2.1 n2.2,by lia,by lia,by lia,?_⟩;have we:wrow C=Txt.join " " ((Str.ofString "wish " ++Str.ofString (toString C.1)++Str.ofString " " ++Str.ofString (toString C.2.1)++Str.ofString " " ++C.2.2.1)::vwd C.2.2.2):=Qz;have rl:(Str.ofString "wish " ++Str.ofString (toString C.1)++Str.ofString " " ++Str.ofString (toString C.2.1)++Str.ofString " " ++C.2.2.1).length<=40:=by simp only[ZZ,e5,e1];lia
  generalize Str.ofString "wish " ++Str.ofString (toString C.1)++Str.ofString " " ++Str.ofString (toString C.2.1)++Str.ofString " " ++C.2.2.1=rw0 at*
  refine HS fun DD eDD=>?_;exists 8,u3,u4;have fin:u4 DD [some (V.ref pn),some (V.ref pr),some (V.ref pw),some (V.int n),some (V.ref I),some (V.int C.2.1),some (V.int C.1),some (V.str C.2.2.1),some C.2.2.2,some (V.str (wrow C))] G:=by
   exists 7,u4;exists 9;refine⟨cf (bC.of J),_,J,by rw[gn];simp;lia,?_⟩;rw[eDD];refine⟨b2.write,?_,_,_,_,_,_,rfl⟩;rw[aa,ra,ew];simp
  exists 9;have fin2:∀z,vwd C.2.2.2= [z]->tE K (V.str (rw0++Str.ofString " ")) (V.str z) G fun x H1=>u4 DD [some (V.ref pn),some (V.ref pr),some (V.ref pw),some (V.int n),some (V.ref I),some (V.int C.2.1),some (V.int C.1),some (V.str C.2.2.1),some C.2.2.2,some x] H1:=fun z ez=>by
   have zl:=n4 z (by rw[ez];simp);rw[D9];refine⟨by rw[ZZ,e1,gn];lia,?_⟩;rw[show rw0++Str.ofString " " ++z=wrow C by rw[we,ez,mZ,Ef]];exact fin
  rcases wval wb with c|⟨i',c,i0,i1⟩|⟨z,c⟩
  ·rw[de (by rw[c];simp)];rw[show wrow C=rw0 by rw[we,c];rfl] at fin;exact fin
  ·rw[dy (by rw[c];simp)];refine⟨by rw[gn,e1];lia,?_⟩;have f2:=fin2 (dec i') (by rw[c];rfl);rw[c] at f2⊢;rw[yS];exact⟨gq i0 i1,f2⟩
  ·rw[dy (by rw[c];simp)];refine⟨by rw[gn,e1];lia,?_⟩;have f2:=fin2 z (by rw[c];rfl);rw[c] at f2⊢;exact f2
 ·obtain⟨b2,J,v5,v6,v7,v8,v9,rfl⟩:=hh;rw[cz,wl,ZL] at J;show pC _ _ _ _;rw[pC];exists 9;have e5:(Str.ofString "turn ").length=5:=by decide
  have dn:=vo (n:=n) (by lia);have dn':(Str.ofString (toString n)).length<=9:=dn;refine⟨gq (by lia) (by lia),by rw[gn,e5];lia,?_⟩;exists 9;intro q1 nq1;refine nL (aM J nq1) aa (by rw[gn];simp;lia) ?_;intro q2 nq2;refine q q2 _ (fun b u e=>aM (aM (b2 _ _ (O e) (pf e)) nq1) nq2) ?_;rw[aa];unfold krow;rw[show Txt.join " " ["turn",dec n]=Str.ofString "turn " ++Str.ofString (toString n) by rw[mZ,Ef,show Str.ofString "turn " = Str.ofString "turn" ++Str.ofString " " by decide+kernel];rfl];simp
theorem Fy:OF P w base T.Ap cX 9 (qv K):=by
 exists 0,T.Ap,cX,qv,(ae (Rm (pv 0) (uN K (n:=6) rfl rfl (jw (aw 3 cX.1.nd) (jw (aw 4 cX.1.nd) (jw (aw 5 cX.1.nd) (jw (aw 6 cX.1.nd) (jw (aw 7 cX.1.nd) (jw (aw 8 cX.1.nd) uM))))))))
 (ak (ah (ar (o7 T.aP (y9 T) HR (by decide) rfl (aZ (o7 T.cL (xO T) HR (by decide) rfl (aZ (pv 3) (aZ (ba (bP (pv 4) (pv 5))) (aZ (pv 6) (bP (pv 7) (pv 8)))))) (bP (ba (bP (av K (pv 1) af) (av K (pv 1) af))) (pv 2))))))))
 rename_i pn pr pw;obtain⟨r,o,t,g,f,l,da,db,ws,Q,O,p2,hpn,v,hpr,Z,hdb,⟨oka,okb⟩,hW,X,q⟩:=h;exists 6,u1;exists hpn;exists 7,u1;exists 9;intro pt npt tm dt y ndt _;have S1:=aj (o:= .tup [V.int o,V.int t]) npt;have F:=aa (H:=H) (a:=pt) (o:= .tup [V.int o,V.int t]);generalize upd H pt (.tup [V.int o,V.int t])=H1 at*
 have S2:=cH (C:=d7) (fs:=[]) y ndt;refine⟨o,t,dt,S2 _ _ F,rfl,v.1,v.2,fun U b2 h2=>?_⟩;have I:aA H1 U:=cI.nw y S2 b2;have SA:=S1.trans I;have hT:Dc d7 U tm r o t g f l:=⟨dt,pt,h2,I _ _ F⟩;have G:H tm=none:=none_of S1 y;exists SA _ _ hpr;intro pp npp x dx nx ndx _;have S3:=aj (o:= .tup [V.ref Q,V.ref O]) npp;have hpp:=aa (H:=U) (a:=pp) (o:= .tup [V.ref Q,V.ref O]);generalize upd U pp (.tup [V.ref Q,V.ref O])=H3 at*
 have S4:=cH (C:=bp) (fs:=[]) nx ndx;have z:=SA.trans S3;have i:=z.trans S4;refine⟨dx,r,o,t,g,f,l,Q,O,da,db,ws,rfl,(hT.same S3).same S4,v.1,S4 _ _ hpp,Z.same i,hdb.same i,⟨oka,okb⟩,hW.same i,X,fun ow W M H5 b5 X5 o9=>?_⟩;have J:H x=none:=none_of z nx;exact q x ow W M tm H5 (fun b u e=>b5 _ _ (i _ _ e) (ao e J)) X5 (fun b u e=>o9 _ _ (i _ _ e) (ao e J) (ao e G))
theorem BR {K:W.Frag} {H H':Hp} {a:Addr} {xs:List V} (h:bC K H a xs) (s:aA H H'):bC K H' a xs:=by
 rcases h with(h|⟨o,h⟩)|h
 ·exact .inl (.inl (s _ _ h))
 ·exact .inl (.inr ⟨o,s _ _ h⟩)
 ·exact .inr h
theorem yE.LS {v H H':Hp} {p:Addr} {i:List (List Cp)} (h:yE v H p i) (s:aA H H'):ju H' p i:=by
 obtain⟨_,xs,C,y,z⟩:=h;exact⟨xs,s _ _ C,bu y fun x ds q=>q.2.same s,z⟩
theorem XO {xs:List V}:(xa xs (some 5) (some 63)).length<=58:=by
 unfold xa;rw[z1];refine h7 (Nat.min_le_left _ _) ?_;show min 63 xs.length-min 5 xs.length<=58;omega
def YV (d:Cp):Dt:= .t [.int d.1,.int d.2.1,.int d.2.2]
def YB (i:List (List Cp)):Dt:= .l (i.map fun ds=>Dt.l (ds.map YV))
def vD:V->Dt
 | .int i=> .int i
 | .str z=> .str z
 |_=> .non
noncomputable def Zo (ws:List Ww):Dt:= .l (ws.map fun w=>Dt.t [.int w.1,.int w.2.1,.str w.2.2.1,vD w.2.2.2])
theorem Fe {H:Hp} {p:Addr} {i:List (List Cp)} (h:ju H p i):Dn K H 3 (.ref p) (YB i):=by
 obtain⟨xs,C,y,_⟩:=h;refine wW C (uJ (xF (bu y fun x ds q=>?_)));obtain⟨cs,z,v,_⟩:=q;exact wW z (uJ (xF (bu v fun c d u=>J0 u (.cons rp (.cons rp (.cons rp .nil))))))
theorem NA {H:Hp} {p:Addr} {ws:List Ww} (h:qk H p ws) (v:∀w∈ws,fE w=true):Dn K H 3 (.ref p) (Zo ws):=by
 obtain⟨xs,y,C,_⟩:=h;refine Dn.up (n:=2) (wW y (uJ (xF ?_))) (by decide);have key:∀{xs:List Addr} {ws:List Ww},Paired (Qp H) xs ws->(∀w∈ws,fE w=true)->Paired (fun x (w:Ww)=>Dn K H 1 (.ref x) (Dt.t [.int w.1,.int w.2.1,.str w.2.2.1,vD w.2.2.2])) xs ws:=by
  intro xs ws hp
  induction hp with
  |nil=>intro _;exact .nil
  |cons r t F=>
   intro v;refine .cons (J0 r (.cons rp (.cons rp (.cons PL (.cons ?_ .nil))))) (F fun w hw=>v w (sh _ hw));rcases wval (v _ (ZG ..)) with c|⟨i,c,_⟩|⟨z,c⟩<;>rw[c]
   ·exact .inl ⟨rfl,rfl⟩
   ·exact rp
   ·exact PL
 exact key C v
theorem eP.all {c:Cl} {y:Addr->Nat} {H H':Hp} {x:Addr} {W:Wa} {e:We} {p:Cn} (h:eP 99 c K y H x W e p) (f:Fo 9 y H H'):eP 99 c K y H' x W e p:=by
 have g:=h.fo f (by decide);exact{g with hx:=fun _=>g.hx (by decide),a:=fun i v _=>g.a i v (by lia),b:=fun i v _=>g.b i v (by lia),t:=fun _=>g.t (by decide),u:=fun i v _=>g.u i v (by lia)}
noncomputable def IA (ws:List Ww) (n:Int):Nat:=(ws.filter fun w=>decide (w.1<n)).length
theorem Iz (n:Int):∀ws:List Ww,IA ws (n+1)=IA ws n+fJ ws n
 | []=>rfl
 |w::r=>by
  have i:=Iz n r;unfold IA fJ at i⊢;rw[ZI,ZI,ZI];by_cases v:w.1<n
  ·rw[dy (by simp;lia),dy (by simp;lia),de (by simp;lia)];simp only[nS];lia
  ·by_cases x:w.1=n
   ·rw[dy (by simp;lia),de (by simp;lia),dy (by simp;lia)];simp only[nS];lia
   ·rw[de (by simp;lia),de (by simp;lia),de (by simp;lia)];exact i
noncomputable def cA (ws:List Ww) (n:Nat):Cn:=⟨12*(n*n),2*n,1+15*IA ws n+4*n,6*n,100000*n⟩
theorem SK {ws:List Ww} {n:Nat} (hw:ws.length<=58) (hn:n<=6):((cA ws n).step (fJ ws n)).ok/\((cA ws n).step (fJ ws n)).le (cA ws (n+1)):=by
 have b:=Iz n ws;have i:IA ws (n+1)<=ws.length:=me _ _;have e:(n+1)*(n+1)=n*n+2*n+1:=by simp only[Nat.add_mul,Nat.mul_add];lia
 have c:((n+1:Nat):Int)=(n:Int)+1:=by lia
 have m6:n*n<=36:=Nat.mul_le_mul hn hn;refine⟨⟨?_,?_,?_,?_,?_⟩,⟨?_,?_,?_,?_,?_⟩⟩
 ·show 12*(n*n)+4*(6*n)+2<=600;lia
 ·show 2*n+2<=420;lia
 ·show 1+15*IA ws n+4*n+15*fJ ws n+4<=930;lia
 ·show 6*n+6<64;lia
 ·show 100000*n+2*(6*n)+1002*fJ ws n+3000<=1000000;lia
 ·show 12*(n*n)+4*(6*n)+2<=12*((n+1)*(n+1));rw[e];lia
 ·show 2*n+2<=2*(n+1);lia
 ·show 1+15*IA ws n+4*n+15*fJ ws n+4<=1+15*IA ws ((n+1:Nat):Int)+4*(n+1);rw[c,b];lia
 ·show 6*n+6<=6*(n+1);lia
 ·show 100000*n+2*(6*n)+1002*fJ ws n+3000<=100000*(n+1);lia
theorem Lj {H:Hp} {p:Addr} {C:List (List Cp)} {Q:List V->Hp->Prop} (R:ju H p C) (q:∀zs H',aA H H'->Paired (fun x ds=>H x=none/\du H' x ds) zs C->zs.length<=1000->Q (zs.map V.ref) H'):xA K (V.ref p) H fun J H2=>mh J (ou 0) T2 (V3 (wq K) (rG (EY 0) yM)) [none] H2 Q:=by
 obtain⟨xs,I,U,X⟩:=R;have ln:=cb U;refine g8 (bC.of I) (ax (by rw[cz,ln];exact X)) (fun i ys σ H'=>aA H H'/\∃zs:List Addr,ys=zs.map V.ref/\Paired (fun x ds=>H x=none/\du H' x ds) zs (C.take i)/\∃v,σ= [v]) ⟨aA.refl _,[],rfl,.nil,none,rfl⟩ (fun i ys σ H' hh=>?_) (fun i ys σ H' hh=>bC.of (hh.1 _ _ I)) (fun i y ys σ H' O hh=>?_) (fun ys σ H' hh=>?_)
 ·obtain⟨_,zs,e,p,_⟩:=hh;rw[e,cz,dq p];exact List.length_take_le _ _
 ·obtain⟨F,zs,e,p,v,z⟩:=hh;subst z e;rw[j1] at O;obtain⟨y,ey,rfl⟩:=nc.mp O;obtain⟨ds,G,hD⟩:=kj U ey;obtain⟨cs,d1,Z,d3⟩:=hD.same F;exists 9;refine⟨_,.inl (bC.of d1),fun l nl=>⟨F.trans (aj nl),zs++ [l],by simp,?_⟩⟩;rw[ra,G];refine⟨?_,_,rfl⟩;exact nX (R:=fun x ds=>H x=none/\du (upd H' l (.lst (cs.map V.ref))) x ds) (y:=ds) (bK p fun a b q=>⟨q.1,q.2.same (aj nl)⟩) ⟨none_of F nl,cs,aa,bK Z (fun c d q=>aM q nl),d3⟩
 ·obtain⟨F,zs,e,p,v,z⟩:=hh;subst z e;rw[cz,ln,ZL] at p;exact q zs H' F p (by rw[cb p];exact X)
theorem pmem {H0 H:Hp} {ys:List Addr} {i:List (List Cp)} (p:Paired (fun x ds=>H0 x=none/\du H x ds) ys i):∀y∈ys,H0 y=none/\∃v,H y=some (.lst v)/\v.length<=1000:=fun y z=>by
 obtain⟨k,hk⟩:=List.getElem?_of_mem z;obtain⟨ds,_,q,cs,F,C,G⟩:=jd p hk;exact⟨q,_,F,by rw[cz,cb C];exact G⟩
theorem UW (T:Txt K mg):FnAt P w K mg base Wd "law" 10 ["_law_script"] (D4 K):=by
 refine T.TL.fn iS.1 iS.2 (fun vs H Q E h=>?_) fun f cdv A outer s H vs Q E HR h=>?_
 ·unfold D4 at h;split at h<;>first|rfl|exact h.elim
 ·unfold D4 at h;split at h
  ·rename_i a;obtain⟨ns,hS,hl,hq,q⟩:=h;refine qex (i9 ⟨(ay 1 iS.1.nd (aF (AZ T) HR (bP (aF (fm T) HR (bP (pv 0) af)) (aF (fm T) HR (bP (pv 0) af)))))⟩
 (i8 (i9 (KC (i:=2) iS.1.nd rfl (.inl rfl) (Ow (B6 ⟨(aF (vx T) HR (bP (aF (fm T) HR (bP (pv 0) af)) (av K (pv 1) af)))⟩ (B6 ⟨(aF (vx T) HR (bP (aF (fm T) HR (bP (pv 0) af)) (av K (pv 1) af)))⟩ Jj))))
 (i8 (i9 ⟨(Fl (i:=3) (N:=(["_law_cell"]:List Str)) (nv:=1) (ix:=[]) rfl iS.1.nd rfl rfl (c9 (by kernel_rfl)) (aR K rfl (xG (QV K rfl) (pv 0) (uK af) (uK af))) (fun _ _ _ _ _=>(aw 0 (show((["_law_cell"]:List Str)).Nodup by decide))) (fun _ _ _ _ _=>cj) (fun _ _ _ _ _=>(aF (Fx T) HR (bj (pv 0)))))⟩
 (i8 (i9 (KC (i:=4) iS.1.nd rfl (.inl rfl) (Ow (B6 ⟨(bL (N:=(["_law_deed_here"]:List Str)) (nv:=1) (ix:=[]) rfl (c9 (by kernel_rfl)) (aR K rfl (av K (pv 2) af)) (fun _ _ _ _ _=>(aw 0 (show((["_law_deed_here"]:List Str)).Nodup by decide))) (fun _ _ _ _ _=>cj) (fun _ _ _ _ _=>(a_ (fW K rfl) (by rfl) T.xf rB (bj (pv 0)))))⟩ (B6 ⟨(bL (N:=(["_law_deed_here"]:List Str)) (nv:=1) (ix:=[]) rfl (c9 (by kernel_rfl)) (aR K rfl (av K (pv 2) af)) (fun _ _ _ _ _=>(aw 0 (show((["_law_deed_here"]:List Str)).Nodup by decide))) (fun _ _ _ _ _=>cj) (fun _ _ _ _ _=>(a_ (fW K rfl) (by rfl) T.xf rB (bj (pv 0)))))⟩ (B6 ⟨(a_ (fW K rfl) (by rfl) T.xf rB (bj (pv 3)))⟩ Jj)))))
 (i8 (i9 ⟨(ay 5 iS.1.nd (aF (Fy T) HR (aZ (pv 1) (bP (pv 4) (av K (pv 4) af)))))⟩
 (i8 (i9 (WC (wu K HR (pv 4) (cq (aZ (av K (pv 2) af) (bP (av K (pv 2) af) (pv 3))))) (Fj ⟨(ar gr)⟩) Rj)
 (i8 (i9 ⟨(cJ j0 rfl (aR K rfl (xG (QV K rfl) (pv 4) KI (uK af))) (aw 6 iS.1.nd) (ah (cJ j0 rfl (gc rfl T.fc (bj (aD (eI K rfl) (by rfl) T.gv dH (bj (pv 6))))) (aw 7 iS.1.nd) (ah (aH (bZ K rfl (av K (pv 6) (pv 7)) (ba (aZ af (bP af af)))))))))⟩
 (i8 (i9 ⟨(cJ j0 rfl (gc rfl T.fc (bj af)) (aw 7 iS.1.nd) (ah (aH (OI aab PySem.F.slot_list_clear PySem.F.type_list_clear OZ (av K (pv 4) (pv 7))))))⟩
 (i8 (i9 ⟨(cJ j0 rfl (gc rfl T.fc (bj (aE K af (au bE (aF (fm T) HR (bP (pv 0) af)) af)))) (aw 8 iS.1.nd) (qY (aQ (aS mT (pv 8) af) (ah (aH (bQ (pv 5) T.aP (FE T) HR))) aB)
 (ak (ae (ay 9 iS.1.nd (aF (RT T) HR (bj (pv 5))))
 (ak (ae (aQ (PW.pt (pw_or (eZ (mq (aD (uT K rfl) (by rfl) T.cN cw (bP (pv 9) (vv rfl T.mi gP))))) (pw_or1 (wu K HR (pv 9) (iA K rfl qx zc zT (fq K rfl) aG (bj (aF (FC T) HR (aZ (pv 1) (aZ (pv 2) (bP (pv 3) (pv 8))))))))))) (ah (ar gr)) aB)
 (ak (ah (aQ (wu K HR (ai (pv 5) T.aP T.bJ) (pv 8)) (ah (ar gr)) aB)))))))))⟩
 (i8 (Fj ⟨(ar gr)⟩))))))))))))))))))) ?_
   exists 6,u1;exists 9;refine⟨ns,hS,fun c0=>⟨ns,hS,fun c1 pn r o t g f' l H1 S1 hpn hwd=>?_⟩⟩;have hS1:=BR hS S1;have hg:1<=g/\g<=32:=hwd.1.2.2.1;exists 8,u1,u2;exists hpn;refine⟨ns,hS1,fun c2=>⟨hg,fun p0 da H2 s2 rn0 ok0=>?_⟩⟩;exists s2 _ _ hpn;refine⟨ns,BR hS1 s2,fun c3=>⟨hg,fun p1 db H3 s3 rn1 ok1 lr nlr=>?_⟩⟩;have S13:=s2.trans s3;have S4:=S13.trans (aj (o:= .lst [V.ref p0,V.ref p1]) nlr);have hlr:=aa (H:=H3) (a:=lr) (o:= .lst [V.ref p0,V.ref p1]);have s4:=aj (o:= .lst [V.ref p0,V.ref p1]) nlr;have R0:ju H3 p0 da:=yE.LS rn0 s3;have R1:ju H3 p1 db:=yE.LS rn1 (aA.refl _);have R0:=R0.same s4;have R1:=R1.same s4;have hpn4:=S4 _ _ hpn;have hS4:=BR hS1 S4;generalize upd H3 lr (.lst [V.ref p0,V.ref p1])=H4 at*
   clear rn0 rn1 s2 s3 s4 S13 hpn nlr hS1;exists 8,u2,u3;exists 9;refine D8 hS4 fun l1 nl1=>?_;have s5:=aj (o:= .lst (xa (ns.map V.int) (some 5) (some 63))) nl1;have hl1:=aa (H:=H4) (a:=l1) (o:= .lst (xa (ns.map V.int) (some 5) (some 63)));show xA K (V.ref l1) (upd H4 l1 (.lst (xa (ns.map V.int) (some 5) (some 63)))) _;generalize upd H4 l1 (.lst (xa (ns.map V.int) (some 5) (some 63)))=H5 at*
   have cl:(xa (ns.map V.int) (some 5) (some 63)).length<=58:=XO;have cm:∀v∈xa (ns.map V.int) (some 5) (some 63),∃i:Int,v = .int i:=fun v hv=>by
    obtain⟨i,_,rfl⟩:=h8.mp (List.mem_of_mem_drop (List.mem_of_mem_take hv));exact⟨i,rfl⟩
   generalize xa (ns.map V.int) (some 5) (some 63)=cs at*
   refine g8 (bC.of hl1) (ax (by lia)) (fun i ys σ H'=>aA H5 H'/\(∃zs:List Addr,∃ws:List Ww,ys=zs.map V.ref/\Paired (Qp H') zs ws/\ws.length=i/\∀w∈ws,fE w=true)/\∃v,σ= [v]) ⟨aA.refl _,⟨[],[],rfl,.nil,rfl,fun d hd=>absurd hd hL⟩,none,rfl⟩ (fun i ys σ H' hh=>?_) (fun i ys σ H' hh=>bC.of (hh.1 _ _ hl1)) (fun i y ys σ H' C hh=>?_) (fun ys σ H6 hh=>?_)
   ·obtain⟨_,⟨zs,ws,rfl,h2,h3,_⟩,_⟩:=hh;rw[cz,cb h2,h3];exact cv _
   ·obtain⟨sm,⟨zs,ws,rfl,h2,h3,h4⟩,v,rfl⟩:=hh;obtain⟨ci,rfl⟩:=cm y (ni C);exists 9;refine fun x w' H7 s7 hx hb=>⟨sm.trans s7,⟨zs++ [x],ws++ [w'],by simp,qZ (bu h2 fun a b u=>s7 _ _ u) (.cons hx .nil),by simp[h3],fun d hd=>?_⟩,_,rfl⟩;rcases Zy.mp hd with hd|hd
    ·exact h4 d hd
    ·rw[hQ.mp hd];exact hb
   obtain⟨sm,⟨zs,ws,rfl,h2,h3,h4⟩,v,rfl⟩:=hh;have zl:=cb h2;refine⟨ax (by rw[cz];lia),fun lw nlw=>?_⟩;have okw:ws.length<=60/\∀w∈ws,fE w=true:=⟨by lia,h4⟩;have s7:=aj (o:= .lst (zs.map V.ref)) nlw;have hW:qk (upd H6 lw (.lst (zs.map V.ref))) lw ws:=⟨zs,aa,bu h2 fun a b u=>s7 _ _ u,by lia⟩;have S47:=(s5.trans sm).trans s7;generalize upd H6 lw (.lst (zs.map V.ref))=H7 at*
   have R0:=R0.same S47;have R1:=R1.same S47;have hlr:=S47 _ _ hlr;have hpn7:=S47 _ _ hpn4;have hS7:=BR hS4 S47;clear s5 hl1 sm h2 s7 S47 nlw nl1 hpn4 hS4 S4 cm;exists 8,u3,u4;exists hlr;refine Lj R0 fun J H8 s8 py0 yl0=>⟨ax (by rw[cz];exact yl0),fun e0 ne0=>?_⟩;have t8:=aj (o:= .lst (J.map V.ref)) ne0;have S8:=s8.trans t8;rw[S8 _ _ hlr,K3];refine⟨_,rfl,?_⟩;have E0:yE H7 (upd H8 e0 (.lst (J.map V.ref))) e0 da:=⟨none_of s8 ne0,J,aa,bu py0 fun a b u=>⟨u.1,u.2.same t8⟩,by rw[<-cb py0];exact yl0⟩;have he0':=aa (H:=H8) (a:=e0) (o:= .lst (J.map V.ref));generalize upd H8 e0 (.lst (J.map V.ref))=H9 at*
   refine Lj (R1.same S8) fun O H10 s10 py1 yl1=>⟨ax (by rw[cz];exact yl1),fun e1 ne1=>?_⟩;have t10:=aj (o:= .lst (O.map V.ref)) ne1;have S10:=s10.trans t10;have E1:yE H9 (upd H10 e1 (.lst (O.map V.ref))) e1 db:=⟨none_of s10 ne1,O,aa,bu py1 fun a b u=>⟨u.1,u.2.same t10⟩,by rw[<-cb py1];exact yl1⟩;have he1':=aa (H:=H10) (a:=e1) (o:= .lst (O.map V.ref));generalize upd H10 e1 (.lst (O.map V.ref))=H11 at*
   have S711:=S8.trans S10;obtain⟨wx,w1,w2,w3⟩:=hW.same S711;refine⟨_,.inl (bC.of w1),fun e2 ne2 hd nhd=>?_⟩;have U:=(aj (o:= .lst (wx.map V.ref)) ne2).trans (aj (o:= .lst [V.ref e0,V.ref e1,V.ref e2]) nhd);have he2:=aj (o:= .lst [V.ref e0,V.ref e1,V.ref e2]) nhd _ _ (aa (H:=H11) (a:=e2) (o:= .lst (wx.map V.ref)));have hhd:=aa (H:=upd H11 e2 (.lst (wx.map V.ref))) (a:=hd) (o:= .lst [V.ref e0,V.ref e1,V.ref e2]);have nhd':=none_of (aj (o:= .lst (wx.map V.ref)) ne2) nhd;have n2d:e2≠hd:=fun z=>by rw[<-z,aa] at nhd;cases nhd
   generalize upd (upd H11 e2 (.lst (wx.map V.ref))) hd (.lst [V.ref e0,V.ref e1,V.ref e2])=H12 at*
   have S712:=S711.trans U;have W2:qk H12 e2 ws:=⟨wx,he2,bu w2 fun a b u=>U _ _ u,w3⟩;exists 8,u4,u5;exists hhd;refine⟨r,o,t,g,f',l,da,db,ws,e0,e1,e2,S712 _ _ hpn7,hwd,rfl,yE.LS E0 (S10.trans U),yE.LS E1 U,⟨ok0,ok1⟩,W2,okw,fun x ow W M tm H13 S13 X o9=>?_⟩;have S7:=S712.trans S13;have R0':ju H13 p0 da:=R0.same S7;have R1':ju H13 p1 db:=R1.same S7;have hlr':=S7 _ _ hlr;have hW':=hW.same S7;have hhd':=S13 _ _ hhd;exists 8,u5,u6;exists hlr';intro lq nlq;have G:=aj (o:= .lst [V.ref p0,V.ref p1,V.ref lw]) nlq;have hlq:=aa (H:=H13) (a:=lq) (o:= .lst [V.ref p0,V.ref p1,V.ref lw]);generalize upd H13 lq (.lst [V.ref p0,V.ref p1,V.ref lw])=H14 at*
   have E0':ju H14 e0 da:=yE.LS E0 (((S10.trans U).trans S13).trans G);have E1':ju H14 e1 db:=yE.LS E1 ((U.trans S13).trans G);have W2':qk H14 e2 ws:=(W2.same S13).same G;refine⟨4,_,_,by decide,wW (G _ _ hhd') (.cons (Fe E0') (.cons (Fe E1') (.cons (NA W2' okw.2) .nil))),wW hlq (.cons (Fe (R0'.same G)) (.cons (Fe (R1'.same G)) (.cons (NA (hW'.same G) okw.2) .nil))),.inl ⟨rfl,?_⟩⟩;refine⟨_,rfl,?_⟩;rw[de (by decide)];have X14:=X.same G;have hhd14:=G _ _ hhd';have y0l:∀y∈J,∃Z,H14 y=some (.lst Z)/\Z.length<=1000:=fun y C=>by
    obtain⟨_,_,c1,c3⟩:=pmem py0 _ C;exact⟨_,G _ _ (S13 _ _ (U _ _ (S10 _ _ (t8 _ _ c1)))),c3⟩
   have y1l:∀y∈O,∃Z,H14 y=some (.lst Z)/\Z.length<=1000:=fun y C=>by
    obtain⟨_,_,c1,c3⟩:=pmem py1 _ C;exact⟨_,G _ _ (S13 _ _ (U _ _ (t10 _ _ c1))),c3⟩
   have V9:∀y,(y∈J\/y∈O\/y=e0\/y=e1\/y=e2)->H7 y=none:=fun y C=>by
    rcases C with C|C|rfl|rfl|rfl
    ·exact(pmem py0 _ C).1
    ·exact none_of S8 (pmem py1 _ C).1
    ·exact E0.1
    ·exact none_of S8 E1.1
    ·exact none_of S711 ne2
   have he0:H14 e0=some (.lst (J.map V.ref)):=G _ _ (S13 _ _ (U _ _ (S10 _ _ he0')));have he1:H14 e1=some (.lst (O.map V.ref)):=G _ _ (S13 _ _ (U _ _ he1'));have he2':H14 e2=some (.lst (wx.map V.ref)):=G _ _ (S13 _ _ he2);have yl0':J.length<=60:=by rw[cb py0];exact ok0.2
   have yl1':O.length<=60:=by rw[cb py1];exact ok1.2
   have o9':∀y,(y∈J\/y∈O\/y=e0\/y=e1\/y=e2)->ow y=9:=fun y C=>by
    rcases C with C|C|rfl|rfl|rfl
    ·obtain⟨_,_,c1,_⟩:=pmem py0 _ C;exact o9 _ _ (U _ _ (S10 _ _ (t8 _ _ c1)))
    ·obtain⟨_,_,c1,_⟩:=pmem py1 _ C;exact o9 _ _ (U _ _ (t10 _ _ c1))
    ·exact o9 _ _ (U _ _ (S10 _ _ he0'))
    ·exact o9 _ _ (U _ _ he1')
    ·exact o9 _ _ he2
   have nhe:hd≠e0/\hd≠e1/\hd≠e2/\hd ∉ J/\hd ∉ O:=by
    have n':∀{b u},H11 b=some u->hd≠b:=fun e z=>by rw[z,e] at nhd';cases nhd'
    refine⟨n' (S10 _ _ he0'),n' he1',n2d.symm,fun C=>?_,fun C=>?_⟩
    ·obtain⟨_,_,c1,_⟩:=pmem py0 _ C;exact n' (S10 _ _ (t8 _ _ c1)) rfl
    ·obtain⟨_,_,c1,_⟩:=pmem py1 _ C;exact n' (t10 _ _ c1) rfl
   have ne01:e0 ∉ J/\e0 ∉ O/\e1 ∉ J/\e1 ∉ O:=by
    refine⟨fun C=>?_,fun C=>?_,fun C=>?_,fun C=>?_⟩
    ·obtain⟨_,_,c1,_⟩:=pmem py0 _ C;rw[ne0] at c1;cases c1
    ·have:=(pmem py1 _ C).1;rw[he0'] at this;cases this
    ·obtain⟨_,_,c1,_⟩:=pmem py0 _ C;have:=s10 _ _ (t8 _ _ c1);rw[ne1] at this;cases this
    ·obtain⟨_,_,c1,_⟩:=pmem py1 _ C;rw[ne1] at c1;cases c1
   exists 8,u6,u7;exists 9;refine D8 (bC.of hhd14) fun l2 nl2=>?_;show xA K (V.ref l2) (upd H14 l2 (.lst [V.ref e0,V.ref e1])) _;have I:=aj (o:= .lst [V.ref e0,V.ref e1]) nl2;have hl2:=aa (H:=H14) (a:=l2) (o:= .lst [V.ref e0,V.ref e1]);have nly:l2 ∉ J/\l2 ∉ O:=⟨(fun C=>by obtain⟨Z,q1,_⟩:=y0l _ C;rw[nl2] at q1;cases q1),(fun C=>by obtain⟨Z,q1,_⟩:=y1l _ C;rw[nl2] at q1;cases q1)⟩;generalize upd H14 l2 (.lst [V.ref e0,V.ref e1])=H15 at*
   have hT:∀i:Nat,i<2->H15 (two e0 e1 i)=some (.lst ((two J O i).map V.ref))/\two e0 e1 i ∉ J/\two e0 e1 i ∉ O/\(two J O i).length<=60/\∀y∈two J O i,y∈J\/y∈O:=fun i hi=>by
    rcases i with _|_|i
    ·exact⟨I _ _ he0,ne01.1,ne01.2.1,yl0',fun y C=> .inl C⟩
    ·exact⟨I _ _ he1,ne01.2.2.1,ne01.2.2.2,yl1',fun y C=> .inr C⟩
    ·lia
   have iT:∀{i:Nat} {y:V},[V.ref e0,V.ref e1][i]?=some y->i<2/\y=V.ref (two e0 e1 i):=fun{i y} C=>by
    rcases i with _|_|i
    ·exact⟨by lia,(Zz C).symm⟩
    ·exact⟨by lia,(Zz C).symm⟩
    ·cases C
   refine my (bC.of hl2) (fun i σ H'=>(∀b u,H15 b=some u->b ∉ J->b ∉ O->H' b=some u)/\(∀y,(y∈J\/y∈O)->∃Z,H' y=some (.lst Z)/\Z.length<=1000+60*i)/\∃v6 v7,σ= [some (V.ref a),some (V.ref pn),some (V.ref lr),some (V.ref lw),some (V.ref hd),some (V.ref x),v6,v7,none,none]) ⟨fun b u e _ _=>e,(fun y C=>by
     rcases C with C|C
     ·obtain⟨Z,q1,q2⟩:=y0l _ C;exact⟨Z,I _ _ q1,q2⟩
     ·obtain⟨Z,q1,q2⟩:=y1l _ C;exact⟨Z,I _ _ q1,q2⟩),_,_,rfl⟩ (fun i σ H' _ h=>bC.of (h.1 _ _ hl2 nly.1 nly.2)) (fun i y σ H' C hh=>?_) (fun σ H16 hh=>?_)
   ·obtain⟨ka,kc,v6,v7,rfl⟩:=hh;obtain⟨hi,rfl⟩:=iT C;obtain⟨x1,x2,x3,x4,x5⟩:=hT i hi;have hx':=ka _ _ x1 x2 x3;exists hx';refine⟨⟨by lia,by rw[cz];lia⟩,?_⟩;refine ro (fun k σ H2=>(∀b u,H15 b=some u->b ∉ J->b ∉ O->H2 b=some u)/\(∀y,(y∈J\/y∈O)->∃Z,H2 y=some (.lst Z)/\Z.length<=1000+60*i+k)/\∃v7,σ= [some (V.ref a),some (V.ref pn),some (V.ref lr),some (V.ref lw),some (V.ref hd),some (V.ref x),some (V.ref (two e0 e1 i)),v7,none,none]) ⟨ka,kc,_,rfl⟩ (fun k σ H2 hk hh=>?_) (fun σ H2 hh=>?_)
    ·obtain⟨ka,kc,v7,rfl⟩:=hh;have hk':k<(two J O i).length:=by rw[cz] at hk;lia
     have Nv:=ka _ _ x1 x2 x3;obtain⟨Z,q1,q2⟩:=kc _ (x5 _ (aaa hk'));have a1:kB ((two J O i).map V.ref) (k:Int)=some (V.ref ((two J O i)[k])):=sJ (by rw[j1,mu hk'];rfl);have ym:=x5 _ (aaa hk');rw[Int.zero_add];generalize(two J O i)[k]=yk at*
     exists Nv,a1;refine⟨cf (bC.of q1),fun b nb=>?_⟩;have yb:yk≠b:=ao q1 nb;refine⟨Z,by rw[ag yb];exact q1,by rw[gn];lia,fun c u e n0 n1=>?_,fun y C=>?_,_,rfl⟩
     ·have cy:c≠yk:=fun z=>by rcases ym with m|m;exact n0 (by rw[z];exact m);exact n1 (by rw[z];exact m)
      rw[ag cy];exact aM (ka _ _ e n0 n1) nb
     ·by_cases z:y=yk
      ·subst z;exact⟨_,aa,by rw[ib];simp;lia⟩
      ·obtain⟨l3,r1,r2⟩:=kc y C;exact⟨l3,by rw[ag z];exact aM r1 nb,by lia⟩
    ·obtain⟨ka,kc,v7,rfl⟩:=hh;exact⟨ka,fun y C=>(by
      obtain⟨Z,q1,q2⟩:=kc y C;exact⟨Z,q1,by rw[cz] at q2;lia⟩),_,_,rfl⟩
   obtain⟨ka,kc,v6,v7,rfl⟩:=hh;show u7 _ _ _;exists 8,u7,u8;exists 9;have hhd16:=ka _ _ (I _ _ hhd14) nhe.2.2.2.1 nhe.2.2.2.2;have e2n:e2 ∉ J/\e2 ∉ O:=by
    have n':∀{b u},H11 b=some u->e2≠b:=fun e z=>by rw[z,e] at ne2;cases ne2
    refine⟨fun C=>?_,fun C=>?_⟩
    ·obtain⟨_,_,c1,_⟩:=pmem py0 _ C;exact n' (S10 _ _ (t8 _ _ c1)) rfl
    ·obtain⟨_,_,c1,_⟩:=pmem py1 _ C;exact n' (t10 _ _ c1) rfl
   have eL:∀y,(y=e0\/y=e1\/y=e2)->∃Z,H16 y=some (.lst Z):=fun y C=>by
    rcases C with rfl|rfl|rfl
    ·exact⟨_,ka _ _ (I _ _ he0) ne01.1 ne01.2.1⟩
    ·exact⟨_,ka _ _ (I _ _ he1) ne01.2.2.1 ne01.2.2.2⟩
    ·exact⟨_,ka _ _ (I _ _ he2') e2n.1 e2n.2⟩
   have iE:∀k:Nat,k<3->∃z,kB [V.ref e0,V.ref e1,V.ref e2] (k:Int)=some (V.ref z)/\(z=e0\/z=e1\/z=e2):=fun k hk=>by
    rcases k with _|_|_|k
    ·exact⟨e0,rfl,.inl rfl⟩
    ·exact⟨e1,rfl,.inr (.inl rfl)⟩
    ·exact⟨e2,rfl,.inr (.inr rfl)⟩
    ·lia
   refine ro (fun k σ H'=>(∀b u,H16 b=some u->b≠e0->b≠e1->b≠e2->H' b=some u)/\(∀y,(y=e0\/y=e1\/y=e2)->∃Z,H' y=some (.lst Z))/\∃v7,σ= [some (V.ref a),some (V.ref pn),some (V.ref lr),some (V.ref lw),some (V.ref hd),some (V.ref x),v6,v7,none,none]) ⟨fun b u e _ _ _=>e,eL,_,rfl⟩ (fun k σ H' hk hh=>?_) (fun σ H17 hh=>?_)
   ·obtain⟨kb,kl,v7,rfl⟩:=hh;obtain⟨z,a1,hz⟩:=iE k hk;obtain⟨Z,q1⟩:=kl z hz;have hd':=kb _ _ hhd16 nhe.1 nhe.2.1 nhe.2.2.1;rw[Int.zero_add];exists hd',a1;refine⟨cf (bC.of q1),_,_,rfl,rfl,q1,fun b u e n0 n1 n2=>?_,fun y C=>?_,_,rfl⟩
    ·rw[ag (fun c=>by rcases hz with m|m|m;exact n0 (c.trans m);exact n1 (c.trans m);exact n2 (c.trans m))];exact kb _ _ e n0 n1 n2
    ·by_cases c:y=z
     ·subst c;exact⟨_,aa⟩
     ·obtain⟨l3,r1⟩:=kl y C;exact⟨l3,by rw[ag c];exact r1⟩
   obtain⟨kb,kl,v7,rfl⟩:=hh;have S77:aA H7 H17:=fun b u e=>by
    have nz:∀y,(y∈J\/y∈O\/y=e0\/y=e1\/y=e2)->b≠y:=fun y C z=>by have:=V9 y C;rw[<-z,e] at this;cases this
    exact kb _ _ (ka _ _ (I _ _ (G _ _ (S7 _ _ e))) (fun m=>nz b (.inl m) rfl) (fun m=>nz b (.inr (.inl m)) rfl)) (nz e0 (.inr (.inr (.inl rfl)))) (nz e1 (.inr (.inr (.inr (.inl rfl))))) (nz e2 (.inr (.inr (.inr (.inr rfl)))))
   have o97:∀b u,H7 b=some u->ow b=9:=fun b u e=>o9 _ _ (S712 _ _ e);have X17:eP 99 uW K ow H17 x W ⟨tm,r,two o t,g,f',l,two da db,ws,M,0⟩ XR:=(X14.same I).all ⟨fun b u e n=>kb _ _ (ka _ _ e (fun m=>n (o9' b (.inl m))) (fun m=>n (o9' b (.inr (.inl m))))) (fun m=>n (o9' b (.inr (.inr (.inl m))))) (fun m=>n (o9' b (.inr (.inr (.inr (.inl m)))))) (fun m=>n (o9' b (.inr (.inr (.inr (.inr m)))))),fun b u e im=>kb _ _ (ka _ _ e (fun m=>by
     obtain⟨Z,q1,_⟩:=y0l _ m;rw[I _ _ q1] at e;cases e;exact oj im) (fun m=>by
     obtain⟨Z,q1,_⟩:=y1l _ m;rw[I _ _ q1] at e;cases e;exact oj im)) (fun m=>by rw[m,I _ _ he0] at e;cases e;exact oj im) (fun m=>by rw[m,I _ _ he1] at e;cases e;exact oj im) (fun m=>by rw[m,I _ _ he2'] at e;cases e;exact oj im)⟩
   clear kb kl ka kc;show u8 _ _ _;exists 8,u8,u9;exists 9;refine⟨ns,BR hS7 S77,fun c4=>⟨⟨by lia,by lia⟩,?_⟩⟩;have ws58:ws.length<=58:=by lia
   refine ro (fun i σ H'=> ∃ow',eP 99 uW K ow' H' x W ⟨tm,r,two o t,g,f',l,two da db,ws,M,((i-1:Nat):Int)⟩ (cA ws (i-1))/\aA H7 H'/\(∀b u,H7 b=some u->ow' b=9)/\∃v8 v9,σ= [some (V.ref a),some (V.ref pn),some (V.ref lr),some (V.ref lw),some (V.ref hd),some (V.ref x),v6,v7,v8,v9]) ⟨ow,X17.le ⟨lp _,lp _,by show 1<=1+15*_+_;lia,lp _,lp _⟩,S77,o97,_,_,rfl⟩ (fun i σ H' hi hh=>?_) (fun σ H' hh=>?_)
   ·obtain⟨ow',X',S',o',v8,v9,rfl⟩:=hh;have hi8:i<8:=by lia
    rw[Int.zero_add];exists 9;refine⟨fun σ' H2=> ∃ow2,eP 99 uW K ow2 H2 x W ⟨tm,r,two o t,g,f',l,two da db,ws,M,(i:Int)⟩ (cA ws i)/\aA H7 H2/\(∀b u,H7 b=some u->ow2 b=9)/\σ'= [some (V.ref a),some (V.ref pn),some (V.ref lr),some (V.ref lw),some (V.ref hd),some (V.ref x),v6,v7,some (V.int i),v9],?_,?_⟩
    ·have X0:=X'.hx (by decide);exists X0;by_cases c:0<(i:Int)
     ·rw[dy c];obtain⟨k1,k2⟩:=SK (ws:=ws) (n:=i-1) ws58 (by lia);refine⟨ow',W,_,_,X',k1,by show((i-1:Nat):Int)<=100000;lia,fun ow2 H2 X2 F2=>⟨ow2,?_,fun b u e=>(F2.1 _ _ (S' _ _ e) (by rw[o' _ _ e];decide)).1,fun b u e=>((F2.1 _ _ (S' _ _ e) (by rw[o' _ _ e];decide)).2).trans (o' _ _ e)⟩⟩;have X2:=X2.le k2;rw[show i-1+1=i by lia] at X2;rw[show((i-1:Nat):Int)+1=(i:Int) by lia] at X2;exact X2
     ·rw[de c];have z:i=0:=by lia
      subst z;exact⟨ow',X',S',o'⟩
    ·rintro σ' H2 ⟨ow2,X2,S2',o2,rfl⟩;exists 8,u9,u10;exists 9;refine⟨ow2,W,_,_,X2,⟨by show(0:Int)<=(i:Int);lia,by show(i:Int)<1000000;lia⟩,fun H3 s3=>?_⟩;have X3:=X2.same s3;have S3':=S2'.trans s3;exists 8,u10,u11;exists 9;refine⟨r,o,t,g,f',l,da,db,ws,p0,p1,S3' _ _ hpn7,hwd,S3' _ _ hlr,R0.same S3',R1.same S3',⟨ok0,ok1⟩,hW.same S3',okw,⟨by lia,by lia⟩,fun q1 H4 s4 hq1=>⟨krow r o t g f' l da db ws i,bC.of hq1,KW (BG hwd.1) ok0 ok1 (by lia) okw (by lia),?_⟩⟩;rw[de (fun z=>z rfl)];have X4:=X3.same s4;have X04:=X4.hx (by decide);exists 7,u11;exists X04;exact⟨ow2,X4,S3'.trans s4,o2,_,_,rfl⟩
   ·obtain⟨ow',X',S',o',v8,v9,rfl⟩:=hh;show pC _ _ _ _;rw[pC];exists 9;exact q _
  ·exact h.elim
end
end
theorem fin (x:K.In h) (G:h.Ns mainGlobals mg) (i:mg "law" = some (.ref fa)) (T:Txt K mg):
  ∃v:FuncData,(∀(s:Shared) (u:Value),BindsTo s v ⟨[u],[]⟩ [("_law_script",u)])/\∀base:Heap,K.In base->base.Ns mainGlobals mg->yH P w K mg base Wd 10 fa v ["_law_script"] (D4 K):=
 law_fin i T.TL iS.2 fun base=>UW T
end
end Tactic
noncomputable def PySem.W.Fast.tw5560078838348413331:PySem.Program:=PySem.Challenge.pw_slowroad_k81_kept
theorem PySem.W.Fast.te5560078838348413331:PySem.Challenge.pw_slowroad_k81_kept=PySem.W.Fast.tw5560078838348413331:=rfl
open PySem PySem.W PyProof.Rows
set_option maxRecDepth 100000 in
set_option maxHeartbeats 0 in
theorem PySem.Challenge.cw_slowroad_k81_kept_holds : PySem.Challenge.rw_slowroad_k81_kept.Holds := by
 w_on;o_law
 refine holds_open (q:=Tactic.cu) (loose:=[]) (Xt:=fun s=>xlAt Tactic.cu [] s&&recOk (RowW.records (OpenRow.toRowW (OpenLaw.row Challenge.rw_slowroad_k81_kept))) s) (XP:=XL Tactic.cu []) (Yf:=Hook.obs (kHook Tactic.Na Tactic.rX Tactic.xZ)) (Ya:=Hook.val (kHook Tactic.Na Tactic.rX Tactic.xZ)) (YP:=Hook.says (kHook Tactic.Na Tactic.rX Tactic.xZ)) (N:=21532) Tactic.Xq (Hook.of (kHook Tactic.Na Tactic.rX Tactic.xZ)) (Hook.keeps (kHook Tactic.Na Tactic.rX Tactic.xZ)) (fun s e=>xl_of s (Bool.and_eq_true_iff.mp e).1) XL.keeps (by rfl) (by rfl) (by rfl) (fun s e=>recFacts_of (Bool.and_eq_true_iff.mp e).2) (by rfl) (by first|assumption|decide+kernel) (by decide+kernel) ⟨rfl,rfl,rfl,rfl,rfl,by decide+kernel⟩ ?hw ?hc
 case hw=>w_witness2
 k_fill
 refine Lake.O7 (l:=Challenge.rw_slowroad_k81_kept) (k:=10) (x:="_law_script") rfl rfl ⟨rfl,by decide,by decide⟩ (fun w h Y=>W.kIn_of Y) ?F
 case F=>
  intro w mg fa h KX G hmg;refine' Tactic.fin KX G hmg ?TT
  case TT=>
   constructor
   all_goals first
     |(refine' Lake.O9 KX G ?a ?pg ?hd ?po ?sa ?mk ?kc;(case a=>k_is);(case pg=>k_is);(case hd=>k_is);(case po=>k_is);(case sa=>k_is);(case mk=>k_is);(case kc=>k_is))
     |(refine' Lake.MC ?a;(case a=>k_is))
     |(refine' Lake.Qu KX G ?a ?t ?b;(case a=>k_is);(case t=>k_is);(case b=>k_is))
     |(refine' Lake.Qx ?a ?b ?c ?d ?e ?f ?g ?h;(case a=>k_is);(case b=>k_is);(case c=>k_is);(case d=>k_is);(case e=>k_is);(case f=>k_is);(case g=>k_is);(case h=>k_is))
     |(refine' (show W.mroIn _ _ _=_ from ?a);(case a=>k_is))
     |(refine' Lake.OU ?a;(case a=>k_is))
     |(refine' Lake.MK ?a ?i ?l ?c ?k;(case a=>k_is);(case i=>k_is);(case l=>k_is);(case c=>k_is);(case k=>k_is))
     |(refine' Lake.PV KX G ?a ?l ?c ?k;(case a=>k_is);(case l=>k_is);(case c=>k_is);(case k=>k_is))
     |(refine' W.mg_none_of KX G ?a;(case a=>k_is))
     |(refine' Lake.GW KX G ?a ?l ?c ?d ?e ?z ?r;(case a=>k_is);(case l=>k_is);(case c=>rfl);(case d=>rfl);(case e=>rfl);(case z=>decide);(case r=>exact .cons ⟨_,rfl⟩ (.cons ⟨_,rfl⟩ (.cons ⟨_,rfl⟩ (.cons ⟨_,rfl⟩ (.cons ⟨_,rfl⟩ (.nil)))))))
     |(refine' Lake.GW KX G ?a ?l ?c ?d ?e ?z ?r;(case a=>k_is);(case l=>k_is);(case c=>rfl);(case d=>rfl);(case e=>rfl);(case z=>decide);(case r=>exact .cons ⟨_,rfl⟩ (.cons ⟨_,rfl⟩ (.nil))))
     |(refine' ⟨_,Lake.Qy KX G ?a ?l ?o ?i ?t ?l2 ?o2 ?i2 ?t2⟩;(case a=>k_is);(case l=>k_is);(case o=>kernel_rfl);(case i=>k_is);(case t=>k_is);(case l2=>k_is);(case o2=>kernel_rfl);(case i2=>k_is);(case t2=>k_is))
     |(refine' ⟨?a,?b⟩;(case a=>k_is);(case b=>k_is))
     |(refine' ⟨_,W.mg_of KX G ?a,?r⟩;(case a=>k_is);(case r=>exact⟨_,rfl⟩))
     |(k_is)
     |(kit_is)
