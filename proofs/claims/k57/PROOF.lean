import PyProof.Rows.All
import Wide.All
import OpenK.AllK
import Wide.FinOn
import Lean
import PyProof.EqAt
import PyProof.EqKinds
import PyProof.TupleCall
import PyProof.NsDelKeeps
import KE.KIsBytes
import PyProof.Rows.SetFrom
import KE.KDictOf
import PyProof.AttrMissSeq
import PyProof.WalksMore
import PyProof.ZipIter
import PyProof.StrBlock2
import PyProof.StrBlockI
import PyProof.Rows.StrJoin2
import PyProof.Rows.CountFlat
import PyProof.Rows.Range3
import PyProof.SumWalkG
import PyProof.Rows.ListMulArg
import PyProof.FactsAll.tuple
import PyProof.EnumFor
import PyProof.EnumMake
import KE.KDictLaws
import KE.KDictSum
import KE.KRevIter
import PyProof.Rows.SortStr
import PyProof.Rows.SortWalk
import PyProof.AutoListH
import PyProof.StrLawsReplace
import PyProof.Rows.SortShellK
import KE.KLam
import KE.KSortKey
import KE.KNestM
import PyProof.EnumStmt
import PyProof.ListMulRoad
import PySem.Challenge.RW_pageturns_k57_no_events_of_walks
set_option tactic.hygienic false
set_option compiler.extract_closed false
set_option hygiene false in
local macro_rules|`(tactic|obtain $p:rcasesPatMed)=>`(tactic|(rintro _ _ _ _ _ _ _ S R Z hr ($p:rcasesPatMed);subst e))
local macro_rules|`(tactic| trivial)=>`(tactic| decide +kernel)
set_option Elab.async false
set_option linter.all false
set_option maxRecDepth 100000
set_option genInjectivity false
set_option genSizeOfSpec false
local macro_rules|`(δ $x)=>`(List $x)|`(θ $x)=>`(Option $x)|`(ϑ $x)=>`(some $x)|`(ψ $x $y)=>`(autoParam $x $y)|`(ω $x)=>`(decide $x)
local macro_rules|`($x:ident)=>match [(`π,`Nat),(`ρ,`PySem.Str),(`ε,`PySem.Addr),(`ν,`Int),(`ξ,`PySem.Value),(`ζ,`PySem.Shared),(`χ,`Bool),(`Γ,`PySem.Heap),(`Δ,`PySem.Expr),(`Φ,`PySem.W.Frag),(`Ψ,`PySem.Program),(`Ω,`PySem.World),(`ϕ,`PySem.Around),(`Ϙ,`PySem.sizeLine),(`ϱ,`true),(`ϰ,`false),(`ϐ,`none)].lookup x.getId with|some v=>return Lean.mkIdentFrom x v|_=>if x.getId==`η then `(Prop) else Lean.Macro.throwUnsupported
set_option linter.defProp false
set_option hygiene false in
local macro_rules|`($n:name)=>match n.getName with|`a=>`(by decide)|`b=>`(by lia)|`c=>`(by trivial)|`d=>`(by simp)|`m=>`(model X.prog X.w)|`j=>`((false,eval e X.env))|`n=>`(model prog w)|`u=>`(hr.u)|_=>Lean.Macro.throwUnsupported
local macro_rules|`(tactic|show $t)=>`(tactic|refine $t)|`(tactic|let $p:term:=$e)=>do{let q:Lean.TSyntax `rcasesPat:=⟨←p.raw.rewriteBottomUpM λs=>do{if s.isIdent then{return (←`(rcasesPat|$(⟨s⟩):ident)).raw};if s.isOfKind `Lean.Parser.Term.hole then{return (←`(rcasesPat|_)).raw};if s.isOfKind `Lean.Parser.Term.anonymousCtor then{let a:Array (Lean.TSyntax `rcasesPat):=s[1].getSepArgs.map (⟨·⟩);return (←`(rcasesPat|⟨$[$a:rcasesPat],*⟩)).raw};return s}⟩;`(tactic|obtain $q:rcasesPat:=$e)}
local macro_rules|`(command|def $i:declId $s:optDeclSig:=by $t)=>`(command|theorem $i:declId $(⟨.node .none `Lean.Parser.Command.declSig #[s.raw[0],s.raw[1][0]]⟩):declSig:=by $t)
local macro_rules|`(command|$d:declaration)=>if d.raw.getPos?.isSome&&d.raw[1][1][0].getId.getRoot != `PySem then return d.raw.rewriteBottomUp (·.setInfo .none) else Lean.Macro.throwUnsupported
namespace Tactic
theorem qa:type_of% @if_neg:=@if_neg
theorem qb:type_of% @if_pos:=@if_pos
theorem qQQ(h:True:=by rfl):True:=h
def qQJ:Lean.Syntax:=qQQ._auto_1
theorem qQX(h:True:=by decide):True:=h
def qQZ:Lean.Syntax:=qQX._auto_1
theorem qQK(h:True:=by intro _;rfl):True:=h
def qQ0:Lean.Syntax:=qQK._auto_1
theorem qQ1(h:True:=by with_unfolding_all rfl):True:=h
def qQ2:Lean.Syntax:=qQ1._auto_1
theorem qQ3(h:True:=by exact⟨rfl,rfl,rfl,rfl⟩):True:=h
def qQ4:Lean.Syntax:=qQ3._auto_1
theorem qQ5(h:True:=by first|exact .inl rfl|exact .inr rfl|assumption):True:=h
def qQ6:Lean.Syntax:=qQ5._auto_1
theorem qQ7(h:True:=by trivial):True:=h
def qQ8:Lean.Syntax:=qQ7._auto_1
theorem qQ9(h:True:=by first|exact .inl rfl|exact .inr rfl):True:=h
def qJQ:Lean.Syntax:=qQ9._auto_1
theorem qJJ(h:True:=by intro _ _ _ _ _;exact{Or.inl rfl,rfl}):True:=h
def qJX:Lean.Syntax:=qJJ._auto_1
theorem qJZ(h:True:=by first|decide|omega):True:=h
def qJK:Lean.Syntax:=qJZ._auto_1
theorem qJ0(h:True:=by first|exact Or.inl rfl|exact Or.inr rfl):True:=h
def qJ1:Lean.Syntax:=qJ0._auto_1
theorem qJ2(h:True:=by intro _ _ _ _ _;rfl):True:=h
def qJ3:Lean.Syntax:=qJ2._auto_1
theorem qJ4(h:True:=by exact{by trivial,rfl,rfl,λz z z z z=>{Or.inl rfl,rfl}}):True:=h
def qJ5:Lean.Syntax:=qJ4._auto_1
local macro_rules|`({$a:term})=>`(⟨$a⟩)|`({$a:term,$b:term,*})=>`(⟨$a,$b,*⟩)
local macro_rules|`(!$t)=>do{let mut t:=t;let mut n:=1;for _ in [0:20] do{if let `(!$u):=t then{t:=u;n:=n+1}};let xs←(match t with|`(⟨$x,*⟩)=>pure x.getElems|`({$x:term,$y:term,*})=>pure (#[x]++y.getElems)|_=>Lean.Macro.throwUnsupported);let mut a:=xs;for _ in [0:n] do{a:=#[←`(_),←`(rfl)]++a};`(⟨$a,*⟩)}
open PySem.W (instObj methodObj hideAll hideAll_get of_hideAll Frag lookIn plainGet hasDictIn findIn handedIn plainGet_of isFn plainOver takerIn makesIn emptyDict looks_findIn specialIn keepIn mroIn kitOne kia_one kitx_list fnOf codeIn excIn Looks looks_mroIn KitX kitAny callWith_K callWith_K0 methodCall_KW envX kla_fn codeHdIn tabObj codeHd_of_K nsIn mg_of)
theorem za:type_of%@PySem.Heap.get?_push_of_some:=@PySem.Heap.get?_push_of_some
theorem zb:type_of%@PySem.wpAny_bind:=@PySem.wpAny_bind
theorem zd:type_of%@List.length_map:=@List.length_map
theorem ze:type_of%@Bool.false_ne_true:=@Bool.false_ne_true
theorem zf:type_of%@List.getElem?_eq_some_iff:=@List.getElem?_eq_some_iff
theorem zg:type_of%@List.getElem?_eq_getElem:=@List.getElem?_eq_getElem
theorem zh:type_of%@List.mem_cons_of_mem:=@List.mem_cons_of_mem
theorem zj:type_of%@Nat.le_refl:=@Nat.le_refl
theorem zk:type_of%@List.mem_map:=@List.mem_map
theorem zl:type_of%@List.mem_cons:=@List.mem_cons
theorem zm:type_of%@List.getElem?_map:=@List.getElem?_map
theorem zo:type_of%@PySem.Heap.get?_push_size:=@PySem.Heap.get?_push_size
theorem zp:type_of%@decide_eq_false:=@decide_eq_false
theorem zq:type_of%@List.length_append:=@List.length_append
theorem zr:type_of%@PySem.wpAny_pure:=@PySem.wpAny_pure
theorem zu:type_of%@Nat.lt_of_lt_of_le:=@Nat.lt_of_lt_of_le
theorem zw:type_of%@List.mem_cons_self:=@List.mem_cons_self
theorem zx:type_of%@List.size_toArray:=@List.size_toArray
theorem zy:type_of%@decide_eq_true:=@decide_eq_true
theorem zA:type_of%@PySem.Heap.lt_size:=@PySem.Heap.lt_size
theorem zB:type_of%@List.mem_of_getElem?:=@List.mem_of_getElem?
theorem zC:type_of%@List.map_map:=@List.map_map
theorem zD:type_of%@Nat.ne_of_lt:=@Nat.ne_of_lt
theorem zE:type_of%@List.mem_singleton:=@List.mem_singleton
theorem zG:type_of%@PySem.F.plainAttrs_list:=@PySem.F.plainAttrs_list
theorem zH:type_of%@Nat.le_trans:=@Nat.le_trans
theorem zI:type_of%@of_decide_eq_true:=@of_decide_eq_true
theorem zJ:type_of%@List.mem_append_right:=@List.mem_append_right
theorem zK:type_of%@List.map_cons:=@List.map_cons
theorem zL:type_of%@List.getD_eq_getElem?_getD:=@List.getD_eq_getElem?_getD
theorem zM:type_of%@PySem.F.slot_list_append:=@PySem.F.slot_list_append
theorem zN:type_of%@PySem.F.type_list_append:=@PySem.F.type_list_append
theorem zO:type_of%@List.not_mem_nil:=@List.not_mem_nil
theorem zP:type_of%@List.mem_append:=@List.mem_append
theorem zQ:type_of%@List.map_append:=@List.map_append
theorem zR:type_of%@Bool.and_eq_true:=@Bool.and_eq_true
theorem zS:type_of%@Option.some.inj:=@Option.some.inj
theorem zT:type_of%@decide_eq_true_eq:=@decide_eq_true_eq
theorem zU:type_of%@Bool.false_and:=@Bool.false_and
theorem zV:type_of%@List.length_cons:=@List.length_cons
theorem zW:type_of%@List.lookup_cons:=@List.lookup_cons
theorem zX:type_of%@List.map_congr_left:=@List.map_congr_left
theorem zY:type_of%@List.mem_range:=@List.mem_range
theorem zZ:type_of%@List.drop_eq_getElem_cons:=@List.drop_eq_getElem_cons
theorem z0:type_of%@of_decide_eq_false:=@of_decide_eq_false
theorem ya:type_of%@Int.emod_lt_of_pos:=@Int.emod_lt_of_pos
theorem yb:type_of%@PySem.wpAny_field:=@PySem.wpAny_field
theorem yc:type_of%@List.find?_cons:=@List.find?_cons
theorem yd:type_of%@Int.emod_nonneg:=@Int.emod_nonneg
theorem ye:type_of%@PySem.Heap.size_push:=@PySem.Heap.size_push
theorem yf:type_of%@Bool.true_and:=@Bool.true_and
theorem yg:type_of%@PySem.sizeLine_eq:=@PySem.sizeLine_eq
theorem yh:type_of%@Nat.zero_le:=@Nat.zero_le
theorem yi:type_of%@List.mem_filter:=@List.mem_filter
theorem yj:type_of%@List.mem_append_left:=@List.mem_append_left
theorem yk:type_of%@List.length_replicate:=@List.length_replicate
theorem ym:type_of%@PySem.wpAny_newObj_type:=@PySem.wpAny_newObj_type
theorem yn:type_of%@PyProof.Rows.callWith_type1:=@PyProof.Rows.callWith_type1
theorem yo:type_of%@List.nodup_cons:=@List.nodup_cons
theorem yp:type_of%@PySem.mem_of_lookup:=@PySem.mem_of_lookup
theorem yq:type_of%@List.length_take:=@List.length_take
theorem yr:type_of%@List.all_eq_true:=@List.all_eq_true
theorem yt:type_of%@List.getElem?_set_ne:=@List.getElem?_set_ne
theorem yu:type_of%@Bool.eq_iff_iff:=@Bool.eq_iff_iff
theorem yw:type_of%@Nat.ne_of_gt:=@Nat.ne_of_gt
theorem yx:type_of%@PySem.wpAny_mono:=@PySem.wpAny_mono
theorem yy:type_of%@Array.length_toList:=@Array.length_toList
theorem yz:type_of%@List.getElem?_set_self:=@List.getElem?_set_self
theorem yA:type_of%@PySem.Heap.get?_update_other:=@PySem.Heap.get?_update_other
theorem yB:type_of%@Bool.not_eq_true':=@Bool.not_eq_true'
theorem yC:type_of%@PySem.Heap.get?_update_self:=@PySem.Heap.get?_update_self
theorem yD:type_of%@List.length_filter_le:=@List.length_filter_le
theorem yE:type_of%@PySem.F.slot_dict_get:=@PySem.F.slot_dict_get
theorem yF:type_of%@PySem.Obj.data_mapFields:=@PySem.Obj.data_mapFields
theorem yG:type_of%@Nat.lt_irrefl:=@Nat.lt_irrefl
theorem yH:type_of%@Bool.and_false:=@Bool.and_false
theorem yI:type_of%@PySem.wpAny_truthy_bool:=@PySem.wpAny_truthy_bool
theorem yJ:type_of%@PySem.Heap.SameBut.update:=@PySem.Heap.SameBut.update
theorem yK:type_of%@List.length_reverse:=@List.length_reverse
theorem yL:type_of%@List.filter_sublist:=@List.filter_sublist
theorem yM:type_of%@PySem.Calls.spliced_cons:=@PySem.Calls.spliced_cons
theorem yN:type_of%@PySem.wpAny_call_entry:=@PySem.wpAny_call_entry
theorem yO:type_of%@List.take_length:=@List.take_length
theorem yP:type_of%@PySem.Paired.length:=@PySem.Paired.length
theorem yQ:type_of%@PySem.wpAny_holding:=@PySem.wpAny_holding
theorem yR:type_of%@List.append_nil:=@List.append_nil
theorem yS:type_of%@List.foldl_cons:=@List.foldl_cons
theorem yT:type_of%@PySem.codeAny_builtin:=@PySem.codeAny_builtin
theorem yU:type_of%@Nat.le_of_lt:=@Nat.le_of_lt
theorem yV:type_of%@List.length_drop:=@List.length_drop
theorem yW:type_of%@List.filter_cons:=@List.filter_cons
theorem yX:type_of%@decide_eq_decide:=@decide_eq_decide
theorem yY:type_of%@Sum.inr.inj:=@Sum.inr.inj
theorem yZ:type_of%@List.any_cons:=@List.any_cons
theorem y3:type_of%@PySem.wpAny_setField:=@PySem.wpAny_setField
theorem y4:type_of%@PySem.codeAny_mono:=@PySem.codeAny_mono
theorem y6:type_of%@Nat.succ_pos:=@Nat.succ_pos
theorem y7:type_of%@PySem.wpAny_rule:=@PySem.wpAny_rule
theorem y8:type_of%@PySem.call_meets:=@PySem.call_meets
theorem y9:type_of%@Nat.le_succ:=@Nat.le_succ
theorem xb:type_of%@PySem.wpAny_of_eq:=@PySem.wpAny_of_eq
namespace L2
open PySem PySem.Spec PyProof.Rows
abbrev Key:=Sum ν ρ
def keyIs:Key->ξ->χ|.inl k,v=>Value.isInt k v|.inr x,v=>Value.isStrOf x v
def ZV(w:Ω):Key->ν|.inl k=>hashInt k|.inr x=>hashStr w x
theorem bN:∀{k:Key}{v:ξ},keyIs k v=ϱ->(∃i t,k=Sum.inl i/\v=Value.int i t)\/(∃x t,k=Sum.inr x/\v=Value.str x t)|.inl i,v,h=>(by let⟨t,e⟩:=Value.isInt_shape (k:=i) (v:=v) h;show .inl ⟨i,t,rfl,e⟩)|.inr x,v,h=>by let⟨t,e⟩:=Value.isStrOf_shape (x:=x) (v:=v) h;show .inr ⟨x,t,rfl,e⟩
def GP(i:ν)(t:Tok):keyIs (.inl i) (.int i t)=ϱ:=by simp[keyIs,Value.isInt]
def GQ(x:ρ)(t:Tok):keyIs (.inr x) (.str x t)=ϱ:=by simp[keyIs,Value.isStrOf]
def P4(a b:ν):ω ((Sum.inl a:Key)=Sum.inl b)=(a==b):=by by_cases e:a=b;subst e;simp;have h:¬(Sum.inl a:Key)=Sum.inl b:=λq=>e<|Sum.inl.inj q;rw[zp h];show(beq_eq_false_iff_ne.mpr e).symm
def P5(a b:ρ):ω ((Sum.inr a:Key)=Sum.inr b)=ω (a=b):=by by_cases e:a=b;subst e;simp;have h:¬(Sum.inr a:Key)=Sum.inr b:=λq=>e<|yY q;rw[zp h,zp e]
theorem P6(a:ν)(b:ρ):ω ((Sum.inl a:Key)=Sum.inr b)=ϰ:=zp λq=>nomatch q
theorem P7(a:ρ)(b:ν):ω ((Sum.inr a:Key)=Sum.inl b)=ϰ:=zp λq=>nomatch q
def aJ(prog:Ψ)(w:Ω):PySem.KeyKind prog w Key where
 is:=keyIs
 hash:=ZV w
 inj:=λv a b ha hb=>by
  rcases bN ha with⟨i,t,rfl,rfl⟩|⟨x,t,rfl,rfl⟩
  ·rcases bN hb with⟨j,u,rfl,e⟩|⟨y,u,rfl,e⟩
   ·injection e with e1 _;rw[e1]
   ·show nomatch e
  ·rcases bN hb with⟨j,u,rfl,e⟩|⟨y,u,rfl,e⟩
   ·show nomatch e
   ·injection e with e1 _;rw[e1]
 byValue:=λk v h=>by
  rcases bN h with⟨i,t,rfl,rfl⟩|⟨x,t,rfl,rfl⟩<;>rfl
 pyHash:=λhv h=>by
  rcases bN hv with⟨i,t,rfl,rfl⟩|⟨x,t,rfl,rfl⟩
  ·show wpAny_pyHash_int h
  ·show wpAny_pyHash_str h
 eqBool:=λhu hv h=>by
  rcases bN hu with⟨i,t,rfl,rfl⟩|⟨x,t,rfl,rfl⟩
  ·rcases bN hv with⟨j,u,rfl,rfl⟩|⟨y,u,rfl,rfl⟩
   ·rw[P4]at h;show wpAny_eqBool_int h
   ·rw[P6]at h;show SeqAt.EqAt.int_str i t y u _ _ _ _ h
  ·rcases bN hv with⟨j,u,rfl,rfl⟩|⟨y,u,rfl,rfl⟩
   ·rw[P7]at h;show SeqAt.EqAt.str_int x t j u _ _ _ _ h
   ·rw[P5]at h;show wpAny_eqBool_str h
 «strs»:=λk x t v h=>by
  rcases bN h with⟨i,u,rfl,e⟩|⟨y,u,rfl,e⟩
  ·show nomatch e
  ·injection e with e1 _
   subst e1
   cases v<;>rfl
theorem AN(prog:Ψ)(w:Ω)(i:ν)(t:Tok):(aJ prog w).is (.inl i) (.int i t)=ϱ:=GP i t
theorem j_(prog:Ψ)(w:Ω)(x:ρ)(t:Tok):(aJ prog w).is (.inr x) (.str x t)=ϱ:=GQ x t
set_option genInjectivity true in
set_option genSizeOfSpec true in
inductive V
 |ay|bl (b:χ)|int (i:ν)|str (x:ρ)|E3 (b:Array UInt8)|P8 (b:UInt64)|ref (a:ε)|ty (n:String)
 deriving DecidableEq
def RelV:V->ξ->η|.ay,u=>u=Value.none|.bl b,u=>u=Value.bool b|.int i,u=>∃t,u=Value.int i t|.str x,u=>∃t,u=Value.str x t|.E3 b,u=>∃t,u=Value.bytes b t|.P8 b,u=>∃t,u=Value.float b t|.ref a,u=>u=Value.ref a|.ty n,u=>u=Value.type n
abbrev Vals:δ V->δ ξ->Prop:=Paired RelV
theorem Vals.length{xs:δ V}{us:δ ξ}(r:Vals xs us):xs.length=us.length:=yP r
theorem Vals.get:∀{xs:δ V}{us:δ ξ}{i:π}{x:V},Vals xs us->xs[i]?=some x->∃u,us[i]?=some u/\RelV x u|_,_,_,_,.nil,e=>by simp at e|_,_,0,_,.cons r _,e=>by simp at e;subst e;show{_,rfl,r}|_,_,i+1,x,.cons _ t,e=>by let⟨u,h1,h2⟩:=Vals.get (i:=i) (x:=x) t (by simpa using e);show{u,by simpa using h1,h2}
theorem Vals.set(r:RelV x u):∀{xs:δ V}{us:δ ξ}(i:π),Vals xs us->Vals (xs.set i x) (us.set i u)|_,_,_,.nil=>.nil|_,_,0,.cons _ t=>.cons r t|_,_,i+1,.cons q t=>.cons q<|Vals.set r i t
theorem Vals.append:∀{xs ys:δ V}{us ws:δ ξ},Vals xs us->Vals ys ws->Vals (xs++ys) (us++ws)|_,_,_,_,.nil,s=>s|_,_,_,_,.cons r t,s=>.cons r<|Vals.append t s
theorem Vals.take:∀{xs:δ V}{us:δ ξ}(n:π),Vals xs us->Vals (xs.take n) (us.take n)|_,_,0,_=>.nil|_,_,_+1,.nil=>.nil|_,_,n+1,.cons r t=>.cons r<|Vals.take n t
theorem Vals.drop:∀{xs:δ V}{us:δ ξ}(n:π),Vals xs us->Vals (xs.drop n) (us.drop n)|_,_,0,r=>r|_,_,_+1,.nil=>.nil|_,_,n+1,.cons _ t=>Vals.drop n t
def gU:θ V->θ ξ->η|some v,some u=>RelV v u|none,none=>True|_,_=>False
def KV{κ:Type} : δ (κ×V)->δ (κ×ξ)->Prop:=Paired λ(p:κ×V)(q:κ×ξ)=>p.1=q.1/\RelV p.2 q.2
def kV:Key->V|.inl i=>.int i|.inr x=>.str x
set_option genInjectivity true in
set_option genSizeOfSpec true in
inductive HO
  |lst (xs:δ V)
  |tup (xs:δ V)
  |dK (kvs:δ<|Key×V)|dT (kvs:δ<|δ Key×V)
  |set (S:ν->χ) (n:π)
  |ins (C dx:ε) (fs:δ<|ρ×V)
  |own (x:ε)
  |xd (fs:δ<|ρ×V)
  |met (f x:ε)
  |YU (lo hi:ν)
  |l9 (o:Obj) (u:HO)
  |rJ (ps:Array ξ)
  |ext (φ:Γ->η)
abbrev Hp:=ε->θ HO
noncomputable def upd(H:Hp)(a:ε)(o:HO):Hp:=λb=>if b=a then some o else H b
def aD{H:Hp}{a:ε}{o:HO} : upd H a o a=ϑ o:=by unfold upd;rw[qb rfl]
def ax{H:Hp}{a b:ε}{o:HO}(h:b≠a):upd H a o b=H b:=by unfold upd;rw[qa h]
def aA{H:Hp}{a b:ε}{o:HO}(h:H a=ϑ o)(h':H b=ϐ):a≠b:=by intro e;subst e;rw[h]at h';cases h'
def gs(h:Γ)(a:ε)(items:Array ξ):Prop:=∃o,h.get? a=ϑ o/\o.cls=.type "tuple"/\o.dict=ϐ/\∃n,o.data=.seq items n
def gs.tup(x:gs h a items):IsTup h a items:=by let⟨o,e,c,_,n,d⟩:=x;show⟨o,e,c,n,d⟩
theorem gs.lt(x:gs h a items):a<h.objs.size:=x.tup.lt
theorem gs.new(h:Γ)(items:Array ξ):gs (h.push {cls:=.type "tuple",data:=.seq items}) h.objs.size items:={_,zo _ rfl,rfl,rfl,_,rfl}
section
variable(P:Ψ)(w:Ω)
def bj(H:Hp)(h:Γ)(a:ε):HO->η|.lst xs=>xs.length<=Ϙ/\∃(az:δ ξ) (n:π),Vals xs az/\h.get? a=ϑ {cls:=.type "list",data:=.seq az.toArray n}|.tup xs=>xs.length<=Ϙ/\∃az:δ ξ,Vals xs az/\gs h a az.toArray|.dK kvs=>kvs.length<=Ϙ/\(a==sysModules)=ϰ/\∃vs,KV kvs vs/\h.DictOf (aJ P w) a vs|.dT _=>False|.set S n=>h.SetOf (intKind P w) a S n|.ins C dx fs=>H dx=ϑ (.own a)/\fs.length<=1000/\dx≠a/\h.get? a=ϑ (instObj C dx)/\∃mA,h.Ns1 dx mA/\(∀f,gU (fs.lookup f)<|mA f)/\PySem.Within mA (fs.map (·.1))|.own _=>∃o,h.get? a=ϑ o|.xd fs=>∃mA,h.Ns1 a mA/\∀f,gU (fs.lookup f) (mA f)|.YU lo hi=>∃t u v,h.get? a=ϑ {cls:=.type "range",data:=.fields #[.int lo t,.int hi u,.int 1 v]}|.l9 o u=>h.get? a=ϑ o/\bj H h a u|.rJ ps=>h.get? a=ϑ {cls:=.none,data:=.fields ps}|.met f x=>h.get? a=ϑ (methodObj (.ref f)<|.ref x)|.ext φ=>φ h/\(∃o,h.get? a=ϑ o)/\∀h1 h2:Γ,φ h1->(∀o,h1.get? a=ϑ o->h2.get? a=ϑ o)->φ h2
def lQ(H:Hp)(h:Γ):Prop:=∀a o,H a=ϑ o->bj P w H h a o
end
section
variable{P:Ψ}{w:Ω}{H H':Hp}{h h':Γ}{a:ε}{o:HO}
def bj.lt(x:bj P w H h a o):a<h.objs.size:=by cases o with|lst xs=>(let⟨_,_,_,_,e⟩:=x;show zA e)|tup xs=>(let⟨_,_,_,p⟩:=x;show p.lt)|dK kvs=>(let⟨_,_,_,_,o,_,_,e,_⟩:=x;show zA e)|dT kvs=>show False.elim x|set S n=>(let⟨o,_,_,_,e,_⟩:=x;show zA e)|ins C dx fs=>(let⟨_,_,_,e,_⟩:=x;show zA e)|own y=>(let⟨_,e⟩:=x;show zA e)|xd fs=>(let⟨_,⟨_,_,_,e,_⟩,_⟩:=x;show zA e)|YU lo hi=>(let⟨_,_,_,e⟩:=x;show zA e)|l9 c u=>(let⟨e,_⟩:=x;show zA e)|rJ ps=>show zA (show h.get? a=ϑ _ from x)|met f y=>show zA (show h.get? a=ϑ _ from x)|ext φ=>let⟨_,⟨_,e⟩,_⟩:=x;show zA e
def bj.nr(x:bj P w H h a o)(k:∀b u,(b=a\/H b=ϑ (.own a))->h.get? b=ϑ u->h'.get? b=ϑ u) (ho:∀b,H b=ϑ (.own a)->H' b=ϑ (.own a)) (l:∀b xs,H b=ϑ (.tup xs)->H' b=ϑ (.tup xs)):bj P w H' h' a o:=by induction o with|lst xs=>(let⟨z,i,n,r,e⟩:=x;show{z,i,n,r,k _ _ (.inl rfl) e})|tup xs=>(let⟨z,i,r,g,e,c⟩:=x;show{z,i,r,g,k _ _ (.inl rfl) e,c})|dK kvs=>(let⟨z,y,vs,r,g,es,ep,e,c⟩:=x;show{z,y,vs,r,g,es,ep,k _ _ (.inl rfl) e,c})|dT kvs=>show False.elim x|set S n=>(let⟨g,es,ep,t,e,c⟩:=x;show{g,es,ep,t,k _ _ (.inl rfl) e,c})|ins C dx fs=>(let⟨d,z,ne,e,mA,⟨od,es,ep,e2,c⟩,r⟩:=x;show{ho _ d,z,ne,k _ _ (.inl rfl) e,mA,{od,es,ep,k _ _ (.inr d) e2,c},r})|own y=>(let⟨g,e⟩:=x;show{g,k _ _ (.inl rfl) e})|xd fs=>(let⟨mA,⟨od,es,ep,e,c⟩,r⟩:=x;show{mA,{od,es,ep,k _ _ (.inl rfl) e,c},r})|YU lo hi=>(let⟨t,u,v,e⟩:=x;show{t,u,v,k _ _ (.inl rfl) e})|l9 g u j=>(let⟨e,q⟩:=x;show{k _ _ (.inl rfl) e,j q})|rJ ps=>have e:h.get? a=ϑ {cls:=.none,data:=.fields ps}:=x;change h'.get? a=ϑ {cls:=.none,data:=.fields ps};show k a _ (.inl rfl) e|met f y=>have e:h.get? a=ϑ (methodObj (.ref f)<|.ref y):=x;change h'.get? a=ϑ (methodObj (.ref f)<|.ref y);show k a _ (.inl rfl) e|ext φ=>let⟨p,⟨o,e⟩,st⟩:=x;show{st _ _ p λo q=>k _ _ (.inl rfl) q,{o,k _ _ (.inl rfl) e},st}
theorem lQ.lt(x:lQ P w H h)(e:H a=ϑ o):a<h.objs.size:=(x a o e).lt
def lQ.fresh(x:lQ P w H h)(e:h.objs.size<=a):H a=ϐ:=by cases q:H a with|none=>rfl|some u=>show absurd (zu (x.lt q) e)<|yG _
theorem lQ.kept(x:lQ P w H h)(k:∀b u,h.get? b=ϑ u->h'.get? b=ϑ u):lQ P w H h':=λa o e=>(x a o e).nr (λb u z q=>k b u q) (λz q=>q) λz z q=>q
theorem lQ.laid(x:lQ P w H h)(k:∀b u,h.get? b=ϑ u->h'.get? b=ϑ u)(hp:h.objs.size<=a)(new:bj P w (upd H a o) h' a o):lQ P w (upd H a o) h':=λb u e=>by have hn:=x.fresh hp;by_cases hb:b=a;subst hb;rw[aD]at e;cases e;show new;rw[ax hb]at e;show(x b u e).nr (λc v z q=>k c v q) (λc q=>by rw[ax<|aA q hn];show q) λc xs q=>by rw[ax<|aA q hn];show q
end
def Rd(H:Hp)(a:ε)(u:HO):Prop:=H a=ϑ u\/∃o,H a=ϑ (.l9 o u)
theorem Rd.of(h:H a=ϑ u):Rd H a u:=.inl h
def Rd.ok{P:Ψ}{w:Ω}{H:Hp}{h:Γ}{a:ε}{u:HO}(r:Rd H a u)(x:lQ P w H h):bj P w H h a u:=by rcases r with r|⟨o,r⟩;show x a u r;let⟨_,q⟩:=x a _ r;show q
def U5:θ HO->η|some (.lst _)=>True|some (.dK _)=>True|some (.dT _)=>True|some (.set _ _)=>True|some (.ins _ _ _)=>True|some (.ext _)=>True|_=>False
section
variable{P:Ψ}{w:Ω}{H:Hp}{h h':Γ}{x e:ε}{o':HO}
theorem lQ.write(ok:lQ P w H h)(a:U5<|H x)(l:e=x\/H e=ϑ (.own x))(k:∀b u,b≠e->h.get? b=ϑ u->h'.get? b=ϑ u)(n:∃u,h'.get? e=ϑ u) (new:bj P w (upd H x o') h' x o'):lQ P w (upd H x o') h':=λb u q=>by
 have i:∀c y,H c=ϑ (.own y)->c≠x:=λc y r z=>by subst z;rw[r]at a;show a
 have m:∀c xs,H c=ϑ (.tup xs)->c≠x:=λc xs r z=>by subst z;rw[r]at a;show a
 by_cases hb:b=x;subst hb;rw[aD]at q;cases q;show new;rw[ax hb]at q;by_cases d:b=e;have j:H b=ϑ (.own x):=by rcases l with z|z;show absurd (d.trans z) hb;rw[d];show z
 rw[q]at j;cases j;let⟨v,hv⟩:=n;show{v,by rw[d];show hv};show(ok b u q).nr (λc v g r=>k c v ?_ r) (λc r=>by rw[ax<|i c b r];show r) λc xs r=>by rw[ax<|m c xs r];show r
 rcases g with rfl|g;show d;rintro rfl;rcases l with z|z;show i c b g z;rw[g]at z;cases z;show hb rfl
end
structure Un(fs ex:δ ε)(H H':Hp)(h h':Γ):η where
 keep:∀b o,h.get? b=ϑ o->H b=ϐ->b∉fs->b∉ex->h'.get? b=ϑ o
 slot:∀b o,h.get? b=ϑ o->H b=ϐ->b∈fs->b∉ex->∃sl,h'.get? b=ϑ {o with slots:=sl}
 free:∀b o,h.get? b=ϑ o->H b=ϐ->b∉ex->H' b=ϐ
 there:∀b o,h.get? b=ϑ o->b∉ex->∃o',h'.get? b=ϑ o'
 gW:∀b xs,H b=ϑ (.tup xs)->H' b=ϑ (.tup xs)
 gu:∀b o u,H b=ϑ (.l9 o u)->H' b=ϑ (.l9 o u)
 gv:∀b ps,H b=ϑ (.rJ ps)->∃more,H' b=ϑ (.rJ<|ps++more)
section
variable{fs ex:δ ε}{H H1:Hp}{h h1 h':Γ}{a x e:ε}{o:HO}
def Un.any(u:Un fs ex H H1 h h1){b:ε}{a:Obj}(q:h.get? b=ϑ a)(n:H b=ϐ)(hx:b∉ex):∃sl,h1.get? b=ϑ {a with slots:=sl}:=by by_cases hb:b∈fs;show u.slot b a q n hb hx;show{a.slots,u.keep b a q n hb hx}
theorem Un.kept(k:∀b u,h.get? b=ϑ u->h'.get? b=ϑ u):Un fs ex H H h h':={λb a q z z z=>k b a q,λb a q z z z=>{a.slots,k b a q},λz z z n z=>n,λb a q z=>{a,k b a q},λz z q=>q,λz z z q=>q,λz ps q=>{#[],by rw[q];simp}}
theorem Un.refl:Un fs ex H H h h:=Un.kept λz z q=>q
theorem Un.laid(k:∀b u,h.get? b=ϑ u->h'.get? b=ϑ u)(hp:h.objs.size<=a)(hn:H a=ϐ):Un fs ex H (upd H a o) h h' where
 keep:=λb u q z z z=>k b u q
 slot:=λb u q z z z=>{u.slots,k b u q}
 free:=λb u q n z=>by rw[ax<|zD<|zu (zA q) hp];show n
 there:=λb u q z=>{u,k b u q}
 gW:=λb xs q=>by rw[ax<|aA q hn];show q
 gu:=λb u xs q=>by rw[ax<|aA q hn];show q
 gv:=λb ps q=>{#[],by rw[ax<|aA q hn,q];simp}
def Un.write(a:U5<|H x)(g:e=x\/H e=ϑ (.own x))(k:∀b u,b≠e->h.get? b=ϑ u->h'.get? b=ϑ u)(d:∃u,h'.get? e=ϑ u):Un fs ex H (upd H x o) h h':=by
 have hx:∀b,H b=ϐ->b≠x:=λb n z=>by subst z;rw[n]at a;show a
 have hb:∀b,H b=ϐ->b≠e:=λb n z=>by subst z;rcases g with r|r;show hx b n r;rw[n]at r;cases r
 have hm:∀b u,H b=ϑ u->¬U5 (some u)->b≠x:=λb u q nm z=>by subst z;rw[q]at a;show nm a
 show⟨λb u q n y y=>k b u (hb b n) q,λb u q n y y=>{u.slots,k b u (hb b n) q},λb u q n y=>by rw[ax<|hx b n];show n,λb u q y=>?_,
  λb xs q=>by rw[ax<|hm b _ q λz=>z];show q,λb u xs q=>by rw[ax<|hm b _ q λz=>z];show q,λb ps q=>{#[],by rw[ax<|hm b _ q λz=>z,q];simp}⟩
 by_cases c:b=e;subst c;show d;show{u,k b u c q}
end
noncomputable def YV(h:Γ)(H:Hp):δ Addr:=(List.range h.objs.size).filter λa=>(H a).isSome
noncomputable def vm(h:Γ)(H:Hp):Heap:=hideAll h<|YV h H
theorem GR(h:Γ)(H:Hp):(vm h H).objs.size=h.objs.size:=PySem.W.hideAll_size _ _
theorem Jc(e:h.get? b=ϑ o)(n:H b=ϐ):(vm h H).get? b=ϑ o:=hideAll_get _ e λhm=>by have q:(H b).isSome=ϱ:=(yi.mp hm).2;rw[n]at q;simp at q
def Mv(e:(vm h H).get? b=ϑ o):h.get? b=ϑ o/\H b=ϐ:=by have e':h.get? b=ϑ o:=of_hideAll (YV h H) e;show{e',?_};cases q:H b with|none=>rfl|some x=>have hm:b∈YV h H:=yi.mpr {zY.mpr<|zA e',by simp[q]};have z:(vm h H).get? b=ϐ:=PySem.W.hideAll_none (YV h H) hm;rw[z]at e;cases e
noncomputable def Mw(g h:Γ)(L:ε):δ (ε×Obj):=(List.range h.objs.size).filterMap λa=>if a=L\/(g.get? a).isSome=ϱ then none else (h.get? a).map λo=>(a,o)
noncomputable def rest(g h:Γ)(L d:ε):δ (ε×Obj):=(Mw g h L).filter λp=>ω<|p.1≠d
structure Mod(K:Φ)(mg:ρ->θ ξ)(base:Γ):η where
 Uh:K.In base
 glob:base.Ns mainGlobals mg
 blt:∃mb,base.Ns builtinsNs mb/\∀x:ρ,x≠"__name__"->mb x=bootBuiltins x
 nolimit:base.NoLimit
structure Cx where
 prog:Ψ
 w:Ω
 K:Φ
 mg:ρ->θ ξ
 base:Γ
 A:ϕ
 N:δ ρ
 dY:ζ
 xm:Hp
 env:Env
 outer:δ Env
 stack:δ Env
 ex:δ ε
 fn:ρ->χ
 calm:χ
 pn:δ (ε×Obj)
 xe:ξ->ζ->η
def mD(l:δ Env):δ Addr:=l.filterMap (·.frame)
noncomputable abbrev Cx.fs(X:Cx):δ Addr:=mD X.outer
def P_(sc:Scope)(x:ρ):Prop:=sc.names.lookup x=ϑ .local\/sc.names.lookup x=ϑ .cell\/sc.names.lookup x=ϑ .free
def Loc(sc:Scope)(x:ρ):Prop:=sc.names.lookup x=ϑ .local\/sc.names.lookup x=ϑ .cell
def Look(env:Env)(h:Γ)(m:ρ->θ ξ)(x:ρ)(u:ξ):Prop:=(env.kindOf x=ϑ .local/\m x=ϑ u)\/((env.kindOf x=ϑ .cell\/env.kindOf x=ϑ .free)/\∃c,env.cells.lookup x=ϑ c/\h.IsCell c (some u))
structure Cx.Ok(X:Cx):η where
 mod:Mod X.K X.mg X.base
 kind:X.env.scope.kind=.function
 glob:X.env.globals=mainGlobals
 blt:X.env.builtins=builtinsNs
 above:X.dY.heap.objs.size<=X.env.locals
 inj:∀x y c,X.env.cells.lookup x=ϑ c->X.env.cells.lookup y=ϑ c->x=y
 has:∀x,(X.env.kindOf x=ϑ .cell\/X.env.kindOf x=ϑ .free)->∃c,X.env.cells.lookup x=ϑ c
 Qa:∀x c,X.fn x=ϱ->X.env.cells.lookup x=ϑ c->X.dY.heap.objs.size<=c
 hd:X.calm=ϱ->X.A.handled=ϐ
 frames:X.A.frames=ϑ X.stack
 Ui:X.stack=X.outer\/(X.stack=X.env::X.outer/\X.env.frame=ϑ X.env.locals)
 YW:∀b∈X.ex,b≠X.env.locals/\∀x c,X.env.cells.lookup x=ϑ c->c≠b
 bs:∀b o,X.base.get? b=ϑ o->X.dY.heap.get? b=ϑ o/\X.xm b=ϐ
 GS:X.base.objs.size<=X.dY.heap.objs.size
 CI:∀b o,X.base.get? b=ϑ o->b∉X.ex
 GU:∀b∈X.ex,b∉X.fs
 lR:X.dY.heap.FunFrames X.base X.outer
 Jd:∀b∈X.fs,X.xm b=ϐ
structure Inv(X:Cx)(qc:δ (ε×Obj))(σ:δ (θ V))(H:Hp)(s:ζ):η where
 ok:X.Ok
 os:s.os=X.dY.os
 bare:AllBare s.gens
 base:Un X.fs X.ex X.xm H X.dY.heap s.heap
 loc:∃m,s.heap.Ns X.env.locals m/\∀(i:π)(x:ρ)(v:V),X.N[i]?=some x->σ[i]?=some (some v)->P_ X.env.scope x->∃u,RelV v u/\Look X.env s.heap m x u
 cell:∀x c,X.env.cells.lookup x=ϑ c->∃v,s.heap.IsCell c v
 free:H X.env.locals=ϐ
 eP:∀x c,X.env.cells.lookup x=ϑ c->H c=ϐ
 pin:∀p∈X.pn++qc,s.heap.get? p.1=ϑ p.2/\H p.1=ϐ/\p.1≠X.env.locals/\p.1∉X.fs/\∀v,p.2.data≠.cell v
 aK:lQ X.prog X.w H s.heap
 len:σ.length=X.N.length
section
variable{X:Cx}{qc:δ (ε×Obj)}{σ:δ (θ V)}{H H':Hp}{s:ζ}{h':Γ}
theorem Cx.Ok.GV(ok:X.Ok)(e:X.base.get? b=ϑ o):b∉X.fs:=λhb=>by have:=(ok.lR.mem hb).1;rw[e]at this;cases this
theorem Inv.bs(I:Inv X qc σ H s):∀b o,X.base.get? b=ϑ o->s.heap.get? b=ϑ o/\H b=ϐ:=λb o e=>{I.base.keep b o (I.ok.bs b o e).1 (I.ok.bs b o e).2 (I.ok.GV e)<|I.ok.CI b o e,I.base.free b o (I.ok.bs b o e).1 (I.ok.bs b o e).2<|I.ok.CI b o e}
theorem Inv.bk(I:Inv X qc σ H s):∀b o,X.base.get? b=ϑ o->s.heap.get? b=ϑ o:=λb o e=>(I.bs b o e).1
theorem Inv.mod(I:Inv X qc σ H s):Mod X.K X.mg X.base:=I.ok.mod
theorem Inv.lS(I:Inv X qc σ H s):X.K.In s.heap:=I.ok.mod.Uh.keeps I.bk
theorem Inv.nolimit(I:Inv X qc σ H s):s.heap.NoLimit:=I.ok.mod.nolimit.keeps I.bk
theorem Inv.fr(I:Inv X qc σ H s):∃m,Fr X.base X.env.locals s.heap m :=
 let ⟨m,hn,_⟩:=I.loc
 ⟨m,hn,I.bk,zH I.ok.GS I.ok.above⟩
def Inv.lt(I:Inv X qc σ H s):X.env.locals<s.heap.objs.size:=by let⟨_,hn,_⟩:=I.loc;show hn.lt
theorem Inv.sz(I:Inv X qc σ H s):X.dY.heap.objs.size<=s.heap.objs.size:=zH I.ok.above<|yU I.lt
theorem Inv.U7(I:Inv X qc σ H s)(h:s.heap.objs.size<=a):a∉X.fs:=λhb=>by let⟨_,o,ho,_⟩:=I.ok.lR.mem hb;show absurd (zu (zA ho)<|zH I.sz h)<|yG _
theorem Inv.Mx(I:Inv X qc σ H s):∀x c,X.env.cells.lookup x=ϑ c->c≠X.env.locals:=λx c e z=>by let⟨v,o,ho,hd⟩:=I.cell x c e;let⟨m,⟨o',es,ep,d,a,_⟩,_⟩:=I.loc;rw[z,d]at ho;cases ho;rw[a]at hd;cases hd
def Inv.lR(I:Inv X qc σ H s):s.heap.FunFrames X.base X.outer:=by
 have all:∀(l:δ Env),(∀b∈mD l,b∈X.fs)->X.dY.heap.FunFrames X.base l->s.heap.FunFrames X.base l:=by intro l;induction l with|nil=>intro _ _;trivial|cons env r d=>intro c hl;let⟨hk,⟨L,o,hf,hn,ho,hd⟩,hr⟩:=hl;have a:L∈X.fs:=c L (by unfold mD;rw[List.filterMap_cons,hf];show zw);let⟨sl,e⟩:=I.base.slot L o ho (I.ok.Jd L a) a λz=>I.ok.GU L z a;show{hk,{L,_,hf,hn,e,hd},d (λb hb=>c b<|by unfold mD;rw[List.filterMap_cons,hf];show zh _ hb) hr}
 show all X.outer (λx hb=>hb) I.ok.lR
def Inv.stack(I:Inv X qc σ H s):s.heap.FunFrames X.base X.stack:=by rcases I.ok.Ui with e|⟨e,hf⟩;rw[e];show I.lR;rw[e];let⟨m,hn,_⟩:=I.loc;show .cons (by rw[I.ok.kind];decide) hf hn ?_ I.lR;show Heap.get?_none_of_le<|zH I.ok.GS I.ok.above
theorem Inv.pA(I:Inv X qc σ H s):∀b∈mD X.stack,b∈X.env.locals::X.fs:=λb hb=>by rcases I.ok.Ui with e|⟨e,hf⟩;rw[e]at hb;show zh _ hb;rw[e]at hb;unfold mD at hb;rw[List.filterMap_cons,hf]at hb;show hb
theorem Inv.rK(I:Inv X qc σ H s):∀b∈mD X.stack,H b=ϐ:=λb hb=>by rcases zl.mp (I.pA b hb) with e|hb;rw[e];show I.free;let⟨_,o,ho,_⟩:=I.ok.lR.mem hb;show I.base.free b o ho (I.ok.Jd b hb) λz=>I.ok.GU b z hb
def Inv.step{g':Array GenState}{t':π}{d':Drawn}{ch:δ ε}(I:Inv X qc σ H s) (h:∀b∈ch,(b∈X.ex\/X.dY.heap.objs.size<=b)/\b≠X.env.locals/\(∀x c,X.env.cells.lookup x=ϑ c->c≠b)/\∀p∈X.pn++qc,p.1≠b) (keep:∀b o,b≠X.env.locals->b∉X.fs->b∉ch->s.heap.get? b=ϑ o->H b=ϐ->h'.get? b=ϑ o) (slot:∀b o,b≠X.env.locals->b∈X.fs->b∉ch->s.heap.get? b=ϑ o->H b=ϐ->∃sl,h'.get? b=ϑ {o with slots:=sl}) (free:∀b o,b∉ch->s.heap.get? b=ϑ o->H b=ϐ->H' b=ϐ) (there:∀b o,b∉ch->s.heap.get? b=ϑ o->∃o',h'.get? b=ϑ o') (gW:∀b xs,H b=ϑ (.tup xs)->H' b=ϑ (.tup xs)) (gu:∀b o u,H b=ϑ (.l9 o u)->H' b=ϑ (.l9 o u)) (gv:∀b ps,H b=ϑ (.rJ ps)->∃more,H' b=ϑ (.rJ<|ps++more)) (ns:∀m,s.heap.Ns X.env.locals m->h'.Ns X.env.locals m) (aK:lQ X.prog X.w H' h') (hg:AllBare g'): Inv X qc σ H' {s with heap:=h',gens:=g',drawn:=d',toks:=t'}:=by
 have j:∀b o,X.dY.heap.get? b=ϑ o->b≠X.env.locals:=λb o e=>zD<|zu (zA e) I.ok.above;have t:∀b o,X.dY.heap.get? b=ϑ o->b∉X.ex->b∉ch:=λb o e hx hb=>by rcases (h b hb).1 with z|z;show hx z;show absurd (zu (zA e) z)<|yG _
 have a:∀x c,X.env.cells.lookup x=ϑ c->∀v,s.heap.IsCell c v->h'.IsCell c v:=by rintro x c e v ⟨o,ho,hd⟩;have g:c∉ch:=λz=>(h c z).2.2.1 x c e rfl;by_cases A:c∈X.fs;let⟨sl,q⟩:=slot c o (I.Mx x c e) A g ho<|I.eP x c e;show{_,q,hd};show{o,keep c o (I.Mx x c e) A g ho<|I.eP x c e,hd}
 show{I.ok,I.os,hg,{λb o e n hb hx=>?_,λb o e n hb hx=>?_,λb o e n hx=>?_,λb o e hx=>?_,λb xs e=>gW b xs<|I.base.gW b xs e,λb o xs e=>gu b o xs<|I.base.gu b o xs e,λb ps e=>?_},?_,λx c e=>?_,?_,λx c e=>?_,λp hp=>?_,aK,I.len};show keep b o (j b o e) hb (t b o e hx) (I.base.keep b o e n hb hx)<|I.base.free b o e n hx;let⟨sl,e1⟩:=I.base.slot b o e n hb hx;let⟨y,e2⟩:=slot b _ (j b o e) hb (t b o e hx) e1<|I.base.free b o e n hx;show⟨y,e2⟩;let⟨o',e1⟩:=I.base.there b o e hx;show free b o' (t b o e hx) e1<|I.base.free b o e n hx;let⟨o',e1⟩:=I.base.there b o e hx;show there b o' (t b o e hx) e1;let⟨B,e1⟩:=I.base.gv b ps e;let⟨C,e2⟩:=gv b _ e1;show{B++C,by rw[e2,Array.append_assoc]};let⟨m,hn,hl⟩:=I.loc;show{m,ns m hn,λi x v e1 e2 e3=>?_};let⟨u,r,l⟩:=hl i x v e1 e2 e3;show{u,r,?_};rcases l with l|⟨k,c,e,z⟩;show .inl l;show .inr {k,c,e,a x c e _ z};let⟨v,z⟩:=I.cell x c e;show{v,a x c e v z};let⟨m,⟨o,_,_,ho,_⟩,_⟩:=I.loc;show free _ o (λz=>(h _ z).2.1 rfl) ho I.free;let⟨v,o,ho,hd⟩:=I.cell x c e;show free c o (λz=>(h c z).2.2.1 x c e rfl) ho<|I.eP x c e;let⟨e,n,ne,nf,d⟩:=I.pin p hp;have g:p.1∉ch:=λz=>(h p.1 z).2.2.2 p hp rfl;show{keep p.1 p.2 ne nf g e n,free p.1 p.2 g e n,ne,nf,d}
def Inv.un{t':π}(I:Inv X qc σ H s)(u:Un X.fs [] H H' s.heap h')(aK:lQ X.prog X.w H' h'):Inv X qc σ H' {s with heap:=h',toks:=t'}:=by let⟨m,⟨o,es,ep,ho,r⟩,_⟩:=id I.loc;let⟨sl,c⟩:=u.any ho I.free `d;show I.step (g':=s.gens) (d':=s.drawn) (ch:=[]) (λx z=>nomatch z) (λb o x hb x e n=>u.keep b o e n hb<|`d) (λb o x hb x e n=>u.slot b o e n hb<|`d) (λb o x e n=>u.free b o e n<|`d) (λb o x e=>u.there b o e<|`d) u.gW u.gu u.gv (λi hm=>by let⟨o',d,h,a,g⟩:=hm;rw[ho]at a;cases a;show{_,d,h,c,g}) aK I.bare
def Inv.call{g':Array GenState}{t':π}{d':Drawn}{ch:δ ε}(I:Inv X qc σ H s)(u:Un (mD X.stack) ch H H' s.heap h')(aK:lQ X.prog X.w H' h')(hg:AllBare g') (h:∀b∈ch,(b∈X.ex\/X.dY.heap.objs.size<=b)/\b≠X.env.locals/\(∀x c,X.env.cells.lookup x=ϑ c->c≠b)/\∀p∈X.pn++qc,p.1≠b): Inv X qc σ H' {s with heap:=h',gens:=g',drawn:=d',toks:=t'}:=by let⟨m,⟨o,es,ep,ho,r⟩,_⟩:=id I.loc;let⟨sl,d⟩:=u.any ho I.free λz=>(h _ z).2.1 rfl;show I.step (ch:=ch) h (λb o d hb a e n=>u.keep b o e n (λz=>(zl.mp<|I.pA b z).elim d hb) a) (λb o y y a e n=>u.any e n a) (λb o a e n=>u.free b o e n a) (λb o a e=>u.there b o e a) u.gW u.gu u.gv (λt hm=>by let⟨o',i,l,g,j⟩:=hm;rw[ho]at g;cases g;show{_,i,l,d,j}) aK hg
def Inv.turned{t':π}{it:ε}(I:Inv X qc σ H s)(k:∀b o,b≠it->s.heap.get? b=ϑ o->h'.get? b=ϑ o)(hn:H it=ϐ)(g:it≠X.env.locals) (h1:it∈X.ex\/X.dY.heap.objs.size<=it) (h2:∀x c,X.env.cells.lookup x=ϑ c->c≠it) (h:∀p∈X.pn++qc,p.1≠it):Inv X qc σ H {s with heap:=h',toks:=t'}:=by
 have d:∀b u,H b=ϑ u->b≠it:=λb u e z=>by rw[z,hn]at e;cases e
 show I.step (g':=s.gens) (d':=s.drawn) (ch:=[it]) (λb hb=>?_) (λb o y y a e y=>k b o (λz=>a<|by simp[z]) e) (λb o y y a e y=>{o.slots,k b o (λz=>a<|by simp[z]) e}) (λy y y y n=>n) (λb o a e=>{o,k b o (λz=>a<|by simp[z]) e}) (λy y e=>e) (λy y y e=>e) (λb ps e=>{#[],by rw[e];simp}) (λm hm=>?_) (λb u e=>?_) I.bare;have e:b=it:=by simpa using hb
 subst e;show⟨h1,g,h2,h⟩;let⟨o,es,ep,ho,r⟩:=hm;show{o,es,ep,k _ o (Ne.symm g) ho,r};show(I.aK b u e).nr (λc v a q=>k c v ?_ q) (λy q=>q) λy y q=>q;rcases a with z|z;rw[z];show d b u e;show d c _ z
theorem Inv.tok(I:Inv X qc σ H s)(t:π):Inv X qc σ H {s with toks:=t}:=I.un (h':=s.heap) (t':=t) Un.refl I.aK
theorem Inv.kept(I:Inv X qc σ H s)(k:∀b u,s.heap.get? b=ϑ u->h'.get? b=ϑ u):Inv X qc σ H {s with heap:=h',toks:=t'}:=I.un (Un.kept k)<|I.aK.kept k
theorem Inv.laid{a:ε}{o:HO}{t':π}(I:Inv X qc σ H s)(k:∀b u,s.heap.get? b=ϑ u->h'.get? b=ϑ u)(hp:s.heap.objs.size<=a)(new:bj X.prog X.w (upd H a o) h' a o): Inv X qc σ (upd H a o) {s with heap:=h',toks:=t'}:=I.un (Un.laid k hp<|I.aK.fresh hp)<|I.aK.laid k hp new
theorem Inv.write(I:Inv X qc σ H s)(d:U5<|H x)(c:e=x\/H e=ϑ (.own x))(k:∀b u,b≠e->s.heap.get? b=ϑ u->h'.get? b=ϑ u)(a:∃u,h'.get? e=ϑ u) (new:bj X.prog X.w (upd H x o) h' x o):Inv X qc σ (upd H x o) {s with heap:=h',toks:=t'}:=I.un (Un.write d c k a)<|I.aK.write d c k a new
theorem Inv.weak(I:Inv X qc σ H s)(hl:ak.length=σ.length)(w:∀(i:π) v,ak[i]?=some (some v)->σ[i]?=some (some v)):Inv X qc ak H s:={I.ok,I.os,I.bare,I.base,by let⟨m,hn,a⟩:=I.loc;show{m,hn,λi x v e1 e2 e3=>a i x v e1 (w i v e2) e3},I.cell,I.free,I.eP,I.pin,I.aK,hl.trans I.len}
theorem Inv.nv(I:Inv X qc σ H s)(h:∀p∈pins',s.heap.get? p.1=ϑ p.2/\H p.1=ϐ/\p.1≠X.env.locals/\p.1∉X.fs/\∀v,p.2.data≠.cell v):Inv X pins' σ H s:={I.ok,I.os,I.bare,I.base,I.loc,I.cell,I.free,I.eP,λp hp=>(zP.mp hp).elim (λz=>I.pin p<|yj _ z)<|h p,I.aK,I.len}
def sI{N:δ ρ}(hN:N.Nodup){i j:π}{x:ρ}(a:N[i]?=some x)(b:N[j]?=some x):i=j:=by let⟨h1,e1⟩:=zf.mp a;let⟨h2,e2⟩:=zf.mp b;show(List.getElem_inj hN).mp<|e1.trans e2.symm
def vX{M:Model}{A:ϕ}{E:ξ->ζ->η}{i:π}{x:ρ}{v:V}{u:ξ}{Q:Unit->ζ->η}(I:Inv X qc σ H s)(hN:X.N.Nodup)(hi:X.N[i]?=some x)(hx:Loc X.env.scope x)(r:RelV v u) (h:∀s',Inv X qc (σ.set i<|some v) H s'->(∃a,Heap.SameBut a s.heap s'.heap/\(a=X.env.locals\/X.env.cells.lookup x=ϑ a))->Q () s') (hf:ψ (X.fn x=ϱ\/X.env.scope.names.lookup x=ϑ .local) qQ6):wpAny M A (storeName X.env x u) Q E s:=by
 let⟨m,hn,hl⟩:=id I.loc;have Je:(X.env.scope.kind==.class||(X.env.scope.kind==.module&&X.env.locals != X.env.globals))=ϰ:=by rw[I.ok.kind];rfl
 have P:i<σ.length:=by rw[I.len];show(zf.mp hi).1
 have Mx:=I.Mx;have l:∀{a:ε}{h':Γ},(∃o,s.heap.get? a=ϑ o/\H a=ϐ)->Heap.SameBut a s.heap h'->lQ X.prog X.w H h':=λ{a h'} ha g b ob e=>by let⟨_,_,S⟩:=ha;show(I.aK b ob e).nr (λc F t q=>(g.2 c ?_).trans q) (λf q=>q) λf f q=>q;rintro rfl;rcases t with rfl|t;rw[S]at e;cases e;rw[S]at t;cases t
 rcases hx with hk|hk;show wpAny_storeName_local hk hn (λh' Jf g=>?_) Je;let⟨oL,_,_,IK,_⟩:=id hn;show h _ {I.ok,I.os,I.bare,{λb o e n hb hx=>?_,λb o e n hb hx=>?_,I.base.free,λb o e hx=>?_,I.base.gW,I.base.gu,I.base.gv},{_,Jf,λj y L e1 e2 e3=>?_},λy c e=>?_,I.free,I.eP,λp hp=>?_,l ⟨oL,IK,I.free⟩ g,by simpa using I.len} {_,g,.inl rfl};show(g.2 b<|zD<|zu (zA e) I.ok.above).trans<|I.base.keep b o e n hb hx;let⟨sl,e1⟩:=I.base.slot b o e n hb hx;show{sl,(g.2 b<|zD<|zu (zA e) I.ok.above).trans e1};let⟨o',e1⟩:=I.base.there b o e hx;show{o',(g.2 b<|zD<|zu (zA e) I.ok.above).trans e1};by_cases B:j=i;subst B;rw[hi]at e1;cases e1;rw[yz P]at e2;cases e2;show{u,r,.inl {hk,`d}};rw[yt<|Ne.symm B]at e2;let⟨O,K,q⟩:=hl j y L e1 e2 e3;show{O,K,?_};rcases q with⟨k,e⟩|⟨k,c,e,z⟩;show .inl {k,?_};have:y≠x:=λe=>B<|sI hN e1<|e ▸ hi;simp[this,e];show .inr {k,c,e,z.sameBut g<|Mx y c e};let⟨F,z⟩:=I.cell y c e;show{F,z.sameBut g<|Mx y c e};let⟨e,n,ne,nf,d⟩:=I.pin p hp;show{(g.2 p.1 ne).trans e,n,ne,nf,d};have J:X.fn x=ϱ:=by rcases hf with z|z;show z;rw[z]at hk;cases hk
 let⟨c,t⟩:=I.ok.has x<|.inl hk;let⟨F,z⟩:=I.cell x c t;show wpAny_storeName_cell I.ok.kind hk t z λh' U g=>?_;let⟨oc,R,Y⟩:=id z;show h {s with heap:=h'} {I.ok,I.os,I.bare,{λb o e n hb hx=>?_,λb o e n hb hx=>?_,I.base.free,λb o e hx=>?_,I.base.gW,I.base.gu,I.base.gv},{m,hn.sameBut g<|Ne.symm<|Mx x c t,λj y L e1 e2 e3=>?_},λy G e=>?_,I.free,I.eP,λp hp=>?_,l {oc,R,I.eP x c t} g,by simpa using I.len} {c,g,.inr t};show(g.2 b<|zD<|zu (zA e)<|I.ok.Qa x c J t).trans<|I.base.keep b o e n hb hx;let⟨sl,e1⟩:=I.base.slot b o e n hb hx;show{sl,(g.2 b<|zD<|zu (zA e)<|I.ok.Qa x c J t).trans e1};let⟨o',e1⟩:=I.base.there b o e hx;show{o',(g.2 b<|zD<|zu (zA e)<|I.ok.Qa x c J t).trans e1};by_cases B:j=i;subst B;rw[hi]at e1;cases e1;rw[yz P]at e2;cases e2;show{u,r,.inr {.inl hk,c,t,U}};rw[yt<|Ne.symm B]at e2;let⟨O,K,q⟩:=hl j y L e1 e2 e3;show{O,K,?_};rcases q with q|⟨k,G,e,Z⟩;show .inl q;show .inr {k,G,e,Z.sameBut g ?_};rintro rfl;show B<|sI hN e1<|I.ok.inj _ _ _ e t ▸ hi;by_cases C:G=c;subst C;show{_,U};let⟨w2,z2⟩:=I.cell y G e;show{w2,z2.sameBut g C};let⟨e,n,ne,nf,d⟩:=I.pin p hp;show{(g.2 p.1 ?_).trans e,n,ne,nf,d};intro q;rw[q,R]at e;have q':oc=p.2:=zS e;show d F<|by rw[<-q'];show Y
theorem iK(I:Inv X qc σ H s)(hN:X.N.Nodup)(hi:X.N[i]?=some x)(hx:Loc X.env.scope x)(r:RelV v u) (h:∀s',Inv X qc (σ.set i<|some v) H s'->Q () s') (hf:ψ (X.fn x=ϱ\/X.env.scope.names.lookup x=ϑ .local) qQ6):wpAny M A (storeName X.env x u) Q E s:=vX I hN hi hx r (λs' a z=>h s' a) hf
def Inv.AO(I:Inv X qc σ H s)(ho:s'.os=s.os)(u:Un (mD X.stack) ch H H' s.heap s'.heap)(aK:lQ X.prog X.w H' s'.heap)(hg:AllBare s'.gens) (g:∀b∈ch,(b∈X.ex\/X.dY.heap.objs.size<=b)/\b≠X.env.locals/\(∀x c,X.env.cells.lookup x=ϑ c->c≠b)/\∀p∈X.pn++qc,p.1≠b):Inv X qc σ H' s':=by let⟨h',d,d',a,o'⟩:=s';have e:o'=s.os:=ho;subst e;show I.call (g':=d) (t':=a) (d':=d') u aK hg g
end
abbrev XK:=ξ->θ ε->Hp->η
abbrev St:=δ<|θ V
abbrev VK:=V->Hp->η
abbrev TE:=St->Hp->VK->η
abbrev TT:=St->Hp->(χ->Hp->η)->η
abbrev TA:=St->Hp->(δ V->Hp->η)->η
structure Ends where
 nx:St->Hp->η
 rt:VK
 bk:St->Hp->Prop:=λz z=>False
 ct:St->Hp->Prop:=λz z=>False
abbrev TS:=Ends->St->Hp->η
def EP(X:Cx)(qc:δ<|ε×Obj)(σ:St)(Q:VK)(u:ξ)(s':ζ):Prop:=∃v H',Inv X qc σ H' s'/\RelV v u/\Q v H'
def TP(X:Cx)(qc:δ<|ε×Obj)(σ:St)(Q:χ->Hp->η)(b:χ)(s':ζ):Prop:=∃H',Inv X qc σ H' s'/\Q b H'
def AP(X:Cx)(qc:δ<|ε×Obj)(σ:St)(Q:δ V->Hp->η)(us:δ ξ)(s':ζ):Prop:=∃vs H',Inv X qc σ H' s'/\Vals vs us/\Q vs H'
def SP(X:Cx)(qc:δ<|ε×Obj)(D:Ends)(f:Flow)(s':ζ):Prop:=match f with|.next=>∃ak H',Inv X qc ak H' s'/\D.nx ak H'|.brk=>∃ak H',Inv X qc ak H' s'/\D.bk ak H'|.cont=>∃ak H',Inv X qc ak H' s'/\D.ct ak H'|.ret u=>∃v ak H',Inv X qc ak H' s'/\RelV v u/\D.rt v H'
def PE(X:Cx)(e:Δ)(t:TE):Prop:=∀(qc:δ (ε×Obj))(s:ζ)(σ:St)(H:Hp)(Q:VK),Inv X qc σ H s->t σ H Q->wpAny `m X.A (eval e X.env) (EP X qc σ Q) X.xe s
def PT(X:Cx)(e:Δ)(t:TT):Prop:=∀(qc:δ (ε×Obj))(s:ζ)(σ:St)(H:Hp)(Q:χ->Hp->η),Inv X qc σ H s->t σ H Q->wpAny `m X.A (isTrue e X.env<|eval e X.env) (TP X qc σ Q) X.xe s
def PW(X:Cx)(e:Δ)(t:TT):Prop:=∀(whole:Sem ξ)(qc:δ (ε×Obj))(s:ζ)(σ:St)(H:Hp)(Q:χ->Hp->η),Inv X qc σ H s->t σ H Q->wpAny `m X.A (isTrue e X.env whole) (TP X qc σ Q) X.xe s
theorem PW.pt{t:TT}(h:PW X e t):PT X e t:=h _
def PA(X:Cx)(es:δ Δ)(t:TA):Prop:=∀(pos:Pos)(qc:δ (ε×Obj))(s:ζ)(σ:St)(H:Hp)(Q:δ V->Hp->η),Inv X qc σ H s->t σ H Q->wpAny `m X.A (spliced<|backTo pos<|starEach es X.env) (AP X qc σ Q) X.xe s
def PS(X:Cx)(st:Stmt)(t:TS):Prop:=∀(qc:δ (ε×Obj))(s:ζ)(σ:St)(H:Hp)(D:Ends),Inv X qc σ H s->t D σ H->wpAny `m X.A (exec st X.env) (SP X qc D) X.xe s
def Cu(X:Cx)(st:δ Stmt)(t:TS):Prop:=∀(qc:δ (ε×Obj))(s:ζ)(σ:St)(H:Hp)(D:Ends),Inv X qc σ H s->t D σ H->wpAny `m X.A (execs st X.env) (SP X qc D) X.xe s
theorem bB{t:Sem α}(h:wpAny M A t Q E s)(c:∀a s,Q a s->Q' a s):wpAny M A t Q' E s:=yx h c λz z x=>x
section
variable{X:Cx}
def Z1(i:π):TE:=λσ H Q=>∃v,σ[i]?=some (some v)/\Q v H
def tC(v:V):TE:=λz H Q=>Q v H
def Qd(hN:X.N[i]?=some x)(hv:P_ X.env.scope x)(hd:ψ ((x==("__debug__": ρ))=ϰ) qQZ)(j:ψ ((x==("__classdict__": ρ))=ϰ) qQZ):PE X (.Name x pos) (Z1 i):=by intro qc s σ H Q I h;let⟨v,e,h⟩:=h;let⟨m,hn,hl⟩:=I.loc;let⟨u,r,l⟩:=hl i x v hN e hv;have a:EP X qc σ Q u s:=⟨v,H,I,r,h⟩;rcases l with⟨hk,hm⟩|⟨hk,c,d,g⟩;show wpAny_Name (wpAny_loadName_local I.ok.kind hk hn hm a) hd;rcases hk with hk|hk;show wpAny_Name (wpAny_loadName_cell I.ok.kind hk d g a) hd;show wpAny_Name (wpAny_loadName_free I.ok.kind hk d g a j) hd
theorem Qe:PE X (.Constant (.int i) j pos) (tC<|.int i):=λz z z H z I h=>wpAny_Constant_int {.int i,H,I.tok _,{_,rfl},h}
theorem ON:PE X (.Constant (.bool b) j pos) (tC<|.bl b):=λz z z H z I h=>Constant_bool {.bl b,H,I,rfl,h}
theorem Qf:PE X (.Constant .none j pos) (tC .ay):=λz z z H z I h=>Constant_none {.ay,H,I,rfl,h}
theorem Qg:PE X (.Constant (.str x) j pos) (tC<|.str x):=λz z z H z I h=>Calls.Constant_str {.str x,H,I.tok _,{_,rfl},h}
def Gl(X:Cx)(x:ρ):Prop:=X.env.kindOf x=ϑ .globalImplicit
theorem je(I:Inv X qc σ H s)(hg:Gl X x)(hm:X.mg x=ϑ u)(h:Q u s) (hd:ψ ((x==("__debug__": ρ))=ϰ) qQZ):wpAny `m X.A (eval (.Name x pos) X.env) Q E s:=Calls.Name_function_global I.ok.kind hg (Calls.loadGlobal_global (by rw[I.ok.glob];show I.mod.glob.keeps I.bk) hm h) hd
def fT(I:Inv X qc σ H s)(hg:Gl X x)(hm:X.mg x=ϐ)(hv:bootBuiltins x=ϑ u)(h:Q u s) (hn:ψ (x≠"__name__") qQZ) (hd:ψ ((x==("__debug__": ρ))=ϰ) qQZ):wpAny `m X.A (eval (.Name x pos) X.env) Q E s:=by let⟨mb,h1,h2⟩:=I.mod.blt;show Calls.Name_function_global I.ok.kind hg (Calls.loadGlobal_builtin (by rw[I.ok.glob];show I.mod.glob.keeps I.bk) hm (by rw[I.ok.blt];show h1.keeps I.bk) ((h2 x hn).trans hv) h) hd
theorem E7(hg:Gl X x)(hm:X.mg x=ϑ u)(r:RelV v u)(hd:ψ ((x==("__debug__": ρ))=ϰ) qQZ):PE X (.Name x pos) (tC v):=λz z z H z I h=>je I hg hm ⟨v,H,I,r,h⟩ hd
theorem MA(hg:Gl X x)(hm:X.mg x=ϐ)(hv:bootBuiltins x=ϑ u)(r:RelV v u)(hn:ψ (x≠"__name__") qQZ)(hd:ψ ((x==("__debug__": ρ))=ϰ) qQZ):PE X (.Name x pos) (tC v):=λz z z H z I h=>fT I hg hm hv ⟨v,H,I,r,h⟩ hn hd
variable{a b:Δ}{ta tb:TE}{pos:Pos}
def tB(t:TE):TT:=λσ H Q=>t σ H λx H1=>∃c,x=.bl c/\Q c H1
def Qh{t:TE}(h:PE X e t)(j:ψ (∀a,isTrue e X.env a=(do let v <-a;standAt e.pos;holding [v] (truthy v))) qQ0):PT X e (tB t):=by intro qc s σ H Q I hw;show isTrue_plain (bB (h qc s σ H _ I hw) λv s1 ⟨x,H1,c,g,i⟩=>?_)<|j _;let⟨d,rfl,q⟩:=i;cases g;show yI ⟨H1,c,q⟩
variable{tA Y0:TT}{rest:δ Δ}
def Z2(t u:TT):TT:=λσ H Q=>t σ H λc H1=>if c=ϱ then u σ H1 Q else Q false H1
def tOr(t u:TT):TT:=λσ H Q=>t σ H λc H1=>if c=ϱ then Q true H1 else u σ H1 Q
def Z3(t:TT):TT:=λσ H Q=>t σ H λc H1=>Q (!c) H1
def pw_and1(ha:PT X a tA):PW X (.BoolOp .And [a] pos) tA:=by intro d qc s σ H Q I h;show isTrue_and<|bB (ha qc s σ H Q I h) λc s1 e=>?_;cases c with|true=>show isTrue_and_nil e|false=>show e
def pw_or1(ha:PT X a tA):PW X (.BoolOp .Or [a] pos) tA:=by intro d qc s σ H Q I h;show isTrue_or<|bB (ha qc s σ H Q I h) λc s1 e=>?_;cases c with|false=>show isTrue_or_nil e|true=>show e
def pw_and(ha:PT X a tA)(hb:PW X (.BoolOp .And (b::rest) pos) Y0):PW X (.BoolOp .And (a::b::rest) pos) (Z2 tA Y0):=by intro g qc s σ H Q I h;show isTrue_and<|bB (ha qc s σ H _ I h) λc s1 ⟨H1,d,e⟩=>?_;cases c with|true=>show hb g qc s1 σ H1 Q d e|false=>show⟨H1,d,e⟩
def pw_or(ha:PT X a tA)(hb:PW X (.BoolOp .Or (b::rest) pos) Y0):PW X (.BoolOp .Or (a::b::rest) pos) (tOr tA Y0):=by intro g qc s σ H Q I h;show isTrue_or<|bB (ha qc s σ H _ I h) λc s1 ⟨H1,d,e⟩=>?_;cases c with|true=>show⟨H1,d,e⟩|false=>show hb g qc s1 σ H1 Q d e
def Qi(ha:PT X a tA):PT X (.UnaryOp .Not a pos) (Z3 tA):=by intro qc s σ H Q I h;show isTrue_not<|ha qc s σ H (λc H1=>Q (!c) H1) I h
def U9(ta tb:TE):TE:=λσ H Q=>ta σ H λx H1=>∃c,x=.bl c/\if c=ϱ then tb σ H1 Q else Q (.bl false) H1
def Z4(ta tb:TE):TE:=λσ H Q=>ta σ H λx H1=>∃c,x=.bl c/\if c=ϱ then Q (.bl true) H1 else tb σ H1 Q
def U_(ta:TE):TE:=λσ H Q=>ta σ H λx H1=>∃c,x=.bl c/\Q (.bl<|!c) H1
theorem Qj{t:TE}(h:PE X a t):PE X (.BoolOp op [a] pos) t:=λqc s σ H Q I hw=>BoolOp_one<|h qc s σ H Q I hw
def Ql(ha:PE X a ta)(hb:PE X (.BoolOp .And (b::rest) pos) tb):PE X (.BoolOp .And (a::b::rest) pos) (U9 ta tb):=by intro qc s σ H Q I h;show BoolOp_and<|bB (ha qc s σ H _ I h) λv s1 ⟨x,H1,e,g,d⟩=>?_;let⟨c,rfl,d⟩:=d;cases g;show yI ?_;cases c with|true=>show hb qc s1 σ H1 Q e d|false=>show{.bl false,H1,e,rfl,d}
def Va(ha:PE X a ta)(hb:PE X (.BoolOp .Or (b::rest) pos) tb):PE X (.BoolOp .Or (a::b::rest) pos) (Z4 ta tb):=by intro qc s σ H Q I h;show BoolOp_or<|bB (ha qc s σ H _ I h) λv s1 ⟨x,H1,e,g,d⟩=>?_;let⟨c,rfl,d⟩:=d;cases g;show yI ?_;cases c with|false=>show hb qc s1 σ H1 Q e d|true=>show{.bl true,H1,e,rfl,d}
def Qm(ha:PE X a ta):PE X (.UnaryOp .Not a pos) (U_ ta):=by intro qc s σ H Q I h;show UnaryOp_<|bB (ha qc s σ H _ I h) λv s1 ⟨x,H1,e,g,d⟩=>?_;let⟨c,rfl,d⟩:=d;cases g;show not_of<|yI {.bl<|!c,H1,e,rfl,d}
def tIf(t:TT)(ta tb:TE):TE:=λσ H Q=>t σ H λc H1=>if c=ϱ then ta σ H1 Q else tb σ H1 Q
def Jg(i:PT X c tA)(ha:PE X a ta)(hb:PE X b tb):PE X (.IfExp c a b pos) (tIf tA ta tb):=by intro qc s σ H Q I h;show wpAny_IfExp<|bB (i qc s σ H _ I h) λd s1 ⟨H1,e,g⟩=>?_;cases d with|true=>show ha qc s1 σ H1 Q e g|false=>show hb qc s1 σ H1 Q e g
end
def jf(K:Φ)(H:Hp)(a:ε)(xs:δ V):Prop:=Rd H a (.lst xs)\/∃(o:Obj)(az:Array ξ)(n:π),K.lookup a=ϑ o/\o.cls=.type "list"/\o.dict=ϐ/\o.data=.seq az n/\az.size<=Ϙ/\Vals xs az.toList
def iy(K:Φ)(H:Hp)(a:ε)(xs:δ V):Prop:=Rd H a (.tup xs)\/∃(o:Obj)(az:Array ξ)(n:π),K.lookup a=ϑ o/\o.cls=.type "tuple"/\o.data=.seq az n/\az.size<=Ϙ/\Vals xs az.toList
noncomputable def Z5:ξ->θ V|.none=>some .ay|.bool b=>some (.bl b)|.int i _=>some (.int i)|.str x _=>some (.str x)|.bytes b _=>some (.E3 b)|.float b _=>some (.P8 b)|.ref a=>some (.ref a)|.type n=>some (.ty n)|_=>none
def RelV.abs(r:RelV x u):Z5 u=ϑ x:=by cases x with|ay=>(cases r;rfl)|bl _=>(cases r;rfl)|int _=>(let⟨t,rfl⟩:=r;rfl)|str _=>(let⟨t,rfl⟩:=r;rfl)|E3 _=>(let⟨t,rfl⟩:=r;rfl)|P8 _=>(let⟨t,rfl⟩:=r;rfl)|ref _=>(cases r;rfl)|ty _=>cases r;rfl
theorem RelV.inj(r:RelV x u)(q:RelV y u):x=y:=zS<|r.abs.symm.trans q.abs
theorem Vals.inj:∀{xs ys:δ V}{us:δ ξ},Vals xs us->Vals ys us->xs=ys|_,_,_,.nil,.nil=>rfl|_,_,_,.cons r t,.cons c a=>by rw[r.inj c,Vals.inj t a]
section
variable{X:Cx}{qc:δ (ε×Obj)}{σ:St}{H:Hp}{s:ζ}{a:ε}{xs ys:δ V}
theorem jf.of{K:Φ}(h:H a=ϑ (.lst xs)):jf K H a xs:=.inl<|.inl h
theorem iy.of{K:Φ}(h:H a=ϑ (.tup xs)):iy K H a xs:=.inl<|.inl h
def Inv.list(I:Inv X qc σ H s)(h:jf X.K H a xs):∃c:δ ξ,Vals xs c/\PlainL s.heap a c.toArray/\xs.length<=sizeLine:=by rcases h with h|⟨o,c,n,hk,g,hd,d,hz,r⟩;let⟨z,c,n,r,e⟩:=h.ok I.aK;show{c,r,{_,n,e,rfl,rfl,rfl},z};show{c.toList,r,{o,n,I.lS a o hk,g,hd,by simpa using d},?_};have e:=r.length;simp only[yy]at e;lia
def Inv.tuple(I:Inv X qc σ H s)(h:iy X.K H a xs):∃c:δ ξ,Vals xs c/\IsTup s.heap a c.toArray/\xs.length<=sizeLine:=by rcases h with h|⟨o,c,n,hk,g,d,hz,r⟩;let⟨z,c,r,p⟩:=h.ok I.aK;show⟨c,r,p.tup,z⟩;show{c.toList,r,{o,I.lS a o hk,g,n,by simpa using d},?_};have e:=r.length;simp only[yy]at e;lia
def Inv.sJ(I:Inv X qc σ H s)(h:jf X.K H a xs)(h':jf X.K H a ys):xs=ys:=by
 let⟨g,r,⟨o,n,e,_,_,d⟩,_⟩:=I.list h;let⟨c,i,⟨o',j,e',_,_,d'⟩,_⟩:=I.list h';rw[e]at e';cases e';rw[d]at d';injection d' with d1 _;have:g=c:=by simpa using congrArg Array.toList d1
 subst this;show r.inj i
def Inv.pB(I:Inv X qc σ H s)(h:iy X.K H a xs)(h':iy X.K H a ys):xs=ys:=by
 let⟨g,r,⟨o,e,_,n,d⟩,_⟩:=I.tuple h;let⟨c,i,⟨o',e',_,j,d'⟩,_⟩:=I.tuple h';rw[e]at e';cases e';rw[d]at d';injection d' with d1 _;have:g=c:=by simpa using congrArg Array.toList d1
 subst this;show r.inj i
end
noncomputable abbrev Cx.afo(X:Cx)(E:ξ->ζ->η):Cx:={X with xe:=E}
section
variable{X:Cx}{st:Stmt}{rest:δ Stmt}{t u:TS}{e:Δ}{te:TE}{pos:Pos}
def Vb:TS:=λD σ H=>D.nx σ H
def Z6(t u:TS):TS:=λD σ H=>t {D with nx:=u D} σ H
theorem xn:Cu X [] Vb:=λ_ _ σ H _ I h=>wpAny_execs_nil ⟨σ,H,I,h⟩
def Jh(h1:PS X st t)(h2:Cu X rest u):Cu X (st::rest) (Z6 t u):=by intro qc s σ H D I h;show wpAny_execs_cons<|bB (h1 qc s σ H {D with nx:=u D} I h) λf s1 q=>?_;cases f with|next=>(let⟨ak,H',a,q⟩:=q;show h2 qc s1 ak H' D a q)|ret v=>show q|brk=>show q|cont=>show q
def MB(h1:PS X st t):Cu X [st] t:=by intro qc s σ H D I h;show wpAny_execs_cons<|bB (h1 qc s σ H D I h) λf s1 q=>?_;cases f with|next=>show wpAny_execs_nil q|ret v=>show q|brk=>show q|cont=>show q
def Inv.quiet(I:Inv X qc σ H s):interactive X.env=ϰ:=by simp[interactive,I.ok.kind]
def Vc(te:TE):TS:=λD σ H=>te σ H λz H1=>D.nx σ H1
def MC(g:PE X e te)(c:ψ (swapsWith e none pos.line X.env=pure false) qQJ):PS X (.Expr e pos) (Vc te):=by intro qc s σ H D I h;show wpAny_Expr_any (bB (g qc s σ H _ I h) <| by rintro v s1 ⟨x,H1,a,i,d⟩;show⟨σ,H1,a,d⟩) I.quiet c
def Z7(te:TE):TS:=λD σ H=>te σ H D.rt
def Qn(g:PE X e te):PS X (.Return (some e) pos) (Z7 te):=by intro qc s σ H D I h;show wpAny_Return_some<|bB (g qc s σ H _ I h) <| by rintro v s1 ⟨x,H1,a,c,d⟩;show⟨x,σ,H1,a,c,d⟩
def Z8(c:TT)(t u:TS):TS:=λD σ H=>c σ H λb H1=>if b=ϱ then t D σ H1 else u D σ H1
def Vd(i:PT X c tc)(ha:Cu X a t)(hb:Cu X b u):PS X (.If c a b pos) (Z8 tc t u):=by intro qc s σ H D I h;show wpAny_If<|bB (i qc s σ H _ I h) λd s1 ⟨H1,e,g⟩=>?_;cases d with|true=>show ha qc s1 σ H1 D e g|false=>show hb qc s1 σ H1 D e g
end
abbrev TG:=V->St->Hp->(St->Hp->η)->η
abbrev OO:=δ V->St->Hp->(St->Hp->η)->η
def PG(X:Cx)(a:Δ)(t:TG):Prop:=∀(qc:δ (ε×Obj))(s:ζ)(σ:St)(H:Hp)(v:V)(u:ξ)(Q:St->Hp->η),Inv X qc σ H s->RelV v u->t v σ H Q->wpAny `m X.A (assign a X.env u) (λz s'=>∃ak H',Inv X qc ak H' s'/\Q ak H') X.xe s
def OP(X:Cx)(ts:δ Δ)(t:OO):Prop:=∀(qc:δ (ε×Obj))(s:ζ)(σ:St)(H:Hp)(vs:δ V)(us:δ ξ)(Q:St->Hp->η),Inv X qc σ H s->Vals vs us->t vs σ H Q->wpAny `m X.A (assignInOrder ((assignEach ts X.env).map (·.2)) us) (λz s'=>∃ak H',Inv X qc ak H' s'/\Q ak H') X.xe s
abbrev Qo:=V->V->V->Hp->(Hp->η)->η
def Ve(X:Cx)(t:Qo):Prop:=∀(qc:δ (ε×Obj))(s:ζ)(σ:St)(H:Hp)(o i v:V)(ov iv u:ξ)(Q:Hp->η),Inv X qc σ H s->RelV o ov->RelV i iv->RelV v u->t o i v H Q->wpAny `m X.A (setItem ov iv u) (λz s'=>∃H',Inv X qc σ H' s'/\Q H') X.xe s
abbrev Z9:=V->V->Hp->VK->η
def PIp(X:Cx)(op:Operator)(t:Z9):Prop:=∀(qc:δ (ε×Obj))(s:ζ)(σ:St)(H:Hp)(x y:V)(v u:ξ)(Q:VK),Inv X qc σ H s->RelV x v->RelV y u->t x y H Q->wpAny `m X.A (inplaceOp op v u) (EP X qc σ Q) X.xe s
section
variable{X:Cx}{pos:Pos}
def jA(i:π):TG:=λv σ H Q=>Q (σ.set i<|some v) H
def rL(hN:X.N.Nodup)(hi:X.N[i]?=some x)(hx:Loc X.env.scope x)(hf:ψ (X.fn x=ϱ\/X.env.scope.names.lookup x=ϑ .local) qQ6):PG X (.Name x pos) (jA i):=by intro qc s σ H v u Q I r h;show wpAny_assign_Name<|iK I hN hi hx r (λs' a=>{_,H,a,h}) hf
def MD:OO:=λvs σ H Q=>vs=[]/\Q σ H
def sL(t:TG)(u:OO):OO:=λvs σ H Q=>∃v r,vs=v::r/\t v σ H λak H'=>u r ak H' Q
def E8:OP X [] MD:=by intro qc s σ H vs us Q I r h;let⟨e,h⟩:=h;subst e;cases r;show assignInOrder_nil ⟨σ,H,I,h⟩
def sM{t:TG}(h1:PG X e t)(h2:OP X es u) (g:ψ ((assignEach (e::es) X.env).map (·.2)=assign e X.env::(assignEach es X.env).map (·.2)) qQJ):OP X (e::es) (sL t u):=by intro qc s σ H vs us Q I r h;let⟨v,j,e1,h⟩:=h;subst e1;cases r with|cons r a=>rw[g];show assignInOrder_cons<|bB (h1 qc s σ H _ _ _ I r h) λ_ s1 ⟨c,H1,d,i⟩=>?_;show h2 qc s1 c H1 _ _ Q d a i
def ME(K:Φ)(n:π)(t:OO):TG:=λv σ H Q=>∃a xs,v=.ref a/\iy K H a xs/\xs.length=n/\t xs σ H Q
def Ji{t:OO}(j:X.calm=ϱ)(h:OP X es t) (hn:ψ ((assignEach es X.env).length=n) qQJ) (g:ψ ((assignEach es X.env).findIdx? (·.1)=ϐ) qQJ):PG X (.Tuple es k pos) (ME X.K n t):=by intro qc s σ H v u Q I r hw;let⟨a,xs,e1,hq,hl,hw⟩:=hw;subst e1;cases r;let⟨l,c,d,hz⟩:=I.tuple hq;show assign_Tuple_tuple (I.ok.hd j) d (by simp[hn,<-hl,c.length]) g λh' hx=>?_;have i:Inv X qc σ H {s with heap:=h'}:=I.kept (t':=s.toks) λb o e=>hx b o (zD<|zA e) e;show h qc _ σ H xs _ Q i (by simpa using c) hw
def Z_(to ti:TE)(t:Qo):TG:=λv σ H Q=>to σ H λo H1=>ti σ H1 λi H2=>t o i v H2 λa=>Q σ a
theorem Qp{t:Qo}(ho:PE X o to)(hi:PE X i ti)(l:Ve X t)
  (ha:ψ (∀v,assign (.Subscript o i pos) X.env v=(do
   let ov <-holding [v] (eval o X.env)
   let iv <-holding [v,ov] (eval i X.env)
   standAt pos
   holding [v,ov,iv] (setItem ov iv v)
   release [v,ov,iv] [])) qQ0):PG X (.Subscript o i pos) (Z_ to ti t):=by
 intro qc s σ H v u Q I r h
 rw[ha]
 show zb<|yQ<|bB (ho qc s σ H _ I h) λov s1 ⟨x,H1,g,j,m⟩=>?_
 show zb<|yQ<|bB (hi qc s1 σ H1 _ g m) λiv s2 ⟨y,H2,c,e,d⟩=>?_
 show zb<|wpAny_standAt<|zb<|yQ<|bB (l qc s2 σ H2 x y v ov iv u _ c j e r d) λ_ w ⟨a,n,p⟩=>?_
 show wpAny_release ⟨σ,a,n,p⟩
def Qq(te:TE)(g:TG):TS:=λD σ H=>te σ H λx H1=>g x σ H1 D.nx
def Jj(j:PE X e te)(hg:PG X tg g)(d:ψ (swapsWithSole [tg] e pos.line X.env=pure false) qQJ)(hw:ψ (swappedStores [tg] e X.env=pure none) qQJ) (h1:ψ ((assignEach [tg] X.env).map (·.2)=[assign tg X.env]) qQJ):PS X (.Assign [tg] e pos) (Qq te g):=by intro qc s σ H D I h;show wpAny_Assign_stores (bB (j qc s σ H _ I h) λv s1 ⟨x,H1,a,c,i⟩=>?_) d hw;rw[h1];show bB (hg qc s1 σ H1 x v _ a c i) λz s2 q=>q
def Qr(hN:X.N.Nodup)(hi:X.N[i]?=some x)(hx:Loc X.env.scope x)(l:PE X e te)(g:ψ (swapsWith e (some<|.Name x pos') pos.line X.env=pure false) qQJ)(hf:ψ (X.fn x=ϱ\/X.env.scope.names.lookup x=ϑ .local) qQ6): PS X (.Assign [.Name x pos'] e pos) (Qq te<|jA i):=by intro qc s σ H D I h;show wpAny_Assign_Name (bB (l qc s σ H _ I h) λv s1 ⟨y,H1,c,d,j⟩=>?_) g;show iK c hN hi hx d (λs2 a=>{_,H1,a,j}) hf
def aaa(i j:π)(ta:TA):TS:=λD σ H=>ta σ H λvs H1=>∃v w,vs=[v,w]/\D.nx ((σ.set i<|some v).set j<|some w) H1
def Qt(J:X.calm=ϱ)(hN:X.N.Nodup)(hi:X.N[i]?=some x)(L:X.N[j]?=some y)(E:i≠j) (hx:X.env.scope.names.lookup x=ϑ .local) (n:X.env.scope.names.lookup y=ϑ .local) (ha:PA X [a,b] ta) (hw:swappedStores [.Tuple [.Name x px,.Name y py] kt pt] (.Tuple [a,b] k2 pt2) X.env=pure (some [x,y])) (G:ψ (swapsWithSole [.Tuple [.Name x px,.Name y py] kt pt] (.Tuple [a,b] k2 pt2) pos.line X.env=pure false) qQJ): PS X (.Assign [.Tuple [.Name x px,.Name y py] kt pt] (.Tuple [a,b] k2 pt2) pos) (aaa i j ta):=by
 intro qc s σ H D I h;rw[exec_Assign_arm];show zb<|wpAny_standAt ?_;rw[G];show zb<|zr ?_;rw[qa<|`a];show zb<|Tuple_<|bB (ha _ qc s σ H _ I h) λus s1 ⟨vs,H1,B,C,l⟩=>?_;let⟨v,w,e1,l⟩:=l;subst e1;obtain⟨g,d,rfl,M,O⟩:∃g d,us=[g,d]/\RelV v g/\RelV w d:=by cases C with|cons p q=>cases q with|cons K r=>cases r;show{_,_,rfl,p,K}
 show ym ?_ (by change 2<=Ϙ;decide);have t:Inv X qc σ H1 {s1 with heap:=s1.heap.push {cls:=.type "tuple",data:=.seq [g,d].toArray}}:=B.kept (t':=s1.toks) λb o e=>za _ e;rw[hw];show zb<|zr ?_;change wpAny `m X.A (do rule "assign.swapped-stores";let c <-unpackItems (.ref s1.heap.objs.size) 2 none;assignInOrder [λv=>bindName X.env y v,λv=>bindName X.env x v] c.reverse;pure Flow.next) _ _ _;show zb<|y7<|zb<|unpackItems_tuple (items:=#[g,d]) (I.ok.hd J) (IsTup.new s1.heap _) λh' z=>?_;have F:=t.kept (h':=h') (t':=s1.toks) λb o e=>z b o (zD<|zA e) e;change wpAny _ _ (assignInOrder [λv=>bindName X.env y v,λv=>bindName X.env x v] [d,g] >>=λu=>pure Flow.next) _ _ _;show zb<|assignInOrder_cons<|wpAny_bindName<|iK F hN L (.inl n) O (λs2 P=>?_)<|.inr n;show assignInOrder_cons<|wpAny_bindName<|iK P hN hi (.inl hx) M (λQ m=>assignInOrder_nil<|zr ?_)<|.inr hx;rw[List.set_comm _ _<|Ne.symm E]at m;show{_,H1,m,l}
def aab(i:π)(te:TE)(ti:Z9):TS:=λD σ H=>∃x,σ[i]?=some (some x)/\te σ H λy H1=>ti x y H1 λz H2=>D.nx (σ.set i<|some z) H2
def Qu(hN:X.N.Nodup)(hi:X.N[i]?=some x)(hx:Loc X.env.scope x)(t:PE X e te)(ho:PIp X op ti)(hf:ψ (X.fn x=ϱ\/X.env.scope.names.lookup x=ϑ .local) qQ6): PS X (.AugAssign (.Name x pos') op e pos) (aab i te ti):=by
 intro qc s σ H D I h;let⟨v,e1,h⟩:=h;let⟨m,hn,hl⟩:=I.loc;have a:P_ X.env.scope x:=by rcases hx with k|k;show .inl k;show .inr<|.inl k
 let⟨u,r,l⟩:=hl i x v hi e1 a;show wpAny_AugAssign_Name ?_;have go:wpAny `m X.A (eval e X.env) (λw G=>wpAny `m X.A (inplaceOp op u w) (λr E=>wpAny `m X.A (storeName X.env x r) (λz=>SP X qc D .next) X.xe E) X.xe G) X.xe s:=by show bB (t qc s σ H _ I h) λw s1 ⟨y,H1,j,n,o⟩=>?_;show bB (ho qc s1 σ H1 v y u w _ j r n o) λz s2 ⟨K,H2,d,g,F⟩=>?_;show iK d hN hi hx g (λJ p=>{_,H2,p,F}) hf
 rcases l with⟨hk,hm⟩|⟨hk,c,B,C⟩;show wpAny_loadName_local I.ok.kind hk hn hm go;rcases hk with hk|hk;show wpAny_loadName_cell I.ok.kind hk B C go;rcases hx with k|k;have:X.env.scope.names.lookup x=ϑ .free:=hk;rw[k]at this;cases this;have:X.env.scope.names.lookup x=ϑ .free:=hk;rw[k]at this;cases this
def ipI(f:ν->ν->ν):Z9:=λx y H Q=>∃i j,x=.int i/\y=.int j/\Q (.int<|f i j) H
def Qv:PIp X .Add (ipI λi j=>i+j):=by intro qc s σ H x y v u Q I c a h;let⟨i,j,e1,e2,q⟩:=h;subst e1;subst e2;let⟨t,rfl⟩:=c;let⟨d,rfl⟩:=a;show iadd_int {.int _,H,I.tok _,{_,rfl},q}
def Qw(c:TT)(tb:TS):TS:=λD σ H=>∃W:π->St->Hp->η,(∃m,W m σ H)/\∀m σ H,W m σ H->c σ H λb H1=>if b=ϱ then ∃N:St->Hp->η,(∀ak H',N ak H'->∃m',m'<m/\W m' ak H')/\tb {D with nx:=N,ct:=N,bk:=D.nx} σ H1 else D.nx σ H1
def Jl(hp:PassesOwn `m X.A X.env X.xe)(y:PT X c tc)(hb:Cu X body tb):PS X (.While c body [] pos) (Qw tc tb):=by intro qc s σ H D I h;let⟨W,⟨t,z⟩,e⟩:=h;show wpAny_While<|codeAny_whileLoop (λn s'=>∃ak H',Inv X qc ak H' s'/\W n ak H') ?_ t ⟨σ,H,I,z⟩;rintro n s1 ⟨g,H1,x,B⟩;show wpAny_passesOwn hp<|bB (y qc s1 g H1 _ x<|e n g H1 B) λb s2 ⟨H2,r,j⟩=>?_;cases b with|true=>(let⟨N,hN,j⟩:=j;rw[qb rfl];show wpAny_passesOwn hp<|bB (hb qc s2 g H2 _ r j) λf C i=>?_;cases f with|next=>(let⟨d,a,o,l⟩:=i;let⟨p,hm,m⟩:=hN d a l;show⟨p,hm,d,a,o,m⟩)|cont=>(let⟨d,a,o,l⟩:=i;let⟨p,hm,m⟩:=hN d a l;show⟨p,hm,d,a,o,m⟩)|brk=>show i|ret v=>show i)|false=>rw[qa ze];show wpAny_execs_nil ⟨g,H2,r,j⟩
end
structure It where
 go:π->Hp->η
 Vf:π->Hp->V->Hp->η
 stop:π->Hp->η
def sN(X:Cx)(qc:δ<|ε×Obj)(H:Hp)(b:ε):Prop:=H b=ϐ/\b≠X.env.locals/\b∉X.fs/\(b∈X.ex\/X.dY.heap.objs.size<=b)/\(∀x c,X.env.cells.lookup x=ϑ c->c≠b)/\∀p∈X.pn++qc,p.1≠b
def Inv.pC(I:Inv X qc σ H s)(hb:s.heap.objs.size<=b)(hn:H' b=ϐ):sN X qc H' b:=by show{hn,yw<|zu I.lt hb,I.U7 hb,.inr<|zH I.sz hb,λx c e z=>?_,λp hp z=>?_};let⟨v,q⟩:=I.cell x c e;show absurd (zu q.lt<|by rw[z];show hb)<|yG _;show absurd (zu (zA (I.pin p hp).1)<|by rw[z];show hb)<|yG _
structure Turn(P:Ψ)(w:Ω)(K:Φ)(tg:Δ)(J:It)(fp:δ ε)(it:ε)(tn:π->Γ->η):η where
 mem:it∈fp
 obj:∀i h,tn i h->∀b∈fp,∃o,h.get? b=ϑ o/\∀v,o.data≠.cell v
 keep:∀i h h',tn i h->(∀b∈fp,∀o,h.get? b=ϑ o->h'.get? b=ϑ o)->tn i h'
 item:∀(X:Cx),X.prog=P->X.w=w->X.K=K->X.calm=ϱ->∀(i:π)(qc:δ (ε×Obj))(s:ζ)(σ:St)(H:Hp)(E:ξ->ζ->η),Inv X qc σ H s->(∀b∈fp,sN X qc H b)->tn i s.heap->J.go i H ->
  wpAny (model P w) X.A (pyNext<|.ref it) (λr s1=>∃u,r=ϑ u /\
   wpAny (model P w) X.A (letOwnedTupleGo tg (.ref it) u) (λz s2=>∃x H',Inv X qc σ H' s2/\RelV x u/\J.Vf i H x H'/\tn (i+1) s2.heap/\∀b∈fp,H' b=ϐ) E s1) E s
 done:∀(X:Cx),X.prog=P->X.w=w->X.K=K->X.calm=ϱ->∀(i:π)(qc:δ (ε×Obj))(s:ζ)(σ:St)(H:Hp)(E:ξ->ζ->η),Inv X qc σ H s->(∀b∈fp,sN X qc H b)->tn i s.heap->J.stop i H ->
  wpAny (model P w) X.A (pyNext<|.ref it) (λr s1=>r=ϐ/\Inv X qc σ H s1) E s
 self:∀(A:ϕ)(i:π)(s:ζ)(Q:ξ->ζ->η)(E:ξ->ζ->η),tn i s.heap->Q (.ref it) s->wpAny (model P w) A (pyIter<|.ref it) Q E s
abbrev TI:=St->Hp->(It->Hp->η)->η
def PIE(X:Cx)(qc:δ<|ε×Obj)(σ:St)(tg:Δ)(R:It->Hp->η)(a:ξ)(s2:ζ):Prop:=∃(it:ε)(fp:δ ε)(tn:π->Γ->η)(J:It)(H':Hp),a=.ref it/\Inv X qc σ H' s2/\Turn X.prog X.w X.K tg J fp it tn/\tn 0 s2.heap/\(∀b∈fp,sN X qc H' b)/\R J H'
def PI(X:Cx)(tg iter:Δ)(wi:TI):Prop:=∀(qc:δ (ε×Obj))(s:ζ)(σ:St)(H:Hp)(R:It->Hp->η),Inv X qc σ H s->wi σ H R->wpAny `m X.A (eval iter X.env) (λv s1=>wpAny `m X.A (pyIter v) (PIE X qc σ tg R) X.xe s1) X.xe s
def vZ(ho:s.heap.get? it=ϑ o)(c:o.cls=.type n)(hd:o.data=.fields vs) (hn:["enumerate","zip","dict_itemiterator","dict_reverseitemiterator","odict_iterator","itertools.zip_longest","itertools.pairwise"].contains n=ϰ) (a:Q () s):wpAny M A (letOwnedTupleGo tg (.ref it) u) Q E s:=by
 unfold letOwnedTupleGo
 cases tg<;>first
  |show zr a
  | (cases u<;>first
    |show zr a
    | (show zb (wpAny_load ho ?_)
       rw[c,hd]
       change wpAny M A (if (["enumerate","zip","dict_itemiterator","dict_reverseitemiterator","odict_iterator","itertools.zip_longest","itertools.pairwise"].contains n&&vs[0]?==some (rawInt _))=ϱ then _ else _) Q E s
       rw[qa<|by intro h;rw[hn,zU]at h;cases h]
       show zr a))
def Itl(K:Φ)(a:ε):It:={λi H=>∃xs x,jf K H a xs/\xs[i]?=some x,λi H x H'=>H'=H/\∀xs,jf K H a xs->xs[i]?=some x,λi H=>∃xs,jf K H a xs/\xs.length<=i}
def Itt(K:Φ)(a:ε):It:={λi H=>∃xs x,iy K H a xs/\xs[i]?=some x,λi H x H'=>H'=H/\∀xs,iy K H a xs->xs[i]?=some x,λi H=>∃xs,iy K H a xs/\xs.length<=i}
noncomputable def Vh(lo:ν)(n:π):It:={λi z=>i<n,λi H x H'=>H'=H/\x=.int (lo+i),λi z=>n<=i}
theorem GX{P:Ψ}{w:Ω}{K:Φ}{tg:Δ}(a it:ε):Turn P w K tg (Itl K a) [it] it (λi h=>h.IsListIter it a i) where
 mem:=`d
 obj:=λi h st b hb=>by
  have e:b=it:=by simpa using hb
  subst e
  let⟨o,e,c,d⟩:=st
  show{o,e,λv z=>by rw[d]at z;cases z}
 keep:=λi h h' st k=>st.at λo e=>k it `d o e
 item:=by
  intro X hP hw hK hc i qc s σ H E I hf st hg
  subst hP hw hK
  let⟨xs,x,hq,hx⟩:=hg
  let⟨az,rv,p,hz⟩:=I.list hq
  let⟨u,hu,ru⟩:=rv.get hx
  let⟨f0,f1,f2,f3,f4,f5⟩:=hf it<|`d
  show wpAny_pyNext_list_item st p.isList (x:=u) (by simpa using hu) λh' fR sb=>?_
  have I1:Inv X qc σ H {s with heap:=h'}:=I.turned (t':=s.toks) (λb o hb e=>(sb.2 b hb).trans e) f0 f1 f3 f4 f5
  let⟨o,e,c,d⟩:=id fR
  show{u,rfl,vZ (s:={s with heap:=h'}) e c d `a {x,H,I1,ru,{rfl,λys hy=>by rw[I.sJ hy hq];show hx},fR,λb hb=>(hf b hb).1}}
 done:=by
  intro X hP hw hK hc i qc s σ H E I hf st hg
  subst hP hw hK
  let⟨xs,hq,hx⟩:=hg
  let⟨az,rv,p,hz⟩:=I.list hq
  let⟨f0,f1,f2,f3,f4,f5⟩:=hf it<|`d
  have hl:=rv.length
  show wpAny_pyNext_list_end (I.ok.hd hc) st p.isList (by simp;lia) λh' eb=>{rfl,I.turned (t':=s.toks) (λb o hb e=>eb b o hb e) f0 f1 f3 f4 f5}
 self:=λy y y y y st h=>wpAny_pyIter_listiter st h
theorem CM{P:Ψ}{w:Ω}{K:Φ}{tg:Δ}(a it:ε):Turn P w K tg (Itt K a) [it] it (λi h=>h.IsTupleIter it a i) where
 mem:=`d
 obj:=λi h st b hb=>by
  have e:b=it:=by simpa using hb
  subst e
  let⟨o,e,c,d⟩:=st
  show{o,e,λv z=>by rw[d]at z;cases z}
 keep:=λi h h' st k=>st.at λo e=>k it `d o e
 item:=by
  intro X hP hw hK hc i qc s σ H E I hf st hg
  subst hP hw hK
  let⟨xs,x,hq,hx⟩:=hg
  let⟨az,rv,p,hz⟩:=I.tuple hq
  let⟨u,hu,ru⟩:=rv.get hx
  let⟨f0,f1,f2,f3,f4,f5⟩:=hf it<|`d
  show wpAny_pyNext_tuple_item st (show s.heap.IsTuple a az.toArray from p) (x:=u) (by simpa using hu) λh' fR sb=>?_
  have I1:Inv X qc σ H {s with heap:=h'}:=I.turned (t':=s.toks) (λb o hb e=>(sb.2 b hb).trans e) f0 f1 f3 f4 f5
  let⟨o,e,c,d⟩:=id fR
  show{u,rfl,vZ (s:={s with heap:=h'}) e c d `a {x,H,I1,ru,{rfl,λys hy=>by rw[I.pB hy hq];show hx},fR,λb hb=>(hf b hb).1}}
 done:=by
  intro X hP hw hK hc i qc s σ H E I hf st hg
  subst hP hw hK
  let⟨xs,hq,hx⟩:=hg
  let⟨az,rv,p,hz⟩:=I.tuple hq
  let⟨f0,f1,f2,f3,f4,f5⟩:=hf it<|`d
  have hl:=rv.length
  show wpAny_pyNext_tuple_end (I.ok.hd hc) st (show s.heap.IsTuple a az.toArray from p) (by simp;lia) λh' eb=>{rfl,I.turned (t':=s.toks) (λb o hb e=>eb b o hb e) f0 f1 f3 f4 f5}
 self:=λy y y y y st h=>wpAny_pyIter_tupleiter st h
theorem CO{P:Ψ}{w:Ω}{K:Φ}{tg:Δ}(it:ε)(lo:ν)(n:π):Turn P w K tg (Vh lo n) [it] it (λi h=>IsRangeIter h it (lo+(i:π)*1) ((n:ν)-(i:π)) 1) where
 mem:=`d
 obj:=λi h st b hb=>by
  have e:b=it:=by simpa using hb
  subst e
  show⟨_,st,λv z=>by
   have z':Data.fields _=Data.cell v:=z
   cases z'⟩
 keep:=λi h h' st k=>k it `d _ st
 item:=by
  intro X hP hw hK hc i qc s σ H E I hf st hg
  subst hP hw hK
  let⟨f0,f1,f2,f3,f4,f5⟩:=hf it<|`d
  have W:=Walks.range (prog:=X.prog) (w:=X.w) (I.ok.hd hc) it lo 1 n
  show W.item i s _ _ hg st λv h' tk hv fR kk=>?_
  let⟨t,rfl⟩:=hv
  have I1:Inv X qc σ H {s with heap:=h',toks:=tk}:=I.turned (λb o hb e=>kk b o (by simpa using hb) e) f0 f1 f3 f4 f5
  show{_,rfl,vZ (s:={s with heap:=h',toks:=tk}) (n:="range_iterator") fR rfl rfl `a {.int<|lo+i,H,I1,{t,?_},⟨rfl,rfl⟩,fR,λb hb=>(hf b hb).1}}
  rw[Int.mul_one]
 done:=by
  intro X hP hw hK hc i qc s σ H E I hf st hg
  subst hP hw hK
  let⟨f0,f1,f2,f3,f4,f5⟩:=hf it<|`d
  show wpAny_pyNext_range_end (I.ok.hd hc) st (by have:n<=i:=hg;lia) λh' eb=>{rfl,I.turned (t':=s.toks) (λb o hb e=>eb b o hb e) f0 f1 f3 f4 f5}
 self:=λx x x x x st h=>wpAny_pyIter_rangeiter st h
section
variable{X:Cx}{tg:Δ}
def Vi(K:Φ)(tl:TE):TI:=λσ H R=>tl σ H λx H1=>∃a,x=.ref a/\(∃xs,jf K H1 a xs)/\R (Itl K a) H1
def aad(K:Φ)(tl:TE):TI:=λσ H R=>tl σ H λx H1=>∃a,x=.ref a/\(∃xs,iy K H1 a xs)/\R (Itt K a) H1
def MF{l:Δ}{tl:TE}(hl:PE X l tl):PI X tg l (Vi X.K tl):=by
 intro qc s σ H R I h;show bB (hl qc s σ H _ I h) λv s1 ⟨x,H1,c,d,g⟩=>?_;let⟨a,e,⟨xs,hq⟩,q⟩:=g;subst e;cases d;let⟨i,j,p,hz⟩:=c.list hq;show wpAny_pyIter_list p.isList ?_;show{s1.heap.objs.size,[s1.heap.objs.size],_,_,H1,rfl,c.kept (t':=s1.toks) λb o e=>za _ e,GX a _,{_,zo _ rfl,rfl,rfl},λb hb=>?_,q};have e:b=s1.heap.objs.size:=by simpa using hb
 subst e;show c.pC (zj _)<|c.aK.fresh<|zj _
def Qx{l:Δ}{tl:TE}(hl:PE X l tl):PI X tg l (aad X.K tl):=by
 intro qc s σ H R I h;show bB (hl qc s σ H _ I h) λv s1 ⟨x,H1,c,g,i⟩=>?_;let⟨a,e,⟨xs,hq⟩,q⟩:=i;subst e;cases g;let⟨d,j,p,hz⟩:=c.tuple hq;show wpAny_pyIter_tuple (show s1.heap.IsTuple a d.toArray from p) ?_;show{s1.heap.objs.size,[s1.heap.objs.size],_,_,H1,rfl,c.kept (t':=s1.toks) λb o e=>za _ e,CM a _,{_,zo _ rfl,rfl,rfl},λb hb=>?_,q};have e:b=s1.heap.objs.size:=by simpa using hb
 subst e;show c.pC (zj _)<|c.aK.fresh<|zj _
def AQ{qc:δ<|ε×Obj}{σ:St}{H:Hp}{s:ζ}{R:It->Hp->η}{E:ξ->ζ->η}{lo hi:ν}{t u v:Tok}{tk:π}(I:Inv X qc σ H s)(h1:-(2^62)<=lo)(h2:lo<2^62)(d:-(2^62)<=hi)(c:hi<2^62) (q:R (Vh lo (hi-lo).toNat) H):wpAny `m X.A (pyIter<|.ref s.heap.objs.size) (PIE X qc σ tg R) E {s with heap:=s.heap.push {cls:=.type "range",data:=.fields #[.int lo t,.int hi u,.int 1 v]},toks:=tk}:=by
 show wpAny_pyIter_range (IsRange.new ..) (small_one h1 h2 d c) ?_;have a:Inv X qc σ H {s with heap:=s.heap.push {cls:=.type "range",data:=.fields #[.int lo t,.int hi u,.int 1 v]},toks:=tk}:=I.kept λb o e=>za _ e;show{(s.heap.push {cls:=.type "range",data:=.fields #[.int lo t,.int hi u,.int 1 v]}).objs.size,[(s.heap.push {cls:=.type "range",data:=.fields #[.int lo t,.int hi u,.int 1 v]}).objs.size],_,_,H,rfl,a.kept (t':=tk) λb o e=>za _ e,CO _ lo (hi-lo).toNat,?_,λb hb=>?_,q};have e1:lo+((0:π):ν)*1=lo:=`d
 have e2:(((hi-lo).toNat:π):ν)-((0:π):ν)=Builtin.Range.rangeSize lo hi 1:=by rw[rangeSize_one];split<;>lia
 change IsRangeIter _ _ (lo+((0:π):ν)*1) ((((hi-lo).toNat:π):ν)-((0:π):ν)) 1;rw[e1,e2];show zo _ rfl;have e:b=(s.heap.push {cls:=.type "range",data:=.fields #[.int lo t,.int hi u,.int 1 v]}).objs.size:=by simpa using hb
 subst e;show a.pC (zj _)<|a.aK.fresh<|zj _
def Vj(ta:TA):TI:=λσ H R=>ta σ H λvs H1=>∃j:ν,vs=[.int j]/\-(2^62)<=j/\j<2^62/\R (Vh 0 j.toNat) H1
def Vk(ta:TA):TI:=λσ H R=>ta σ H λvs H1=>∃i j:ν,vs=[.int i,.int j]/\(-(2^62)<=i/\i<2^62/\-(2^62)<=j/\j<2^62)/\R (Vh i (j-i).toNat) H1
def GY{a:Δ}{ta:TA}{p pos:Pos}(hg:Gl X "range")(hm:X.mg "range"= none)(ha:PA X [a] ta)(m:ψ (starEach [a] X.env=[(false,eval a X.env)]) qQJ):PI X tg (.Call (.Name "range" p) [a] [] pos) (Vj ta):=by intro qc s σ H R I h;show Call_<|fT I hg hm boot_range<|yn (bB (ha pos qc s σ H _ I h) λus s1 ⟨vs,H1,i,l,c⟩=>?_) m rfl;let⟨j,e,c,g,q⟩:=c;subst e;cases l with|cons r d=>cases d;let⟨t,rfl⟩:=r;show call_range_1<|AQ i `b `b c g<|by simpa using q
def GZ(hg:Gl X "range")(hm:X.mg "range"= none)(ha:PA X [a,b] ta)(v:ψ (starEach [a,b] X.env=[(false,eval a X.env),(false,eval b X.env)]) qQJ)(g:ψ (starEach [b] X.env=[(false,eval b X.env)]) qQJ): PI X tg (.Call (.Name "range" p) [a,b] [] pos) (Vk ta):=by intro qc s σ H R I h;show Call_<|fT I hg hm boot_range<|yn (bB (ha pos qc s σ H _ I h) λus s1 ⟨vs,H1,n,o,d⟩=>?_) (by rw[v,g]) (by rw[g];rfl);let⟨i,j,e,⟨d,l,x,m⟩,q⟩:=d;subst e;cases o with|cons r c=>cases c with|cons w c=>cases c;let⟨t,rfl⟩:=r;let⟨y,rfl⟩:=w;show call_range_2<|AQ n d l x m q
def aae(wi:TI)(g:TG)(tb:TS):TS:=λD σ H=>wi σ H λJ H1=>∃W:π->π->St->Hp->η,(∃m,W 0 m σ H1)/\∀i m σ H,W i m σ H->(J.stop i H/\D.nx σ H)\/(J.go i H/\∃N:St->Hp->η,(∀ak H',N ak H'->∃m',m'<m/\W (i+1) m' ak H')/\∀x H',J.Vf i H x H'->g x σ H' λa H2=>tb {D with nx:=N,ct:=N,bk:=D.nx} a H2)
noncomputable def sO(fp:δ ε)(h:Γ):δ (ε×Obj):=fp.filterMap λb=>(h.get? b).map λo=>(b,o)
theorem jg(hb:b∈fp)(e:h.get? b=ϑ o):(b,o)∈sO fp h:=List.mem_filterMap.mpr {b,hb,by rw[e];rfl}
def G0(hp:p∈sO fp h):p.1∈fp/\h.get? p.1=ϑ p.2:=by let⟨b,hb,e⟩:=List.mem_filterMap.mp hp;cases q:h.get? b with|none=>(rw[q]at e;cases e)|some o=>rw[q]at e;have e':(b,o)=p:=zS e;subst e';show⟨hb,q⟩
theorem Inv.pinned(I:Inv X qc σ H s)(hf:∀b∈fp,sN X qc H b)(ho:∀b∈fp,∃o,s.heap.get? b=ϑ o/\∀v,o.data≠.cell v):Inv X (qc++sO fp s.heap) σ H s:=I.nv λp hp=>(zP.mp hp).elim (λz=>I.pin p<|zJ _ z) λz=>by let⟨hb,e⟩:=G0 z;let⟨a,c,g,_⟩:=hf p.1 hb;let⟨o,e',d⟩:=ho p.1 hb;rw[e]at e';cases e';show⟨e,a,c,g,d⟩
theorem Inv.sP(I:Inv X (qc++pl) σ H s):Inv X qc σ H s:=I.nv λp hp=>I.pin p<|zJ _<|yj _ hp
def Qy(hp:PassesOwn `m X.A X.env X.xe)(P:X.calm=ϱ)(hi:PI X tg iter wi)(hg:PG X tg g)(hb:Cu X body tb) (hs:ψ (∀x,foldedSetIterable iter X.env x=pure x) qQ0):PS X (.For tg iter body [] pos) (aae wi g tb):=by intro qc s σ H D I h;show wpAny_For (bB (hi qc s σ H _ I h) λv s1 h1=>bB h1 λY1 s2 h2=>?_) hs;let⟨it,fp,tn,J,H2,e,I2,T,Z,L,W,⟨m0,w0⟩,y⟩:=h2;subst e;have F:∀{H':Hp},(∀b∈fp,H' b=ϐ)->∀b∈fp,sN X qc H' b:=λhn b hb=>{hn b hb,(L b hb).2};show codeAny_forLoop_any (λn s'=>∃i ak H',Inv X qc ak H' s'/\tn i s'.heap/\(∀b∈fp,H' b=ϐ)/\W i n ak H') ?_ m0 {0,σ,H2,I2,Z,λb hb=>(L b hb).1,w0};rintro n M ⟨i,z,B,O,Q,S,w3⟩;rcases y i n z B w3 with⟨stop,qn⟩|⟨go,N,hN,step⟩;show wpAny_passesOwn hp<|bB (T.done X rfl rfl rfl P i qc M z B X.xe O (F S) Q stop) λr s4 ⟨hr,I4⟩=>?_;subst hr;show wpAny_execs_nil ⟨z,B,I4,qn⟩;{show wpAny_passesOwn hp<|bB (T.item X rfl rfl rfl P i qc M z B X.xe O (F S) Q go) λr s4 ⟨u,hr,U⟩=>?_;subst hr;show wpAny_passesOwn hp<|bB U λ_ R ⟨x,K,I5,r5,y5,p,G⟩=>?_;have C:=I5.pinned (F G)<|T.obj _ _ p;show wpAny_passesOwn hp<|bB (hg _ R z K x u _ C r5<|step x K y5) λ_ s6 ⟨Vo,H6,Y,q6⟩=>?_;show wpAny_passesOwn hp<|bB (hb _ s6 Vo H6 _ Y q6) λf E l=>?_;have again:∀{a:St}{c:Hp},Inv X (qc++sO fp R.heap) a c E->N a c->∃m,m<n/\∃i ak H',Inv X qc ak H' E/\tn i E.heap/\(∀b∈fp,H' b=ϐ)/\W i m ak H':=λ{a c} j t=>(by let⟨m',hm,w7⟩:=hN a c t;show{m',hm,i+1,a,c,j.sP,T.keep _ _ _ p λb hb o e=>(j.pin (b,o)<|zJ _<|zJ _<|jg hb e).1,λb hb=>?_,w7};let⟨o,e,d⟩:=T.obj _ _ p b hb;show(j.pin (b,o)<|zJ _<|zJ _<|jg hb e).2.1);cases f with|next=>(let⟨a,c,j,t⟩:=l;show again j t)|cont=>(let⟨a,c,j,t⟩:=l;show again j t)|brk=>(let⟨a,c,j,l⟩:=l;show⟨a,c,j.sP,l⟩)|ret v=>let⟨x7,a,c,j,r7,l⟩:=l;show⟨x7,a,c,j.sP,r7,l⟩}
end
abbrev R2:=V->V->Hp->VK->η
def gX(X:Cx)(f:ξ->ξ->Sem ξ)(r:R2):Prop:=∀(qc:δ (ε×Obj))(s:ζ)(σ:St)(H:Hp)(x y:V)(v u:ξ)(Q:VK),Inv X qc σ H s->RelV x v->RelV y u->r x y H Q->wpAny `m X.A (f v u) (EP X qc σ Q) X.xe s
def UnR(X:Cx)(f:ξ->Sem ξ)(r:V->Hp->VK->η):Prop:=∀(qc:δ (ε×Obj))(s:ζ)(σ:St)(H:Hp)(x:V)(v:ξ)(Q:VK),Inv X qc σ H s->RelV x v->r x H Q->wpAny `m X.A (f v) (EP X qc σ Q) X.xe s
def eQ(X:Cx)(f:ξ)(r:δ V->Hp->VK->η):Prop:=∀(qc:δ (ε×Obj))(s:ζ)(σ:St)(H:Hp)(xs:δ V)(us:δ ξ)(Q:VK),Inv X qc σ H s->Vals xs us->r xs H Q->wpAny `m X.A (call f us) (EP X qc σ Q) X.xe s
def Uj(r:R2)(ta tb:TE):TE:=λσ H Q=>ta σ H λx H1=>tb σ H1 λy H2=>r x y H2 Q
def tUn(r:V->Hp->VK->η)(ta:TE):TE:=λσ H Q=>ta σ H λx H1=>r x H1 Q
def rI(C:ν->ν->η)(g:ν->ν->V):R2:=λx y H Q=>∃i j,x=.int i/\y=.int j/\C i j/\Q (g i j) H
def MG(g:ν->ν->V):R2:=λx y H Q=>∃i j,x=.int i/\y=.int j/\Q (g i j) H
def rU(g:ν->V):V->Hp->VK->Prop:=λx H Q=>∃i,x=.int i/\Q (g i) H
section
variable{X:Cx}{a b:Δ}{ta tb:TE}{pos:Pos}
def QA(ha:PE X a ta)(hb:PE X b tb){qc:δ<|ε×Obj}{s:ζ}{σ:St}{H:Hp}{R:V->V->Hp->η}(I:Inv X qc σ H s) (h:ta σ H λx H1=>tb σ H1 λy H2=>R x y H2) {Q:ξ->ζ->η}{f:ξ->ξ->Sem ξ} (hf:∀v u s2 x y H2,Inv X qc σ H2 s2->RelV x v->RelV y u->R x y H2->wpAny `m X.A (f v u) Q X.xe s2): wpAny `m X.A (eval a X.env) (λv bp=>wpAny `m X.A (eval b X.env) (λu cB=>wpAny `m X.A (f v u) Q X.xe cB) X.xe bp) X.xe s:=by show bB (ha qc s σ H _ I h) λv s1 ⟨x,H1,g,i,j⟩=>?_;show bB (hb qc s1 σ H1 _ g j) λu s2 ⟨y,H2,c,e,d⟩=>?_;show hf v u s2 x y H2 c i e d
def Vp{op:Operator}{r:R2}(ho:gX X (binaryOp op) r)(ha:PE X a ta)(hb:PE X b tb):PE X (.BinOp a op b pos) (Uj r ta tb):=by intro qc s σ H Q I h;show wpAny_BinOp<|QA ha hb I h λv u s2 x y H2 d e c q=>ho qc s2 σ H2 x y v u Q d e c q
def Vq(ho:UnR X (unaryOp op) r)(ha:PE X a ta):PE X (.UnaryOp op a pos) (tUn r ta):=by intro qc s σ H Q I h;show UnaryOp_<|bB (ha qc s σ H _ I h) <| by rintro v s1 ⟨x,H1,c,d,e⟩;show ho qc s1 σ H1 x v Q c d e
def Y2{f:ξ->ξ->Sem ξ}{C:ν->ν->η}{g:ν->ν->ν} (rule:∀(i j:ν)(t u:Tok)(s:ζ)(Q:ξ->ζ->η)(E:ξ->ζ->η),C i j->Q (.int (g i j) s.toks) {s with toks:=s.toks+1}->wpAny `m X.A (f (.int i t)<|.int j u) Q E s): gX X f (rI C λi j=>.int<|g i j):=by intro qc s σ H x y v u Q I d a h;let⟨i,j,rfl,rfl,e,q⟩:=h;let⟨t,rfl⟩:=d;let⟨c,rfl⟩:=a;show rule i j t c s _ _ e {.int<|g i j,H,I.tok _,{_,rfl},q}
def Vr{f:ξ->ξ->Sem ξ}{g:ν->ν->ν} (rule:∀(i j:ν)(t u:Tok)(s:ζ)(Q:ξ->ζ->η)(E:ξ->ζ->η),Q (.int (g i j) s.toks) {s with toks:=s.toks+1}->wpAny `m X.A (f (.int i t)<|.int j u) Q E s): gX X f (MG λi j=>.int<|g i j):=by intro qc s σ H x y v u Q I d a h;let⟨i,j,rfl,rfl,q⟩:=h;let⟨t,rfl⟩:=d;let⟨c,rfl⟩:=a;show rule i j t c s _ _ {.int<|g i j,H,I.tok _,{_,rfl},q}
def MH{f:ξ->ξ->Sem ξ}{g:ν->ν->χ} (rule:∀(i j:ν)(t u:Tok)(s:ζ)(Q:ξ->ζ->η)(E:ξ->ζ->η),Q (.bool<|g i j) s->wpAny `m X.A (f (.int i t)<|.int j u) Q E s): gX X f (MG λi j=>.bl<|g i j):=by intro qc s σ H x y v u Q I d a h;let⟨i,j,rfl,rfl,q⟩:=h;let⟨t,rfl⟩:=d;let⟨c,rfl⟩:=a;show rule i j t c s _ _ {.bl<|g i j,H,I,rfl,q}
def Vs(i j:ν):Prop:=0<=j/\j<=1000000/\i.natAbs<2^64
def MI(i j:ν):Prop:=(-(2^64)<i/\i<2^64)\/(-(2^64)<j/\j<2^64)
def MI.ok{i j:ν}(h:MI i j):IntMulOk i j:=by rcases h with⟨h1,h2⟩|⟨h1,h2⟩;show .of_left<|intBits_le_64 h1 h2;show .of_right<|intBits_le_64 h1 h2
theorem Jn:gX X (binaryOp .Add) (MG λi j=>.int<|i+j):=Vr λz z z z z z z q=>add_int q
theorem QB:gX X (binaryOp .Sub) (MG λi j=>.int<|i-j):=Vr λz z z z z z z q=>sub_int q
theorem QC:gX X (binaryOp .Mult) (rI MI λi j=>.int<|i*j):=Y2 λz z z z z z z a q=>mul_int q a.ok
theorem QD:gX X (binaryOp .Mod) (rI (λz j=>0<j) λi j=>.int<|i%j):=Y2 λi j z z z z z a q=>by have h1:(0:ν)<j:=a;show mod_int' `b<|by rw[Int.fmod_eq_emod_of_nonneg i<|`b];show q
theorem QE:gX X (binaryOp .Pow) (rI Vs λi j=>.int<|i^j.toNat):=Y2 λz z z z z z z a q=>pow_int_small a.1 a.2.1 a.2.2 q
def unI{f:ξ->Sem ξ}{g:ν->ν} (rule:∀(i:ν)(t:Tok)(s:ζ)(Q:ξ->ζ->η)(E:ξ->ζ->η),Q (.int (g i) s.toks) {s with toks:=s.toks+1}->wpAny `m X.A (f<|.int i t) Q E s): UnR X f (rU λi=>.int<|g i):=by intro qc s σ H x v Q I a h;let⟨i,rfl,q⟩:=h;let⟨t,rfl⟩:=a;show rule i t s _ _ {.int<|g i,H,I.tok _,{_,rfl},q}
theorem QF:UnR X (unaryOp .USub) (rU λi=>.int (-i)):=unI λz z z z z q=>neg_int q
end
noncomputable def Vt:V->V->χ|.ay,.ay=>true|.ay,.int _=>true|.int _,.ay=>true|.ay,.bl _=>true|.bl _,.ay=>true|.ay,.str _=>true|.str _,.ay=>true|.int _,.int _=>true|.bl _,.bl _=>true|.str _,.str _=>true|.E3 _,.E3 _=>true|.int _,.str _=>true|.str _,.int _=>true|.bl _,.str _=>true|.str _,.bl _=>true|_,_=>false
def rEq:R2:=λx y H Q=>Vt x y=ϱ/\Q (.bl<|ω<|x=y) H
def rNe:R2:=λx y H Q=>Vt x y=ϱ/\Q (.bl<|!decide (x=y)) H
def E9:ω (V.int i=V.int j)=(i==j):=by rw[yu];simp
def Jo:ω (V.bl i=V.bl j)=(i==j):=by rw[yu];simp
def E_:ω (V.str i=V.str j)=(i==j):=by rw[yu];simp
def Fc:ω (V.E3 i=V.E3 j)=(i.toList==j.toList):=by rw[yu];cases i;cases j;simp
section
variable{X:Cx}{a b c:Δ}{ta tb tc:TE}{pos:Pos}
def aL(I:Inv X qc σ H s)(q:Q (.bl k) H)(e:k=k'):EP X qc σ Q (.bool k') s:=by subst e;show{.bl k,H,I,rfl,q}
def OQ:gX X (compareOp .Eq) rEq:=by intro qc s σ H x y v u Q I e a h;let⟨d,q⟩:=h;cases x with|ay=>(cases e;cases y with|ay=>(cases a;show PySem.EqNone.eq_none_none<|aL I q<|`d)|bl j=>(cases a;show PySem.EqNone.eq_none_bool<|aL I q<|`d)|int j=>(let⟨c,rfl⟩:=a;show PySem.EqNone.eq_none_int<|aL I q<|`d)|str j=>(let⟨c,rfl⟩:=a;show PySem.EqNone.eq_none_str<|aL I q<|`d)|_=>show absurd (show false=ϱ from d) ze)|bl i=>(cases e;cases y with|ay=>(cases a;show PySem.EqNone.eq_bool_none<|aL I q<|`d)|bl j=>(cases a;show eq_bool<|aL I q Jo)|str j=>(let⟨c,rfl⟩:=a;show PySem.EqMixed.eq_bool_str<|aL I q<|`d)|_=>show absurd (show false=ϱ from d) ze)|int i=>(let⟨t,rfl⟩:=e;cases y with|ay=>(cases a;show PySem.EqNone.eq_int_none<|aL I q<|`d)|int j=>(let⟨c,rfl⟩:=a;show eq_int<|aL I q E9)|str j=>(let⟨c,rfl⟩:=a;show PySem.EqMixed.eq_int_str<|aL I q<|`d)|_=>show absurd (show false=ϱ from d) ze)|str i=>(let⟨t,rfl⟩:=e;cases y with|ay=>(cases a;show PySem.EqNone.eq_str_none<|aL I q<|`d)|bl j=>(cases a;show PySem.EqMixed.eq_str_bool<|aL I q<|`d)|int j=>(let⟨c,rfl⟩:=a;show PySem.EqMixed.eq_str_int<|aL I q<|`d)|str j=>(let⟨c,rfl⟩:=a;show eq_str<|aL I q E_)|_=>show absurd (show false=ϱ from d) ze)|E3 i=>(let⟨t,rfl⟩:=e;cases y with|E3 j=>(let⟨c,rfl⟩:=a;show PySem.W.eq_bytes<|aL I q Fc)|_=>show absurd (show false=ϱ from d) ze)|_=>cases y<;>show absurd (show false=ϱ from d) ze
def OR:gX X (compareOp .NotEq) rNe:=by intro qc s σ H x y v u Q I e a h;let⟨d,q⟩:=h;cases x with|ay=>(cases e;cases y with|ay=>(cases a;show PySem.EqNone.ne_none_none<|aL I q<|`d)|bl j=>(cases a;show PySem.EqNone.ne_none_bool<|aL I q<|`d)|int j=>(let⟨c,rfl⟩:=a;show PySem.EqNone.ne_none_int<|aL I q<|`d)|str j=>(let⟨c,rfl⟩:=a;show PySem.EqNone.ne_none_str<|aL I q<|`d)|_=>show absurd (show false=ϱ from d) ze)|bl i=>(cases e;cases y with|ay=>(cases a;show PySem.EqNone.ne_bool_none<|aL I q<|`d)|bl j=>(cases a;show ne_bool<|aL I q<|congrArg not Jo)|str j=>(let⟨c,rfl⟩:=a;show PySem.EqMixed.ne_bool_str<|aL I q<|`d)|_=>show absurd (show false=ϱ from d) ze)|int i=>(let⟨t,rfl⟩:=e;cases y with|ay=>(cases a;show PySem.EqNone.ne_int_none<|aL I q<|`d)|int j=>(let⟨c,rfl⟩:=a;show ne_int<|aL I q<|congrArg not E9)|str j=>(let⟨c,rfl⟩:=a;show PySem.EqMixed.ne_int_str<|aL I q<|`d)|_=>show absurd (show false=ϱ from d) ze)|str i=>(let⟨t,rfl⟩:=e;cases y with|ay=>(cases a;show PySem.EqNone.ne_str_none<|aL I q<|`d)|bl j=>(cases a;show PySem.EqMixed.ne_str_bool<|aL I q<|`d)|int j=>(let⟨c,rfl⟩:=a;show PySem.EqMixed.ne_str_int<|aL I q<|`d)|str j=>(let⟨c,rfl⟩:=a;show ne_str<|aL I q<|congrArg not E_)|_=>show absurd (show false=ϱ from d) ze)|E3 i=>(let⟨t,rfl⟩:=e;cases y with|E3 j=>(let⟨c,rfl⟩:=a;show PySem.W.ne_bytes<|aL I q<|congrArg not Fc)|_=>show absurd (show false=ϱ from d) ze)|_=>cases y<;>show absurd (show false=ϱ from d) ze
theorem Vu:gX X (compareOp .Lt) (MG λi j=>.bl<|ω<|i<j):=MH λz z z z z z z q=>lt_int q
theorem Vv:gX X (compareOp .LtE) (MG λi j=>.bl<|ω<|i<=j):=MH λz z z z z z z q=>le_int q
theorem Vx:gX X (compareOp .Gt) (MG λi j=>.bl<|ω<|j<i):=MH λz z z z z z z q=>gt_int q
theorem Vy:gX X (compareOp .GtE) (MG λi j=>.bl<|ω<|j<=i):=MH λz z z z z z z q=>ge_int q
def G1:gX X (compareOp .Lt) (λx y H Q=>∃i j,x=.str i/\y=.str j/\Q (.bl<|ω<|i.cps.toList<j.cps.toList) H):=by intro qc s σ H x y v u Q I c a h;let⟨i,j,rfl,rfl,q⟩:=h;let⟨t,rfl⟩:=c;let⟨d,rfl⟩:=a;show lt_str<|aL I q rfl
def G4:gX X (compareOp .In) (λx y H Q=>∃i j,x=.str i/\y=.str j/\Q (.bl<|!(Builtin.Str.occurrences j i 0 j.length 1).isEmpty) H):=by intro qc s σ H x y v u Q I c a h;let⟨i,j,rfl,rfl,q⟩:=h;let⟨t,rfl⟩:=c;let⟨d,rfl⟩:=a;show in_str<|aL I q rfl
def QG:gX X (compareOp .Is) (λx y H Q=>y=.ay/\Q (.bl<|ω<|x=.ay) H):=by intro qc s σ H x y v u Q I a c h;let⟨rfl,q⟩:=h;cases c;show is_none_gen<|aL I q ?_;cases x<;>first| (cases a;rfl)| (let⟨t,rfl⟩:=a;rfl)
def MJ:gX X (compareOp .IsNot) (λx y H Q=>y=.ay/\Q (.bl<|!decide (x=.ay)) H):=by intro qc s σ H x y v u Q I a c h;let⟨rfl,q⟩:=h;cases c;show isnot_none_gen<|aL I q ?_;cases x<;>first| (cases a;rfl)| (let⟨t,rfl⟩:=a;rfl)
def xo:gX X (compareOp .NotIn) (λx y H Q=>∃i j,x=.str i/\y=.str j/\Q (.bl<|!(!(Builtin.Str.occurrences j i 0 j.length 1).isEmpty)) H):=by intro qc s σ H x y v u Q I c a h;let⟨i,j,rfl,rfl,q⟩:=h;let⟨t,rfl⟩:=c;let⟨d,rfl⟩:=a;show notIn_str<|aL I q rfl
def aah(b:Δ)(h:ψ (op≠.In) qQZ)(h2:ψ (op≠.NotIn) qQZ):behindInMarks op b=ϰ:=by
 have e1:(op==CmpOp.In)=ϰ:=by cases op<;>first|rfl|show absurd rfl h
 have e2:(op==CmpOp.NotIn)=ϰ:=by cases op<;>first|rfl|show absurd rfl h2
 cases b<;>simp[behindInMarks,e1,e2]
def Fd{op:CmpOp}{r:R2}(ho:gX X (compareOp op) r)(ha:PE X a ta)(hb:PE X b tb)(hm:behindInMarks op b=ϰ):PE X (.Compare a [op] [b] pos) (Uj r ta tb):=by intro qc s σ H Q I h;show wpAny_Compare1 (QA ha hb I h λv u s2 x y H2 d e c q=>ho qc s2 σ H2 x y v u Q d e c q) hm
def Jp(t:TE):TT:=λσ H Q=>t σ H λx H'=>∃k,x=.bl k/\Q k H'
def MK{op:CmpOp}{r:R2}(ho:gX X (compareOp op) r)(ha:PE X a ta)(hb:PE X b tb)(hm:behindInMarks op b=ϰ):PT X (.Compare a [op] [b] pos) (Jp<|Uj r ta tb):=by intro qc s σ H Q I h;show wpAny_isTrue_Compare1 (bB (ha qc s σ H _ I h) λv s1 ⟨x,H1,l,m,n⟩=>bB (hb qc s1 σ H1 _ l n) λu s2 ⟨y,H2,g,j,i⟩=>bB (ho qc s2 σ H2 x y v u _ g m j i) λc w ⟨z,d,o,p,k,e,t⟩=>?_) hm;subst e;cases p;show yI ⟨d,o,t⟩
def CP(r e:R2)(ta tb tc:TE):TE:=λσ H Q=>ta σ H λx H1=>tb σ H1 λy H2=>r x y H2 λz a=>∃k,z=.bl k/\(if k=ϱ then tc σ a λc d=>e y c d Q else Q (.bl false) a)
def Jq{op g:CmpOp}{r l:R2}(ho:gX X (compareOp op) r)(p:gX X (compareOp g) l)(ha:PE X a ta)(hb:PE X b tb)(K:PE X c tc) (hm:ψ (lastMarks [op,g] [b,c]=ϰ) qQ2):PE X (.Compare a [op,g] [b,c] pos) (CP r l ta tb tc):=by intro qc s σ H Q I h;show Compare_chain (bB (ha qc s σ H _ I h) λv s1 ⟨x,H1,E,F,J⟩=>chain_link<|bB (hb qc s1 σ H1 _ E J) λu s2 ⟨y,H2,w,i,M⟩=>bB (ho qc s2 σ H2 x y v u _ w F i M) λd C ⟨z,n,j,N,k,e,m⟩=>?_) hm;subst e;cases N;show yI ?_;cases k with|false=>show ite_ff {.bl false,n,j,rfl,m}|true=>show ite_tt<|chain_last<|bB (K qc C σ n _ j m) λG L ⟨o,t,O,A,B⟩=>p qc L σ t y o u G Q O i A B
def Jr{op g:CmpOp}{r l:R2}(ho:gX X (compareOp op) r)(t:gX X (compareOp g) l)(ha:PE X a ta)(hb:PE X b tb)(P:PE X c tc) (hm:ψ (lastMarks [op,g] [b,c]=ϰ) qQ2):PT X (.Compare a [op,g] [b,c] pos) (Jp<|CP r l ta tb tc):=by intro qc s σ H Q I h;show isTrue_chain (bB (ha qc s σ H _ I h) λv s1 ⟨x,H1,L,M,O⟩=>test_link<|bB (hb qc s1 σ H1 _ L O) λu s2 ⟨y,H2,C,i,S⟩=>bB (ho qc s2 σ H2 x y v u _ C M i S) λd K ⟨z,n,j,U,k,e,m⟩=>?_) hm;subst e;cases U;show yI ?_;cases k with|false=>(let⟨k',e',p⟩:=m;cases e';show ite_ff ⟨n,j,p⟩)|true=>show ite_tt<|test_last<|bB (P qc K σ n _ j m) λN R ⟨o,A,Y,F,J⟩=>bB (t qc R σ A y o u N _ Y i F J) λd' Z ⟨z2,E,w,B,k2,e2,G⟩=>?_;subst e2;cases B;show yI ⟨E,w,G⟩
def sQ:(Ϙ:π)<2^63:=by rw[yg];decide
def sR:gX X (binaryOp .Add) (λx y H Q=>∃i j,x=.str i/\y=.str j/\i.length+j.length<=Ϙ/\Q (.str<|i++j) H):=by intro qc s σ H x y v u Q I d a h;let⟨i,j,rfl,rfl,hz,q⟩:=h;let⟨t,rfl⟩:=d;let⟨c,rfl⟩:=a;show add_str (λc tk=>{.str<|i++j,H,I.tok _,{_,rfl},q}) hz
def vals1(r:Vals [x] us):∃u,us=[u]/\RelV x u:=by cases r with|cons c a=>cases a;show{_,rfl,c}
def vals2(r:Vals [x,y] us):∃u a,us=[u,a]/\RelV x u/\RelV y a:=by cases r with|cons g c=>cases c with|cons d e=>cases e;show{_,_,rfl,g,d}
def G6(c:X.calm=ϱ):eQ X (.builtin "min") (λxs H Q=>∃i j,xs=[.int i,.int j]/\Q (.int<|if j<i then j else i) H):=by intro qc s σ H xs us Q I r h;let⟨i,j,rfl,q⟩:=h;let⟨u,e,rfl,⟨t,rfl⟩,⟨d,rfl⟩⟩:=vals2 r;show min_two_ints (I.ok.hd c) λh' tk k=>{_,H,I.kept k,?_,q};by_cases a:j<i;rw[qb a,qb a];show{_,rfl};rw[qa a,qa a];show{_,rfl}
def v5:eQ X (.type "int") (λxs H Q=>(∃i,xs=[.int i]/\Q (.int i) H)\/∃k,xs=[.bl k]/\Q (.int<|if k then 1 else 0) H):=by intro qc s σ H xs us Q I r h;rcases h with⟨i,rfl,q⟩|⟨k,rfl,q⟩;let⟨u,rfl,t,rfl⟩:=vals1 r;show call_int_int {.int i,H,I,{_,rfl},q};let⟨u,rfl,a⟩:=vals1 r;cases a;show call_int_bool {.int<|if k then 1 else 0,H,I.tok _,{_,rfl},q}
def aai(K:Φ)(x:V)(H:Hp)(n:π):Prop:=match x with|.str y=>y.length<=Ϙ/\n=y.length|.E3 y=>y.size<=Ϙ/\n=y.size|.ref p=>(∃xs,jf K H p xs/\n=xs.length)\/∃xs,iy K H p xs/\n=xs.length|_=>False
def kh:eQ X (.builtin "len") (λxs H Q=>∃x n,xs=[x]/\aai X.K x H n/\Q (.int n) H):=by intro qc s σ H xs us Q I r h;let⟨x,n,rfl,e,q⟩:=h;let⟨u,rfl,c⟩:=vals1 r;have hl:=sQ;have l:Ϙ=16777216:=yg;cases x with|str y=>(let⟨t,rfl⟩:=c;obtain⟨i,e'⟩:y.length<=Ϙ/\n=y.length:=e;subst e';show len_str `b {.int _,H,I.tok _,{_,rfl},q})|E3 y=>(let⟨t,rfl⟩:=c;obtain⟨i,e'⟩:y.size<=Ϙ/\n=y.size:=e;subst e';show PySem.W.len_bytes `b {.int _,H,I.tok _,{_,rfl},q})|ref p=>(cases c;have e':(∃xs,jf X.K H p xs/\n=xs.length)\/∃xs,iy X.K H p xs/\n=xs.length:=e;rcases e' with⟨xs,hx,e'⟩|⟨xs,hx,e'⟩;subst e';let⟨j,g,d,hz⟩:=I.list hx;have a:=g.length;show Calls.call_len_list d.isList (by simp only[zx];lia) {.int xs.length,H,I.tok _,{_,by simp only[zx];rw[a]},q};subst e';let⟨j,g,d,hz⟩:=I.tuple hx;have a:=g.length;show len_tuple d (by simp only[zx];lia) {.int xs.length,H,I.tok _,{_,by simp only[zx];rw[a]},q})|_=>show(show False from e).elim
end
structure CQ(h:Γ)(x dx C:ε)(mA:ρ->θ ξ):η where
 obj:h.get? x=ϑ (instObj C dx)
 ns:h.Ns1 dx mA
 ne:dx≠x
set_option tactic.hygienic true in
def G7{h:Γ}{dx:ε}{mA:ρ->θ ξ}(n:h.Ns1 dx mA):∃od,h.get? dx=ϑ od/\∀name,lookIn name od=ϑ (mA name):=by
 let⟨o,es,ep,ho,hd,hk,_,hm⟩:=n;show{o,ho,λname=>?_};have e:=hm name;unfold nsFind findBy at e;rw[<-Array.find?_toList]at e;unfold lookIn;rw[hd];dsimp only;split;rename_i y q;rw[q]at e;show congrArg some e;rename_i q;rw[q]at e;have a:es.toList.any (·.refKey)=ϰ:=by rw[List.any_eq_false];intro y d;let⟨z,t,g⟩:=hk y<|Array.mem_toList_iff.mp d;simp[DictEntry.refKey,g]
 have c:¬es.toList.any (·.refKey)=ϱ:=by rw[a];show ze
 rw[qa c];show congrArg some e
theorem CQ.look(I:CQ h x dx C mA):∃od,PySem.W.InstAt h x (instObj C dx) C (some od)/\∀name,lookIn name od=ϑ (mA name):=
 let ⟨od,ho,hl⟩:=G7 I.ns
 ⟨od,⟨I.obj,rfl,rfl,ho⟩,hl⟩
section
variable{prog:Ψ}{w:Ω}{A:ϕ}{E:ξ->ζ->η}{s:ζ}{K:Φ}{x dx C f:ε}{mA:ρ->θ ξ}{name:ρ}{v:ξ}
def get_map(X:K.In s.heap)(I:CQ s.heap x dx C mA)(hg:plainGet K C name=ϱ)(c:hasDictIn K C=ϱ) (ha:findIn K (.ref C) name=ϑ none) (hv:mA name=ϑ v) (a:handedIn v=ϱ) (h:Q v {s with toks:=s.toks+1}): wpAny `n A (getAttr (.ref x) name expr) Q E s:=by let⟨od,J,hl⟩:=I.look;show PySem.W.get_value X J (plainGet_of hg).1 (PySem.W.findObj_own c ha rfl<|by rw[hl,hv]) a h
def Js(X:K.In s.heap)(I:CQ s.heap x dx C mA)(hg:plainGet K C name=ϱ) (hf:findIn K (.ref C) name=ϑ (some<|.ref f)) (a:isFn K (.ref f)=ϱ) (hv:mA name=ϐ) (h:Q (.ref f,[.ref x]) s): wpAny `n A (getMethod (.ref x) name pl) Q E s:=by let⟨od,J,hl⟩:=I.look;show PySem.W.method_fn X J (plainGet_of hg).1 (plainGet_of hg).2 hf (beq_iff_eq.mp a) (by change(lookIn name od).map (·.isSome)=ϑ false;rw[hl,hv];rfl) h
def ML(X:K.In s.heap)(I:CQ s.heap x dx C mA) (n:findIn K (.ref C) "__setattr__"= some (some<|.builtin "object.__setattr__")) (hp:plainOver K C=ϱ) (l:takerIn K C name=ϑ none) (o:hasDictIn K C=ϱ) (hw:PySem.Within mA ns) (hsz:ns.length<=Ϙ) (h:∀h',CQ h' x dx C (λy=>if y=name then some v else mA y)->Heap.SameBut dx s.heap h'->Q () {s with heap:=h',toks:=s.toks+2}): wpAny `n A (setAttr (.ref x) name v) Q E s:=by let⟨od,J,hl⟩:=I.look;show PySem.W.set_plain X J n<|PySem.W.osa_open (s:={s with toks:=s.toks+1}) (r:=none) X J hp l λb=>?_;let⟨cd,p,j⟩:=PySem.W.any_some o;have hx:s.heap.get? x=ϑ {.ref C,some dx,.plain,#[]}:=I.obj;show zb<|zr<|zb<|zb<|wpAny_loadPart hx<|zb<|PySem.W.Looks.here (s:={s with toks:=s.toks+1}) (PySem.W.looks_clsIn X p) ?_;rw[j];show zr (a:=some dx)<|zb<|zr<|zb ?_;show wpAny_nsSet1 (s:={s with toks:=s.toks+1}) I.ns λh' g i=>?_;let⟨z,t,m,c,e,d⟩:=g.count<|PySem.Within.cons name v hw;show zb<|wpAny_lookBehind c (by rw[e];show pastItsLine_dict<|zH d<|by rw[zV];lia) ?_;show zr<|h _ {(i.2 _<|Ne.symm I.ne).trans I.obj,g,I.ne} i
def Jt(X:K.In s.heap)(hm:makesIn K C=ϱ) (hi:findIn K (.ref C) "__init__"= some (some<|.ref f)) (hf:PySem.W.typeIn K (.ref f)=ϑ (.type "function")) (h:codeAny `n (A.under<|.builtin "type.__call__" {.ref C::vs,kw}) (.call (.ref f) {.ref (s.heap.objs.size+1)::vs,kw}) (PySem.W.InitBack (s.heap.objs.size+1) R) {s with heap:=(s.heap.push emptyDict).push<|instObj C s.heap.objs.size}): codeAny `n A (.call (.ref C) ⟨vs,kw⟩) R s:=by let⟨a,g,d,t,os⟩:=s;show PySem.W.make_core (PySem.W.makes_of X hm) (looks_findIn X hi) (λself=>PySem.W.bind_fn X self hf) (.inl rfl) h
end
noncomputable def putF(f:ρ)(v:V):δ (ρ×V)->δ (ρ×V)|[]=>[(f,v)]| (g,x)::r=>if g=f then (g,v)::r else (g,x)::putF f v r
theorem qu(f g:ρ)(v:V):∀fs:δ (ρ×V),(putF f v fs).lookup g=if g=f then some v else fs.lookup g|[]=>by change List.lookup g [(f,v)]=_;by_cases h:g=f;have hb:(g==f)=ϱ:=beq_iff_eq.mpr h;simp only[List.lookup,hb,qb h];have hb:(g==f)=ϰ:=beq_eq_false_iff_ne.mpr h;simp only[List.lookup,hb,qa h]| (k,x)::r=>by have a:=qu f g v r;rw[show putF f v ((k,x)::r)=(if k=f then (k,v)::r else (k,x)::putF f v r) from rfl];by_cases hk:k=f;rw[qb hk];by_cases h:g=k;have hb:(g==k)=ϱ:=beq_iff_eq.mpr h;simp only[List.lookup,hb,qb<|h.trans hk];have hb:(g==k)=ϰ:=beq_eq_false_iff_ne.mpr h;simp only[List.lookup,hb,qa (λe:g=f=>h<|e.trans hk.symm)];rw[qa hk];by_cases h:g=k;have hb:(g==k)=ϱ:=beq_iff_eq.mpr h;simp only[List.lookup,hb,qa (λe:g=f=>hk<|h.symm.trans e)];have hb:(g==k)=ϰ:=beq_eq_false_iff_ne.mpr h;simp only[List.lookup,hb];show a
theorem pE(f:ρ)(v:V):∀fs:δ (ρ×V),f∈(putF f v fs).map (·.1)/\∀g,g∈fs.map (·.1)->g∈(putF f v fs).map (·.1)|[]=>{by simp[putF],λg h=>by simp at h}| (k,x)::r=>by let⟨i1,i2⟩:=pE f v r;rw[show putF f v ((k,x)::r)=(if k=f then (k,v)::r else (k,x)::putF f v r) from rfl];by_cases hk:k=f;rw[qb hk];subst hk;show{`d,λg h=>by simpa using h};rw[qa hk];show{?_,λg h=>?_};rw[zK];show zh _ i1;rw[zK]at h⊢;rcases zl.mp h with e|e;show zl.mpr<|.inl e;show zh _<|i2 g e
theorem qv(f:ρ)(v:V):∀fs:δ (ρ×V),(putF f v fs).length<=fs.length+1|[]=>by simp[putF]| (k,x)::r=>by have ih:=qv f v r;rw[show putF f v ((k,x)::r)=(if k=f then (k,v)::r else (k,x)::putF f v r) from rfl];by_cases hk:k=f;rw[qb hk,zV,zV];lia;rw[qa hk,zV,zV];lia
def gU.some_of(r:gU (some v) o):∃u,o=ϑ u/\RelV v u:=by cases o with|none=>show(show False from r).elim|some u=>show⟨u,rfl,r⟩
def gU.none_of(r:gU none o):o=ϐ:=by cases o with|none=>rfl|some u=>show(show False from r).elim
def G8(r:RelV v u):handedIn u=ϱ:=by cases v with|ay=>(cases (show u=Value.none from r);rfl)|bl b=>(cases (show u=Value.bool b from r);rfl)|int i=>(let⟨t,e⟩:=(show ∃t,u=Value.int i t from r);cases e;rfl)|str x=>(let⟨t,e⟩:=(show ∃t,u=Value.str x t from r);cases e;rfl)|E3 b=>(let⟨t,e⟩:=(show ∃t,u=Value.bytes b t from r);cases e;rfl)|P8 b=>(let⟨t,e⟩:=(show ∃t,u=Value.float b t from r);cases e;rfl)|ref a=>(cases (show u=Value.ref a from r);rfl)|ty n=>cases (show u=Value.type n from r);rfl
section
variable{P:Ψ}{w:Ω}{H:Hp}{h:Γ}{a C dx:ε}{fs:δ (ρ×V)}
def rM(aK:lQ P w H h)(e:H a=ϑ (.ins C dx fs)):∃mA,CQ h a dx C mA/\(∀f,gU (fs.lookup f)<|mA f)/\PySem.Within mA (fs.map (·.1))/\fs.length<=1000/\H dx=ϑ (.own a):=by let⟨d,z,ne,c,mA,n,r,q⟩:=(show bj P w H h a (.ins C dx fs) from aK a _ e);show{mA,⟨c,n,ne⟩,r,q,z,d}
end
structure rN(K:Φ)(C:ε):η where
 pg:plainGet K C Str.empty=ϱ
 hd:hasDictIn K C=ϱ
 po:plainOver K C=ϱ
 sa:findIn K (.ref C) "__setattr__"= some (some<|.builtin "object.__setattr__")
theorem rN.get{K:Φ}{C:ε}(c:rN K C)(f:ρ):plainGet K C f=ϱ:=c.pg
def kj(K:Φ)(C:ε)(f:ρ):Prop:=findIn K (.ref C) f=ϑ none
def kj.Vz{K:Φ}{C:ε}{f:ρ}(n:kj K C f):takerIn K C f=ϑ none:=by unfold takerIn;rw[show findIn K (.ref C) f=ϑ none from n];rfl
structure Con(K:Φ)(C:ε)(f:ρ)(v:V)(u:ξ):η where
 at_:findIn K (.ref C) f=ϑ (some u)
 rel:RelV v u
 get:specialIn K u "__get__"= some none
 cp:PySem.W.copiedNames.contains f=ϰ
structure Meth(K:Φ)(C:ε)(m:ρ)(f:ε):η where
 at_:findIn K (.ref C) m=ϑ (some<|.ref f)
 fn:isFn K (.ref f)=ϱ
 kp:keepIn K (.ref f)=ϱ
section
variable{X:Cx}{qc:δ (ε×Obj)}{σ:St}{H:Hp}{s:ζ}{a C dx:ε}{fs:δ (ρ×V)}{f:ρ}{v:V}{A:ϕ}{E:ξ->ζ->η}
def CT(I:Inv X qc σ H s)(e:H a=ϑ (.ins C dx fs))(c:rN X.K C)(n:kj X.K C f)(l:fs.lookup f=ϑ v) (h:∀u s',Inv X qc σ H s'->RelV v u->Q u s'):wpAny `m A (getAttr (.ref a) f b) Q E s:=by let⟨mA,O,r,_,_,_⟩:=rM I.aK e;let⟨u,hu,d⟩:=gU.some_of (v:=v) (o:=mA f) (by rw[<-l];show r f);show get_map I.lS O (c.get f) c.hd n hu (G8 d)<|h u _ (I.tok _) d
def sU(I:Inv X qc σ H s)(e:H a=ϑ (.ins C dx fs))(c:rN X.K C)(k:Meth X.K C m g)(l:fs.lookup m=ϐ) (h:Q (.ref g,[.ref a]) s):wpAny `m A (getMethod (.ref a) m pl) Q E s:=by let⟨mA,O,r,_,_,_⟩:=rM I.aK e;have hn:mA m=ϐ:=gU.none_of (by rw[<-l];show r m);show Js I.lS O (c.get m) k.at_ k.fn hn h
def CU(I:Inv X qc σ H s)(e:H a=ϑ (.ins C dx fs))(c:rN X.K C)(n:kj X.K C f)(hl:fs.length<1000)(i:RelV y u) (h:∀s',Inv X qc σ (upd H a<|.ins C dx<|putF f y fs) s'->Q () s'):wpAny `m A (setAttr (.ref a) f u) Q E s:=by
 let⟨mA,O,r,wi,_,ho⟩:=rM I.aK e;have hz:(fs.map (·.1)).length<=sizeLine:=by rw[zd,yg];lia
 show ML I.lS O c.sa c.po n.Vz c.hd wi hz λh' d sb=>h _ ?_;have hd:∃o,h'.get? dx=ϑ o:=by let⟨o,_,_,e',_⟩:=d.ns;show⟨o,e'⟩
 show I.write (x:=a) (e:=dx) (by rw[e];show True.intro) (.inr ho) (λb q hb z=>(sb.2 b hb).trans z) hd ?_;show{by rw[ax O.ne];show ho,?_,O.ne,d.obj,_,d.ns,λg=>?_,λg hg=>?_};have:=qv f y fs;lia;change gU ((putF f y fs).lookup g) (if g=f then some u else mA g);rw[qu];by_cases q:g=f;rw[qb q,qb q];show i;rw[qa q,qa q];show r g;by_cases q:g=f;rw[q];show(pE f y fs).1;show(pE f y fs).2 g<|wi g λz=>hg ?_;change(if g=f then some u else mA g)=ϐ;rw[qa q];show z
def Inv.made(I:Inv X qc σ H s):Inv X qc σ (upd (upd H s.heap.objs.size<|.own<|s.heap.objs.size+1) (s.heap.objs.size+1)<|.ins C s.heap.objs.size []) {s with heap:=(s.heap.push emptyDict).push<|instObj C s.heap.objs.size}:=by
 have e1:(s.heap.push emptyDict).get? s.heap.objs.size=ϑ emptyDict:=zo s.heap rfl;have e2:((s.heap.push emptyDict).push<|instObj C s.heap.objs.size).get? (s.heap.objs.size+1)=ϑ (instObj C s.heap.objs.size):=by have:=zo (s.heap.push emptyDict) (o:=instObj C s.heap.objs.size) rfl;rwa [ye]at this
 have e3:(s.heap.push emptyDict).Ns s.heap.objs.size (λz=>none):={emptyDict,#[],_,e1,rfl,(λe g=>absurd g<|`d),λz=>rfl};have c:=I.laid (a:=s.heap.objs.size) (o:=.own<|s.heap.objs.size+1) (h':=s.heap.push emptyDict) (t':=s.toks) (λb u q=>za _ q) (zj _) {_,e1};show c.laid (a:=s.heap.objs.size+1) (o:=.ins C s.heap.objs.size []) (t':=s.toks) (λb u q=>za _ q) (Nat.le_of_eq<|ye _ _) ?_;have ne:s.heap.objs.size≠s.heap.objs.size+1:=zD<|Nat.lt_succ_self _;show{by rw[ax ne,aD],yh _,ne,e2,λz=>none,(Heap.Ns1.of_empty e3).at λo q=>za _ q,λz=>True.intro,λy d=>absurd rfl d}
theorem MM(hb:attributeBase e f env (eval e env)=eval e env) (h:wpAny `n A (eval e env) (λo bp=>wpAny `n A (getAttr o f true) Q E bp) E s):wpAny `n A (eval (.Attribute e f pos) env) Q E s:=Attribute_any_ h<|by rw[arm_eval_Attribute,hb]
end
def aaj(K:Φ)(ta:TE)(f:ρ):TE:=λσ H Q=>ta σ H λx H1=>∃a C dx fs v,x=.ref a/\H1 a=ϑ (.ins C dx fs)/\rN K C/\kj K C f/\fs.lookup f=ϑ v/\Q v H1
def aak(K:Φ)(ta tv:TE)(f:ρ):TS:=λD σ H=>tv σ H λy H1=>ta σ H1 λx H2=>∃a C dx fs,x=.ref a/\H2 a=ϑ (.ins C dx fs)/\rN K C/\kj K C f/\fs.length<1000/\D.nx σ (upd H2 a<|.ins C dx<|putF f y fs)
section
variable{X:Cx}{o e value:Δ}{f:ρ}{pos pos':Pos}{ta tv:TE}
def QI(o:PE X e ta)(hb:attributeBase e f X.env (eval e X.env)=eval e X.env):PE X (.Attribute e f pos) (aaj X.K ta f):=by intro qc s σ H Q I h;show MM hb<|bB (o qc s σ H _ I h) λu s1 ⟨x,H1,m,i,a,C,dx,fs,v,ex,d,c,n,l,q⟩=>?_;subst ex;obtain rfl:u=Value.ref a:=i;show CT m d c n l λp s2 g j=>⟨v,H1,g,j,q⟩
def QJ(ha:PE X o ta)(hv:PE X value tv)(m:swapsWith value (some<|.Attribute o f pos') pos.line X.env=pure false):PS X (.Assign [.Attribute o f pos'] value pos) (aak X.K ta tv f):=by intro qc s σ H D I h;show plainObj_wpAny_Assign_Attribute (bB (hv qc s σ H _ I h) λu s1 ⟨y,H1,j,e,q⟩=>bB (ha qc s1 σ H1 _ j q) λi s2 ⟨x,H2,g,t,a,C,dx,fs,ex,d,c,n,l,r⟩=>?_) m;subst ex;obtain rfl:i=Value.ref a:=t;show CU g d c n l e λv p=>{σ,_,p,r}
end
section
variable{X:Cx}{qc:δ (ε×Obj)}{σ:St}{H:Hp}{s:ζ}{A:ϕ}{E Q:ξ->ζ->η}{c:ξ}{b:χ}
inductive pF (K:Φ) (H:Hp):V->ξ->η
 |ay:pF K H .ay (.type "NoneType")
 |bl (x:χ):pF K H (.bl x) (.type "bool")
 |int (i:ν):pF K H (.int i) (.type "int")
 |str (x:ρ):pF K H (.str x) (.type "str")
 |P8 (x:UInt64):pF K H (.P8 x) (.type "float")
 |lst {a:ε}{xs:δ V} (e:H a=ϑ (.lst xs)):pF K H (.ref a) (.type "list")
 |l9 {a:ε}{o:Obj}{xs:δ V} (e:H a=ϑ (.l9 o<|.lst xs)):pF K H (.ref a) (.type "list")
 |tup {a:ε}{xs:δ V} (e:H a=ϑ (.tup xs)):pF K H (.ref a) (.type "tuple")
 |dK {a:ε}{kvs:δ<|Key×V} (e:H a=ϑ (.dK kvs)):pF K H (.ref a) (.type "dict")
 |dT {a:ε}{kvs:δ<|δ Key×V} (e:H a=ϑ (.dT kvs)):pF K H (.ref a) (.type "dict")
 |ins {a C dx:ε}{fs:δ<|ρ×V} (e:H a=ϑ (.ins C dx fs)) (cl:rN K C) (ha:findIn K (.ref C) "__class__"= some (some<|.builtin "object.__class__"))
   (hn:specialIn K (.builtin "object.__class__") "__get__"= some (some<|.builtin "getset_descriptor.__get__")) (htk:PySem.W.takesIn K (.builtin "object.__class__")=ϑ true)
   (hm:mroIn K C (.type "object")=ϑ true):pF K H (.ref a) (.ref C)
def G9{u t:ξ}(I:Inv X qc σ H s)(g:RelV x u)(ty:pF X.K H x t)(e:kitOne X.K t c=ϑ b)(h:∀tk,Q (.bool b) {s with toks:=tk}): wpAny `m A (call (.builtin "isinstance") [u,c]) Q E s:=by cases ty with|ay=>(cases (show u=Value.none from g);show kia_one PySem.W.kitx_none I.lS True.intro e (λz=>nomatch z) h)|bl y=>(cases (show u=Value.bool y from g);show kia_one PySem.W.kitx_bool I.lS True.intro e (λz=>nomatch z) h)|int i=>(let⟨t,q⟩:=(show ∃t,u=Value.int i t from g);cases q;show kia_one PySem.W.kitx_int I.lS True.intro e (λz=>nomatch z) h)|str y=>(let⟨t,q⟩:=(show ∃t,u=Value.str y t from g);cases q;show kia_one PySem.W.kitx_str I.lS True.intro e (λz=>nomatch z) h)|P8 y=>(let⟨t,q⟩:=(show ∃t,u=Value.float y t from g);cases q;show kia_one PySem.W.kitx_float I.lS True.intro e (λz=>nomatch z) h)|@lst a xs d=>(cases (show u=Value.ref a from g);let⟨_,_,n,_,h1⟩:=(show bj X.prog X.w H s.heap a (.lst xs) from I.aK a _ d);show kia_one kitx_list I.lS {_,h1,rfl} e (λz=>nomatch z) h)|@l9 a j xs d=>(cases (show u=Value.ref a from g);let⟨_,_,_,n,_,h1⟩:=(show bj X.prog X.w H s.heap a (.l9 j<|.lst xs) from I.aK a _ d);show kia_one kitx_list I.lS {_,h1,rfl} e (λz=>nomatch z) h)|@tup a xs d=>(cases (show u=Value.ref a from g);let⟨_,_,_,p⟩:=(show bj X.prog X.w H s.heap a (.tup xs) from I.aK a _ d);let⟨o,h1,h2,_⟩:=p;show kia_one PySem.W.kitx_tuple I.lS ⟨o,h1,h2⟩ e (λz=>nomatch z) h)|@dK a kvs d=>(cases (show u=Value.ref a from g);let⟨_,_,vs,_,p⟩:=(show bj X.prog X.w H s.heap a (.dK kvs) from I.aK a _ d);let⟨o,es,ep,h1,h2,_⟩:=p;show kia_one PySem.W.kitx_dict I.lS ⟨o,h1,h2.1⟩ e (λz=>nomatch z) h)|@dT a kvs d=>show False.elim (show bj X.prog X.w H s.heap a (.dT kvs) from I.aK a _ d)|@ins a C dx fs d cl ha hn htk hm=>cases (show u=Value.ref a from g);let⟨mA,O,_⟩:=rM I.aK d;let⟨od,J,_⟩:=O.look;show kia_one (PySem.W.kitx_own (cl.get _) cl.hd ha hn htk hm) I.lS J e (λz=>nomatch z) h
end
structure cj(k:π)(A:ϕ):η where
 hd:A.handled=ϐ
 dp:A.depth+3*k+5<recursionLimit
 un:A.units+16*k+200<cLine
theorem cj.mono(r:cj k A)(h:j<=k):cj j A:={r.hd,by have:=r.dp;lia,by have:=r.un;lia}
theorem cj.deeper(r:cj (k+1) A)(env:Env):cj k (A.deeper env):={r.hd,by have:=r.dp;change A.depth+1+3*k+5<_;lia,by have:=r.un;change A.units+3+16*k+200<_;lia}
theorem cj.in1(r:cj (k+1) A):cj k A.in1:={r.hd,by have:=r.dp;change A.depth+3*k+5<_;lia,by have:=r.un;change A.units+1+16*k+200<_;lia}
def CV{A:ϕ}{C:ε}{us:δ ξ}{kw:δ<|ρ×ξ} : (A.under<|.builtin "type.__call__" {.ref C::us,kw}).depth=A.depth+1:=by first|rfl|simp[Around.under,Code.weight,Code.isCreation,Code.isGuard,Code.isCaller,Code.frames,Code.isFrame,guardIds]
def CW{A:ϕ}{C:ε}{us:δ ξ}{kw:δ<|ρ×ξ} : (A.under<|.builtin "type.__call__" {.ref C::us,kw}).units=A.units+1:=by first|rfl|simp[Around.under,Code.cUnits,Code.frames,Code.isFrame]
theorem cj.make(r:cj (k+1) A)(C:ε)(us:δ ξ)(kw:δ<|ρ×ξ):cj k (A.under<|.builtin "type.__call__" {.ref C::us,kw}):={r.hd,by have:=r.dp;rw[CV];lia,by have:=r.un;rw[CW];lia}
def cj.depth(r:cj k A):A.depth<recursionLimit:=by have:=r.dp;lia
def cj.units(r:cj k A):A.units+64<cLine:=by have:=r.un;lia
def aam:TA:=λz H Q=>Q [] H
def OU(ta:TE)(tr:TA):TA:=λσ H Q=>ta σ H λx H1=>tr σ H1 λxs H2=>Q (x::xs) H2
section
variable{X:Cx}{e:Δ}{es:δ Δ}{te:TE}{t:TA}{pos:Pos}
theorem CY:PA X [] aam:=λz z z z H Q I h=>Calls.spliced_nil {[],H,I,.nil,h}
def MN(ha:PE X e te)(hr:PA X es t)(j:ψ (starEach (e::es) X.env=`j::starEach es X.env) qQJ):PA X (e::es) (OU te t):=by intro pos qc s σ H Q I h;rw[j];change wpAny _ _ (spliced<|`j::backTo pos (starEach es X.env)) _ _ s;show yM<|bB (ha qc s σ H _ I h) λu s1 ⟨x,H1,g,i,l⟩=>?_;show bB (hr pos qc s1 σ H1 _ g l) <| by rintro us s2 ⟨xs,H2,a,d,c⟩;show{x::xs,H2,a,.cons i d,c}
def aan(t:TA):TE:=λσ H Q=>t σ H λxs H1=>xs.length<=Ϙ/\∀p,H1 p=ϐ->Q (.ref p) (upd H1 p<|.tup xs)
def aao(t:TA):TE:=λσ H Q=>t σ H λxs H1=>xs.length<=Ϙ/\∀p,H1 p=ϐ->Q (.ref p) (upd H1 p<|.lst xs)
def QK{x1}(h:PA X es t):PE X (.Tuple es x1 pos) (aan t):=by intro qc s σ H Q I hq;show wpAny_Tuple_spliced<|bB (h pos qc s σ H _ I hq) λus s1 ⟨xs,H1,a,r,z,q⟩=>{by rw[<-r.length];show z,?_};have hf:H1 s1.heap.objs.size=ϐ:=a.aK.fresh<|zj _;show{.ref s1.heap.objs.size,upd H1 s1.heap.objs.size<|.tup xs,a.laid (t':=s1.toks) (λb u e=>za _ e) (zj _) ?_,rfl,q _ hf};show{z,us,r,{_,zo _ rfl,rfl,rfl,_,rfl}}
def QL(h:PA X es t):PE X (.List es pos) (aao t):=by intro qc s σ H Q I hq;show wpAny_List_spliced<|bB (h pos qc s σ H _ I hq) λus s1 ⟨xs,H1,a,r,z,q⟩=>{by rw[<-r.length];show z,?_};have hf:H1 s1.heap.objs.size=ϐ:=a.aK.fresh<|zj _;show{.ref s1.heap.objs.size,upd H1 s1.heap.objs.size<|.lst xs,a.laid (t':=s1.toks) (λb u e=>za _ e) (zj _) ?_,rfl,q _ hf};show{z,us,0,r,zo _ rfl}
end
abbrev Sp:=δ V->Hp->VK->XK->η
abbrev CZ:=δ Env->Hp->ζ->XK->ξ->ζ->η
structure AR(P:Ψ)(w:Ω)(K:Φ)(mg:ρ->θ ξ)(base:Γ)(A:ϕ)(outer:δ Env)(s:ζ)(H:Hp):η where
 frames:A.frames=ϑ outer
 mod:Mod K mg base
 bs:∀b o,base.get? b=ϑ o->s.heap.get? b=ϑ o/\H b=ϐ
 GS:base.objs.size<=s.heap.objs.size
 lR:s.heap.FunFrames base outer
 Jd:∀b∈mD outer,H b=ϐ
 aK:lQ P w H s.heap
 bare:AllBare s.gens
def CE(outer:δ Env)(P:Ψ)(w:Ω)(H:Hp)(s:ζ)(Q:VK)(u:ξ)(s':ζ):Prop:=∃v H',s'.os=s.os/\AllBare s'.gens/\Un (mD outer) [] H H' s.heap s'.heap/\lQ P w H' s'.heap/\RelV v u/\Q v H'
def CR(CX:CZ)(outer:δ Env)(P:Ψ)(w:Ω)(H:Hp)(s:ζ)(Q:VK)(E:XK)(r:Result)(s':ζ):Prop:=match r with|.ok (.ret u)=>CE outer P w H s Q u s'|.ok _=>False|.error e=>CX outer H s E e s'
structure bU(P:Ψ)(w:Ω)(K:Φ)(mg:ρ->θ ξ)(base:Γ)(CX:CZ)(k:π)(f:ε)(fd:FuncData)(ps:δ ρ)(sp:Sp):η where
 len:∀vs H Q E,sp vs H Q E->vs.length=ps.length
 run:∀(A:ϕ)(outer:δ Env)(s:ζ)(H:Hp)(args:Args)(us:δ ξ)(vs:δ V)(Q:VK)(E:XK),cj k A->AR P w K mg base A outer s H->BindsTo s fd args (ps.zip us)->Vals vs us->sp vs H Q E ->
  codeAny (model P w) A (.call (.ref f) args) (CR CX outer P w H s Q E) s
theorem bU.mono{P:Ψ}{w:Ω}{K:Φ}{mg:ρ->θ ξ}{base:Γ}{CX:CZ}{j k:π}{f:ε}{fd:FuncData}{ps:δ ρ}{sp:Sp}(F:bU P w K mg base CX j f fd ps sp)(h:j<=k): bU P w K mg base CX k f fd ps sp:={F.len,λA outer s H args us vs Q E hr=>F.run A outer s H args us vs Q E<|hr.mono h}
theorem bU.imp{P:Ψ}{w:Ω}{K:Φ}{mg:ρ->θ ξ}{base:Γ}{CX:CZ}{k:π}{f:ε}{fd:FuncData}{ps:δ ρ}{sp sp':Sp}(F:bU P w K mg base CX k f fd ps sp) (h:∀vs H Q E,sp' vs H Q E->sp vs H Q E):bU P w K mg base CX k f fd ps sp':={λvs H Q E q=>F.len vs H Q E<|h _ _ _ _ q,λA outer s H args us vs Q E hr c hb hv a=>F.run A outer s H args us vs Q E hr c hb hv<|h _ _ _ _ a}
theorem AR.make{P:Ψ}{w:Ω}{K:Φ}{mg:ρ->θ ξ}{base:Γ}{A:ϕ}{outer:δ Env}{s:ζ}{H:Hp}(e:AR P w K mg base A outer s H)(C:ε)(us:δ ξ)(kw:δ<|ρ×ξ): AR P w K mg base (A.under<|.builtin "type.__call__" {.ref C::us,kw}) outer s H:={by first|show e.frames|(simpa [Around.under,Code.envs,Code.isFrame,pushEnvs]using e.frames),e.mod,e.bs,e.GS,e.lR,e.Jd,e.aK,e.bare}
section
variable{X:Cx}{qc:δ (ε×Obj)}{σ:St}{H:Hp}{s s':ζ}
theorem Inv.VA(I:Inv X qc σ H s):AR X.prog X.w X.K X.mg X.base X.A X.stack s H:={I.ok.frames,I.ok.mod,I.bs,zH I.ok.GS I.sz,I.stack,I.rK,I.aK,I.bare}
def Inv.after(I:Inv X qc σ H s)(h:CE X.stack X.prog X.w H s Q u s'):EP X qc σ Q u s':=by let⟨v,H',os,bare,un,aK,r,q⟩:=h;let⟨c,g,d,t,a⟩:=s';obtain rfl:a=s.os:=os;show{v,H',I.call (h':=c) (g':=g) (d':=d) (t':=t) (ch:=[]) un aK bare λb z=>absurd z<|`d,r,q}
end
def Binds(K:Φ)(fd:FuncData)(ps:δ ρ)(ds:δ ξ):Prop:=∀(s:ζ)(us:δ ξ),K.In s.heap->(us++ds).length=ps.length->BindsTo s fd {us,[]} (ps.zip<|us++ds)
theorem Binds.all{K:Φ}{fd:FuncData}{ps:δ ρ}(h:∀us:δ ξ,us.length=ps.length->bindArgs fd {us,[]}=pure (ps.zip us)):Binds K fd ps []:=λs us z hl=>by rw[yR]at hl⊢;show .of_eq<|h us hl
def Passes(CX:CZ)(X:Cx)(E:XK):Prop:=∀(qc:δ (ε×Obj))(σ:St)(H:Hp)(s:ζ)(e:ξ)(s':ζ),Inv X qc σ H s->CX X.stack H s E e s'->X.xe e s'
section
variable{f C:ε}
structure Mk(K:Φ)(C f:ε):η where
 makes:makesIn K C=ϱ
 init:findIn K (.ref C) "__init__"= some (some<|.ref f)
 fn:isFn K (.ref f)=ϱ
 kp:keepIn K (.ref C)=ϱ
end
section
variable{fd:FuncData}{ps ks:δ ρ}
structure aap(K:Φ)(fd:FuncData)(ps ks:δ ρ)(g:δ ξ->δ ξ->δ ξ)(gV:δ V->δ V->δ V):η where
 to:∀(s:ζ)(us ws:δ ξ),K.In s.heap->(g us ws).length=ps.length->BindsTo s fd {us,ks.zip ws} (ps.zip<|g us ws)
 rel:∀{vs:δ V}{us:δ ξ}{zs:δ V}{ws:δ ξ},Vals vs us->Vals zs ws->Vals (gV vs zs) (g us ws)
variable{g:δ ξ->δ ξ->δ ξ}{gV:δ V->δ V->δ V}
end
structure g8(N P:δ ρ)(sc:Scope):η where
 kind:sc.kind=.function
 co:sc.isCoroutine=ϰ
 gen:sc.isGenerator=ϰ
 nd:N.Nodup
 pre:N.take P.length=P
 par:∀x∈P,sc.names.lookup x=ϑ .local\/sc.names.lookup x=ϑ .cell
 QM:∀y∈sc.names,y.2≠.free
theorem v7{kindOf:ρ->θ NameKind}{x:ρ} : ∀{a:δ (ρ×ξ)}{m:ρ->θ ξ},(∀v,(x,v)∉a)->bindL kindOf a m x=m x
 |[],_,_=>rfl
 | (n,v)::r,m,h=>by
  unfold bindL;rw[v7 λw hw=>h w<|zh _ hw];split;have:x≠n:=by rintro rfl;show h v zw
  simp[this];rfl
theorem v8{kindOf:ρ->θ NameKind}{x:ρ} : ∀{a:δ (ρ×ξ)}{m:ρ->θ ξ},(∀v,(x,v)∉a)->bindC kindOf a m x=m x
 |[],_,_=>rfl
 | (n,v)::r,m,h=>by
  unfold bindC;rw[v8 λw hw=>h w<|zh _ hw];split;rfl;have:x≠n:=by rintro rfl;show h v zw
  simp[this]
theorem v9{kindOf:ρ->θ NameKind}{x:ρ}{v:ξ} : ∀{P:δ ρ}{vs:δ ξ}{i:π}{m:ρ->θ ξ},P.Nodup->P[i]?=some x->vs[i]?=some v->kindOf x=ϑ .local->bindL kindOf (P.zip vs) m x=ϑ v|[],_,_,_,_,h,_,_=>by simp at h|_::_,[],_,_,_,_,h,_=>by simp at h|p::P,w::vs,0,m,nd,h1,h2,hk=>by simp at h1 h2;subst h1;subst h2;change bindL kindOf ((p,w)::P.zip vs) m p=_;unfold bindL;rw[v7 λv hv=>(yo.mp nd).1 (List.of_mem_zip hv).1,qb hk];simp|p::P,w::vs,i+1,m,nd,h1,h2,hk=>by change bindL kindOf ((p,w)::P.zip vs) m x=_;unfold bindL;show v9 (i:=i) (yo.mp nd).2 (by simpa using h1) (by simpa using h2) hk
theorem v_{kindOf:ρ->θ NameKind}{x:ρ}{v:ξ} : ∀{P:δ ρ}{vs:δ ξ}{i:π}{m:ρ->θ ξ},P.Nodup->P[i]?=some x->vs[i]?=some v->kindOf x≠some .local->bindC kindOf (P.zip vs) m x=ϑ v|[],_,_,_,_,h,_,_=>by simp at h|_::_,[],_,_,_,_,h,_=>by simp at h|p::P,w::vs,0,m,nd,h1,h2,hk=>by simp at h1 h2;subst h1;subst h2;change bindC kindOf ((p,w)::P.zip vs) m p=_;unfold bindC;rw[v8 λv hv=>(yo.mp nd).1 (List.of_mem_zip hv).1,qa hk];simp|p::P,w::vs,i+1,m,nd,h1,h2,hk=>by change bindC kindOf ((p,w)::P.zip vs) m x=_;unfold bindC;show v_ (i:=i) (yo.mp nd).2 (by simpa using h1) (by simpa using h2) hk
noncomputable def start(N:δ ρ)(vs:δ V):St:=vs.map some++List.replicate (N.length-vs.length) none
def lT(CX:CZ)(P:Ψ)(w:Ω)(K:Φ)(mg:ρ->θ ξ)(base:Γ)(N:δ ρ)(qual:ρ)(scope:Scope)(f:ε)(cd:ξ)(A:ϕ)(outer:δ Env)(s:ζ)(H:Hp)(E:XK):Cx where
 prog:=P
 w:=w
 K:=K
 mg:=mg
 base:=base
 A:=A.deeper<|envOfC qual scope s.heap.objs.size f cd
 N:=N
 dY:=s
 xm:=H
 env:=envOfC qual scope s.heap.objs.size f cd
 outer:=outer
 stack:=envOfC qual scope s.heap.objs.size f cd::outer
 ex:=[]
 calm:=true
 fn:=λz=>true
 pn:=[]
 xe:=λe s'=>wpAny (model P w) (A.deeper<|envOfC qual scope s.heap.objs.size f cd) (leaving (envOfC qual scope s.heap.objs.size f cd) e) (λz C3=>CX outer H s E e C3) (λe' C3=>CX outer H s E e' C3) s'
def AS{sc:Scope}{n:π}{x:ρ}(h:sc.names.lookup x=ϑ .cell):∃c,(cellsFrom n sc.names []).lookup x=ϑ c:=by have q:=PySem.W.cellsFrom_some sc.names n []<|.inl h;show Option.isSome_iff_exists.mp q
def G_{CX:CZ}{P:Ψ}{w:Ω}{K:Φ}{mg:ρ->θ ξ}{base:Γ}{N ps:δ ρ}{qual:ρ}{scope:Scope}{f:ε}{cd:ξ}{A:ϕ}{outer:δ Env}{s s1:ζ}{H:Hp}{E:XK}{us:δ ξ}{vs:δ V} (S:g8 N ps scope) (hd:A.handled=ϐ) (d:AR P w K mg base A outer s H) (hl:vs.length=ps.length) (r:Vals vs us) (x:InCallC s s.heap.objs.size (bindL (envOfC qual scope s.heap.objs.size f cd).kindOf (ps.zip us) λZ=>none) (cellsFrom (s.heap.objs.size+1) scope.names []) (bindC (envOfC qual scope s.heap.objs.size f cd).kindOf (ps.zip us) λZ=>none) s1): Inv (lT CX P w K mg base N qual scope f cd A outer s H E) [] (start N vs) H s1:=by
 have o:ps.length<=N.length:=by have:=congrArg List.length S.pre;rw[yq]at this;lia
 let⟨h1,tk,rfl,hk⟩:=x.done;have l:∀b:ε,b∉(lT CX P w K mg base N qual scope f cd A outer s H E).ex:=λb z=>absurd (show b∈([]:δ ε) from z) `d;show{{d.mod,S.kind,rfl,rfl,zj _,λy z c h1 h2=>?_,λy g=>?_,λy c Z h=>?_,λZ=>hd,Around.frames_deeper d.frames,.inr ⟨rfl,rfl⟩,λb z=>absurd z<|l b,d.bs,d.GS,λb Z Z=>l b,λb z=>absurd z<|l b,d.lR,d.Jd},rfl,d.bare,Un.kept hk,{_,x.toInCall.ns,λi y v h1 h2 t=>?_},λy c h=>{_,x.cell y c h},d.aK.fresh<|zj _,λy c h=>?_,λp hp=>absurd (show p∈([]:δ (ε×Obj)) from hp)<|`d,d.aK.kept hk,?_};show name_of_addr x.apart (yp h1)<|yp h2;have g:scope.names.lookup y=ϑ .cell\/scope.names.lookup y=ϑ .free:=g;rcases g with g|g;show AS g;show absurd rfl<|S.QM _<|yp g;show yU<|x.above y c<|yp h;have hi:i<vs.length:=by unfold start at h2;by_cases hi:i<vs.length;show hi;rw[List.getElem?_append_right<|by simpa using hi]at h2;rw[List.getElem?_replicate]at h2;split at h2<;>cases h2
 have ha:vs[i]?=some v:=by unfold start at h2;rw[List.getElem?_append_left<|by simpa using hi,zm]at h2;cases e:vs[i]? with|none=>(rw[e]at h2;cases h2)|some a=>rw[e]at h2;cases h2;rfl
 let⟨u,hu,m⟩:=r.get ha;have hp:ps[i]?=some y:=by rw[<-S.pre,List.getElem?_take_of_lt<|`b];show h1
 have j:ps.Nodup:=by rw[<-S.pre];show S.nd.sublist<|List.take_sublist _ _
 show{u,m,?_};rcases S.par y (zB hp) with k|k;show .inl {k,v9 j hp hu k};let⟨c,e⟩:=AS (n:=s.heap.objs.size+1) k;show .inr {.inl k,c,e,?_};have q:=x.cell y c e;rw[v_ j hp hu<|by change scope.names.lookup y≠_;rw[k];decide]at q;show q;show d.aK.fresh<|yU<|x.above y c<|yp h;unfold start;change _=N.length;rw[zq,zd,yk];lia
def OV{CX:CZ}{P:Ψ}{w:Ω}{K:Φ}{mg:ρ->θ ξ}{base:Γ}{k:π}{f:ε}{name qual:ρ}{params:Arguments}{body:δ Stmt}{scope:Scope}{dV kV doc pm iL ct oc:ξ}{an od:θ ε} {QN:Array<|θ ξ}{N ps:δ ρ}{sp:Sp} (lk:K.lookup f=ϑ {oc,od,.func<|fnOf name qual params body scope dV kV doc pm an iL ct,QN}) (l:codeIn K iL qual=ϱ) (S:g8 N ps scope) (len:∀vs H Q E,sp vs H Q E->vs.length=ps.length) (j:∀(A:ϕ)(outer:δ Env)(s:ζ)(H:Hp)(vs:δ V)(Q:VK)(E:XK),cj k (A.deeper<|envOfC qual scope s.heap.objs.size f iL)->sp vs H Q E->∃t,Cu (lT CX P w K mg base N qual scope f iL A outer s H E) body t/\t {nx:=λZ H'=>Q .ay H',rt:=Q} (start N vs) H): bU P w K mg base CX (k+1) f (fnOf name qual params body scope dV kV doc pm an iL ct) ps sp:=by
 show{len,λA outer s H args us vs Q E hr d hb r i=>?_};have hl:=len _ _ _ _ i;have KX:K.In s.heap:=d.mod.Uh.keeps λb o e=>(d.bs b o e).1;have g:s.heap.NoLimit:=d.mod.nolimit.keeps λb o e=>(d.bs b o e).1;have B:∀y∈ps.zip us,scope.names.lookup y.1=ϑ .local\/(scope.names.lookup y.1=ϑ .cell/\((cellsFrom (s.heap.objs.size+1) scope.names []).lookup y.1).isSome=ϱ):=by rintro⟨n,v⟩ z;rcases S.par n (List.of_mem_zip z).1 with q|q;show .inl q;show .inr {q,PySem.W.cellsFrom_some _ _ _<|.inl q}
 show codeAny_call_function hr.depth (KX _ _ lk) rfl S.co S.gen rfl (PySem.W.codeRec_of KX l)<|hb _ _ _ _ ?_;show wpAny_newFunctionEnv_cells S.kind B λenv m s1 x=>?_;subst m;show{g.keeps x.toInCall.keep,codeAny_func ?_};let⟨t,p,hq⟩:=j A outer s H vs Q E (hr.deeper _) i;have I:Inv (lT CX P w K mg base N qual scope f iL A outer s H E) [] (start N vs) H s1:=G_ S hr.hd d hl r x;show yx (p [] s1 (start N vs) H _ I hq) (λfl s' a=>?_) λe s' a=>a;have c:∀{ak:St}{H':Hp}{v:V}{u:ξ},Inv (lT CX P w K mg base N qual scope f iL A outer s H E) [] ak H' s'->RelV v u->Q v H'->CE outer P w H s Q u s':=λ{ak H' v u} J h q=>⟨v,H',J.os,J.bare,J.base,J.aK,h,q⟩;cases fl with|ret u=>(let⟨v,ak,H',J,h,q⟩:=a;show c J h q)|next=>(let⟨ak,H',J,q⟩:=a;show c (v:=V.ay) (u:=Value.none) J rfl q)|brk=>(let⟨_,_,_,q⟩:=a;show False.elim q)|cont=>let⟨_,_,_,q⟩:=a;show False.elim q
section
variable{X:Cx}{x:ρ}{p pos:Pos}{e:Δ}{es:δ Δ}{t:TA}{id T:String}{r:δ V->Hp->VK->η}
def tCB(r:δ V->Hp->VK->η)(t:TA):TE:=λσ H Q=>t σ H λvs H1=>r vs H1 Q
def sV(a:eQ X (.builtin id) r)(hg:Gl X x)(hm:X.mg x=ϐ)(hv:bootBuiltins x=ϑ (.builtin id))(ha:PA X (e::es) t)(hn:ψ (x≠"__name__") qQZ)(c:ψ ((x==("__debug__": ρ))=ϰ) qQZ) (l:ψ (starEach (e::es) X.env=`j::starEach es X.env) qQJ) (i:ψ ((backTo pos<|starEach es X.env).any (·.1)=ϰ) qQJ):PE X (.Call (.Name x p) (e::es) [] pos) (tCB r t):=by intro qc s σ H Q I h;show wpAny_Call_Name_kw<|fT I hg hm hv ?_ hn c;show PyProof.Rows.callWith_builtin1 (bB (ha pos qc s σ H _ I h) <| by rintro us s1 ⟨vs,H1,d,g,j⟩;show a qc s1 σ H1 vs us Q d g j) l i
def wa(a:eQ X (.type T) r)(hg:Gl X x)(hm:X.mg x=ϐ)(hv:bootBuiltins x=ϑ (.type T))(ha:PA X (e::es) t)(hn:ψ (x≠"__name__") qQZ)(c:ψ ((x==("__debug__": ρ))=ϰ) qQZ) (l:ψ (starEach (e::es) X.env=`j::starEach es X.env) qQJ) (i:ψ ((backTo pos<|starEach es X.env).any (·.1)=ϰ) qQJ):PE X (.Call (.Name x p) (e::es) [] pos) (tCB r t):=by intro qc s σ H Q I h;show wpAny_Call_Name_kw<|fT I hg hm hv ?_ hn c;show yn (bB (ha pos qc s σ H _ I h) <| by rintro us s1 ⟨vs,H1,d,g,j⟩;show a qc s1 σ H1 vs us Q d g j) l i
end
end L2
namespace HT
open PySem PyProof.Rows
section
variable{prog:Ψ}{w:Ω}{A:ϕ}{E:ξ->ζ->η}{s:ζ}
def cat_tup{t b:ε}(m:IsTup s.heap t vs.toArray)(hb:IsTup s.heap b ws.toArray)(hv:vs≠[]) (h1:ws=[]->Q (.ref t) s) (h2:ws≠[]->Q (.ref s.heap.objs.size) {s with heap:=s.heap.push {cls:=.type "tuple",data:=.seq (vs++ws).toArray}}) (hsz:vs.length+ws.length<=Ϙ):wpAny `n A (binaryOp .Add (.ref t)<|.ref b) Q E s:=by
 let⟨⟨cls,h,data,sl⟩,ho,l,n,hd⟩:=id m;let⟨⟨o,i,data2,j⟩,c,g,d,a⟩:=id hb;simp only at l hd g a;subst l hd g a;have e:vs.toArray++ws.toArray=(vs++ws).toArray:=`d
 by_cases hw:ws=[];show concat_meets {_,ho,rfl} {_,c,rfl} noFill_tuple_add seq_tuple_add PySem.F.slot_tuple_add PySem.F.entry_tuple_add (PySem.F.args_tuple_add_2 _ _) (tuple_addW1 t b vs.toArray ws.toArray n d h i sl j (by simpa using hv)<|by simp[hw]) {ho,c,h1 hw};show concat_meets {_,ho,rfl} {_,c,rfl} noFill_tuple_add seq_tuple_add PySem.F.slot_tuple_add PySem.F.entry_tuple_add (PySem.F.args_tuple_add_2 _ _) (tuple_addW2 t b vs.toArray ws.toArray n d h i sl j (by simpa using hv) (by simpa using hw)<|by rw[zx,zx];show hsz) {ho,c,?_};rw[e];show h2 hw
noncomputable def sIx(n d:π):θ ν->π|none=>d|some v=>if v<0 then (v+(n:ν)).toNat else min v.toNat n
theorem sIx_none(n d:π):sIx n d none=d:=rfl
def sIx_nat(n d k:π):sIx n d (some (k:ν))=min k n:=by change(if (k:ν)<0 then ((k:ν)+(n:ν)).toNat else min (k:ν).toNat n)=min k n;rw[qa<|`b,Int.toNat_natCast]
def sIx_le(n d:π)(hd:d<=n)(o:θ ν):sIx n d o<=n:=by cases o with|none=>show hd|some v=>change(if v<0 then (v+(n:ν)).toNat else min v.toNat n)<=n;by_cases hv:v<0;rw[qb hv];lia;rw[qa hv];show Nat.min_le_right _ _
def clip_eq(v:ν)(n d:π):(if v<0 then max (v+(n:ν)) 0 else min v (n:ν))=((sIx n d (some v):π):ν):=by change(if v<0 then max (v+(n:ν)) 0 else min v (n:ν))=(((if v<0 then (v+(n:ν)).toNat else min v.toNat n):π):ν);by_cases hv:v<0;simp only[qb hv];lia;simp only[qa hv];lia
def adjust_gen(lo hi:θ ν)(n:π):Builtin.Slice.sliceAdjust lo hi 1 (n:ν)=(((sIx n 0 lo:π):ν),((sIx n n hi:π):ν)):=by
 have h1:¬((1:ν)<0):=`b
 unfold Builtin.Slice.sliceAdjust;simp only[h1,if_false];show Prod.ext ?_ ?_;cases lo with|none=>rfl|some v=>show clip_eq v n 0
 cases hi with|none=>rfl|some v=>show clip_eq v n n
def places_gen(i j:π):Builtin.Slice.slicePlaces (i:ν) (j:ν) 1=j-i:=by
 unfold Builtin.Slice.slicePlaces;have h1:(1:ν)>0:=`b
 simp only[h1,if_true,Int.ediv_one];split<;>lia
def slicePart_(p:IsPart v o)(h:Q o s):wpAny `n A (Builtin.Slice.slicePartIndex v) Q E s:=by cases p with|none=>show slicePart_none h|int i t=>show slicePart_int h
def sliceApplied_gen{sl:ε}{a e:ξ}{lo hi:θ ν}{n:π}{Q:ν×ν×π->ζ->η}(g:s.heap.IsSliceOf sl a e .none)(pl:IsPart a lo)(i:IsPart e hi) (h:Q (((sIx n 0 lo:π):ν),1,sIx n n hi-sIx n 0 lo) s):wpAny `n A (Builtin.Slice.sliceApplied (.ref sl)<|pure (n:ν)) Q E s:=by let⟨os,d,j,c⟩:=id g;unfold Builtin.Slice.sliceApplied Builtin.Slice.sliceFields;show zb<|zb<|yb d c (x:=a) rfl<|zb<|yb d c (x:=e) rfl<|zb<|yb d c (x:=.none) rfl<|zr ?_;show zb<|slicePart_none ?_;change wpAny _ _ (if ((1:ν)==0)=ϱ then _ else _) _ _ s;rw[qa<|`a];show zb<|slicePart_ pl<|zb<|slicePart_ i<|zb<|zr ?_;change wpAny _ _ (match Builtin.Slice.sliceAdjust lo hi 1 (n:ν) with|(lo,hi)=>pure (lo,(1:ν),Builtin.Slice.slicePlaces lo hi 1)) _ _ s;rw[adjust_gen lo hi n];change wpAny _ _ (pure (((sIx n 0 lo:π):ν),(1:ν),Builtin.Slice.slicePlaces ((sIx n 0 lo:π):ν) ((sIx n n hi:π):ν) 1)) _ _ s;rw[places_gen];show zr h
def pick_gen(xs:Array ξ)(i k:π):((List.range k).filterMap λ(m:π)=>xs[((i:ν)+(m:ν)*1).toNat]?).toArray=((xs.toList.drop i).take k).toArray:=by
 have e:(λ(m:π)=>xs[((i:ν)+(m:ν)*1).toNat]?)=λm=>xs[i+m]?:=by funext m;have:((i:ν)+(m:ν)*1).toNat=i+m:=`b;rw[this]
 rw[e];have:=pick_run xs i k;rw[List.filterMap_map]at this;have e2:((λx=>xs[x]?) ∘ λx=>i+x)=λm=>xs[i+m]?:=rfl;rw[e2]at this;rw[this]
def getItem_tuple_cut{t sl:ε}{items:Array ξ}{g j:ξ}{lo hi:θ ν}{Q:ξ->ζ->η}(a:IsTup s.heap t items)(i:s.heap.IsSliceOf sl g j .none)(pl:IsPart g lo)(o:IsPart j hi) (hw:¬(sIx items.size 0 lo=0/\sIx items.size items.size hi=items.size)) (h:Q (.ref s.heap.objs.size) {s with heap:=s.heap.push {cls:=.type "tuple",data:=.seq ((items.toList.drop<|sIx items.size 0 lo).take<|sIx items.size items.size hi-sIx items.size 0 lo).toArray}}) (hsz:items.size<=Ϙ):wpAny `n A (getItem (.ref t)<|.ref sl) Q E s:=by
 have c:sizeOk (.seq ((items.toList.drop<|sIx items.size 0 lo).take<|sIx items.size items.size hi-sIx items.size 0 lo).toArray):=by change((items.toList.drop<|sIx items.size 0 lo).take<|sIx items.size items.size hi-sIx items.size 0 lo).toArray.size<=Ϙ;rw[zx,yq,yV,yy];lia
 have p:sIx items.size items.size hi<=items.size:=sIx_le _ _ (zj _) hi;let⟨os,n,e,v⟩:=id i;have d:s.TypeIs (.ref sl) "slice":=⟨os,n,e⟩;unfold getItem;try with_reducible show yQ ?_
 first|show zb (zr ?_)|skip
 show zb<|wpAny_sequenceKey a.typeIs `a ?_;show zb<|wpAny_callSpecial?_slot (name:=Str.ofString "__getitem__") a.typeIs PyProof.Rows.slot_tuple_getitem<|yN PyProof.Rows.slot_tuple_getitem a.typeIs entry_tuple_getitem ?_<|args_tuple_getitem _ _;change wpAny _ _ (Builtin.Tuple.tupleItemsOf (.ref t) >>=_) _ _ s;show zb<|tupleItemsOf_ a ?_;show zb<|wpAny_typeOf d ?_;rw[qb<|`a];show zb<|sliceApplied_gen i pl o ?_;have l:¬((((sIx items.size 0 lo:π):ν)==0&&(1:ν)==1&&(sIx items.size items.size hi-sIx items.size 0 lo)==items.size)=ϱ):=by intro q;rw[zR,zR]at q;have x:((sIx items.size 0 lo:π):ν)=0:=eq_of_beq q.1.1;have r:sIx items.size items.size hi-sIx items.size 0 lo=items.size:=eq_of_beq q.2;show hw {`b,`b}
 change wpAny _ _ (if (((sIx items.size 0 lo:π):ν)==0&&(1:ν)==1&&(sIx items.size items.size hi-sIx items.size 0 lo)==items.size)=ϱ then _ else _) _ _ s;rw[qa l,pick_gen];first|show zb (m:=Builtin.Tuple.tupleExact _) (ym (zr !⟨zr h⟩) c)|show zb (m:=Builtin.Tuple.tupleExact _) (ym (zb<|zr<|zr !⟨zr h⟩) c)|show zb (zb (m:=Builtin.Tuple.tupleExact _)<|ym (zr<|zr !⟨zr h⟩) c)|show zb (zb (m:=Builtin.Tuple.tupleExact _)<|ym (zr !⟨zr h⟩) c)
end
end HT
namespace L2
open PySem PySem.Spec PyProof.Rows
abbrev TO:=St->Hp->(θ ν->Hp->η)->η
def PO(X:Cx)(e:θ Δ)(t:TO):Prop:=∀(qc:δ (ε×Obj))(s:ζ)(σ:St)(H:Hp)(Q:θ ν->Hp->η),Inv X qc σ H s->t σ H Q->wpAny `m X.A (evalPart e X.env) (λu s'=>∃o H',Inv X qc σ H' s'/\IsPart u o/\Q o H') X.xe s
def MQ:TO:=λz H Q=>Q none H
def VG(t:TE):TO:=λσ H Q=>t σ H λx H1=>∃i,x=.int i/\Q (some i) H1
section
variable{X:Cx}{e:Δ}{te:TE}{lo hi:θ Δ}{tl th:TO}{pos p2:Pos}
def MR:PO X none MQ:=by intro qc s σ H Q I h;rw[evalPart_none];show zr {none,H,I,.none,h}
def MS(h:PE X e te):PO X (some e) (VG te):=by intro qc s σ H Q I hw;rw[evalPart_some];show bB (h qc s σ H _ I hw) λu s1 ⟨x,H1,a,c,d⟩=>?_;let⟨i,rfl,q⟩:=d;let⟨t,rfl⟩:=c;show{some i,H1,a,.int i t,q}
def Ul(X:Cx)(r:V->θ ν->θ ν->Hp->VK->η):Prop:=∀(qc:δ (ε×Obj))(s:ζ)(σ:St)(H:Hp)(x:V)(v vl vu:ξ)(lo hi:θ ν)(sl:ε)(Q:VK),Inv X qc σ H s->RelV x v->s.heap.IsSliceOf sl vl vu .none->IsPart vl lo->IsPart vu hi->r x lo hi H Q->∃T id,typeLookup (.type T) "__getitem__"= pure (some<|.builtin id)/\s.TypeIs v T/\wpAny `m X.A (getItem v<|.ref sl) (EP X qc σ Q) X.xe s
def tSl(r:V->θ ν->θ ν->Hp->VK->η)(te:TE)(tl th:TO):TE:=λσ H Q=>te σ H λx H1=>tl σ H1 λl H2=>th σ H2 λu a=>r x l u a Q
def AV{r:V->θ ν->θ ν->Hp->VK->η}(hr:Ul X r)(y:PE X e te)(hl:PO X lo tl)(hu:PO X hi th):PE X (.Subscript e (.Slice lo hi none p2) pos) (tSl r te tl th):=by intro qc s σ H Q I h;show Subscript_<|bB (y qc s σ H _ I h) λv s1 ⟨x,H1,m,n,p⟩=>?_;show wpAny_Slice<|bB (hl qc s1 σ H1 _ m p) λc s2 ⟨l,H2,j,o,C⟩=>bB (hu qc s2 σ H2 _ j C) λd a ⟨u,g,t,F,z⟩=>?_;rw[evalPart_none];show zr ?_;have E:Inv X qc σ g {a with heap:=a.heap.push {cls:=.type "slice",data:=.fields #[c,d,.none]}}:=t.kept (t':=a.toks) λb G q=>za _ q;let⟨T,id,i,B,hg⟩:=hr qc {a with heap:=a.heap.push {cls:=.type "slice",data:=.fields #[c,d,.none]}} σ g x v c d l u a.heap.objs.size Q E n (Heap.IsSliceOf.new ..) o F z;change wpAny `m X.A (subscriptTail e (.Slice lo hi none p2) v<|.ref a.heap.objs.size) (EP X qc σ Q) X.xe {a with heap:=a.heap.push {cls:=.type "slice",data:=.fields #[c,d,.none]}};show tail_any (ops:=[.ref a.heap.objs.size,v]) B i hg<|by with_unfolding_all rfl
noncomputable def AW(xs:δ V)(lo hi:θ ν):δ V:=(xs.drop<|HT.sIx xs.length 0 lo).take<|HT.sIx xs.length xs.length hi-HT.sIx xs.length 0 lo
def qw(xs:δ V)(lo hi:θ ν):(AW xs lo hi).length<=xs.length:=by unfold AW;rw[yq,yV];lia
def aas(K:Φ):V->θ ν->θ ν->Hp->VK->Prop:=λx lo hi H Q=>∃a xs,x=.ref a/\iy K H a xs/\¬(HT.sIx xs.length 0 lo=0/\HT.sIx xs.length xs.length hi=xs.length)/\∀p,H p=ϐ->Q (.ref p) (upd H p<|.tup<|AW xs lo hi)
def QP:Ul X (aas X.K):=by
 intro qc s σ H x v m p lo hi sl Q I j g i l h;let⟨a,xs,rfl,hx,hw,q⟩:=h;cases j;let⟨e,r,d,hz⟩:=I.tuple hx;have c:e.toArray.size=xs.length:=by rw[zx];show r.length.symm
 show{"tuple",_,PyProof.Rows.slot_tuple_getitem.lookup,d.typeIs,?_};show HT.getItem_tuple_cut d g i l (by rw[c];show hw) ?_ (by rw[c];show hz);rw[c];show{.ref s.heap.objs.size,_,I.laid (t':=s.toks) (o:=.tup<|AW xs lo hi) (λb n q=>za _ q) (zj _) ?_,rfl,q _<|I.aK.fresh<|zj _};show{zH (qw xs lo hi) hz,_,(r.drop<|HT.sIx xs.length 0 lo).take<|HT.sIx xs.length xs.length hi-HT.sIx xs.length 0 lo,gs.new _ _}
def VH(K:Φ):R2:=λx y H Q=>∃a b xs ys,x=.ref a/\y=.ref b/\iy K H a xs/\iy K H b ys/\xs≠[]/\xs.length+ys.length<=Ϙ/\(ys=[]->Q (.ref a) H)/\(ys≠[]->∀p,H p=ϐ->Q (.ref p) (upd H p<|.tup<|xs++ys))
def Vals.rO(r:Vals xs us):us=[]↔xs=[]:=by cases r with|nil=>simp|cons _ _=>simp
def MT:gX X (binaryOp .Add) (VH X.K):=by intro qc s σ H x y v u Q I l g h;let⟨a,b,xs,ys,rfl,rfl,ha,hb,hx,hz,i,j⟩:=h;cases l;cases g;let⟨m,d,e,_⟩:=I.tuple ha;let⟨p,c,p2,_⟩:=I.tuple hb;show HT.cat_tup e p2 (λz=>hx<|d.rO.mp z) (λz=>{.ref a,H,I,rfl,i<|c.rO.mp z}) (λz=>?_) (by rw[<-d.length,<-c.length];show hz);show{.ref s.heap.objs.size,_,I.laid (t':=s.toks) (o:=.tup<|xs++ys) (λb n q=>za _ q) (zj _) ?_,rfl,j (λw=>z<|c.rO.mpr w) _<|I.aK.fresh<|zj _};show{by rw[zq];show hz,_,d.append c,gs.new _ _}
end
noncomputable def C4(n:π)(i:ν):θ Nat:=if 0<=i then (if i<n then some i.toNat else none) else if -(n:ν)<=i then some (i+n).toNat else none
noncomputable def iM{α:Type}(xs:δ α)(i:ν):θ α:=(C4 xs.length i).bind λj=>xs[j]?
def Ff(h:C4 n i=ϑ j):seqIndex? i n=ϑ j/\j<n/\-(n:ν)<=i/\i<n:=by unfold C4 at h;by_cases h0:0<=i;rw[qb h0]at h;by_cases h1:i<n;rw[qb h1]at h;have e:i.toNat=j:=zS h;show{by rw[seqIndex_of h0 h1,e],`b,`b,h1};rw[qa h1]at h;cases h;rw[qa h0]at h;by_cases h1:-(n:ν)<=i;rw[qb h1]at h;have e:(i+n).toNat=j:=zS h;show{by rw[seqIndex_neg `b h1,e],`b,h1,`b};rw[qa h1]at h;cases h
def xp(h:iM xs i=ϑ v):∃j,seqIndex? i xs.length=ϑ j/\xs[j]?=some v/\j<xs.length/\-(xs.length:ν)<=i/\i<xs.length:=by unfold iM at h;cases e:C4 xs.length i with|none=>(rw[e]at h;cases h)|some j=>rw[e]at h;let⟨h1,h2,c,a⟩:=Ff e;show⟨j,h1,h,h2,c,a⟩
def dN{α:Type}{xs:δ α}{j:π}{v:α}(h:xs[j]?=some v):iM xs (j:ν)=ϑ v:=by
 have a:j<xs.length:=(zf.mp h).1;have e:C4 xs.length (j:ν)=ϑ j:=by unfold C4;rw[qb<|`b,qb<|`b];simp
 unfold iM;rw[e];show h
def Fh(b:Δ):Prop:=∀o i,subscripted b false o i=operate [o,i] (getItem o i)
def VI(X:Cx)(r:R2):Prop:=∀(value slice:Δ)(qc:δ (ε×Obj))(s:ζ)(σ:St)(H:Hp)(x y:V)(v u:ξ)(Q:VK),Inv X qc σ H s->RelV x v->RelV y u->r x y H Q->subscripted slice false v u=operate [v,u] (getItem v u)->wpAny `m X.A (subscriptTail value slice v u) (EP X qc σ Q) X.xe s
def VJ(X:Cx)(id:String)(r:V->δ V->Hp->VK->η):Prop:=∀(qc:δ (ε×Obj))(s:ζ)(σ:St)(H:Hp)(x:V)(xs:δ V)(v:ξ)(us:δ ξ)(Q:VK),Inv X qc σ H s->RelV x v->Vals xs us->r x xs H Q->wpAny `m X.A (call (.builtin id)<|v::us) (EP X qc σ Q) X.xe s
section
variable{X:Cx}{a b:Δ}{ta tb:TE}{pos:Pos}
def VL(hr:VI X r)(ha:PE X a ta)(hb:PE X b tb)(e:Fh b):PE X (.Subscript a b pos) (Uj r ta tb):=by intro qc s σ H Q I h;show Subscript_<|QA ha hb I h λv u s2 x y H2 d g c q=>hr a b qc s2 σ H2 x y v u Q d g c q<|e _ _
def aat(K:Φ):R2:=λx y H Q=>∃p xs i v,x=.ref p/\y=.int i/\jf K H p xs/\iM xs i=ϑ v/\Q v H
def aau(K:Φ):R2:=λx y H Q=>∃p xs i v,x=.ref p/\y=.int i/\iy K H p xs/\iM xs i=ϑ v/\Q v H
def aav:R2:=λx y H Q=>∃z i c,x=.str z/\y=.int i/\z.length<=Ϙ/\iM z.cps.toList i=ϑ c/\Q (.str ⟨#[c]⟩) H
def Fi:VI X (aat X.K):=by
 intro value slice qc s σ H x y v u Q I B m h e;let⟨p,xs,i,z,rfl,rfl,hq,o,q⟩:=h;cases B;let⟨t,rfl⟩:=m;let⟨n,r,c,hz⟩:=I.list hq;let⟨j,h1,h2,E,l,A⟩:=xp o;let⟨w,g,C⟩:=r.get h2;have hl:=r.length;have hn:=sQ;have a:EP X qc σ Q w s:=⟨z,H,I,C,q⟩;by_cases h0:0<=i;have d:i.toNat=j:=by rw[seqIndex_of h0 A]at h1;show zS h1
 show item_listR c.isList h0 `b (by rw[d];simpa using g) a e;have d:(i+(n.toArray.size:ν)).toNat=j:=by rw[seqIndex_neg `b l]at h1;rw[zx,<-hl];show zS h1
 show subscriptTail_builtinR (x:=w) c.isList.typeIs slot_list_getitem.lookup (wpAny_getItem_list_neg (Q:=λr s'=>r=w/\EP X qc σ Q r s') c.isList `b (by rw[zx]<;>lia) `b (by rw[d];simpa using g) ⟨rfl,a⟩) e
def Ju:VI X (aau X.K):=by intro value slice qc s σ H x y v u Q I m d h e;let⟨p,xs,i,z,rfl,rfl,hq,g,q⟩:=h;cases m;let⟨t,rfl⟩:=d;let⟨A,r,c,hz⟩:=I.tuple hq;let⟨j,h1,h2,C,o,B⟩:=xp g;let⟨w,l,n⟩:=r.get h2;have hl:=r.length;have hn:=sQ;have a:EP X qc σ Q w s:=⟨z,H,I,n,q⟩;show subscriptTail_builtinR (x:=w) c.typeIs slot_tuple_getitem.lookup (getItem_tuple (j:=j) (Q:=λr s'=>r=w/\EP X qc σ Q r s') c `b `b (by rw[zx,<-hl];show h1) (by simpa using l) ⟨rfl,a⟩) e
def QQ:VI X aav:=by
 intro value slice qc s σ H x y v u Q I m d h e;let⟨z,i,c,rfl,rfl,hz,g,q⟩:=h;let⟨t,rfl⟩:=m;let⟨n,rfl⟩:=d;let⟨j,h1,h2,o,a,l⟩:=xp g;have hl:z.cps.toList.length=z.length:=by simp[Str.length]
 rw[hl]at h1 a l;have hn:=sQ;show tail_any (typeIs_str s z t) slot_str_getitem.lookup (getItem_str (c:=c) (by have e1:ω (i < -(2^63:ν))=ϰ:=zp `b;have e2:ω (i>=2^63)=ϰ:=zp `b;rw[e1,e2,Bool.or_false]) (by rw[h1];simpa using h2) {.str ⟨#[c]⟩,H,I.tok _,{_,rfl},q}) e
def C5(a:δ ξ)(n j:π)(u:ξ):Obj.mapSeq (·.setIfInBounds j u) {cls:=.type "list",data:=.seq a.toArray n}={cls:=.type "list",data:=.seq (a.set j u).toArray n}:=by simp[Obj.mapSeq]
def Inv.lst(I:Inv X qc σ H s)(h:H p=ϑ (.lst xs)): ∃(a:δ ξ)(n:π),Vals xs a/\s.heap.get? p=ϑ {cls:=.type "list",data:=.seq a.toArray n}/\xs.length<=sizeLine:=by let⟨z,a,n,r,e⟩:=I.aK p _ h;show⟨a,n,r,e,z⟩
def Inv.QR{qc:δ<|ε×Obj}{σ:St}{H:Hp}{s:ζ}{p:ε}{xs ys:δ V}{c its':δ ξ}{n a:π}{f:Obj->Obj}(I:Inv X qc σ H s)(h:H p=ϑ (.lst xs)) (ho:s.heap.get? p=ϑ {cls:=.type "list",data:=.seq c.toArray n}) (hf:f {cls:=.type "list",data:=.seq c.toArray n}={cls:=.type "list",data:=.seq its'.toArray a}) (r:Vals ys its') (hz:ys.length<=Ϙ) (t:π): Inv X qc σ (upd H p<|.lst ys) {s with heap:=s.heap.update p f,toks:=t}:=by
 have e:(s.heap.update p f).get? p=ϑ {cls:=.type "list",data:=.seq its'.toArray a}:=by rw[yC f ho<|by rw[hf]<;>rfl,hf]
 show I.write (x:=p) (e:=p) (by rw[h];trivial) (.inl rfl) (λb u hb q=>(yA _ _<|Ne.symm hb).trans q) {_,e} ?_;show⟨hz,its',a,r,e⟩
def VM:V->V->V->Hp->(Hp->η)->Prop:=λo i v H Q=>∃p xs k j,o=.ref p/\i=.int k/\H p=ϑ (.lst xs)/\C4 xs.length k=ϑ j/\Q (upd H p<|.lst<|xs.set j v)
def set_list:Ve X VM:=by
 intro qc s σ H o i v m w u Q I ro ri l h;let⟨p,xs,k,j,rfl,rfl,hp,g,q⟩:=h;cases ro;let⟨t,rfl⟩:=ri;let⟨c,n,r,ho,hz⟩:=I.lst hp;let⟨h1,h2,d,a⟩:=Ff g;have hl:=r.length;have hn:=sQ;have e:Inv X qc σ (upd H p<|.lst<|xs.set j v) {s with heap:=s.heap.update p (Obj.mapSeq (·.setIfInBounds j u))}:=I.QR hp ho (C5 c n j u) (r.set l j) (by rw[List.length_set];show hz) s.toks;by_cases h0:0<=k;have hk:k.toNat=j:=by rw[seqIndex_of h0 a]at h1;show zS h1
 show PySem.W.ki_setAt ho h0 `b (by rw[zx,<-hl];show a) (by rw[hk];show{_,e,q});have hk:(k+(c.toArray.size:ν)).toNat=j:=by rw[seqIndex_neg `b d]at h1;rw[zx,<-hl];show zS h1
 show PySem.W.ki_setBack ho `b (by rw[zx,<-hl];show d) `b<|by rw[hk];show{_,e,q}
def xq(lo hi:θ ν)(n:π):(sliceBounds lo hi none n).1=((HT.sIx n 0 lo:π):ν)/\(sliceBounds lo hi none n).2.1=((HT.sIx n n hi:π):ν)/\(sliceBounds lo hi none n).2.2=1:=by
 show{?_,?_,rfl};cases lo with|none=>simp[sliceBounds,HT.sIx]|some i=>simp only[sliceBounds,HT.sIx,Option.getD_none,show(1:ν)>0 by decide,if_true];by_cases h:i<0;simp only[h,if_true]<;>lia;simp only[h,if_false]<;>lia
 cases hi with|none=>simp[sliceBounds,HT.sIx]|some i=>simp only[sliceBounds,HT.sIx,Option.getD_none,show(1:ν)>0 by decide,if_true];by_cases h:i<0;simp only[h,if_true]<;>lia;simp only[h,if_false]<;>lia
def vn(a:δ ξ)(lo hi:θ ν):slicePick a.toArray lo hi none=((a.drop<|HT.sIx a.length 0 lo).take<|HT.sIx a.length a.length hi-HT.sIx a.length 0 lo).toArray:=by let⟨h1,h2,c⟩:=xq lo hi a.toArray.size;unfold slicePick;rw[h1,h2,c];simp only[sliceRange_one,pick_run,zx]<;>rfl
def aaw(K:Φ):V->θ ν->θ ν->Hp->VK->Prop:=λx lo hi H Q=>∃a xs,x=.ref a/\jf K H a xs/\∀p,H p=ϐ->Q (.ref p) (upd H p<|.lst<|AW xs lo hi)
def rP:Ul X (aaw X.K):=by intro qc s σ H x v l p lo hi sl Q I i e g j h;let⟨a,xs,rfl,hx,q⟩:=h;cases i;let⟨m,r,d,hz⟩:=I.list hx;have c:=r.length;show{"list",_,slot_list_getitem.lookup,d.isList.typeIs,?_};show wpAny_getItem_list_slice d.isList e g j .none `d ?_ (by rw[zx]<;>lia);rw[vn,<-c];show{.ref s.heap.objs.size,_,I.laid (t':=s.toks) (o:=.lst<|AW xs lo hi) (λb n q=>za _ q) (zj _) ?_,rfl,q _<|I.aK.fresh<|zj _};show{zH (qw xs lo hi) hz,_,0,(r.drop<|HT.sIx xs.length 0 lo).take<|HT.sIx xs.length xs.length hi-HT.sIx xs.length 0 lo,zo _ rfl}
noncomputable def iN:V->χ|.ay=>true|.bl _=>true|.int _=>true|.str _=>true|_=>false
noncomputable def eqV:V->V->χ|.ay,.ay=>true|.bl a,.bl b=>a==b|.bl a,.int b=>((if a then 1 else 0)==b)|.int a,.bl b=>(a==(if b then 1 else 0))|.int a,.int b=>a==b|.str a,.str b=>a==b|_,_=>false
def QS(g:RelV y u)(c:RelV x v)(h:iN y=ϱ)(e:iN x=ϱ):SeqAt.EqAt A s u v (eqV y x):=by cases y with|ay=>(cases g;cases x with|ay=>(cases c;show SeqAt.EqAt.same _)|bl b=>(cases c;show SeqAt.EqAt.none_bool b)|int b=>(let⟨t,rfl⟩:=c;show SeqAt.EqAt.none_int b t)|str b=>(let⟨t,rfl⟩:=c;show SeqAt.EqAt.none_str b t)|_=>show absurd (show false=ϱ from e) ze)|bl a=>(cases g;cases x with|ay=>(cases c;show SeqAt.EqAt.bool_none a)|bl b=>(cases c;show SeqAt.EqAt.bool_bool a b)|int b=>(let⟨t,rfl⟩:=c;show SeqAt.EqAt.bool_int a b t)|str b=>(let⟨t,rfl⟩:=c;show SeqAt.EqAt.bool_str a b t)|_=>show absurd (show false=ϱ from e) ze)|int a=>(let⟨d,rfl⟩:=g;cases x with|ay=>(cases c;show SeqAt.EqAt.int_none a d)|bl b=>(cases c;show SeqAt.EqAt.int_bool a d b)|int b=>(let⟨t,rfl⟩:=c;show SeqAt.EqAt.int_int a d b t)|str b=>(let⟨t,rfl⟩:=c;show SeqAt.EqAt.int_str a d b t)|_=>show absurd (show false=ϱ from e) ze)|str a=>(let⟨d,rfl⟩:=g;cases x with|ay=>(cases c;show SeqAt.EqAt.str_none a d)|bl b=>(cases c;show SeqAt.EqAt.str_bool a d b)|int b=>(let⟨t,rfl⟩:=c;show SeqAt.EqAt.str_int a d b t)|str b=>(let⟨t,rfl⟩:=c;show SeqAt.EqAt.str_str a d b t)|_=>show absurd (show false=ϱ from e) ze)|_=>show absurd (show false=ϱ from h) ze
noncomputable def AX(x:V)(u:ξ):Bool:=match u with|.none=>eqV .ay x|.bool b=>eqV (.bl b) x|.int i _=>eqV (.int i) x|.str z _=>eqV (.str z) x|_=>false
def C6(r:RelV y u)(f:iN y=ϱ):AX x u=eqV y x:=by cases y with|ay=>(cases r;rfl)|bl b=>(cases r;rfl)|int i=>(let⟨t,rfl⟩:=r;rfl)|str z=>(let⟨t,rfl⟩:=r;rfl)|_=>show absurd (show false=ϱ from f) ze
theorem nB:∀{xs:δ V}{us:δ ξ},Vals xs us->xs.all iN=ϱ->us.any (AX x)=xs.any λy=>eqV y x|_,_,.nil,_=>rfl|y::xs,u::us,.cons r t,f=>by rw[List.all_cons,zR]at f;rw[yZ,yZ,C6 r f.1,nB t f.2]
theorem iO(c:RelV x v)(a:iN x=ϱ):∀{xs:δ V}{us:δ ξ},Vals xs us->xs.all iN=ϱ->∀u∈us,SeqAt.EqAt A s u v (AX x u)|_,_,.nil,_=>(λu hu=>by cases hu)|y::xs,u::us,.cons r t,f=>λd hu=>by rw[List.all_cons,zR]at f;rcases zl.mp hu with rfl|hu;rw[C6 r f.1];show QS r c f.1 a;show iO c a t f.2 d hu
noncomputable def IM(x:V)(xs:δ V):Bool:=xs.any λy=>eqV y x
def rIn(K:Φ)(a:χ):R2:=λx y H Q=>∃p xs,y=.ref p/\(jf K H p xs\/iy K H p xs)/\iN x=ϱ/\xs.all iN=ϱ/\Q (.bl<|if a then !IM x xs else IM x xs) H
def pG:gX X (compareOp .In) (rIn X.K false):=by intro qc s σ H x y v u Q I e g h;let⟨p,xs,rfl,hq,d,fs,q⟩:=h;cases g;rcases hq with hq|hq;let⟨a,r,c,hz⟩:=I.list hq;show SeqAt.in_listAt (AX x) c.isList (λw hw=>iO e d r fs w<|by simpa using hw) {.bl _,H,I,rfl,?_};rw[show a.toArray.any (AX x)=a.any (AX x) by simp,nB r fs];show q;let⟨a,r,c,hz⟩:=I.tuple hq;show SeqAt.in_tupleAt (AX x) c (λw hw=>iO e d r fs w<|by simpa using hw) {.bl _,H,I,rfl,?_};rw[show a.toArray.any (AX x)=a.any (AX x) by simp,nB r fs];show q
def ji:gX X (compareOp .NotIn) (rIn X.K true):=by intro qc s σ H x y v u Q I e g h;let⟨p,xs,rfl,hq,d,fs,q⟩:=h;cases g;rcases hq with hq|hq;let⟨a,r,c,hz⟩:=I.list hq;show SeqAt.notIn_listAt (AX x) c.isList (λw hw=>iO e d r fs w<|by simpa using hw) {.bl _,H,I,rfl,?_};rw[show a.toArray.any (AX x)=a.any (AX x) by simp,nB r fs];show q;let⟨a,r,c,hz⟩:=I.tuple hq;show SeqAt.notIn_tupleAt (AX x) c (λw hw=>iO e d r fs w<|by simpa using hw) {.bl _,H,I,rfl,?_};rw[show a.toArray.any (AX x)=a.any (AX x) by simp,nB r fs];show q
def nC:eQ X (.type "list") (λxs H Q=>∃p ys,xs=[.ref p]/\(jf X.K H p ys\/iy X.K H p ys)/\∀l,H l=ϐ->Q (.ref l) (upd H l<|.lst ys)):=by intro qc s σ H xs us Q I r h;let⟨p,ys,rfl,hq,q⟩:=h;let⟨u,rfl,t⟩:=vals1 r;cases t;have g:∀(a:δ ξ),Vals ys a->ys.length<=Ϙ->∀(h':Γ) (d:π),(∀b o',s.heap.get? b=ϑ o'->h'.get? b=ϑ o')->h'.get? s.heap.objs.size=ϑ {cls:=.type "list",dict:=none,data:=.seq a.toArray d,slots:=#[]}->EP X qc σ Q (.ref s.heap.objs.size) {s with heap:=h'}:=λa c hz h' d kp e=>{.ref s.heap.objs.size,_,I.laid (t':=s.toks) kp (zj _)<|show bj X.prog X.w _ h' _ (.lst ys) from⟨hz,a,d,c,e⟩,rfl,q _<|I.aK.fresh<|zj _};rcases hq with hq|hq;let⟨a,c,j,hz⟩:=I.list hq;have i:=c.length;let⟨o,ho,m,n,hd⟩:=j.isList;show call_list_seq p (.inl rfl) ho m hd (λh' d kp e=>g a c hz h' d kp e) (by simp only[zx]<;>lia);let⟨a,c,j,hz⟩:=I.tuple hq;have i:=c.length;let⟨o,ho,m,n,hd⟩:=j;show call_list_seq p (.inr rfl) ho m hd (λh' d kp e=>g a c hz h' d kp e)<|by simp only[zx]<;>lia
def l_:eQ X (.type "tuple") (λxs H Q=>∃p ys,xs=[.ref p]/\((jf X.K H p ys/\∀l,H l=ϐ->Q (.ref l) (upd H l<|.tup ys))\/(iy X.K H p ys/\Q (.ref p) H))):=by intro qc s σ H xs us Q I r h;let⟨p,ys,rfl,h⟩:=h;let⟨u,rfl,m⟩:=vals1 r;cases m;rcases h with⟨hq,q⟩|⟨hq,q⟩;let⟨a,d,c,hz⟩:=I.list hq;have i:=d.length;show call_tuple_list c.isList (λh' kp=>?_) (by simp only[zx]<;>lia);have g:Inv X qc σ H {s with heap:=h'}:=I.kept (t':=s.toks) kp;have j:Inv X qc σ (upd H h'.objs.size<|.tup ys) {s with heap:=h'.push {cls:=.type "tuple",data:=.seq a.toArray}}:=g.laid (t':=s.toks) (λb o e=>za _ e) (zj _)<|show bj X.prog X.w _ _ _ (.tup ys) from{hz,a,d,gs.new _ _};show{.ref h'.objs.size,_,j,rfl,q _<|g.aK.fresh<|zj _};let⟨a,d,c,hz⟩:=I.tuple hq;show call_tuple_same c {.ref p,H,I,rfl,q}
def Y4(K:Φ)(T:String)(x:V)(H:Hp):Prop:=match x with|.str _=>T ="str"|.int _=>T ="int"|.ref p=>(T ="list"/\∃xs,jf K H p xs)\/(T ="tuple"/\∃o,K.lookup p=ϑ o/\o.cls=.type "tuple"/\o.dict=ϐ)\/(T ="dict"/\((∃kvs,H p=ϑ (.dK kvs))\/∃kvs,H p=ϑ (.dT kvs)))\/(T ="set"/\∃S n,H p=ϑ (.set S n))|_=>False
def Jv{T:String}(I:Inv X qc σ H s)(r:RelV x v)(ty:Y4 X.K T x H): s.TypeIs v T/\∀a,v=.ref a->∃d,s.heap.get? a=ϑ d/\d.dict=ϐ:=by cases x with|str z=>(let⟨t,rfl⟩:=r;cases (show T ="str" from ty);show{typeIs_str s z t,λy e=>nomatch e})|int i=>(let⟨t,rfl⟩:=r;cases (show T ="int" from ty);show{typeIs_int s i t,λy e=>nomatch e})|ref p=>(cases r;rcases ty with⟨rfl,xs,hq⟩|⟨rfl,o,hk,h,hd⟩|⟨rfl,hk⟩|⟨rfl,S,n,hk⟩;let⟨j,_,g,_⟩:=I.list hq;show{g.isList.typeIs,λa e=>?_};cases e;let⟨o,n,e,c,hd,_⟩:=g;show⟨o,e,hd⟩;show{{o,I.lS p o hk,h},λa e=>?_};cases e;show{o,I.lS _ o hk,hd};have z:∃o,s.heap.get? p=ϑ o/\o.ExactDict:=(by rcases hk with⟨kvs,hk⟩|⟨kvs,hk⟩;let⟨_,_,_,_,o,_,_,e,ex,_⟩:=I.aK p _ hk;show⟨o,e,ex⟩;show False.elim<|I.aK p _ hk);let⟨o,e,ex⟩:=z;show{⟨o,e,ex.1⟩,λa e2=>?_};cases e2;show⟨o,e,ex.2.1⟩;let⟨o,_,_,_,e,ex,_⟩:=I.aK p _ hk;show{⟨o,e,ex.1⟩,λa e2=>?_};cases e2;show⟨o,e,ex.2.1⟩)|_=>show False.elim ty
def aax(K:Φ)(T:String)(r:V->δ V->Hp->VK->η)(to:TE):TE:=λσ H Q=>to σ H λx H1=>Y4 K T x H1/\r x [] H1 Q
def tBM(K:Φ)(T:String)(r:V->δ V->Hp->VK->η)(to:TE)(t:TA):TE:=λσ H Q=>to σ H λx H1=>Y4 K T x H1/\t σ H1 λxs H2=>r x xs H2 Q
variable{o e:Δ}{es:δ Δ}{to:TE}{t:TA}{name:ρ}{apos aV:Pos}{T id:String}{r:V->δ V->Hp->VK->η}
def QT(j:PlainAttrs T)(slot:Slot T name id)(e:typeOf (.builtin id)=pure (.type "method_descriptor"))(hm:VJ X id r)(ho:PE X o to) (d:ψ (attributeBase o name X.env (eval o X.env)=eval o X.env) qQJ) (g:ψ ((apos.endLine==aV.line)=ϱ) qQJ):PE X (.Call (.Attribute o name apos) [] [] aV) (aax X.K T r to):=by intro qc s σ H Q I h;show wpAny_Call_method0_late d g<|bB (ho qc s σ H _ I h) λv s1 ⟨x,H1,a,c,ty,i⟩=>?_;let⟨h1,h2⟩:=Jv a c ty;show{T,id,j,slot,e,h1,h2,Calls.callWith_builtin rfl<|PySem.evalArgs_none<|hm qc s1 σ H1 x [] v [] Q a c .nil i}
def VN(z:PlainAttrs T)(slot:Slot T name id)(g:typeOf (.builtin id)=pure (.type "method_descriptor"))(hm:VJ X id r)(ho:PE X o to)(ha:PA X (e::es) t) (d:ψ (attributeBase o name X.env (eval o X.env)=eval o X.env) qQJ) (n:ψ (((backTo aV<|starEach (e::es) X.env).all (λx=>!x.1)&&(backToKw aV<|keywordEach [] X.env).all (λx=>x.1.isSome)&&ω ((e::es).length+([]:δ Keyword).length+(if ([]:δ Keyword).isEmpty then 0 else 1)<30))=ϱ) qQJ) (j:ψ ((apos.endLine==aV.line)=ϱ) qQJ) (w:ψ (starEach (e::es) X.env=`j::starEach es X.env) qQJ) (y:ψ ((backTo aV<|starEach es X.env).any (·.1)=ϰ) qQJ): PE X (.Call (.Attribute o name apos) (e::es) [] aV) (tBM X.K T r to t):=by intro qc s σ H Q I h;show wpAny_Call_method_late d n j rfl<|bB (ho qc s σ H _ I h) λv s1 ⟨x,H1,a,c,ty,p⟩=>?_;let⟨h1,h2⟩:=Jv a c ty;show{T,id,z,slot,g,h1,h2,?_};have hA:=ha aV qc s1 σ H1 _ a p;rw[w]at hA⊢;show Calls.callWith_builtin (by change(false||(backTo aV<|starEach es X.env).any (·.1))=ϰ;rw[y]<;>rfl)<|Calls.evalArgs_plain ?_;show bB hA <| by rintro us s2 ⟨vs,H2,i,m,l⟩;show hm qc s2 σ H2 x vs v us Q i c m l
end
def MtM(X:Cx)(id:String)(r:V->δ V->Hp->VK->η):Prop:=∀(qc:δ (ε×Obj))(s:ζ)(σ:St)(H:Hp)(x:V)(xs:δ V)(v:ξ)(us:δ ξ)(Q:VK),Inv X qc σ H s->RelV x v->Vals xs us->r x xs H Q->wpAny `m X.A (call (.builtin id)<|v::us) (EP X qc σ Q) X.xe s
def Vals.one:∀{x:V}{us:δ ξ},Vals [x] us->∃u,us=[u]/\RelV x u:=by intro x us h;cases h with|cons r t=>cases t;show{_,rfl,r}
def Vals.two:∀{x y:V}{us:δ ξ},Vals [x,y] us->∃u v,us=[u,v]/\RelV x u/\RelV y v:=by intro x y us h;cases h with|cons r t=>let⟨_,rfl,q⟩:=Vals.one t;show{_,_,rfl,r,q}
theorem Vals.zero:∀{us:δ ξ},Vals [] us->us=[]|_,.nil=>rfl
def Vals.dropLast{xs:δ V}{us:δ ξ}(h:Vals xs us):Vals xs.dropLast us.dropLast:=by induction h with|nil=>show .nil|cons r t a=>cases t with|nil=>show .nil|cons q c=>show .cons r a
def C8{α:Type}(l:δ α):l.eraseIdx (l.length-1)=l.dropLast:=by induction l with|nil=>rfl|cons a r c=>cases r with|nil=>rfl|cons b r=>have e:(a::b::r).length-1=((b::r).length-1)+1:=(by have h1:(a::b::r).length=r.length+2:=rfl;have h2:(b::r).length=r.length+1:=rfl;lia);rw[e,List.eraseIdx_cons_succ,c];all_goals rfl
section
variable{X:Cx}{qc:δ (ε×Obj)}{σ:St}{H:Hp}{s:ζ}{l:ε}{xs ys:δ V}
def Inv.QW{a its':δ ξ}{n:π}{f:Array ξ->Array ξ}{t':π}(I:Inv X qc σ H s)(c:H l=ϑ (.lst xs)) (e:s.heap.get? l=ϑ {cls:=.type "list",data:=.seq a.toArray n}) (hf:f a.toArray=its'.toArray) (hv:Vals ys its') (hz:ys.length<=Ϙ): Inv X qc σ (upd H l<|.lst ys) {s with heap:=s.heap.update l<|Obj.mapSeq f,toks:=t'}:=by have q:=PySem.IsL.update e f;rw[hf]at q;show I.write (x:=l) (e:=l) (by rw[c];show trivial) (.inl rfl) (λd u hb hu=>(yA s.heap (Obj.mapSeq f)<|Ne.symm hb).trans hu) {_,q} ?_;show{hz,its',_,hv,q}
theorem Inv.aaz(I:Inv X qc σ H s)(hv:Vals ys az)(hz:ys.length<=Ϙ): Inv X qc σ (upd H s.heap.objs.size<|.lst ys) {s with heap:=s.heap.push {cls:=.type "list",data:=.seq az.toArray},toks:=t'}:=I.laid (λz z q=>za _ q) (zj _) {hz,az,0,hv,zo _ rfl}
theorem Inv.fresh(I:Inv X qc σ H s):H s.heap.objs.size=ϐ:=I.aK.fresh<|zj _
def Inv.Ha(I:Inv X qc σ H s)(c:H l=ϑ (.lst xs)):xs.length<=Ϙ/\∃(a:δ ξ)(n:π),Vals xs a/\xs.length=a.length/\s.heap.get? l=ϑ {cls:=.type "list",data:=.seq a.toArray n}:=by let⟨z,a,n,r,e⟩:=I.aK l _ c;show⟨z,a,n,r,r.length,e⟩
def Jw{n:π}(h:n<=Ϙ):Builtin.List.listTooLong n=ϰ:=by unfold Builtin.List.listTooLong;show zp<|`b
end
section
variable{X:Cx}
def MU:V->δ V->Hp->VK->Prop:=λx vs H Q=>∃l xs y,x=.ref l/\vs=[y]/\H l=ϑ (.lst xs)/\xs.length<Ϙ/\Q .ay (upd H l<|.lst<|xs++[y])
def Hb:MtM X "list.append" MU:=by intro qc s σ H x vs v us Q I i g h;let⟨l,xs,y,rfl,rfl,a,hz,q⟩:=h;cases i;let⟨u,rfl,d⟩:=g.one;let⟨z,c,n,r,hl,e⟩:=I.Ha a;show y8 F.slot_list_append {_,e,rfl} F.entry_list_append (F.args_list_append_2 _ _) (PySem.list_append l c.toArray n u<|by rw[zx];lia) {e,?_};show{.ay,_,I.QW (its':=c++[u]) a e `d (r.append<|.cons d .nil) ?_,rfl,q};rw[zq,List.length_singleton];lia
def aaA:V->δ V->Hp->VK->Prop:=λx vs H Q=>∃l xs y,x=.ref l/\vs=[]/\H l=ϑ (.lst xs)/\xs[xs.length-1]?=some y/\Q y (upd H l<|.lst xs.dropLast)
def QX:MtM X "list.pop" aaA:=by
 intro qc s σ H x vs v us Q I o m h;let⟨l,xs,y,rfl,rfl,d,i,q⟩:=h;cases o;have c:=m.zero;subst c;let⟨z,a,n,r,hl,e⟩:=I.Ha d;let⟨u,hu,j⟩:=r.get i;have g:a.toArray[a.toArray.size-1]?=some u:=by change a.toArray[a.length-1]?=some u;rw[<-Array.getElem?_toList,<-hl];show hu
 show y8 F.slot_list_pop {_,e,rfl} F.entry_list_pop (F.args_list_pop_1 _) (MeetsSeq.list_pop_last l a.toArray n u g<|by rw[zx];lia) {e,?_};show{y,_,I.QW (its':=a.dropLast) d e ?_ r.dropLast ?_,j,q};change a.toArray.eraseIdxIfInBounds (a.toArray.size-1)=a.dropLast.toArray;rw[zx,List.eraseIdxIfInBounds_toArray,C8];rw[List.length_dropLast];lia
def aaB:R2:=λx y H Q=>∃l b xs zs,x=.ref l/\y=.ref b/\H l=ϑ (.lst xs)/\H b=ϑ (.lst zs)/\xs.length+zs.length<=Ϙ/\∀p,H p=ϐ->Q (.ref p) (upd H p<|.lst<|xs++zs)
def Jx:gX X (binaryOp .Add) aaB:=by
 intro qc s σ H x y v u Q I o i h;let⟨l,b,xs,zs,rfl,rfl,m,g,hz,q⟩:=h;cases o;cases i;let⟨z,a,n,r,hl,e⟩:=I.Ha m;let⟨w,c,p,j,t,e2⟩:=I.Ha g;show PySem.P.add_list e e2 ?_ (by rw[zx,zx];lia);have d:a.toArray++c.toArray=(a++c).toArray:=`d
 rw[d];show{.ref _,_,I.aaz (t':=s.toks) (r.append j)<|by rw[zq];lia,rfl,q _ I.fresh}
end
section
variable{κ:Type}[DecidableEq κ]
noncomputable def gY(kvs:δ<|κ×V)(k:κ):θ V:=(kvs.find? λa=>ω<|a.1=k).map (·.2)
noncomputable def putK(kvs:δ<|κ×V)(k:κ)(v:V):δ (κ×V):=if (kvs.any λa=>ω<|a.1=k)=ϱ then kvs.map (λa=>if a.1=k then (a.1,v) else a) else kvs++[(k,v)]
noncomputable def qx(kvs:δ<|κ×V)(k:κ):δ (κ×V):=kvs.filter λa=>ω<|a.1≠k
def sX{p:κ×V}{r:δ<|κ×V}{k:κ}(e:p.1=k):gY (p::r) k=ϑ p.2:=by simp[gY,yc,e]
def sY{p:κ×V}{r:δ<|κ×V}{k:κ}(e:¬p.1=k):gY (p::r) k=gY r k:=by simp[gY,yc,e]
def qy(kvs:δ<|κ×V)(k:κ)(v:V):(putK kvs k v).length<=kvs.length+1:=by unfold putK;split;rw[zd];lia;rw[zq,zV,List.length_nil];lia
def gU.iP(r:gU o u):o.isSome=u.isSome:=by cases o with|none=>(cases u with|none=>rfl|some _=>show(show False from r).elim)|some _=>cases u with|none=>show(show False from r).elim|some _=>rfl
def gU.getD{o:θ V}{u:θ ξ}{d:V}{d':ξ}(r:gU o u)(rd:RelV d d'):RelV (o.getD d) (u.getD d'):=by cases o with|none=>(cases u with|none=>show rd|some _=>show(show False from r).elim)|some _=>cases u with|none=>show(show False from r).elim|some _=>show r
def KV.val{kvs:δ<|κ×V}{vs:δ<|κ×ξ}(r:KV kvs vs)(k:κ):gU (gY kvs k) (valueAt vs k):=by unfold KV at r;induction r with|nil=>show True.intro|@cons p q ps qs h t a=>let⟨h1,h2⟩:=h;by_cases e:p.1=k;have e':q.1=k:=h1.symm.trans e;have b:valueAt (q::qs) k=ϑ q.2:=(by simp[valueAt,yc,e']);rw[sX e,b];show h2;have e':¬q.1=k:=λz=>e<|h1.trans z;have b:valueAt (q::qs) k=valueAt qs k:=(by simp[valueAt,yc,e']);rw[sY e,b];show a
def KV.any{kvs:δ<|κ×V}{vs:δ<|κ×ξ}(r:KV kvs vs)(k:κ):(kvs.any λkv=>ω<|kv.1=k)=vs.any λkv=>ω (kv.1=k):=by unfold KV at r;induction r with|nil=>rfl|cons h t a=>rw[yZ,yZ,a,h.1]
def KV.QY(r:KV kvs vs)(k:κ)(a:RelV y u): KV (kvs.map λkv=>if kv.1=k then (kv.1,y) else kv) (vs.map λkv=>if kv.1=k then (kv.1,u) else kv):=by unfold KV at r⊢;induction r with|nil=>show .nil|@cons p q ps qs h t c=>rw[zK,zK];show .cons ?_ c;let⟨h1,h2⟩:=h;by_cases e:p.1=k;rw[qb e,qb<|h1.symm.trans e];show⟨h1,a⟩;rw[qa e,qa λz=>e<|h1.trans z];show⟨h1,h2⟩
def KV.put(r:KV kvs vs)(k:κ)(a:RelV y u):KV (putK kvs k y) (stored vs k u):=by unfold putK stored;rw[r.any k];by_cases e:(vs.any λc=>ω<|c.1=k)=ϱ;rw[qb e,qb e];show r.QY k a;rw[qa e,qa e];show Paired.snoc r ⟨rfl,a⟩
def KV.drop(r:KV kvs vs)(k:κ):KV (qx kvs k) (without vs k):=by unfold KV at r⊢;unfold qx without;induction r with|nil=>show .nil|@cons p q ps qs h t c=>let⟨h1,h2⟩:=h;rw[yW,yW];by_cases e:p.1=k;have a:¬ω (p.1≠k)=ϱ:=(by simp[e]);have b:¬ω (q.1≠k)=ϱ:=(by simp[h1.symm.trans e]);rw[qa a,qa b];show c;have e':¬q.1=k:=λz=>e<|h1.trans z;have a:ω (p.1≠k)=ϱ:=(by simp[e]);have b:ω (q.1≠k)=ϱ:=(by simp[e']);rw[qb a,qb b];show .cons ⟨h1,h2⟩ c
theorem KV.length{kvs:δ<|κ×V}{vs:δ<|κ×ξ}(r:KV kvs vs):kvs.length=vs.length:=yP r
theorem Jy(kvs:δ<|κ×V)(k:κ):(qx kvs k).length<=kvs.length:=yD _ _
end
def km(r:RelV (kV k) u):(aJ P w).is k u=ϱ:=by cases k with|inl i=>(let⟨t,e⟩:=(show ∃t,u=Value.int i t from r);subst e;show AN P w i t)|inr x=>let⟨t,e⟩:=(show ∃t,u=Value.str x t from r);subst e;show j_ P w x t
theorem wb:∀{ks:δ Key}{us:δ ξ},Vals (ks.map kV) us->ItemsAre (aJ P w) ks us|[],_,r=>(by rw[List.map_nil]at r;cases r;show .nil)|k::ks,_,r=>by rw[zK]at r;cases r with|cons h t=>show .cons (km h)<|wb t
abbrev KT(H:Hp):δ (δ Key×V)->δ (δ Key×ε×ξ)->Prop:=Paired λp q=>p.1=q.1/\H q.2.1=ϑ (.tup<|p.1.map kV)/\RelV p.2 q.2.2
def KT.val{H:Hp}{kvs:δ<|δ Key×V}{xs:δ<|δ Key×ε×ξ}(r:KT H kvs xs)(k:δ Key):gU (gY kvs k) ((atKey xs k).map (·.2)):=by induction r with|nil=>show True.intro|@cons p q ps qs h t a=>let⟨h1,_,h2⟩:=h;by_cases e:p.1=k;have e':q.1=k:=h1.symm.trans e;have b:atKey (q::qs) k=ϑ q.2:=(by simp[atKey,yc,e']);rw[sX e,b];show h2;have e':¬q.1=k:=λz=>e<|h1.trans z;have b:atKey (q::qs) k=atKey qs k:=(by simp[atKey,yc,e']);rw[sY e,b];show a
section
variable{P:Ψ}{w:Ω}{H:Hp}{h:Γ}{a:ε}
theorem OW(ok:lQ P w H h)(e:Rd H a u):bj P w H h a u:=e.ok ok
theorem nE(ok:lQ P w H h)(e:Rd H a<|.dK kvs):kvs.length<=Ϙ/\(a==sysModules)=ϰ/\∃vs,KV kvs vs/\h.DictOf (aJ P w) a vs:=show bj P w H h a (.dK kvs) from OW ok e
theorem Fj(ok:lQ P w H h)(e:H a=ϑ (.dK kvs)):kvs.length<=Ϙ/\(a==sysModules)=ϰ/\∃vs,KV kvs vs/\h.DictOf (aJ P w) a vs:=nE ok<|.inl e
def sZ(ok:lQ P w H h)(e:H a=ϑ (.tup<|ks.map kV)):(tupleKind<|aJ P w).is h ks a:=by let⟨_,c,r,o,h1,h2,_,n,d⟩:=(show bj P w H h a (.tup<|ks.map kV) from ok a _ e);show{o,c.toArray,n,h1,h2,d,by simpa using wb r}
def s_(ok:lQ P w H h)(e:Rd H a<|.dT kvs):kvs.length<=Ϙ/\(a==sysModules)=ϰ/\∃xs,KT H kvs xs/\h.DictOfH (tupleKind<|aJ P w) a xs:=by show False.elim<|show bj P w H h a (.dT kvs) from OW ok e
end
def pH(H:Hp)(a:ε)(y:V)(r:θ V):Prop:=(∃kvs k,Rd H a (.dK kvs)/\y=kV k/\r=gY kvs k)\/∃kvs k b,Rd H a (.dT kvs)/\y=.ref b/\H b=ϑ (.tup<|k.map kV)/\r=gY kvs k
def Jz(H:Hp)(a:ε)(y v:V)(H':Hp):Prop:=(∃kvs k,H a=ϑ (.dK kvs)/\y=kV k/\kvs.length<Ϙ/\H'=upd H a (.dK<|putK kvs k v))\/∃kvs k b,H a=ϑ (.dT kvs)/\y=.ref b/\H b=ϑ (.tup<|k.map kV)/\kvs.length<Ϙ/\H'=upd H a (.dT<|putK kvs k v)
theorem pH.k{H:Hp}{a:ε}{kvs:δ<|Key×V}{k:Key}(e:H a=ϑ (.dK kvs)):pH H a (kV k) (gY kvs k):=.inl {kvs,k,.inl e,rfl,rfl}
theorem Jz.k{H:Hp}{a:ε}{kvs:δ<|Key×V}{k:Key}{v:V}(e:H a=ϑ (.dK kvs))(hl:kvs.length<Ϙ):Jz H a (kV k) v (upd H a<|.dK<|putK kvs k v):=.inl ⟨kvs,k,e,rfl,hl,rfl⟩
section
variable{X:Cx}{qc:δ (ε×Obj)}{σ:St}{H:Hp}{s:ζ}{a:ε}{y v:V}{u r:ξ}{o:θ V}{A:ϕ}{E:ξ->ζ->η}
def Inv.big(I:Inv X qc σ H s):sysModules<s.heap.objs.size:=by have h:mainGlobals<s.heap.objs.size:=(I.mod.glob.keeps I.bk).lt;show Nat.lt_trans `a h
def Hc(hu:A.units+1<cLine)(I:Inv X qc σ H s)(g:pH H a y<|some v)(m:RelV y u)(h:∀c s',Inv X qc σ H s'->RelV v c->Q c s'): wpAny `m A (getItem (.ref a) u) Q E s:=by rcases g with⟨kvs,k,e,d,l⟩|⟨kvs,k,b,e,d,n,l⟩;subst d;let⟨z,hd,vs,rel,i⟩:=nE I.aK e;let⟨c,hw,j⟩:=gU.some_of (v:=v) (o:=valueAt vs k) (by rw[l];show rel.val k);show wpAny_getItem_of (km m) i.mapOf hw<|h c _ (I.tok _) j;subst d;cases (show u=Value.ref b from m);let⟨z,hd,xs,rel,i⟩:=s_ I.aK e;let⟨c,hw,j⟩:=gU.some_of (v:=v) (o:=(atKey xs k).map (·.2)) (by rw[l];show rel.val k);let⟨p,hp,r⟩:=Option.map_eq_some_iff.mp hw;show wpAny_getItem_heap (tupleKind_room_in1 hu) (sZ I.aK n) i hp ?_;rw[r];show h c _ (I.tok _) j
def aaC(hu:A.units+1<cLine)(I:Inv X qc σ H s)(g:pH H a y o)(i:RelV y u)(h:∀s',Inv X qc σ H s'->Q (.bool o.isSome) s'): wpAny `m A (compareOp .In u<|.ref a) Q E s:=by rcases g with⟨kvs,k,e,c,l⟩|⟨kvs,k,b,e,c,j,l⟩;subst c;let⟨z,hd,vs,rel,d⟩:=nE I.aK e;show wpAny_in_of (km i) hd d.mapOf ?_;rw[<-(rel.val k).iP,<-l];show h _<|I.tok _;subst c;cases (show u=Value.ref b from i);let⟨z,hd,xs,rel,d⟩:=s_ I.aK e;show wpAny_in_heap (tupleKind_room_in1 hu) (sZ I.aK j) hd d ?_;have q:=(rel.val k).iP;rw[Option.isSome_map]at q;rw[<-q,<-l];show h _<|I.tok _
def MV(hu:A.units+1<cLine)(I:Inv X qc σ H s)(g:pH H a y o)(i:RelV y u)(h:∀s',Inv X qc σ H s'->Q (.bool<|!o.isSome) s'): wpAny `m A (compareOp .NotIn u<|.ref a) Q E s:=by rcases g with⟨kvs,k,e,c,l⟩|⟨kvs,k,b,e,c,j,l⟩;subst c;let⟨z,hd,vs,rel,d⟩:=nE I.aK e;show wpAny_notIn_of (km i) hd d.mapOf ?_;rw[<-(rel.val k).iP,<-l];show h _<|I.tok _;subst c;cases (show u=Value.ref b from i);let⟨z,hd,xs,rel,d⟩:=s_ I.aK e;show wpAny_notIn_heap (tupleKind_room_in1 hu) (sZ I.aK j) hd d ?_;have q:=(rel.val k).iP;rw[Option.isSome_map]at q;rw[<-q,<-l];show h _<|I.tok _
theorem xr(I:Inv X qc σ H s)(g:U5<|H a)(c:Heap.SameBut a s.heap h')(d:∃q,h'.get? a=ϑ q)(new:bj X.prog X.w (upd H a ob) h' a ob): Inv X qc σ (upd H a ob) {s with heap:=h',toks:=t'}:=I.write (x:=a) (e:=a) g (.inl rfl) (λb q hb z=>(c.2 b hb).trans z) d new
theorem C_(z:kvs.length<=Ϙ)(hd:(a==sysModules)=ϰ)(rel:KV kvs vs)(dd:h'.DictOf (aJ P w) a vs): bj P w H' h' a (.dK kvs):=⟨z,hd,vs,rel,dd⟩
def Hd(hu:A.units+1<cLine)(I:Inv X qc σ H s)(g:Jz H a y v H')(j:RelV y u)(p:RelV v r)(h:∀s',Inv X qc σ H' s'->Q () s'): wpAny `m A (setItem (.ref a) u r) Q E s:=by
 rcases g with⟨kvs,k,e,c,l,d⟩|⟨kvs,k,b,e,c,t,l,d⟩;subst c d;let⟨z,hd,vs,rel,m⟩:=Fj I.aK e;have hz:vs.length<=sizeLine:=by rw[<-rel.length];show z
 have hl:(putK kvs k v).length<=sizeLine:=by have:=qy kvs k v;lia
 show wpAny_setItem_pairs (hsz:=hz) (km j) m λh' i n=>h _ ?_;have o:∃q,h'.get? a=ϑ q:=by let⟨q,_,_,hq,_⟩:=i;show⟨q,hq⟩
 show xr I (by rw[e];show True.intro) n o<|C_ hl hd (rel.put k p) i;show False.elim<|I.aK _ _ e
end
section
variable{X:Cx}{qc:δ (ε×Obj)}{σ:St}{H:Hp}{s:ζ}{a:ε}{kvs:δ (Key×V)}{k:Key}{u:ξ}{A:ϕ}{E:ξ->ζ->η}
def VP(I:Inv X qc σ H s)(e:H a=ϑ (.dK kvs))(d:RelV (kV k) u)(l:gY kvs k=ϑ v)(hm:more=[]\/∃x,more=[x]) (h:∀c s',Inv X qc σ (upd H a<|.dK<|qx kvs k) s'->RelV v c->Q c s'):wpAny `m A (call (.builtin "dict.pop")<|.ref a::u::more) Q E s:=by
 let⟨z,hd,vs,rel,g⟩:=Fj I.aK e;let⟨c,hw,p⟩:=gU.some_of (v:=v) (o:=valueAt vs k) (by rw[<-l];show rel.val k);have hp:(keyPart u).isSome=ϱ:=by cases k with|inl i=>(let⟨t,q⟩:=(show ∃t,u=Value.int i t from d);subst q;rfl)|inr x=>let⟨t,q⟩:=(show ∃t,u=Value.str x t from d);subst q;rfl
 have ha:argsOk "dict.pop" {.ref a::u::more,[]}:=by rcases hm with q|⟨x,q⟩;subst q;show PySem.F.args_dict_pop_2 _ _;subst q;show PySem.F.args_dict_pop_3 _ _ _
 show call_meetsIn PySem.F.slot_dict_pop g.typeIs PySem.F.entry_dict_pop ha (meets_dict_pop_there (aJ X.prog X.w) a (km d) more hm hp) {vs,c,g,by rw[<-rel.length];show z,hw,λh' j m=>h c _ ?_ p};have n:∃q,h'.get? a=ϑ q:=by let⟨q,_,_,hq,_⟩:=j;show⟨q,hq⟩
 show xr I (by rw[e];show True.intro) m n<|C_ (zH (Jy kvs k) z) hd (rel.drop k) j
def VQ(I:Inv X qc σ H s)(e:Rd H a<|.dK kvs)(h:∀t s',Inv X qc σ H s'->Q (.int kvs.length t) s'):wpAny `m A (call (.builtin "len") [.ref a]) Q E s:=by let⟨z,hd,vs,rel,c⟩:=nE I.aK e;show call_len_dict hd c (by rw[<-rel.length];rw[yg]at z;lia) ?_;rw[<-rel.length];show h _ _<|I.tok _
end
def AY(I:Inv X qc σ H s)(g:pH H a y o):s.TypeIs (.ref a) "dict":=by rcases g with⟨kvs,k,e,_,_⟩|⟨kvs,k,b,e,_,_,_⟩;let⟨_,_,vs,_,c⟩:=nE I.aK e;show c.typeIs;let⟨_,_,xs,_,c⟩:=s_ I.aK e;show c.typeIs
def VR(td ty tv:TE):TS:=λD σ H=>tv σ H λv H1=>td σ H1 λx H2=>ty σ H2 λy c=>∃a H4,x=.ref a/\Jz c a y v H4/\D.nx σ H4
section
variable{X:Cx}{o i value:Δ}{pos pos':Pos}{td ty tv:TE}
def MW(hu:X.A.units+1<cLine)(ho:PE X o td)(hi:PE X i ty)(hv:PE X value tv)(l:swapsWith value (some<|.Subscript o i pos') pos.line X.env=pure false): PS X (.Assign [.Subscript o i pos'] value pos) (VR td ty tv):=by intro qc s σ H D I h;show wpAny_Assign_Subscript (bB (hv qc s σ H _ I h) λr s1 ⟨v,H1,j,w,m⟩=>bB (ho qc s1 σ H1 _ j m) λu s2 ⟨x,H2,e,z,t⟩=>bB (hi qc s2 σ H2 _ e t) λE C ⟨y,F,n,c,a,d,ex,g,p⟩=>?_) l;subst ex;obtain rfl:u=Value.ref a:=z;show Hd hu n g c w λG B=>⟨σ,d,B,p⟩
end
theorem JA(h:Γ)(hb:sysModules<h.objs.size):bj P w H (h.push {cls:=.type "dict",data:=.dict #[]}) h.objs.size (.dK []):={yh _,beq_eq_false_iff_ne.mpr<|Ne.symm<|zD hb,[],.nil,Heap.DictOf.new h}
def QZ:TE:=λz H Q=>∀p,H p=ϐ->Q (.ref p) (upd H p<|.dK [])
section
variable{X:Cx}{pos:Pos}
theorem JB:PE X (.Dict [] [] pos) QZ:=λqc s σ H Q I h=>wpAny_Dict_empty {.ref s.heap.objs.size,_,I.laid (a:=s.heap.objs.size) (o:=.dK []) (t':=s.toks) (λz z q=>za _ q) (zj _)<|JA s.heap I.big,rfl,h _<|I.aK.fresh<|zj _}
end
def JC:δ (TE×TE)->St->Hp->(δ (V×V)->Hp->η)->η|[],_,H,Q=>Q [] H| (tk,tv)::r,σ,H,Q=>tk σ H λx H1=>tv σ H1 λy H2=>JC r σ H2 λps a=>Q ((x,y)::ps) a
abbrev VV:δ (V×V)->δ (ξ×ξ)->Prop:=Paired λp q=>RelV p.1 q.1/\RelV p.2 q.2
def PPs(X:Cx)(pos:Pos)(keys:δ<|θ Δ)(values:δ Δ)(a:δ<|TE×TE):Prop:=∀(qc:δ (ε×Obj))(s:ζ)(σ:St)(H:Hp)(Q:δ (V×V)->Hp->η),Inv X qc σ H s->JC a σ H Q->wpAny `m X.A (evalPairs<|pairTrees keys values X.env pos) (λvs s'=>∃ps H',Inv X qc σ H' s'/\VV ps vs/\Q ps H') X.xe s
structure M1(X:Cx)(o:Δ)(m:ρ)(apos:Pos)(e:Δ)(aV:Pos):η where
 base:attributeBase o m X.env (eval o X.env)=eval o X.env
 IP:((backTo aV<|starEach [e] X.env).all (λx=>!x.1)&&(backToKw aV<|keywordEach [] X.env).all (λx=>x.1.isSome)
  && ω (([e]:δ Δ).length+([]:δ Keyword).length+(if ([]:δ Keyword).isEmpty then 0 else 1)<30))=ϱ
 line:(apos.endLine==aV.line)=ϱ
 trees:backTo aV (starEach [e] X.env)=[`j]
structure M2(X:Cx)(o:Δ)(m:ρ)(apos:Pos)(e f:Δ)(aV:Pos):η where
 base:attributeBase o m X.env (eval o X.env)=eval o X.env
 IP:((backTo aV<|starEach [e,f] X.env).all (λx=>!x.1)&&(backToKw aV<|keywordEach [] X.env).all (λx=>x.1.isSome)
  && ω (([e,f]:δ Δ).length+([]:δ Keyword).length+(if ([]:δ Keyword).isEmpty then 0 else 1)<30))=ϱ
 line:(apos.endLine==aV.line)=ϱ
 trees:backTo aV (starEach [e,f] X.env)=[`j,(false,eval f X.env)]
def Um(H:Hp)(a:ε):Prop:=(∃kvs,Rd H a<|.dK kvs)\/∃kvs,Rd H a<|.dT kvs
def xt(I:Inv X qc σ H s)(d:Um H a): s.TypeIs (.ref a) "dict"/\(∀b,Value.ref a=.ref b->∃c,s.heap.get? b=ϑ c/\c.dict=ϐ)/\(a==sysModules)=ϰ:=by rcases d with⟨kvs,e⟩|⟨kvs,e⟩;let⟨_,hd,vs,_,g⟩:=nE I.aK e;show{g.typeIs,λb q=>?_,hd};cases q;let⟨c,_,_,h1,h2,_⟩:=g;show⟨c,h1,h2.2.1⟩;let⟨_,hd,xs,_,g⟩:=s_ I.aK e;show{g.typeIs,λb q=>?_,hd};cases q;let⟨c,_,_,h1,h2,_⟩:=g;show⟨c,h1,h2.2.1⟩
section
variable{X:Cx}{qc:δ (ε×Obj)}{σ:St}{H:Hp}{s:ζ}{a:ε}{y d:V}{u r:ξ}{o:θ V}{A:ϕ}{E:ξ->ζ->η}
def Q0(hu:A.units+1<cLine)(I:Inv X qc σ H s)(g:pH H a y o)(i:RelV y u)(h:∀j s',Inv X qc σ H s'->RelV (o.getD .ay) j->Q j s'): wpAny `m A (call (.builtin "dict.get") [.ref a,u]) Q E s:=by rcases g with⟨kvs,k,e,d,l⟩|⟨kvs,k,b,e,d,m,l⟩;subst d;let⟨z,hd,vs,rel,c⟩:=nE I.aK e;show call_meetsIn yE c.typeIs PySem.F.entry_dict_get (PySem.F.args_dict_get_2 _ _) (meets_dict_get (aJ X.prog X.w) a (km i) hd) {_,c.mapOf,h _ _ (I.tok _) ?_};rw[l];show(rel.val k).getD rfl;subst d;cases (show u=Value.ref b from i);let⟨z,hd,xs,rel,c⟩:=s_ I.aK e;show call_meetsIn yE c.typeIs PySem.F.entry_dict_get (PySem.F.args_dict_get_2 _ _) (meetsH_dict_get (tupleKind<|aJ X.prog X.w) a b hd) {tupleKind_room_in1 hu,k,xs,sZ I.aK m,c,h _ _ (I.tok _) ?_};rw[l];show(rel.val k).getD rfl
def Q1(hu:A.units+1<cLine)(I:Inv X qc σ H s)(g:pH H a y o)(j:RelV y u)(rd:RelV d r)(h:∀m s',Inv X qc σ H s'->RelV (o.getD d) m->Q m s'): wpAny `m A (call (.builtin "dict.get") [.ref a,u,r]) Q E s:=by rcases g with⟨kvs,k,e,i,l⟩|⟨kvs,k,b,e,i,n,l⟩;subst i;let⟨z,hd,vs,rel,c⟩:=nE I.aK e;show call_meetsIn yE c.typeIs PySem.F.entry_dict_get (PySem.F.args_dict_get_3 _ _ _) (meets_dict_get_default (aJ X.prog X.w) a (km j) hd r) {_,c.mapOf,h _ _ (I.tok _) ?_};rw[l];show(rel.val k).getD rd;subst i;cases (show u=Value.ref b from j);let⟨z,hd,xs,rel,c⟩:=s_ I.aK e;show call_meetsIn yE c.typeIs PySem.F.entry_dict_get (PySem.F.args_dict_get_3 _ _ _) (meetsH_dict_get_default (tupleKind<|aJ X.prog X.w) a b hd r) {tupleKind_room_in1 hu,k,xs,sZ I.aK n,c,h _ _ (I.tok _) ?_};rw[l];show(rel.val k).getD rd
end
def Q2(td ty:TE):TE:=λσ H Q=>td σ H λx H1=>∃a,x=.ref a/\Um H1 a/\ty σ H1 λy H2=>∃o,pH H2 a y o/\Q (o.getD .ay) H2
def Q3(td ty tx:TE):TE:=λσ H Q=>td σ H λx H1=>∃a,x=.ref a/\Um H1 a/\ty σ H1 λy H2=>tx σ H2 λz c=>∃o,pH c a y o/\Q (o.getD z) c
def Q4(td ty:TE):TE:=λσ H Q=>td σ H λx H1=>∃a,x=.ref a/\Um H1 a/\ty σ H1 λy H2=>∃kvs k v,H2 a=ϑ (.dK kvs)/\y=kV k/\gY kvs k=ϑ v/\Q v (upd H2 a<|.dK<|qx kvs k)
section
variable{X:Cx}{o e f:Δ}{apos aV:Pos}{td ty tx:TE}
def JD(hu:X.A.units+1<cLine)(ho:PE X o td)(t:PE X e ty)(m:M1 X o "get" apos e aV):PE X (.Call (.Attribute o "get" apos) [e] [] aV) (Q2 td ty):=by intro qc s σ H Q I h;show wpAny_Call_method m.base m.IP m.line PySem.F.plainAttrs_dict yE PySem.F.type_dict_get<|bB (ho qc s σ H _ I h) λu s1 ⟨x,H1,c,z,a,ex,d,p⟩=>?_;subst ex;obtain rfl:u=Value.ref a:=z;let⟨v,j,_⟩:=xt c d;show{v,j,?_};rw[m.trees];show Calls.callWith_builtin rfl<|Calls.evalArgs_plain<|yM<|bB (t qc s1 σ H1 _ c p) λG s2 ⟨y,H2,n,i,B,g,w⟩=>Calls.spliced_nil ?_;show Q0 hu n g i λE C r l=>{_,H2,r,l,w}
def JE(hu:X.A.units+1<cLine)(ho:PE X o td)(t:PE X e ty)(hf:PE X f tx)(m:M2 X o "get" apos e f aV):PE X (.Call (.Attribute o "get" apos) [e,f] [] aV) (Q3 td ty tx):=by intro qc s σ H Q I h;show wpAny_Call_method m.base m.IP m.line PySem.F.plainAttrs_dict yE PySem.F.type_dict_get<|bB (ho qc s σ H _ I h) λu s1 ⟨x,H1,c,G,a,ex,d,p⟩=>?_;subst ex;obtain rfl:u=Value.ref a:=G;let⟨B,j,_⟩:=xt c d;show{B,j,?_};rw[m.trees];show Calls.callWith_builtin rfl<|Calls.evalArgs_plain<|yM<|bB (t qc s1 σ H1 _ c p) λN s2 ⟨y,H2,n,i,E⟩=>yM<|bB (hf qc s2 σ H2 _ n E) λP L ⟨z,w,r,C,K,g,v⟩=>Calls.spliced_nil ?_;show Q1 hu r g i C λM O J l=>{_,w,J,l,v}
def JF(ho:PE X o td)(w:PE X e ty)(m:M1 X o "pop" apos e aV):PE X (.Call (.Attribute o "pop" apos) [e] [] aV) (Q4 td ty):=by intro qc s σ H Q I h;show wpAny_Call_method m.base m.IP m.line PySem.F.plainAttrs_dict PySem.F.slot_dict_pop PySem.F.type_dict_pop<|bB (ho qc s σ H _ I h) λu s1 ⟨x,H1,c,C,a,ex,d,r⟩=>?_;subst ex;obtain rfl:u=Value.ref a:=C;let⟨z,j,_⟩:=xt c d;show{z,j,?_};rw[m.trees];show Calls.callWith_builtin rfl<|Calls.evalArgs_plain<|yM<|bB (w qc s1 σ H1 _ c r) λJ s2 ⟨y,H2,p,i,kvs,k,v,g,A,l,B⟩=>Calls.spliced_nil ?_;subst A;show VP p g i l (.inl rfl) λG E t n=>{v,_,t,n,B}
end
end L2
namespace Att
open PySem PySem.W PySem.Calls PyProof.Rows
def rl{P:Params} : ∀(ns:δ ν)(vs:δ ξ),WellAll P h vs (ns.map WData.int)->IntsAre vs ns:=by intro ns;induction ns with|nil=>(intro vs w;rw[List.map_nil]at w;cases w;show .nil)|cons n ns c=>intro vs w;rw[zK]at w;cases w with|cons a b=>cases a;show .cons _ _<|c _ b
def He{l:OpenLaw}{n:π}(hn:l.most=ϑ n){P:Params}{h:Γ}{args:δ WData}{c:δ ξ} (s:l.row.toRowW.claim.pre args=ϱ) (j:WellAll P h c args): ∃a vs ns,c=[Value.ref a]/\args=[WData.list<|ns.map WData.int]/\h.get? a=ϑ {cls:=.type "list",data:=.seq vs.toArray}/\IntsAre vs ns/\ns.length<=n:=by
 have m:WShape.hasAll [] args [.list .int]=ϱ:=(pre_splitW s).1;have p:l.pre.holds [] {args:=args}=ϱ:=(pre_splitW s).2;let⟨d,r,rfl,h1,h2⟩:=hasAllW_cons m;obtain rfl:=hasAllW_nil h2;let⟨xs,rfl,x⟩:=hasW_list h1;let⟨ns,rfl⟩:=items_int x;have e:ns.length<=n:=by unfold OpenLaw.pre at p;have g:(WTm.not<|.lt (.lit<|.int (n:ν))<|.len<|.arg 0).holds [] {args:=[.list<|ns.map .int]}=ϱ:=(by have g:=(holds_andW p).1;rw[hn]at g;show g);have i:=condW_of g<|w_not<|w_lt w_lit<|w_len_list<|w_arg rfl;rw[zd]at i;show Nat.le_of_not_lt λq=>?_;have v:(n:ν)<((ns.length:π):ν):=`b;first| (rw[zy v]at i;show absurd i<|`a)| (simp at i;lia)
 cases j with|cons w t=>cases t;cases w with|list ho o=>show{_,_,ns,rfl,rfl,ho,rl ns _ o,e}
theorem Hf(l:OpenLaw)(args:δ WData):l.row.toRowW.claim.post args (.bool true) args=ϱ:=postW_of (r:=l.row.toRowW) (X:=(true==true)) (show WShape.has [] (.bool true) .bool=ϱ by first|rfl|decide|simp[WShape.has,WShape.arms,WShape.armsAll]) (show(WTm.eq .res<|.lit<|.bool true).value [] {args:=args,res:=some<|.bool true,after:=args}=ϑ (.bool<|true==true) from w_eq_bool (w_res rfl) w_lit) rfl
def AZ{l:OpenLaw}{n:π}{q:Ψ}{loose:δ ρ}{j:(ρ->θ ξ)->Γ->η}{m:Ω->Γ->η}{d:DefRec} (hn:l.most=ϑ n) (i:d.params.defaults=[]) (call:∀(w:Ω)(dY c:ζ)(mg mb:ρ->θ ξ)(fa:ε)(o:Obj)(pm cd doc:ξ)(a:ε)(vs:δ ξ)(ns:δ ν),Ground q loose [] j w dY mg mb c.heap->m w c.heap->c.heap.get? fa=ϑ o->o.data=.func (docDef d.name d.params d.body d.scope pm cd doc)->c.heap.CodeRec cd d.name->mg d.name=ϑ (.ref fa)->c.heap.get? a=ϑ {cls:=.type "list",data:=.seq vs.toArray}->IntsAre vs ns->ns.length<=n->c.gens=#[]->codeAny (model l.prog w) callerA (.call (.ref fa) {[.ref a],[]}) (λr s'=>r=.ok (.ret<|.bool true)/\OldK c.heap s'.heap/\s'.os=c.os/\AllBare s'.gens) c): WalkO q loose j m l.row.toRowW d [] (λf vs=>PySem.call f vs):=by intro w dY c mg mb G Y fa o pm cd doc dV kV ho hd C s A hg args p F x z B h y;obtain rfl:dV=.none:=Dflts.none s i;obtain rfl:kV=.none:=Dflts.noKw s;let⟨a,vs,ns,rfl,rfl,v,e,g⟩:=He hn x h;show enter_call<|y4 (call w dY c mg mb fa o pm cd doc a vs ns G Y ho (fd_plain hd) C A v e g hg) λr s' hq=>?_;let⟨rfl,h2,E,t⟩:=hq;show{.inl {.bool true,.bool true,[],rfl,λu=>rfl,.bool true,Hf l _,λu=>{List.Pairwise.nil,λu hm=>(nomatch hm)}},h2,E,t}
end Att
namespace L2
open PySem PySem.Spec PyProof.Rows
theorem wc:∀{vs:δ ξ}{ns:δ ν},IntsAre vs ns->Vals (ns.map V.int) vs|_,_,.nil=>.nil|_,_,.cons n t h=>.cons ⟨t,rfl⟩<|wc h
def inClass(s:Stmt)(j:π):Stmt:=match s with|.ClassDef _ _ _ body _ _ _ _ _ _ _=>body.getD j (.Pass {0,0,0,0})|_=>.Pass {0,0,0,0}
def b9(s:Stmt):Arguments:=match s with|.FunctionDef _ a _ _ _ _ _ _ _ _=>a|_=>{posonlyargs:=[],args:=[],vararg:=none,kwonlyargs:=[],kw_defaults:=[],kwarg:=none,defaults:=[]}
def bK(s:Stmt):δ Stmt:=match s with|.FunctionDef _ _ b _ _ _ _ _ _ _=>b|_=>[]
def ar(s:Stmt):Scope:=match s with|.FunctionDef _ _ _ _ _ _ sc _ _ _=>sc|_=>{kind:=.function,names:=[],isGenerator:=false,isCoroutine:=false}
abbrev Y5:CZ:=λz z z z z z=>False
abbrev E0:XK:=λz z z=>False
structure Fun(K:Φ)(x qual:ρ)(st:Stmt)(f:ε)(fd:FuncData):η where
 ex:∃(oc:ξ)(od:θ ε)(kV doc pm:ξ)(an:θ ε)(iL ct:ξ)(QN:Array (θ ξ)),
  fd=fnOf x qual (b9 st) (bK st) (ar st) .none kV doc pm an iL ct/\K.lookup f=ϑ {oc,od,.func fd,QN}/\codeIn K iL qual=ϱ
 kp:keepIn K (.ref f)=ϱ
theorem lC(h:n<=1000):n<sizeLine:=Nat.lt_of_le_of_lt h<|`a
section
variable{X:Cx}
def Hg:eQ X (.builtin "len") (λxs H Q=>∃a kvs,xs=[V.ref a]/\H a=ϑ (.dK kvs)/\Q (.int kvs.length) H):=by intro qc s σ H xs us Q I r h;let⟨a,kvs,rfl,ha,q⟩:=h;let⟨u,rfl,c⟩:=vals1 r;cases c;show VQ I (.inl ha) λt s' d=>{.int kvs.length,H,d,⟨t,rfl⟩,q}
end
def aM{A B:η}(h:B):if false=ϱ then A else B:=by rw[qa ze];show h
def bw{A B:η}(h:A):if true=ϱ then A else B:=by rw[qb rfl];show h
section
variable{κ:Type}[DecidableEq κ]
theorem nF:∀{l:δ κ}{k:κ},l.Nodup->¬k∈l->(l++[k]).Nodup|[],k,_,_=>by simp|a::r,k,h,hk=>by let⟨h1,h2⟩:=yo.mp h;change(a::(r++[k])).Nodup;show yo.mpr {λm=>?_,nF h2 λm=>hk<|zl.mpr<|Or.inr m};rcases zP.mp m with q|q;show h1 q;show hk<|zl.mpr<|Or.inl (zE.mp q).symm
end
end L2
set_option maxHeartbeats 4000000
namespace L2
open PySem PySem.Spec PyProof.Rows
section
variable{X:Cx}
noncomputable def IQ(i j:ρ):Bool:=!decide (j.cps.toList<i.cps.toList)
noncomputable def oZ(i j:ρ):Bool:=ω<|i.cps.toList<j.cps.toList
def rS2(g:ρ->ρ->χ):R2:=λx y H Q=>∃i j,x=.str i/\y=.str j/\Q (.bl<|g i j) H
def Hh:gX X (compareOp .LtE) (rS2 IQ):=by intro qc s σ H x y v u Q I c a h;let⟨i,j,rfl,rfl,q⟩:=h;let⟨t,rfl⟩:=c;let⟨d,rfl⟩:=a;show P.le_str<|aL I q rfl
def Hi:gX X (compareOp .GtE) (rS2 λi j=>IQ j i):=by intro qc s σ H x y v u Q I c a h;let⟨i,j,rfl,rfl,q⟩:=h;let⟨t,rfl⟩:=c;let⟨d,rfl⟩:=a;show P.ge_str<|aL I q rfl
def Hj:gX X (compareOp .Gt) (rS2 λi j=>oZ j i):=by intro qc s σ H x y v u Q I c a h;let⟨i,j,rfl,rfl,q⟩:=h;let⟨t,rfl⟩:=c;let⟨d,rfl⟩:=a;show P.gt_str<|aL I q rfl
def JG(_ j:ν):Prop:=0<j/\j.natAbs.log2<9000
theorem JH:gX X (binaryOp .FloorDiv) (rI JG λi j=>.int<|i/j):=Y2 λi j z z z z z a q=>by
 have c:j≠0:=by have:=a.1;omega
 show floordiv_int c (by rw[Int.fdiv_eq_ediv_of_nonneg _<|by have:=a.1;omega];show q)<|.inl<|PyProof.noPylong_of_log2 a.2
end
noncomputable def Its(x:ρ):It:={λi z=>i<x.cps.size,λi H v H'=>H'=H/\∃c,x.cps[i]?=some c/\v=.str ⟨#[c]⟩,λi z=>x.cps.size<=i}
theorem A1{P:Ψ}{w:Ω}{K:Φ}{tg:Δ}{T:String}(hT:["enumerate","zip","dict_itemiterator","dict_reverseitemiterator","odict_iterator","itertools.zip_longest","itertools.pairwise"].contains T=ϰ)(it:ε)(x:ρ)(t:Tok)
  (W:∀A':ϕ,A'.handled=ϐ->Walks P w A' it [it] [it] x.cps.size (SignAt x) (λi h=>h.IsStrIter it T x t i))
  (aaI:∀(A:ϕ)(s:ζ)(E:ξ->ζ->η)(i:π)(Q:θ ξ->ζ->η),A.handled=ϐ->s.heap.IsStrIter it T x t i->x.cps[i]?=none->(∀h',Heap.ExtBut it s.heap h'->Q none {s with heap:=h'})->wpAny (model P w) A (pyNext<|.ref it) Q E s)
  (VS:∀(A:ϕ)(s:ζ)(E:ξ->ζ->η)(i:π)(Q:ξ->ζ->η),s.heap.IsStrIter it T x t i->Q (.ref it) s->wpAny (model P w) A (pyIter<|.ref it) Q E s):
  Turn P w K tg (Its x) [it] it (λi h=>h.IsStrIter it T x t i) where
 mem:=`d
 obj:=λi h st b hb=>by
  have e:b=it:=by simpa using hb
  subst e
  let⟨o,e,c,d⟩:=st
  show{o,e,λv z=>by rw[d]at z;cases z}
 keep:=λi h h' st k=>by
  let⟨o,e,c,d⟩:=st
  show{o,k it `d o e,c,d}
 item:=by
  intro X hP hw hK hc i qc s σ H E I hf st hg
  subst hP hw hK
  let⟨f0,f1,f2,f3,f4,f5⟩:=hf it<|`d
  show(W X.A<|I.ok.hd hc).item i s _ _ hg st λv h' tk hv fR kk=>?_
  let⟨c,u,MY,rfl⟩:=hv
  have I1:Inv X qc σ H {s with heap:=h',toks:=tk}:=I.turned (λb o hb e=>kk b o (by simpa using hb) e) f0 f1 f3 f4 f5
  let⟨o,e,c',d⟩:=id fR
  show{_,rfl,vZ (s:={s with heap:=h',toks:=tk}) e c' d hT {.str ⟨#[c]⟩,H,I1,⟨u,rfl⟩,⟨rfl,c,MY,rfl⟩,fR,λb hb=>(hf b hb).1}}
 done:=by
  intro X hP hw hK hc i qc s σ H E I hf st hg
  subst hP hw hK
  let⟨f0,f1,f2,f3,f4,f5⟩:=hf it<|`d
  have hg:x.cps.size<=i:=hg
  show aaI X.A s E i _ (I.ok.hd hc) st (by simp;show hg) λh' eb=>{rfl,I.turned (t':=s.toks) (λb o hb e=>eb b o hb e) f0 f1 f3 f4 f5}
 self:=λA' i s Q E st h=>VS A' s E i Q st h
section
variable{X:Cx}{tg:Δ}
def aaJ(tl:TE):TI:=λσ H R=>tl σ H λx H1=>∃z,x=.str z/\R (Its z) H1
def Q7(hl:PE X l tl):PI X tg l (aaJ tl):=by
 intro qc s σ H R I h;show bB (hl qc s σ H _ I h) λv s1 ⟨x,H1,c,j,n⟩=>?_;let⟨z,e,q⟩:=n;subst e;let⟨t,rfl⟩:=j;have a:∀(T:String)(_:Turn X.prog X.w X.K tg (Its z) [s1.heap.objs.size] s1.heap.objs.size (λi h=>h.IsStrIter s1.heap.objs.size T z t i)),PIE X qc σ tg R (.ref s1.heap.objs.size) {s1 with heap:=s1.heap.push {cls:=.type T,data:=.fields #[.str z t,.int 0 0]}}:=λT tn=>by show{s1.heap.objs.size,[s1.heap.objs.size],_,_,H1,rfl,c.kept (t':=s1.toks) λb o e=>za _ e,tn,{_,zo _ rfl,rfl,rfl},λb hb=>?_,q};have e:b=s1.heap.objs.size:=(by simpa using hb);subst e;show c.pC (zj _)<|c.aK.fresh<|zj _
 cases ha:z.cps.all (·<128);show wpAny_pyIter_wide ha<|a _<|A1 `a _ z t (λm hA=>Walks.strWide hA _ z t) (λA s E i Q d st hx g=>wpAny_pyNext_wide_end d st hx g) λA s E i Q st hq=>wpAny_pyIter_striter_wide st hq;show wpAny_pyIter_ascii ha<|a _<|A1 `a _ z t (λm hA=>Walks.strAscii hA _ z t) (λA s E i Q d st hx g=>wpAny_pyNext_ascii_end d st hx g) λA s E i Q st hq=>wpAny_pyIter_striter_ascii st hq
end
noncomputable def clOf(c:δ<|ρ×ε)(d:δ<|ρ×NameKind):δ (ρ×ε):=d.foldl (λcs p=>if p.2==.free then match c.lookup p.1 with|some a=>(p.1,a)::cs|none=>cs else cs) []
set_option tactic.hygienic true in
theorem tj(d:δ<|ρ×ε):∀(g:δ (ρ×NameKind))(cs:δ (ρ×ε)),(∀x c,cs.lookup x=ϑ c->d.lookup x=ϑ c)->∀x c,(g.foldl (λcs p=>if p.2==.free then match d.lookup p.1 with|some a=>(p.1,a)::cs|none=>cs else cs) cs).lookup x=ϑ c->d.lookup x=ϑ c|[],cs,h=>h| (n,k)::r,cs,h=>by rw[yS];show tj d r _ λx c e=>?_;dsimp only at e;split at e;split at e;rename_i a ha;rw[zW]at e;split at e;rename_i hx;have:=LawfulBEq.eq_of_beq hx;cases e;rw[this];show ha;show h x c e;show h x c e;show h x c e
set_option tactic.hygienic true in
theorem wd(d:δ<|ρ×ε):∀(g:δ (ρ×NameKind))(cs:δ (ρ×ε))(x:ρ)(c:ε),(∀y c,cs.lookup y=ϑ c->d.lookup y=ϑ c)->cs.lookup x=ϑ c->(g.foldl (λcs p=>if p.2==.free then match d.lookup p.1 with|some a=>(p.1,a)::cs|none=>cs else cs) cs).lookup x=ϑ c
 |[],cs,x,c,_,h=>h
 | (n,k)::r,cs,x,c,hs,h=>by
  rw[yS];have i:∀y c,(if (k==NameKind.free)=ϱ then match d.lookup n with|some a=>(n,a)::cs|none=>cs else cs).lookup y=ϑ c->d.lookup y=ϑ c:=by intro y c e;split at e;split at e;rename_i a ha;rw[zW]at e;split at e;rename_i hx;have:=LawfulBEq.eq_of_beq hx;cases e;rw[this];show ha;show hs y c e;show hs y c e;show hs y c e
  show wd d r _ x c i ?_;dsimp only;split;split;rename_i a ha;rw[zW];split;rename_i hx;have:=LawfulBEq.eq_of_beq hx;rw[this]at h;have:=hs _ _ h;rw[ha]at this;show this;show h;show h;show h
set_option tactic.hygienic true in
theorem ko(d:δ<|ρ×ε):∀(g:δ (ρ×NameKind))(cs:δ (ρ×ε))(x:ρ)(c:ε),(∀y c,cs.lookup y=ϑ c->d.lookup y=ϑ c)->(x,NameKind.free)∈g->d.lookup x=ϑ c->(g.foldl (λcs p=>if p.2==.free then match d.lookup p.1 with|some a=>(p.1,a)::cs|none=>cs else cs) cs).lookup x=ϑ c
 |[],cs,x,c,_,h,_=>nomatch h
 | (n,k)::r,cs,x,c,hs,h,hc=>by
  rw[yS];have i:∀y c,(if (k==NameKind.free)=ϱ then match d.lookup n with|some a=>(n,a)::cs|none=>cs else cs).lookup y=ϑ c->d.lookup y=ϑ c:=by intro y c e;split at e;split at e;rename_i a ha;rw[zW]at e;split at e;rename_i hx;have:=LawfulBEq.eq_of_beq hx;cases e;rw[this];show ha;show hs y c e;show hs y c e;show hs y c e
  rcases zl.mp h with e|h;cases e;show wd d r _ _ c i ?_;dsimp only;rw[qb<|show(NameKind.free==NameKind.free)=ϱ by decide,hc];simp[zW];show ko d r _ x c i h hc
def iz{scope:Scope}{env:Env}(h:∀x∈scope.names,x.2=.free->∃c,env.cells.lookup x.1=ϑ c):closureFor scope env=pure (clOf env.cells scope.names):=by
 have go:∀(names:δ (ρ×NameKind))(cs:δ (ρ×ε)),(∀x∈names,x.2=.free->∃c,env.cells.lookup x.1=ϑ c)->(forIn names cs λx r=>match x with|(name,kind)=>if (kind==NameKind.free)=ϱ then do let a <-cellOf env name;pure (ForInStep.yield<|(name,a)::r) else pure (ForInStep.yield r):Sem (δ<|ρ×ε))=pure (names.foldl (λcs p=>if p.2==.free then match env.cells.lookup p.1 with|some a=>(p.1,a)::cs|none=>cs else cs) cs):=by intro names;induction names with|nil=>intro cs _;rfl|cons p r i=>intro cs hp;let⟨n,k⟩:=p;rw[List.forIn_cons,yS];by_cases hk:k=.free;subst hk;let⟨c,d⟩:=hp _ zw rfl;have d:env.cells.lookup n=ϑ c:=d;have e1:cellOf env n=pure c:=(by unfold cellOf;rw[d]);have g:(NameKind.free==NameKind.free)=ϱ:=`a;dsimp only;rw[qb g,qb g,e1,d];show i _ λx hx=>hp x<|zh _ hx;have j:(k==NameKind.free)=ϰ:=(by simpa using hk);dsimp only;rw[j,qa ze,qa ze];show i _ λx hx=>hp x<|zh _ hx
 have e:=go scope.names [] h;have e2:closureFor scope env=(forIn scope.names [] (λx r=>match x with|(name,kind)=>if (kind==NameKind.free)=ϱ then do let a <-cellOf env name;pure (ForInStep.yield<|(name,a)::r) else pure (ForInStep.yield r)):Sem (δ<|ρ×ε)) >>=λcs=>pure cs:=rfl;rw[e2,e];rfl
def ku{env:Env}{a:δ<|ρ×NameKind}{x:ρ} : (a.map λ(n,k)=>if (k==NameKind.free&&env.scope.kind==.function&&env.kindOf n==some .cell) then (n,NameKind.cell) else (n,k)).lookup x=(a.lookup x).map λk=>if (k==NameKind.free&&env.scope.kind==.function&&env.kindOf x==some .cell) then NameKind.cell else k:=by induction a with|nil=>rfl|cons p r d=>let⟨n,k⟩:=p;rw[zK,zW];by_cases c:(k==NameKind.free&&env.scope.kind==.function&&env.kindOf n==some .cell)=ϱ;dsimp only;rw[qb c,zW];(cases hx:x==n with|true=>have:=LawfulBEq.eq_of_beq hx;subst this;dsimp only[Option.map];rw[qb c]|false=>show d);dsimp only;rw[qa c,zW];cases hx:x==n with|true=>have:=LawfulBEq.eq_of_beq hx;subst this;dsimp only[Option.map];rw[qa c]|false=>show d
noncomputable def g9(X:Cx)(N:δ ρ)(scope:Scope)(C:ε)(s:ζ)(H:Hp)(ex:δ ε)(pn:δ<|ε×Obj):Cx:={X with N:=N,dY:=s,xm:=H,env:=compEnvC scope (clOf X.env.cells scope.names) C X.env,outer:=X.stack,ex:=ex,fn:=λz=>false,pn:=pn,xe:=λz z=>False}
noncomputable def pick(σ:St)(src:δ<|θ π):St:=src.map λo=>match o with|some j=>(σ[j]?).join|none=>none
structure bx(X:Cx)(N:δ ρ)(src:δ (θ π))(scope:Scope):η where
 kind:scope.kind=.function
 iA:∀y∈scope.names,y.2≠.cell
 loc:∀y∈scope.names,y.2=.local->scope.names.lookup y.1=ϑ .local
 Cv:∀y∈scope.names,y.2=.free->X.env.kindOf y.1=ϑ .cell\/X.env.kindOf y.1=ϑ .free
 len:src.length=N.length
 src:∀(i j:π)(x:ρ),src[i]?=some (some j)->N[i]?=some x->X.N[j]?=some x/\scope.names.lookup x=ϑ .free/\P_ X.env.scope x
def Ext(σ ak:St):Prop:=ak.length=σ.length/\∀(j:π) v,σ[j]?=some (some v)->ak[j]?=some (some v)
def Dc(g:TG)(src:δ<|θ π):Prop:=∀x σ H Q,g x (pick σ src) H Q->g x (pick σ src) H λak H'=>Ext (pick σ src) ak/\Q ak H'
def JI(wi:TI)(src:δ<|θ π)(g:TG)(tc:TT)(te:TE):TE:=λσ H Q=>wi σ H λJ H1=>∃W:π->π->δ V->Hp->η,(∃m,W 0 m [] H1)/\∀i m out H',W i m out H'->(J.stop i H'/\∀D,H' D=ϐ->Q (.ref D) (upd H' D<|.lst out))\/(J.go i H'/\out.length<Ϙ/\∀x H2,J.Vf i H' x H2->g x (pick σ src) H2 λa d=>tc a d λb c=>if b=ϱ then te a c λv e=>∃m',m'<m/\W (i+1) m' (out++[v]) e else ∃m',m'<m/\W (i+1) m' out c)
section
variable{X:Cx}{N:δ ρ}{src:δ (θ π)}{scope:Scope}{tg iter elt:Δ}{ifs:δ Δ}{pos:Pos}{wi:TI}{g:TG}{tc:TT}{te:TE}
def Uo(X:Cx)(ifs:δ Δ)(t:TT):Prop:=∀(qc:δ (ε×Obj))(s:ζ)(σ:St)(H:Hp)(Q:χ->Hp->η),Inv X qc σ H s->t σ H Q->wpAny `m X.A (forIn ifs true λc r=>if r=ϱ then do let ok <-isTrue c X.env (eval c X.env);pure (ForInStep.yield ok) else pure (ForInStep.yield r)) (TP X qc σ Q) X.xe s
def VT:TT:=λz H Q=>Q true H
theorem MZ:Uo X [] VT:=λqc s σ H Q I h=>wpAny_tests_nil ⟨H,I,h⟩
theorem M0{t:TT}(h:PT X c t):Uo X [c] t:=λqc s σ H Q I hw=>wpAny_tests_one<|h qc s σ H Q I hw
theorem lU(a:∀x s',EE x s'->notedBy `n A env (λe s'=>R (.error e) s') x s')(I:π->ζ->η)
  (d:∀n s,I n s->wpAny `n A (pyNext it) (λr bp=>match r with
   |none=>R (.ok .next) bp
   |some v=>wpAny `n A (letOwnedTupleGo target it v) (λz OX=>wpAny `n A (assign target env v) (λz cB =>
     wpAny `n A (forIn ifs true λc r=>if r=ϱ then do let ok <-isTrue c env (eval c env);pure (ForInStep.yield ok) else pure (ForInStep.yield r)) (λok CL =>
      if ok=ϱ then wpAny `n A (eval elt env) (λx A2 =>
       wpAny `n A (call (.builtin "list.append") [acc,x]) (λz VU=>∃m,m<n/\I m VU) EE A2) EE CL
      else ∃m,m<n/\I m CL) EE cB) EE OX) EE bp) EE s)
  (n:π) (h:I n s):
  codeAny `n A (.compLoop (.ListComp elt [{target,iter,ifs,0}] scope pos) 0 it acc env) R s:=by
 show codeAny_loop rfl I (λn s t=>?_) n h
 change wpAny _ A ((compTurn (.ListComp elt [{target,iter,ifs,0}] scope pos) 0 it acc env).onRaise λx=>do noteFrame x env;theTreesLotGoes x) _ _ s
 show wpAny_noted ?_
 rw[compTurn_list]
 show zb<|wpAny_standAt<|zb<|yx (d n s t) (λr bp o=>?_) a
 cases r with
 |none=>show zr o
 |some v =>
  show zb<|yx o (λz OX p=>?_) a
  show zb<|yx p (λz cB g=>zb<|yx g (λok CL l=>?_) a) a
  cases ok with
  |false=>show zr ⟨rfl,l⟩
  |true =>
   show zb<|zb<|yx l (λx A2 i=>zb<|yx i (λz VU j=>zr<|zr ⟨rfl,j⟩) a) a
def CompEnd(X:Cx)(qc:δ<|ε×Obj)(σ:St)(Q:VK)(D C:ε)(s':ζ):Prop:=∃H' m,Inv X qc σ H' s'/\Q (.ref D) H'/\s'.heap.Ns C m/\H' C=ϐ/\C≠X.env.locals/\X.dY.heap.objs.size<=C/\(∀x c,X.env.cells.lookup x=ϑ c->c≠C)/\(∀p∈X.pn++qc,p.1≠C)
def we{qc:δ<|ε×Obj}{a:ζ}{σ:St}{F:Hp}{Q:VK}{it:ε}{fp:δ ε}{tn:π->Γ->η}{J:It}{E:ξ->ζ->η}(S:bx X N src scope)(hc:X.calm=ϱ) (hg:∀C s H ex pn,PG (g9 X N scope C s H ex pn) tg g) (hx:Dc g src) (hi:∀C s H ex pn,Uo (g9 X N scope C s H ex pn) ifs tc) (he:∀C s H ex pn,PE (g9 X N scope C s H ex pn) elt te) (I:Inv X qc σ F a) (T:Turn X.prog X.w X.K tg J fp it tn) (st:tn 0 a.heap) (ff:∀b∈fp,sN X qc F b) (W:π->π->δ V->Hp->η) (w0:∃m,W 0 m [] F) (a5:∀i m out H',W i m out H'->(J.stop i H'/\∀D,H' D=ϐ->Q (.ref D) (upd H' D<|.lst out))\/(J.go i H'/\out.length<Ϙ/\∀x H2,J.Vf i H' x H2->g x (pick σ src) H2 λjV H3=>tc jV H3 λb H4=>if b=ϱ then te jV H4 λv H5=>∃M,M<m/\W (i+1) M (out++[v]) H5 else ∃M,M<m/\W (i+1) M out H4)) {RR:ξ->ε->Result->ζ->η} (b2:∀D C s',CompEnd X qc σ Q D C s'->RR (.ref D) C (.ok .next) s'): wpAny `m X.A (newList []) (λacc CL=>wpAny `m X.A (newFunctionEnv scope X.env.globals (clOf X.env.cells scope.names) [] X.env.qual none .none<|some X.env) (λVY A2=>codeAny `m X.A (.compStart (.ListComp elt [{tg,iter,ifs,0}] scope pos) 0 (.ref it) acc {VY with scope:=relabel scope X.env}) (RR acc VY.locals) A2) E CL) E a:=by
 show ym<|wpAny_newFunctionEnv S.iA (by intro y hy;simp at hy) (λh₁ xu tm=>?_) S.kind;dsimp only at xu tm⊢;generalize a0:a.heap.push {cls:=.type "list",dict:=none,data:=.seq ([]:δ ξ).toArray}=G2 at xu tm⊢;have hC:G2.objs.size=a.heap.objs.size+1:=by rw[<-a0,ye]
 have Uq:a.heap.objs.size≠G2.objs.size:=by rw[hC];show zD<|Nat.lt_succ_self _
 have M4:a.heap.objs.size<=G2.objs.size:=by rw[hC];show y9 _
 have G:∀b o,a.heap.get? b=ϑ o->h₁.get? b=ϑ o:=λb o e=>tm.extBut b o (zD<|zu (zA e) M4)<|za _<|a0 ▸ za _ e;have tq:h₁.get? a.heap.objs.size=ϑ {cls:=.type "list",dict:=none,data:=.seq ([]:δ ξ).toArray}:=tm.extBut _ _ Uq<|za _<|a0 ▸ zo _ rfl;generalize b6:G2.objs.size=C at hC Uq M4 xu tm⊢;have L:a.heap.objs.size<=C:=M4;generalize hD:a.heap.objs.size=D at hC Uq M4 tq⊢;have jB:∀x c,(clOf X.env.cells scope.names).lookup x=ϑ c->X.env.cells.lookup x=ϑ c:=tj X.env.cells scope.names [] (by intro x c h;simp at h);have JJ:∀x c,X.env.cells.lookup x=ϑ c->c<a.heap.objs.size:=λx c e=>by let⟨v,q⟩:=I.cell x c e;show q.lt
 have Q9:∀b∈fp,b<a.heap.objs.size:=λb hb=>by let⟨o,e,_⟩:=T.obj _ _ st b hb;show zA e
 have ok:(g9 X N scope C a F fp<|X.pn++qc).Ok:=by show{I.ok.mod,S.kind,I.ok.glob,I.ok.blt,L,λx y c h1 h2=>I.ok.inj x y c (jB _ _ h1)<|jB _ _ h2,λx hk=>?_,λx c h=>(nomatch h),I.ok.hd,I.ok.frames,.inl rfl,λb hb=>{?_,λx c h=>?_},I.bs,zH I.ok.GS I.sz,λb o e hb=>?_,λb hb hf=>?_,I.stack,I.rK};have hk:(relabel scope X.env).names.lookup x=ϑ .cell\/(relabel scope X.env).names.lookup x=ϑ .free:=hk;unfold relabel at hk;dsimp only at hk;rw[ku]at hk;(cases hl:scope.names.lookup x with|none=>(rw[hl]at hk;rcases hk with z|z<;>cases z)|some k=>rw[hl]at hk;have hm:=yp hl;have VZ:k=.free:=(by by_cases VZ:k=.free;show VZ;exfalso;have e1:(k==NameKind.free)=ϰ:=(by simpa using VZ);simp only[Option.map,e1,zU,Bool.false_eq_true,if_false]at hk;rcases hk with z|z;show S.iA _ hm<|zS z;show VZ<|zS z);subst VZ;let⟨c,MY⟩:=I.ok.has x<|S.Cv _ hm rfl;show{c,ko X.env.cells scope.names [] x c (by intro x c h;simp at h) hm MY});show zD<|zu (Q9 b hb) L;show(ff b hb).2.2.2.2.1 x c<|jB _ _ h;have q:b∈X.ex\/X.dY.heap.objs.size<=b:=(ff b hb).2.2.2.1;rcases q with q|q;show I.ok.CI b o e q;show absurd (zu (zA e)<|zH I.ok.GS q)<|yG _;rcases zl.mp (I.pA b hf) with z|z;show(ff b hb).2.1 z;show(ff b hb).2.2.1 z
 have V0:∀p∈X.pn++qc,p.1∉mD X.stack:=λp hp z=>by let⟨_,_,ne,nf,_⟩:=I.pin p hp;rcases zl.mp (I.pA _ z) with q|q;show ne q;show nf q
 have JK:∀p∈X.pn++qc,p.1<a.heap.objs.size:=λp hp=>zA (I.pin p hp).1;have V1:∀b∈mD X.stack,b<a.heap.objs.size:=λb hb=>by rcases zl.mp (I.pA b hb) with z|z;rw[z];show I.lt;let⟨_,o,ho,_⟩:=I.ok.lR.mem z;show zu (zA ho) I.sz
 have b1:∀(i:π)(x:ρ)(v:V),N[i]?=some x->(pick σ src)[i]?=some (some v)->∃u c,RelV v u/\(clOf X.env.cells scope.names).lookup x=ϑ c/\a.heap.IsCell c (some u)/\scope.names.lookup x=ϑ .free:=λi x v e1 e2=>by unfold pick at e2;rw[zm]at e2;cases es:src[i]? with|none=>(rw[es]at e2;cases e2)|some o=>rw[es]at e2;cases o with|none=>(cases e2)|some j=>have e3:(σ[j]?).join=ϑ v:=zS e2;have e4:σ[j]?=some (some v):=(by cases q:σ[j]? with|none=>(rw[q]at e3;cases e3)|some z=>rw[q]at e3;show congrArg some e3);let⟨a1,a2,a3⟩:=S.src i j x es e1;let⟨m0,_,hl⟩:=I.loc;let⟨u,r,l⟩:=hl j x v a1 e4 a3;have hm:=yp a2;have hk:=S.Cv _ hm rfl;rcases l with⟨k,_⟩|⟨_,c,MY,z⟩;rcases hk with hk|hk<;>(rw[k]at hk;cases hk);show{u,c,r,ko X.env.cells scope.names [] x c (by intro x c h;simp at h) hm MY,z,a2}
 have Z:∀x,scope.names.lookup x=ϑ .free->(compEnvC scope (clOf X.env.cells scope.names) C X.env).kindOf x=ϑ .cell\/(compEnvC scope (clOf X.env.cells scope.names) C X.env).kindOf x=ϑ .free:=λx hx=>by change(relabel scope X.env).names.lookup x=ϑ .cell\/(relabel scope X.env).names.lookup x=ϑ .free;unfold relabel;dsimp only;rw[ku,hx];dsimp only[Option.map];split;show .inl rfl;show .inr rfl
 have Ic:Inv (g9 X N scope C a F fp<|X.pn++qc) [] (pick σ src) F {a with heap:=h₁,toks:=a.toks+([]:δ (ρ×ξ)).length}:=by show{ok,rfl,I.bare,Un.kept G,{_,xu,λi x v e1 e2 e3=>?_},λx c e=>?_,I.aK.fresh L,λx c e=>I.eP x c<|jB x c e,λp hp=>?_,I.aK.kept G,?_};let⟨u,c,r,e5,⟨o,ho,hd⟩,hf⟩:=b1 i x v e1 e2;show{u,r,.inr {Z x hf,c,e5,{o,G _ _ ho,hd}}};let⟨v,o,ho,hd⟩:=I.cell x c<|jB x c e;show{v,o,G _ _ ho,hd};have hp:p∈X.pn++qc:=(by simpa [g9]using hp);let⟨e,n,_,_,d⟩:=I.pin p hp;show{G _ _ e,n,zD<|zu (JK p hp) L,V0 p hp,d};change(pick σ src).length=N.length;unfold pick;rw[zd,S.len]
 have O:a.heap.objs.size<=D:=Nat.le_of_eq hD;have Q_:D∉mD X.stack:=λz=>absurd (zu (V1 D z) O)<|yG _;have OY:D∉fp:=λz=>absurd (zu (Q9 D z) O)<|yG _;have pC:∀{pl:δ (ε×Obj)}{H':Hp},(∀b∈fp,H' b=ϐ)->(∀p∈pl,p.1∉fp)->∀b∈fp,sN (g9 X N scope C a F fp<|X.pn++qc) pl H' b:=λ{pl H'} hn fE b hb=>by let⟨f0,f1,f2,f3,f4,f5⟩:=ff b hb;show{hn b hb,zD<|zu (Q9 b hb) L,λz=>?_,.inl hb,λx c e=>f4 x c<|jB x c e,λp hp=>?_};rcases zl.mp (I.pA b z) with q|q;show f1 q;show f2 q;have hp:p∈(X.pn++qc)++pl:=hp;rcases zP.mp hp with hp|hp;show f5 p hp;show λz=>fE p hp<|z ▸ hb
 have a8:∀{s':ζ}{H':Hp}{out:δ V}{t:δ ξ}{B:π}{ak:St},Inv (g9 X N scope C a F fp<|X.pn++qc) [] ak H' s'->H' D=ϐ->out.length<=Ϙ->Vals out t->s'.heap.get? D=ϑ {cls:=.type "list",data:=.seq t.toArray B}->(∀D,H' D=ϐ->Q (.ref D) (upd H' D<|.lst out))->CompEnd X qc σ Q D C s':=λ{s' H' out t B ak} I' hn hl hv ho q=>by let⟨m,hm,_⟩:=I'.loc;have un:Un (mD X.stack) fp F H' a.heap s'.heap:=I'.base;have b5:∀b o,a.heap.get? b=ϑ o->b≠D:=λb o e=>zD<|zu (zA e) O;have fD:F D=ϐ:=I.aK.fresh O;show{upd H' D<|.lst out,m,?_,q D hn,hm,by rw[ax<|Ne.symm Uq];show I'.free,yw<|zu I.lt L,zH I.sz L,λx c e=>zD<|zu (JJ x c e) L,λp hp=>zD<|zu (JK p hp) L};show I.AO (ch:=fp) I'.os {un.keep,un.slot,λb o e n hb=>?_,un.there,λb xs e=>?_,λb o u e=>?_,λb ps e=>?_} (λb o e=>?_) I'.bare λb hb=>?_;rw[ax<|b5 b o e];show un.free b o e n hb;rw[ax<|aA e fD];show un.gW b xs e;rw[ax<|aA e fD];show un.gu b o u e;rw[ax<|aA e fD];show un.gv b ps e;by_cases hb:b=D;subst hb;rw[aD]at e;cases e;show⟨hl,t,B,hv,ho⟩;rw[ax hb]at e;show(I'.aK b o e).nr (λc v _ q=>q) (λc q=>?_) λc xs q=>?_;rw[ax<|aA q hn];show q;rw[ax<|aA q hn];show q;let⟨f0,f1,f2,f3,f4,f5⟩:=ff b hb;show⟨f3,f1,f4,f5⟩
 let⟨m0,w0⟩:=w0;have loop:∀A2:ζ,A2={a with heap:=h₁,toks:=a.toks+([]:δ (ρ×ξ)).length}->codeAny `m X.A (.compLoop (.ListComp elt [{tg,iter,ifs,0}] scope pos) 0 (.ref it) (.ref D)<|compEnvC scope (clOf X.env.cells scope.names) C X.env) (RR (.ref D) C) A2:=by rintro A2 rfl;show lU (EE:=λ_ _=>False) (λ_ _ f=>f.elim) (λn s'=>∃i out t B H',Inv (g9 X N scope C a F fp<|X.pn++qc) [] (pick σ src) H' s'/\H' D=ϐ/\out.length<=Ϙ/\Vals out t/\s'.heap.get? D=ϑ {cls:=.type "list",data:=.seq t.toArray B}/\tn i s'.heap/\(∀b∈fp,H' b=ϐ)/\W i n out H') ?_ m0 {0,[],[],0,F,Ic,I.aK.fresh O,yh _,.nil,tq,T.keep _ _ _ st λb hb o e=>G b o e,λb hb=>(ff b hb).1,w0};rintro n s3 ⟨i,out,t,B,H3,I3,a4,R,Y7,b0,Vm,Vn,w3⟩;have Rb:∀(t:δ ξ) (B:π) (v:θ ξ),({cls:=.type "list",data:=.seq t.toArray B} : Obj).data≠.cell v:=λ_ _ _ z=>nomatch z;have a9:Inv (g9 X N scope C a F fp<|X.pn++qc) [(D,{cls:=.type "list",data:=.seq t.toArray B})] (pick σ src) H3 s3:=I3.nv λp hp=>(by have e:p=(D,{cls:=.type "list",data:=.seq t.toArray B}):=(by simpa using hp);subst e;show{b0,a4,Uq,Q_,Rb t B});have U:∀p∈[((D,{cls:=.type "list",data:=.seq t.toArray B}):ε×Obj)],p.1∉fp:=λp hp=>(by have e:p=(D,{cls:=.type "list",data:=.seq t.toArray B}):=(by simpa using hp);subst e;show OY);rcases a5 i n out H3 w3 with⟨stop,qn⟩|⟨go,fu,step⟩;show bB (T.done (g9 X N scope C a F fp<|X.pn++qc) rfl rfl rfl hc i _ s3 _ H3 _ a9 (pC Vn U) Vm stop) λr s4 ⟨hr,I4⟩=>?_;subst hr;have p4:=(I4.pin (D,{cls:=.type "list",data:=.seq t.toArray B})<|zJ _<|`d).1;show b2 D C s4<|a8 (I4.nv (pins':=[]) λp hp=>nomatch hp) a4 R Y7 p4 qn;show bB (T.item (g9 X N scope C a F fp<|X.pn++qc) rfl rfl rfl hc i _ s3 _ H3 _ a9 (pC Vn U) Vm go) λr s4 ⟨u,hr,h4⟩=>?_;subst hr;show bB h4 λ_ s5 ⟨x,H5,I5,r5,y5,Y,b4⟩=>?_;have b3:=I5.pinned (pC b4 U)<|T.obj _ _ Y;show bB (hg _ _ _ _ _ _ s5 _ H5 x u _ b3 r5<|hx x σ H5 _<|step x H5 y5) λ_ s6 ⟨Vo,H6,I6,e6,q6⟩=>?_;have a6:∀{s7:ζ}{P:Hp},Inv (g9 X N scope C a F fp<|X.pn++qc) ([(D,{cls:=.type "list",data:=.seq t.toArray B})]++sO fp s5.heap) Vo P s7->Inv (g9 X N scope C a F fp<|X.pn++qc) [] (pick σ src) P s7/\P D=ϐ/\s7.heap.get? D=ϑ {cls:=.type "list",data:=.seq t.toArray B}/\tn (i+1) s7.heap/\∀b∈fp,P b=ϐ:=λ{s7 P} I7=>(by have pD:=I7.pin (D,{cls:=.type "list",data:=.seq t.toArray B})<|zJ _ `d;show{(I7.nv (pins':=[]) λp hp=>nomatch hp).weak e6.1.symm e6.2,pD.2.1,pD.1,T.keep _ _ _ Y λb hb o e=>(I7.pin (b,o)<|zJ _<|zJ _<|jg hb e).1,λb hb=>?_};let⟨o,e,d⟩:=T.obj _ _ Y b hb;show(I7.pin (b,o)<|zJ _<|zJ _<|jg hb e).2.1);show bB (hi _ _ _ _ _ _ s6 Vo H6 _ I6 q6) λb s7 ⟨P,I7,q7⟩=>?_;cases b with|false=>(rw[qa ze]at q7⊢;let⟨M,hm,w7⟩:=q7;let⟨J7,d7,o7,t7,f7⟩:=a6 I7;show{M,hm,i+1,out,t,B,P,J7,d7,R,Y7,o7,t7,f7,w7})|true=>rw[qb rfl]at q7⊢;show bB (he _ _ _ _ _ _ s7 Vo P _ I7 q7) λv s8 ⟨y,H8,I8,r8,M,hm,w8⟩=>?_;let⟨J8,d8,o8,t8,f8⟩:=a6 I8;have a7:t.toArray.size<=sizeLine:=(by rw[zx,<-Y7.length];show R);show wpAny_list_append_plain (items:=t.toArray) (hsz:=a7) ⟨B,o8⟩ λh9 ⟨n9,e9⟩ sb=>?_;have J9:Inv (g9 X N scope C a F fp<|X.pn++qc) [] (pick σ src) H8 {s8 with heap:=h9}:=J8.turned (t':=s8.toks) (it:=D) (λb o hb e=>(sb.2 b hb).trans e) d8 Uq (.inr O) (λx c e=>zD<|zu (JJ x c<|jB x c e) O) λp hp=>(by have hp:p∈X.pn++qc:=(by simpa [g9]using hp);show zD<|zu (JK p hp) O);show{M,hm,i+1,out++[y],t++[v],n9,H8,J9,d8,?_,Y7.append<|.cons r8 .nil,?_,T.keep _ _ _ t8 λb hb o e=>(sb.2 b λz=>OY<|z ▸ hb).trans e,f8,w8};rw[zq];show fu;rw[e9];simp
 show codeAny_compStart_list (loop _ rfl)<|T.self _ _ _ _ _ (T.keep _ _ _ st λb hb o e=>G b o e)<|loop _ rfl
def M5(S:bx X N src scope)(z:X.calm=ϱ)(c:PI X tg iter wi) (hg:∀C s H ex pn,PG (g9 X N scope C s H ex pn) tg g) (hx:Dc g src) (hi:∀C s H ex pn,Uo (g9 X N scope C s H ex pn) ifs tc) (t:∀C s H ex pn,PE (g9 X N scope C s H ex pn) elt te) (r:ψ (∀x,foldedSetIterable iter X.env x=pure x) qQ0):PE X (.ListComp elt [{tg,iter,ifs,0}] scope pos) (JI wi src g tc te):=by intro qc s σ H Q I h;rw[eval_ListComp];have j:closureFor scope X.env=pure (clOf X.env.cells scope.names):=iz λy B hf=>I.ok.has y.1<|S.Cv y B hf;show wpAny_comprehension_free (use:=none) rfl r j S.kind S.loc<|bB (c qc s σ H _ I h) λv s1 h1=>bB h1 λK s2 h2=>?_;let⟨it,fp,tn,J,H2,e,n,T,l,p,W,E,a⟩:=h2;subst e;show we (RR:=λd C=>compPost `m X.A X.xe none (EP X qc σ Q) d C) S z hg hx hi t n T l p W E a λD C s' ⟨H',m,G,q,hm,hn,h1,h2,F,i⟩=>?_;show{m,hm,λh' sb=>{.ref D,H',G.turned (t':=s'.toks) (it:=C) (λb o hb e=>(sb.2 b hb).trans e) hn h1 (.inr h2) F i,rfl,q}}
def Dd{i:π}{x:ρ}{pos' r:Pos}(hN:X.N.Nodup)(K:X.N[i]?=some x)(t:X.env.scope.names.lookup x=ϑ .local) (S:bx X N src scope) (U:X.calm=ϱ) (l:PI X tg iter wi) (hg:∀C s H ex pn,PG (g9 X N scope C s H ex pn) tg g) (hx:Dc g src) (hi:∀C s H ex pn,Uo (g9 X N scope C s H ex pn) ifs tc) (R:∀C s H ex pn,PE (g9 X N scope C s H ex pn) elt te) (E:ψ (swapsWith (.ListComp elt [{tg,iter,ifs,0}] scope pos) (some<|.Name x pos') r.line X.env=pure true) qQJ) (P:ψ (∀x,foldedSetIterable iter X.env x=pure x) qQ0):PS X (.Assign [.Name x pos'] (.ListComp elt [{tg,iter,ifs,0}] scope pos) r) (Qq (JI wi src g tc te)<|jA i):=by
 intro qc s σ H D I h;rw[exec_Assign_Name_used _ _ _ _ E];show zb<|wpAny_standAt<|zb ?_;have F:closureFor scope X.env=pure (clOf X.env.cells scope.names):=iz λy Y hf=>I.ok.has y.1<|S.Cv y Y hf;change wpAny _ X.A (do let _ <-comprehension (.ListComp elt [⟨tg,iter,ifs,0⟩] scope pos) scope X.env _ (newList []) false (eval iter X.env) (some (assign (.Name x pos') X.env))) _ _ s;show zb<|yx (wpAny_comprehension_free (use:=some<|assign (.Name x pos') X.env) (Q:=λu s'=>∃ak H',Inv X qc ak H' s'/\D.nx ak H') rfl P F S.kind S.loc<|bB (l qc s σ H _ I h) λv s1 h1=>bB h1 λY1 s2 h2=>?_) (λu s' hq=>zr<|zr hq) λu u e=>e;let⟨it,fp,tn,J,H2,e,L,T,G,O,W,w0,c⟩:=h2;subst e;show we (Q:=λv H1=>D.nx (σ.set i<|some v) H1) (RR:=λn C=>compPost `m X.A X.xe (some<|assign (.Name x pos') X.env) (λu s'=>∃ak H',Inv X qc ak H' s'/\D.nx ak H') n C) S U hg hx hi R L T G O W w0 c λp C s' ⟨H',m,I',q,hm,hn,h1,h2,z,B⟩=>?_;change wpAny _ X.A (assign (.Name x pos') X.env<|.ref p) _ _ _;show wpAny_assign_Name<|vX I' hN K (.inl t) (v:=.ref p) rfl (λC3 j ⟨a,sb,ha⟩=>?_)<|.inr t;have d:C≠a:=by rcases ha with ha|ha;rw[ha];show h1;show Ne.symm<|z _ _ ha
 show{m,hm.sameBut sb d,λM Z=>{_,H',j.turned (t':=C3.toks) (it:=C) (λb o hb e=>(Z.2 b hb).trans e) hn h1 (.inr h2) z B,q}}
end
def pI{σ:St}{src:δ<|θ π}{i:π}(h:src[i]?=some none):(pick σ src)[i]?=some none:=by unfold pick;rw[zm,h];rfl
def Ext.set(h:σ0[i]?=some none)(e:Ext σ0 σ):Ext σ0 (σ.set i<|some v):=by
 show{by rw[List.length_set];show e.1,λj w a=>?_};have:i≠j:=by rintro rfl;rw[h]at a;cases a
 rw[yt this];show e.2 j w a
theorem Ext.refl(σ:St):Ext σ σ:={rfl,λz z h=>h}
theorem Fl{src:δ<|θ π}{i:π}(h:src[i]?=some none):Dc (jA i) src:=λx σ H Q q=>{(Ext.refl _).set<|pI h,q}
theorem rQ{K:Φ}{n:π}{src:δ<|θ π}{i j:π}(h:src[i]?=some none)(h':src[j]?=some none):Dc (ME K n<|sL (jA i)<|sL (jA j) MD) src:=λx σ H Q q=>by let⟨a,xs,e1,e,hl,v,r,e2,d,c,e3,e4,q⟩:=q;show{a,xs,e1,e,hl,v,r,e2,d,c,e3,e4,((Ext.refl _).set<|pI h).set<|pI h',q}
def all_bools{xs:δ V}{a:δ ξ}{bs:δ χ}(hv:Vals xs a)(hb:xs=bs.map V.bl):∀(i:π)(v:ξ),a.toArray[i]?=some v->v=Value.bool ((bs[i]?).getD false):=by
 subst hb;intro i v h;have h':a[i]?=some v:=by simpa using h
 have hl:=hv.length;rw[zd]at hl;have hi:i<a.length:=(zf.mp h').1;have hb:bs[i]?=some (bs[i]' `b):=`d
 let⟨u,hu,r⟩:=hv.get (i:=i) (x:=V.bl<|bs[i]' `b) (by rw[zm,hb];rfl);rw[h']at hu;cases hu;rw[hb];show r
def range_all{bs:δ χ} : (List.range bs.length).all (λi=>(bs[i]?).getD false)=bs.all id:=by rw[yu,yr,yr];constructor;intro h b hb;let⟨i,hi,rfl⟩:=List.mem_iff_getElem.mp hb;have:=h i<|zY.mpr hi;simpa [hi]using this;intro h i hi;have hi:=zY.mp hi;simpa [hi]using h _ (List.getElem_mem hi)
section
variable{X:Cx}
def vo(g:X.calm=ϱ):eQ X (.builtin "all") (λxs H Q=>∃(a:ε)(bs:δ χ),xs=[.ref a]/\jf X.K H a (bs.map V.bl)/\Q (.bl<|bs.all id) H):=by
 intro qc s σ H xs us Q I r h;let⟨a,bs,rfl,hq,q⟩:=h;let⟨u,rfl,l⟩:=vals1 r;cases l;let⟨c,d,p,hz⟩:=I.list hq;have hl:=d.length;rw[zd]at hl;show call_all_walk<|wpAny_pyIter_list p.isList ?_;show{s.heap.objs.size,_,_,_,_,_,λi=>(bs[i]?).getD false,rfl,Walks.list (A:=X.A.in1) (I.ok.hd g) s.heap.objs.size a (zD p.lt) c.toArray,{{_,zo _ rfl,rfl,rfl},p.isList.at λo e=>za _ e},?_,λh' tk hk=>?_};intro i v s' m E' hv j;rw[all_bools d rfl i v hv];show yI j;have e:c.toArray.size=bs.length:=by rw[zx,<-hl]
 rw[e,range_all];show{.bl<|bs.all id,H,I.kept (h':=h') (t':=tk) λb o e=>hk b o (by simpa using zD (zA e))<|za _ e,rfl,q}
end
noncomputable def ownOf:HO->θ ε|.ins _ dx _=>some dx|.l9 _ u=>ownOf u|_=>none
structure Fg(H H' G:Hp):η where
 sub:∀b o,G b=ϑ o->H' b=ϑ o
 dom:∀b o,H b=ϑ o->∃o',G b=ϑ o'
 own:∀a o dx,G a=ϑ o->ownOf o=ϑ dx->(∃o',H a=ϑ o'/\ownOf o'=ϑ dx)\/∃o',G dx=ϑ o'
theorem aH:bootBuiltins "len"= some (.builtin "len"):=PySem.boot_len
theorem iB:bootBuiltins "all"= some (.builtin "all"):=boot_all
theorem ag:bootBuiltins "isinstance"= some (.builtin "isinstance"):=boot_isinstance
theorem xw:bootBuiltins "int"= some (.type "int"):=PyProof.Rows.boot_int
theorem M8:bootBuiltins "bool"= some (.type "bool"):=PyProof.Rows.boot_bool
theorem gw:bootBuiltins "str"= some (.type "str"):=PyProof.Rows.boot_str
theorem aP:bootBuiltins "tuple"= some (.type "tuple"):=PyProof.Rows.boot_tuple
theorem lE:bootBuiltins "list"= some (.type "list"):=PyProof.Rows.boot_list
theorem M_:bootBuiltins "dict"= some (.type "dict"):=PyProof.Rows.boot_dict
theorem Rh:bootBuiltins "set"= some (.type "set"):=PyProof.Rows.boot_set
set_option genInjectivity true in
set_option genSizeOfSpec true in
inductive Kd
 |ay|bl|int|str|lst|tup|cZ
noncomputable def Kd.name:Kd->String|.ay=>"NoneType" |.bl=>"bool" |.int=>"int" |.str=>"str" |.lst=>"list" |.tup=>"tuple" |.cZ=>"dict"
inductive tw (H:Hp):V->Kd->η
 |ay:tw H .ay .ay
 |bl (b:χ):tw H (.bl b) .bl
 |int (i:ν):tw H (.int i) .int
 |str (x:ρ):tw H (.str x) .str
 |lst {a:ε}{xs:δ V} (e:H a=ϑ (.lst xs)):tw H (.ref a) .lst
 |tup {a:ε}{xs:δ V} (e:H a=ϑ (.tup xs)):tw H (.ref a) .tup
 |cZ {a:ε}{kvs:δ<|Key×V} (e:H a=ϑ (.dK kvs)):tw H (.ref a) .cZ
def tw.ty{K:Φ}{H:Hp}{x:V}{k:Kd}(h:tw H x k):pF K H x (.type k.name):=by cases h with|ay=>show .ay|bl b=>show .bl b|int i=>show .int i|str x=>show .str x|lst e=>show .lst e|tup e=>show .tup e|cZ e=>show .dK e
noncomputable def xx(T:String):θ (Kd->χ):=if T ="int" then some λk=>match k with|.int=>true|.bl=>true|_=>false else if T ="bool" then some λk=>match k with|.bl=>true|_=>false else if T ="str" then some λk=>match k with|.str=>true|_=>false else if T ="tuple" then some λk=>match k with|.tup=>true|_=>false else if T ="list" then some λk=>match k with|.lst=>true|_=>false else if T ="dict" then some λk=>match k with|.cZ=>true|_=>false else none
set_option tactic.hygienic true in
def JL{K:Φ}{T:String}{g:Kd->χ}(h:xx T=ϑ g)(k:Kd):kitOne K (.type k.name) (.type T)=ϑ (g k):=by unfold xx at h;split at h;rename_i e;subst e;cases h;cases k<;>rfl;split at h;rename_i e;subst e;cases h;cases k<;>rfl;split at h;rename_i e;subst e;cases h;cases k<;>rfl;split at h;rename_i e;subst e;cases h;cases k<;>rfl;split at h;rename_i e;subst e;cases h;cases k<;>rfl;split at h;rename_i e;subst e;cases h;cases k<;>rfl;cases h
section
variable{X:Cx}
def JM:eQ X (.builtin "isinstance") (λxs H Q=>∃x T k g,xs=[x,.ty T]/\xx T=ϑ g/\tw H x k/\Q (.bl<|g k) H):=by intro qc s σ H xs us Q I r h;let⟨x,T,k,g,rfl,hg,hk,q⟩:=h;let⟨v,d,rfl,a,c⟩:=vals2 r;cases c;show G9 I a hk.ty (JL hg k) λtk=>{.bl<|g k,H,I.tok tk,rfl,q}
end
mutual
def Dt(K:Φ)(H:Hp):PyData->V->η|.none,v=>v=.ay|.bool b,v=>v=.bl b|.int i,v=>v=.int i|.str z,v=>v=.str z|.list ds,v=>∃a xs,v=.ref a/\jf K H a xs/\DtAll K H ds xs|.tuple ds,v=>∃a xs,v=.ref a/\iy K H a xs/\DtAll K H ds xs|.dict _,_=>False
def DtAll(K:Φ)(H:Hp):δ PyData->δ V->η|[],xs=>xs=[]|d::ds,xs=>∃y ys,xs=y::ys/\Dt K H d y/\DtAll K H ds ys
end
section
variable{X:Cx}{qc:δ (ε×Obj)}{σ:St}{H:Hp}{s:ζ}
mutual
theorem Inv.reads(I:Inv X qc σ H s):∀(d:PyData){x:V}{u:ξ},Dt X.K H d x->RelV x u->∃g,Reads s.heap u d g
 |.none,x,u,h,r=>by
  have h:x=.ay:=by simpa only[Dt]using h
  subst h;cases r;show{_,.none}
 |.bool b,x,u,h,r=>by
  have h:x=.bl b:=by simpa only[Dt]using h
  subst h;cases r;show{_,.bool b}
 |.int i,x,u,h,r=>by
  have h:x=.int i:=by simpa only[Dt]using h
  subst h;let⟨t,rfl⟩:=r;show{_,.int i t}
 |.str z,x,u,h,r=>by
  have h:x=.str z:=by simpa only[Dt]using h
  subst h;let⟨t,rfl⟩:=r;show{_,.str z t}
 |.list ds,x,u,h,r=>by
  have h:∃a xs,x=.ref a/\jf X.K H a xs/\DtAll X.K H ds xs:=by simpa only[Dt]using h
  let⟨a,xs,rfl,hq,hd⟩:=h;cases r;let⟨l,j,p,_⟩:=I.list hq;let⟨g,ra⟩:=Inv.readsAll I ds hd j;let⟨o,e,c,n,d⟩:=p.isList;show{_,.list e c d<|by simpa using ra}
 |.tuple ds,x,u,h,r=>by
  have h:∃a xs,x=.ref a/\iy X.K H a xs/\DtAll X.K H ds xs:=by simpa only[Dt]using h
  let⟨a,xs,rfl,hq,hd⟩:=h;cases r;let⟨l,j,p,_⟩:=I.tuple hq;let⟨g,ra⟩:=Inv.readsAll I ds hd j;let⟨o,e,c,n,d⟩:=p;show{_,.tuple e c d<|by simpa using ra}
 |.dict _,x,u,h,r=>by
  have h:False:=by simpa only[Dt]using h
  show h.elim
theorem Inv.readsAll(I:Inv X qc σ H s):∀(ds:δ PyData){xs:δ V}{us:δ ξ},DtAll X.K H ds xs->Vals xs us->∃a,ReadsAll s.heap us ds a
 |[],xs,us,h,r=>by
  have h:xs=[]:=by simpa only[DtAll]using h
  subst h;cases r;show{_,.nil}
 |d::ds,xs,us,h,r=>by
  have h:∃y ys,xs=y::ys/\Dt X.K H d y/\DtAll X.K H ds ys:=by simpa only[DtAll]using h
  let⟨y,ys,rfl,h1,h2⟩:=h;cases r with|cons g e=>let⟨a,ra⟩:=Inv.reads I d h1 g;let⟨bs,c⟩:=Inv.readsAll I ds h2 e;show{_,.cons ra c}
end
end
def V4(K:Φ)(a:χ):R2:=λx y H Q=>∃d e,Dt K H d x/\Dt K H e y/\d.canLay0=ϱ/\e.canLay0=ϱ/\(d.depth<=64\/e.depth<=64)/\Q (.bl<|if a then !PyData.eqv d e else PyData.eqv d e) H
section
variable{X:Cx}
def Ri(hu:X.A.units+64<cLine):gX X (compareOp .Eq) (V4 X.K false):=by intro qc s σ H x y v u Q I j a h;let⟨d,e,hd,i,cd,g,dp,q⟩:=h;let⟨l,ra⟩:=I.reads d hd j;let⟨bs,c⟩:=I.reads e i a;show SeqAt.compareEq_reads ra c cd g (by rcases dp with dp|dp<;>lia)<|aL I q rfl
def Rj(hu:X.A.units+64<cLine):gX X (compareOp .NotEq) (V4 X.K true):=by intro qc s σ H x y v u Q I j a h;let⟨d,e,hd,i,cd,g,dp,q⟩:=h;let⟨l,ra⟩:=I.reads d hd j;let⟨bs,c⟩:=I.reads e i a;show SeqAt.compareNe_reads ra c cd g (by rcases dp with dp|dp<;>lia)<|aL I q rfl
end
def lF(a b:π):IQ ⟨#[a]⟩ ⟨#[b]⟩=ω (a<=b):=by
 unfold IQ;have e:([b]<[a])↔b<a:=by rw[List.cons_lt_cons_iff];constructor;rintro (h|⟨_,h⟩);show h;show absurd h<|List.not_lt_nil _;show .inl
 rw[yu];change(!decide ([b]<[a]))=ϱ↔_;rw[yB,decide_eq_false_iff_not,e,decide_eq_true_iff];lia
def chkC(sc:Scope)(a N:δ ρ)(src:δ<|θ π)(scope:Scope):Bool :=
 ω (scope.kind=.function)&&(scope.names.all (λy=>ω (y.2≠.cell)&&(ω (y.2≠.local)||ω (scope.names.lookup y.1=ϑ .local))&&(ω (y.2≠.free)||(ω (sc.names.lookup y.1=ϑ .cell)||ω (sc.names.lookup y.1=ϑ .free)))) &&
  (ω (src.length=N.length)&&(List.range src.length).all λi=>match src[i]?,N[i]? with
   |some (some j),some x=>ω (a[j]?=some x)&&(ω (scope.names.lookup x=ϑ .free)&&(ω (sc.names.lookup x=ϑ .cell)||ω (sc.names.lookup x=ϑ .free)))
   |_,_=>true))
def V5(sc:Scope)(d:δ ρ)(c:X.env.scope=sc)(hN:X.N=d)(h:chkC sc d N src scope=ϱ):bx X N src scope:=by unfold chkC at h;simp only[zR,zT,yr,Bool.or_eq_true]at h;let⟨h1,h2,l,g⟩:=h;show{h1,λy a=>(h2 y a).1.1,λy a e=>?_,λy a e=>?_,l,λi j x e1 e2=>?_};rcases (h2 y a).1.2 with z|z;show absurd e z;show z;rcases (h2 y a).2 with z|z;show absurd e z;change X.env.scope.names.lookup y.1=ϑ .cell\/X.env.scope.names.lookup y.1=ϑ .free;rw[c];show z;have hi:i<src.length:=(zf.mp e1).1;have q:=g i<|zY.mpr hi;rw[e1,e2]at q;simp only[zR,zT,Bool.or_eq_true]at q;show{by rw[hN];show q.1,q.2.1,?_};unfold P_;rw[c];show .inr q.2.2
def rR(h0:0<=i)(h1:i<l.length):∃v,iM l i=ϑ v/\l[i.toNat]?=some v:=by
 let⟨j,rfl⟩:=Int.eq_ofNat_of_zero_le h0;have a:j<l.length:=`b
 show{l[j],dN<|by simp[a],by simp[a]}
def cI{c:χ}{A B:η}(h:c=ϱ->A)(h':c=ϰ->B):if c=ϱ then A else B:=by cases c with|true=>show h rfl|false=>show h' rfl
def nt(h:(!b)=ϱ):b=ϰ:=by cases b<;>simp_all
def nf(h:(!b)=ϰ):b=ϱ:=by cases b<;>simp_all
noncomputable def Df:Kd->χ|.int=>true|.bl=>true|_=>false
noncomputable def xy:Kd->χ|.bl=>true|_=>false
noncomputable def Dg:Kd->χ|.str=>true|_=>false
noncomputable def tD:Kd->χ|.tup=>true|_=>false
noncomputable def rS:Kd->χ|.lst=>true|_=>false
theorem Na:xx "int"= some Df:=qb rfl
theorem JN:xx "bool"= some xy:=(qa<|`a).trans<|qb rfl
theorem br:xx "str"= some Dg:=(qa<|`a).trans<|(qa<|`a).trans<|qb rfl
theorem aq:xx "tuple"= some tD:=(qa<|`a).trans<|(qa<|`a).trans<|(qa<|`a).trans<|qb rfl
def len_pos{z:ρ}(h:1<=z.cps.size):∃c r,z.cps.toList=c::r:=by cases e:z.cps.toList with|nil=>have:z.cps.toList.length=0:=(by rw[e];rfl);rw[yy]at this;lia|cons c r=>show⟨c,r,rfl⟩
def Hl(e:l=c::r):iM l 0=ϑ c:=by
 have:l[0]?=some c:=by rw[e];rfl
 show dN (j:=0) this
def isPlain:Δ->χ|.Starred _ _=>false|_=>true
def Dh(h:isPlain e=ϱ):starEach (e::es) env=(false,eval e env)::starEach es env:=by cases e<;>first|rfl|show absurd h ze
theorem pa2{t:TA}(ha:PE X e te)(hr:PA X es t)(hp:ψ (isPlain e=ϱ) qQJ):PA X (e::es) (OU te t):=MN ha hr<|Dh hp
end L2
namespace HT
open PySem PyProof.Rows
open PySem.SeqAt
open PySem.AutoSeq1 (wpAny_loadPart')
open PySem.MeetsSeq PySem.MeetsSeq2 PySem.MeetsSeq3
end HT
namespace L2
open PySem PySem.Spec PyProof.Rows
def IT(c:ξ)(e:ε)(h:Γ):Prop:=∃o vs,h.get? e=ϑ o/\o.data=.fields vs/\vs[2]?=some c
section
variable{M:Model}{A:ϕ}{E:ξ->ζ->η}{s:ζ}{base:Γ}{env:Env}{outer:δ Env}{L e:ε}{a0 c fl:ξ}
def V6(I:A.frames=ϑ (env::outer))(hl:s.heap.FunFrames base<|env::outer)(hf:env.frame=ϑ L) (l:s.heap.get? e=ϑ oe) (F:base.StaysIn s.heap) (H:base.get? e=ϐ) (hd:oe.data=.fields vs) (h0:vs[0]?=some a0) (h2:vs[2]?=some c) (h:∀h',Heap.NotedW base (env::outer) e oe.cls a0 (rawInt L) s.heap h'->IT c e h'->Q () {s with heap:=h'}): wpAny M A (do let x <-frameOf env;let y <-entryPlaceOf L nx;let z <-EntryCells.newEntry head x .none (rawInt L) .none y;setField (.ref e) 1 z) Q E s:=by
 have a:1<vs.size:=by have:=(Array.getElem?_eq_some_iff.mp h2).1;lia
 have r:e∉(env::outer).filterMap (·.frame):=λm=>by let⟨_,o,q,n⟩:=hl.mem m;rw[l]at q;cases q;show n vs hd
 show zb<|wpAny_frameOf_fun I hl hf λg i=>?_;show zb<|wpAny_entryPlaceOf λj v=>?_;unfold EntryCells.newEntry newFields;show zb<|ym ?_<|v.sizeOk5 _ _ _ _ _;have B:g.get? e=ϑ oe:=(i.2.1 e r).trans l;have t:base.StaysIn g:=λb o q=>(i.2.1 b λm=>by rw[(hl.mem m).1]at q;cases q).trans<|F b o q;have C:((([head,.ref L,.none,rawInt L,.none]++(if j.isEmpty then List.replicate 6 Value.none else j)).toArray:Array ξ))[3]?=some (rawInt L):=by rcases v with rfl|⟨_,_,_,_,_,_,_,rfl⟩<;>simp
 generalize J:(([head,.ref L,.none,rawInt L,.none]++(if j.isEmpty then List.replicate 6 Value.none else j)).toArray:Array ξ)=ts at C;have p:=za (h:=g) {cls:=.type "traceback",dict:=none,data:=.fields ts} B;show y3 p hd a<|h _ ?_ ?_;have ne:g.objs.size≠e:=yw<|zA B;have d:=yF hd (·.setIfInBounds 1 (Value.ref g.objs.size));have e3:=yC (Obj.mapFields (·.setIfInBounds 1 (Value.ref g.objs.size))) p<|Obj.isFreed_of_fields d;have G:=(yA (g.push {cls:=.type "traceback",dict:=none,data:=.fields ts}) (Obj.mapFields (·.setIfInBounds 1 (Value.ref g.objs.size)))<|Ne.symm ne).trans<|zo g rfl;have keep:∀b o,b≠e->g.get? b=ϑ o->((g.push {cls:=.type "traceback",dict:=none,data:=.fields ts}).update e (Obj.mapFields (·.setIfInBounds 1 (Value.ref g.objs.size)))).get? b=ϑ o:=λb o n q=>by rw[yA _ _<|Ne.symm n];show za _ q
 have w:∀b o,s.heap.get? b=ϑ o->(∀vs,o.data≠.fields vs)->b≠e:=λb o q n z=>by rw[z,l]at q;cases q;show n vs hd
 show{λb o q=>keep b o (λz=>by rw[z,H]at q;cases q)<|t b o q,hl.of_keeps λb o q n=>?_,?_,λb o q n=>?_};let⟨sl,z⟩:=i.2.2 b o q;show{_,keep b _ (w b o q n) z,rfl};show{_,_,g.objs.size,_,_,e3,{Obj.cls_mapFields _ _,by rw[Array.getElem?_setIfInBounds_ne<|`a];show h0},d,by simp[a],t.fresh,ne,G,rfl,C};let⟨sl,z⟩:=i.2.2 b o q;show{sl,keep b _ (w b o q n) z};have d:=yF hd (·.setIfInBounds 1 (Value.ref g.objs.size));show{_,_,yC (Obj.mapFields (·.setIfInBounds 1 (Value.ref g.objs.size))) p<|Obj.isFreed_of_fields d,d,by rw[Array.getElem?_setIfInBounds_ne<|`a];show h2}
def setC(v:base.StaysIn s.heap)(C:base.get? e=ϐ)(hl:s.heap.FunFrames base l)(t:s.heap.TracedAtW base e cls a0 fl)(F:IT c e s.heap) (h:∀h',Heap.FlyingW base l e cls a0 h'->s.heap.UpToSlots h'->IT c e h'->Q () {s with heap:=h'}):wpAny M A (setFlight (.ref e) none) Q E s:=by
 let⟨o,vs,T,G,ts,q,hk,hd,j,m,ne,d,dT,B⟩:=t;let⟨o',y,i,g,x⟩:=F;rw[q]at i;cases i;rw[hd]at g;cases g;have a:3<ts.size:=(Array.getElem?_eq_some_iff.mp B).1;have Di:∀b,b≠T->(s.heap.update T (Obj.mapFields (·.setIfInBounds 3 ((none:θ ε).elim Value.none λf=>rawInt f)))).get? b=s.heap.get? b:=λb n=>yA _ _<|Ne.symm n;have r:∀b o,s.heap.get? b=ϑ o->(∀vs,o.data≠.fields vs)->b≠T:=λb o z n w=>by rw[w,d]at z;cases z;show n ts dT
 have p:=(Di e<|Ne.symm ne).trans q;unfold setFlight;show zb<|yb q hd j ?_;rw[qb<|show(Value.ref T != Value.none)=ϱ by simp];show y3 d dT a<|h _ {λb o z=>(Di b λw=>by rw[w,m]at z;cases z).trans<|v b o z,C,hl.of_keeps λb o z n=>{o,(Di b<|r b o z n).trans z,rfl},?_} (λb o z n=>{o.slots,(Di b<|r b o z n).trans z}) ⟨o,vs,p,hd,x⟩;show{o,vs,T,_,_,p,hk,hd,j,m,ne,yC _ d<|Obj.isFreed_of_fields<|yF dT _,yF dT _,by simp[a]}
def V7(G:A.frames=ϑ (env::outer))(hf:env.frame=ϑ L)(l:base.StaysIn s.heap)(a:base.get? e=ϐ)(hl:s.heap.FunFrames base<|env::outer)(g:s.heap.TracedAtW base e cls a0 fl)(p:IT c e s.heap) (h:∀h',Heap.HeldW base (env::outer) e cls a0 L h'->s.heap.UpToSlots h'->IT c e h'->Q () {s with heap:=h'}):wpAny M A (noteFrame (.ref e) env) Q E s:=by
 by_cases t:fl=rawInt L;subst t;show wpAny_noteFrame_againW hf g<|h s.heap ⟨l,a,hl,g⟩ (.refl _) p;let⟨o,vs,T,N,ts,q,⟨hk,h0⟩,hd,B,C,ne,d,dT,m⟩:=g;let⟨o',F,j,i,I⟩:=p;rw[q]at j;cases j;rw[hd]at i;cases i;subst hk;have Di:∀b,b≠T->(s.heap.update T (Obj.mapFields (·.setIfInBounds 3 Value.none))).get? b=s.heap.get? b:=λb n=>yA _ _<|Ne.symm n;have r:∀b o,s.heap.get? b=ϑ o->(∀vs,o.data≠.fields vs)->b≠T:=λb o z n w=>by rw[w,d]at z;cases z;show n ts dT
 unfold noteFrame;simp only[hf];show zb<|yb q hd B ?_;rw[qb<|show(Value.ref T != Value.none)=ϱ by simp];show zb<|yb d dT m ?_;rw[qa<|show ¬((fl==rawInt L)=ϱ) by simpa using t];show zb<|y3 d dT (Array.getElem?_eq_some_iff.mp m).1 ?_;show V6 G (hl.of_keeps λb o z n=>{o,(Di b<|r b o z n).trans z,rfl}) hf ((Di e<|Ne.symm ne).trans q) (λb o z=>(Di b λw=>by rw[w,C]at z;cases z).trans<|l b o z) a hd h0 I λh' x y=>?_;let⟨v,H,J,K⟩:=x;show h h' ⟨v,a,H,J⟩ (λb o z n=>K b o ((Di b<|r b o z n).trans z) n) y
def Rk(g:A.frames=ϑ (env::outer))(hf:env.frame=ϑ L)(j:base.StaysIn s.heap)(d:base.get? e=ϐ)(hl:s.heap.FunFrames base<|env::outer) (a:s.heap.get? e=ϑ oe) (hd:oe.data=.fields vs) (h0:vs[0]?=some a0) (h1:vs[1]?=some .none) (h2:vs[2]?=some c) (h:∀h',Heap.HeldW base (env::outer) e oe.cls a0 L h'->s.heap.UpToSlots h'->IT c e h'->Q () {s with heap:=h'}):wpAny M A (noteFrame (.ref e) env) Q E s:=by unfold noteFrame;simp only[hf];show zb<|yb a hd h1 ?_;rw[qa<|`a];show V6 g hl hf a j d hd h0 h2 λh' x y=>?_;let⟨l,i,m,n⟩:=x;show h h' ⟨l,d,i,m⟩ n y
def Rl(i:A.frames=ϑ (env::outer))(hf:env.frame=ϑ L)(n:base.StaysIn s.heap)(v:base.get? e=ϐ)(hl:s.heap.FunFrames base<|env::outer)(j:s.heap.TracedAtW base e cls a0 fl)(a:IT c e s.heap) (h:∀h',Heap.FlyingW base outer e cls a0 h'->s.heap.UpToSlots h'->IT c e h'->Q () {s with heap:=h'}):wpAny M A (leaving env<|.ref e) Q E s:=by unfold leaving;show zb<|V7 i hf n v hl j a λh' x u y=>?_;let⟨p,l,r,t⟩:=x;show setC p l r t y λh2 z o y2=>?_;let⟨d,w,⟨_,_,m⟩,g⟩:=z;show h h2 ⟨d,w,m,g⟩ (u.trans o) y2
def Nb(g:A.frames=ϑ (env::outer))(hf:env.frame=ϑ L)(l:base.StaysIn s.heap)(t:base.get? e=ϐ)(hl:s.heap.FunFrames base<|env::outer) (r:s.heap.get? e=ϑ oe) (hd:oe.data=.fields vs) (h0:vs[0]?=some a0) (h1:vs[1]?=some .none) (h2:vs[2]?=some c) (h:∀h',Heap.FlyingW base outer e oe.cls a0 h'->s.heap.UpToSlots h'->IT c e h'->Q () {s with heap:=h'}):wpAny M A (leaving env<|.ref e) Q E s:=by unfold leaving;show zb<|Rk g hf l t hl r hd h0 h1 h2 λh' x u y=>?_;let⟨n,i,o,p⟩:=x;show setC n i o p y λh2 z m y2=>?_;let⟨a,v,⟨_,_,j⟩,d⟩:=z;show h h2 ⟨a,v,j,d⟩ (u.trans m) y2
end
def bj.get(x:bj P w H h a o):∃u,h.get? a=ϑ u:=by cases o with|lst xs=>(let⟨_,_,_,_,e⟩:=x;show{_,e})|tup xs=>(let⟨_,_,_,c,e,_⟩:=x;show{_,e})|dK kvs=>(let⟨_,_,_,_,o,_,_,e,_⟩:=x;show{_,e})|dT kvs=>show False.elim x|set S n=>(let⟨o,_,_,_,e,_⟩:=x;show{_,e})|ins C dx fs=>(let⟨_,_,_,e,_⟩:=x;show{_,e})|own y=>(let⟨_,e⟩:=x;show{_,e})|xd fs=>(let⟨_,⟨_,_,_,e,_⟩,_⟩:=x;show{_,e})|YU lo hi=>(let⟨_,_,_,e⟩:=x;show{_,e})|l9 c u=>(let⟨e,_⟩:=x;show{_,e})|rJ ps=>show{_,show h.get? a=ϑ _ from x}|met f y=>show{_,show h.get? a=ϑ _ from x}|ext φ=>let⟨_,e,_⟩:=x;show e
structure rm(P:Ψ)(w:Ω)(mg:ρ->θ ξ)(outer:δ Env)(H H':Hp)(h0:Γ)(a:ε)(cls a0:ξ)(B h:Γ):η where
 fl:Heap.FlyingW B outer a cls a0 h
 aK:lQ P w H' B
 keep:∀b o,h0.get? b=ϑ o->H b=ϐ->b∉mD outer->B.get? b=ϑ o
 there:∀b o,h0.get? b=ϑ o->b∉mD outer->∃o',B.get? b=ϑ o'
 slot:∀b o,h0.get? b=ϑ o->b∈mD outer->∃sl,h.get? b=ϑ {o with slots:=sl}
 free:∀b o,h0.get? b=ϑ o->H b=ϐ->H' b=ϐ
 gW:∀b xs,H b=ϑ (.tup xs)->H' b=ϑ (.tup xs)
 gu:∀b o u,H b=ϑ (.l9 o u)->H' b=ϑ (.l9 o u)
 gv:∀b ps,H b=ϑ (.rJ ps)->∃more,H' b=ϑ (.rJ<|ps++more)
 cx:IT .none a h\/mg "NoMark"= some cls
section
variable{P:Ψ}{w:Ω}{mg:ρ->θ ξ}{outer:δ Env}{H H':Hp}{h0:Γ}{a:ε}{cls a0:ξ}{B h h2:Γ}
theorem rm.un(F:rm P w mg outer H H' h0 a cls a0 B h):Un (mD outer) [] H H' h0 h where
 keep:=λb o e n hf z=>F.fl.1 b o<|F.keep b o e n hf
 slot:=λb o e z hf z=>F.slot b o e hf
 free:=λb o e n z=>F.free b o e n
 there:=λb o e z=>by
  by_cases hf:b∈mD outer
  ·let⟨sl,q⟩:=F.slot b o e hf;show{_,q}
  ·let⟨o',q⟩:=F.there b o e hf;show{o',F.fl.1 b o' q}
 gW:=F.gW
 gu:=F.gu
 gv:=F.gv
theorem rm.aaT(F:rm P w mg outer H H' h0 a cls a0 B h):lQ P w H' h:=F.aK.kept F.fl.1
def rm.hn(F:rm P w mg outer H H' h0 a cls a0 B h):H' a=ϐ:=by cases q:H' a with|none=>rfl|some o=>let⟨u,e⟩:=(F.aK a o q).get;rw[F.fl.2.1]at e;cases e
theorem rm.loose(F:rm P w mg outer H H' h0 a cls a0 B h):rm P w (λz=>some cls) outer H H' h0 a cls a0 B h:={F.fl,F.aK,F.keep,F.there,F.slot,F.free,F.gW,F.gu,F.gv,.inr rfl}
theorem rm.on(F:rm P w mg outer H H' h0 a cls a0 B h)(f2:Heap.FlyingW B outer a cls a0 h2)(u2:h.UpToSlots h2)(c2:IT .none a h2\/mg "NoMark"= some cls):rm P w mg outer H H' h0 a cls a0 B h2 where
 cx:=c2
 fl:=f2
 aK:=F.aK
 keep:=F.keep
 there:=F.there
 slot:=λb o e hf=>by
  let⟨sl,q⟩:=F.slot b o e hf
  let⟨_,o1,q1,hd⟩:=F.fl.2.2.1.mem hf
  let⟨AU,q2⟩:=u2 b o1 q1 hd
  rw[q]at q1;cases q1
  show⟨AU,q2⟩
 free:=F.free
 gW:=F.gW
 gu:=F.gu
 gv:=F.gv
end
def gb(P:Ψ)(w:Ω)(mg:ρ->θ ξ):CZ:=λouter H s E e s'=>∃a cls a0 B H',e=.ref a/\s'.os=s.os/\AllBare s'.gens/\rm P w mg outer H H' s.heap a cls a0 B s'.heap/\E cls none H'
structure dS(X:Cx)(E:XK):η where
 ex:X.ex=[]
 st:X.stack=X.env::X.outer
 fr:X.env.frame=ϑ X.env.locals
 xe:∀e s',wpAny `m X.A (leaving X.env e) (λz C3=>gb X.prog X.w X.mg X.outer X.xm X.dY E e C3) (λe' C3=>gb X.prog X.w X.mg X.outer X.xm X.dY E e' C3) s'->X.xe e s'
theorem wg{P:Ψ}{w:Ω}{K:Φ}{mg:ρ->θ ξ}{base:Γ}{N:δ ρ}{qual:ρ}{scope:Scope}{f:ε}{cd:ξ}{A:ϕ}{outer:δ Env}{s:ζ}{H:Hp}{E:XK} : dS (lT (gb P w mg) P w K mg base N qual scope f cd A outer s H E) E:={rfl,rfl,rfl,λz z h=>h}
section
variable{X:Cx}{qc:δ (ε×Obj)}{σ:St}{H H':Hp}{s:ζ}{E E':XK}
def dS.mem(L:dS X E):b∈mD X.stack↔b=X.env.locals\/b∈X.fs:=by unfold Cx.fs mD;rw[L.st,List.filterMap_cons,L.fr];show zl
theorem dS.GV(L:dS X E)(I:Inv X qc σ H s)(e:X.dY.heap.get? b=ϑ o)(h:b∉X.fs):b∉mD X.stack:=λz=>by rcases L.mem.mp z with z|z;have:=zA e;have h2:=I.ok.above;rw[z]at this;show absurd (zu this h2)<|yG _;show h z
theorem dS.fly(L:dS X E)(I:Inv X qc σ H s)(F:rm X.prog X.w X.mg X.stack H H' s.heap a cls a0 B h)(f2:Heap.FlyingW B X.outer a cls a0 h2)(u2:h.UpToSlots h2)(c2:IT .none a h2\/X.mg "NoMark"= some cls):
  rm X.prog X.w X.mg X.outer X.xm H' X.dY.heap a cls a0 B h2 where
 cx:=c2
 fl:=f2
 aK:=F.aK
 keep:=λb o e n hf=>F.keep b o (I.base.keep b o e n hf<|by rw[L.ex];simp) (I.base.free b o e n<|by rw[L.ex];simp)<|L.GV I e hf
 there:=λb o e hf=>by
  let⟨o',q⟩:=I.base.there b o e<|by rw[L.ex];simp
  show F.there b o' q<|L.GV I e hf
 slot:=λb o e hf=>by
  let⟨sl,q⟩:=I.base.slot b o e (I.ok.Jd b hf) hf<|by rw[L.ex];simp
  let⟨sl1,q1⟩:=F.slot b _ q<|L.mem.mpr<|.inr hf
  let⟨_,o2,q2,hd⟩:=F.fl.2.2.1.mem<|L.mem.mpr<|.inr hf
  let⟨AU,q3⟩:=u2 b o2 q2 hd
  rw[q1]at q2;cases q2
  show⟨AU,q3⟩
 free:=λb o e n=>by
  let⟨o',q⟩:=I.base.there b o e<|by rw[L.ex];simp
  show F.free b o' q<|I.base.free b o e n<|by rw[L.ex];simp
 gW:=λb xs e=>F.gW b xs<|I.base.gW b xs e
 gu:=λb o u e=>F.gu b o u<|I.base.gu b o u e
 gv:=λb ps e=>by
  let⟨m1,q1⟩:=I.base.gv b ps e
  let⟨m2,q2⟩:=F.gv b _ q1
  show{m1++m2,by rw[q2,Array.append_assoc]}
theorem V9(L:dS X E)(m:∀c d H',E' c d H'->E c d H'):Passes (gb X.prog X.w X.mg) X E':=λqc σ H s e s' I h=>by
 let⟨a,cls,a0,B,H',rfl,os,bare,F,q⟩:=h;show L.xe _ _ ?_;have l:X.A.frames=ϑ (X.env::X.outer):=by rw[I.ok.frames,L.st]
 have fl:Heap.FlyingW B (X.env::X.outer) a cls a0 s'.heap:=by rw[<-L.st];show F.fl
 rcases F.cx with j|j;let⟨o,g,r,n⟩:=fl;show Rl l L.fr o g r n.at j λh2 g i p=>{a,cls,a0,B,H',rfl,os.trans I.os,bare,L.fly I F g i<|.inl p,m _ _ _ q};show wpAny_leaves_onW l L.fr fl λh2 g i=>{a,cls,a0,B,H',rfl,os.trans I.os,bare,L.fly I F g i<|.inr j,m _ _ _ q}
theorem Rm(I:Inv X qc σ H s):lQ X.prog X.w H (hideAll s.heap<|mD X.stack):=λa o e=>(I.aK a o e).nr (λb u hb q=>hideAll_get _ q λz=>by have n:=I.rK b z;rcases hb with rfl|hb;rw[e]at n;cases n;rw[hb]at n;cases n) (λx q=>q) λx x q=>q
def Dj(L:dS X E)(I:Inv X qc σ H s)(hk:∀b o,s.heap.get? b=ϑ o->h'.get? b=ϑ o)(hn:s.heap.get? a=ϐ)(g:h'.get? a=ϑ oe)(hd:oe.data=.fields vs) (h0:vs[0]?=some a0) (h1:vs[1]?=some .none) (h2:vs[2]?=some c) (h:c=.none\/X.mg "NoMark"= some oe.cls) (m:E oe.cls none H):X.xe (.ref a) {s with heap:=h'}:=by
 show L.xe _ _ ?_;have i:X.A.frames=ϑ (X.env::X.outer):=by rw[I.ok.frames,L.st]
 have j:∀env∈X.stack,∀b,env.frame=ϑ b->b∈mD X.stack:=λenv g b hb=>List.mem_filterMap.mpr ⟨env,g,hb⟩;have x:s.heap.FunFrames (hideAll s.heap<|mD X.stack) (X.env::X.outer):=by rw[<-L.st];show PySem.W.funFrames_hide I.stack j
 have hb:(hideAll s.heap<|mD X.stack).get? a=ϐ:=by cases z:(hideAll s.heap<|mD X.stack).get? a with|none=>rfl|some o=>have:=of_hideAll _ z;rw[hn]at this;cases this
 show Nb (base:=hideAll s.heap<|mD X.stack) i L.fr (λb o q=>hk b o<|of_hideAll _ q) hb (x.of_keeps λb o q y=>{o,hk b o q,rfl}) g hd h0 h1 h2 λh2 p r t=>?_;show{a,oe.cls,a0,_,H,rfl,I.os,I.bare,{p,Rm I,λb o e n hf=>?_,λb o e hf=>?_,λb o e hf=>?_,λb o e n=>I.base.free b o e n<|by rw[L.ex];simp,I.base.gW,I.base.gu,I.base.gv,?_},m};show hideAll_get _ (I.base.keep b o e n hf<|by rw[L.ex];simp)<|L.GV I e hf;let⟨o',q⟩:=I.base.there b o e (by rw[L.ex];simp);show{o',hideAll_get _ q<|L.GV I e hf};let⟨sl,q⟩:=I.base.slot b o e (I.ok.Jd b hf) hf (by rw[L.ex];simp);let⟨_,w,d,hd⟩:=I.lR.mem hf;let⟨v,l⟩:=r b w (hk _ _ d) hd;rw[q]at d;cases d;show⟨v,l⟩;rcases h with rfl|h;show .inl t;show .inr h
def qz(L:dS X E)(I:Inv X qc σ H s)(hx:Heap.MadeExcOf s.heap h' a cls args)(d:E cls none H):X.xe (.ref a) {s with heap:=h'}:=by let⟨t,c,_,_⟩:=hx.there;show Dj L I (λb o q=>hx.keeps b o q) hx.new c rfl rfl rfl rfl (.inl rfl) d
end
abbrev rn:δ Value:=[.type "ValueError",.type "Exception",.type "BaseException",.type "object"]
structure XC(K:Φ)(C:ε):η where
 q:excIn K C rn "ValueError.__new__"= true
def tE(h:Γ)(C:ε)(bm:δ ξ):Prop:=∃N nm q bs hdct sn sub ab col dd k0 k1 k2 k3 k5 mN,h.get? C=ϑ (excClassObj nm q C N bs bm hdct sn sub ab col dd k0 k1 k2 k3 k5 "ValueError.__new__")/\h.Ns N mN/\mN "__init__"= none/\OwnTail h rn bm
theorem bf{p:η}(q:ϰ=ϱ):p:=nomatch q
def exv(x y A)(q:PySem.W.excIn.match_1 (λ_ _=>χ) x y A (λ_ _=>ϰ)=ϱ):∃C' bm k0 k1 k2 k3 n k5,x=.ref C'::bm/\y=[k0,k1,k2,k3,ϑ (.builtin n),k5]/\A C' bm k0 k1 k2 k3 n k5=ϱ:=by
 rcases x with _|⟨u,b⟩;show bf q;cases u with
 |ref C'=>
  rcases y with _|⟨k0,_|⟨k1,_|⟨k2,_|⟨k3,_|⟨_|v,l⟩⟩⟩⟩⟩;iterate 6 show bf q;
  cases v with
  |builtin n=>rcases l with _|⟨k5,_|⟨_,_⟩⟩;show bf q;show{_,_,_,_,_,_,_,_,rfl,rfl,q};show bf q
  |_=>show bf q
 |_=>show bf q
def exw(o A)(q:PySem.W.excIn.match_6 (λ_=>χ) o A (λ_=>ϰ)=ϱ):∃c d l,o=ϑ ⟨.type "type",c,.cls d,l⟩/\A c d l=ϱ:=by
 rcases o with _|⟨u,d,y,l⟩;show bf q;cases u with
 |type s=>by_cases e:s="type";rotate_left;unfold PySem.W.excIn.match_6 at q;have q:dite (s="type") _ _=ϱ:=q;rw[dif_neg e]at q;show bf q;subst e;cases y with
  |cls cd=>show{_,_,_,rfl,q}
  |_=>show bf q
 |_=>show bf q
def XC.at{K:Φ}{C:ε}{h:Γ}(x:XC K C)(X:K.In h):∃bm,tE h C bm:=by have q:=x.q;unfold excIn at q;let⟨dd,cd,sl,ho,q⟩:=exw _ _ q;let⟨C',bm',k0,k1,k2,k3,n,k5,hm,hs,q⟩:=exv _ _ _ q;simp only[zR,beq_iff_eq,yB]at q;let⟨⟨⟨⟨⟨o,l⟩,d⟩,e⟩,aK⟩,c⟩:=q;subst o;subst l;let⟨nm,bs,i,ns,g,hd,j,sub,m,a,del⟩:=cd;dsimp only at hm d aK c;subst hm;subst d;let⟨sl⟩:=sl;dsimp only at hs;subst hs;show{bm',ns,nm,g,bs,hd,j,sub,m,a,dd,k0,k1,k2,k3,k5,_,X _ _ ho,.of_isNs<|PySem.W.isNs_of_in X aK,PySem.W.nsMap_none_of_in X aK c,PySem.W.tail_of_in X e}
def tE.base(x:tE h C bm):bm.contains (.type "BaseException")=ϱ:=by let⟨_,_,_,_,_,_,_,_,_,_,_,_,_,_,_,_,_,_,_,T⟩:=x;show T.hasType<|`a
section
variable{C D:ε}{bmD:δ ξ}{E:XK}
def qA{M:Model}{A:ϕ}{E:ξ->ζ->η}{h:Γ}{g:Array GenState}{d:Drawn}{tk:π}{os:OsState}{a:ε}{j:Obj}{b:χ}{Q:χ->ζ->η}(L:Looks M h (isSubtype (.ref C)<|.ref D) b)(i:tE h D bmD) (B:h.get? a=ϑ j) (r:j.cls=.ref C) (hq:Q b ⟨h,g,d,tk,os⟩):wpAny M A (excMatches (.ref a)<|.ref D) Q E ⟨h,g,d,tk,os⟩:=by
 have c:=i.base;let⟨H,F,I,z,p,m,w,x,y,J,s,G,o,n,v,t,l,_,_,_⟩:=i;have e:(Value.ref D::bmD).contains (.type "BaseException")=ϱ:=by rw[List.contains_cons,c,Bool.or_true]
 have f:=tc_notTuple;unfold excMatches;repeat (first|(with_reducible show wpAny_loadPart_at B ?_;rw[r])|with_reducible show wpAny_loadPart_at l ?_|with_reducible show L.at ?_|(with_reducible show wpAny_isSubtype_exc l ?_;rw[e])|wp_step)
 cases b<;>(wp_walk;show hq)
end
def nH(a:ε)(cls:ξ):HO:=.ext λh=>∃o vs,h.get? a=ϑ o/\o.cls=cls/\o.data=.fields vs
section
variable{P:Ψ}{w:Ω}{mg:ρ->θ ξ}{outer:δ Env}{H H':Hp}{h0:Γ}{a:ε}{cls a0:ξ}{B h:Γ}
def rm.fresh(F:rm P w mg outer H H' h0 a cls a0 B h)(e:h0.get? b=ϑ o):b≠a:=by rintro rfl;by_cases hf:b∈mD outer;let⟨_,o1,g,hd⟩:=F.fl.2.2.1.mem hf;let⟨i,vs,d,_,c,_⟩:=F.fl.first;rw[g]at d;cases d;show hd vs c;let⟨o',q⟩:=F.there b o e hf;rw[F.fl.2.1]at q;cases q
theorem rm.Y9(F:rm P w mg outer H H' h0 a cls a0 B h):Un (mD outer) [] H (upd H' a u) h0 h where
 keep:=F.un.keep
 slot:=F.un.slot
 free:=λb o e n x=>by rw[ax<|F.fresh e];show F.un.free b o e n x
 there:=F.un.there
 gW:=λb xs e=>by
  have q:=F.gW b xs e
  rw[ax<|aA q F.hn];show q
 gu:=λb o xs e=>by
  have q:=F.gu b o xs e
  rw[ax<|aA q F.hn];show q
 gv:=λb ps e=>by
  let⟨m,q⟩:=F.gv b ps e
  show{m,by rw[ax<|aA q F.hn];show q}
theorem rm.Nc(F:rm P w mg outer H H' h0 a cls a0 B h):lQ P w (upd H' a<|nH a cls) h:=λb u e=>by by_cases hb:b=a;subst hb;rw[aD]at e;cases e;let⟨d,vs,g,i,hd,_⟩:=F.fl.first;show{⟨d,vs,g,i,hd⟩,⟨d,g⟩,by rintro h1 h2 ⟨o,vs,q,r⟩ k;show{o,vs,k o q,r}};rw[ax hb]at e;show(F.aaT b u e).nr (λz z z q=>q) (λc q=>by rw[ax<|aA q F.hn];show q) λc xs q=>by rw[ax<|aA q F.hn];show q
end
def XE(X:Cx)(qc:δ<|ε×Obj)(E:St->XK)(e:ξ)(s':ζ):Prop:=∃ak H1 s1,Inv X qc ak H1 s1/\gb X.prog X.w X.mg X.stack H1 s1 (E ak) e s'
abbrev TX:=(St->XK)->TS
def Rn(X:Cx)(st:δ Stmt)(t:TX):Prop:=∀(qc:δ (ε×Obj))(s:ζ)(σ:St)(H:Hp)(D:Ends)(E:St->XK),Inv X qc σ H s->t E D σ H->wpAny `m X.A (execs st X.env) (SP X qc D) (XE X qc E) s
noncomputable abbrev Cx.gx(X:Cx)(a:ε):Cx:={X with A:=X.A.mark<|some<|.ref a,calm:=false,xe:=λz z=>False}
section
variable{X:Cx}{qc:δ (ε×Obj)}{σ:St}{H:Hp}{s:ζ}
theorem Cx.Ok.gx(ok:X.Ok)(a:ε):(X.gx a).Ok:={ok.mod,ok.kind,ok.glob,ok.blt,ok.above,ok.inj,ok.has,ok.Qa,λz=>(nomatch (show false=ϱ from z)),ok.frames,ok.Ui,ok.YW,ok.bs,ok.GS,ok.CI,ok.GU,ok.lR,ok.Jd}
theorem Inv.gx(I:Inv X qc σ H s)(a:ε):Inv (X.gx a) qc σ H s:={I.ok.gx a,I.os,I.bare,I.base,I.loc,I.cell,I.free,I.eP,I.pin,I.aK,I.len}
theorem Inv.kx(I:Inv (X.gx a) qc σ H s)(ok:X.Ok):Inv X qc σ H s:=⟨ok,I.os,I.bare,I.base,I.loc,I.cell,I.free,I.eP,I.pin,I.aK,I.len⟩
def name_goes(I:Inv X qc σ H s)(hN:X.N.Nodup)(hi:X.N[i]?=some n)(hx:X.env.scope.names.lookup n=ϑ .local) (h:∀s',Inv X qc (σ.set i none) H s'->Q () s'):wpAny M A (do bindName X.env n .none;unbindBehindTheSuite X.env n pos) Q E s:=by
 let⟨m,hn,hl⟩:=id I.loc;have x:(X.env.scope.kind==.class||(X.env.scope.kind==.module&&X.env.locals != X.env.globals))=ϰ:=by rw[I.ok.kind];rfl
 have w:i<σ.length:=by rw[I.len];show(zf.mp hi).1
 have g:∀b o,X.dY.heap.get? b=ϑ o->b≠X.env.locals:=λb o e=>zD<|zu (zA e) I.ok.above;show wpAny_nameGoes_keeps hx hn x λh' v B a=>h _ ?_;show{I.ok,I.os,I.bare,{λb o e n hb hx=>(a.2 b<|g b o e).trans<|I.base.keep b o e n hb hx,λb o e n hb hx=>?_,I.base.free,λb o e hx=>?_,I.base.gW,I.base.gu,I.base.gv},{_,B,λj y K e1 e2 e3=>?_},λy c e=>?_,I.free,I.eP,λp hp=>?_,λb C e=>?_,by simpa using I.len};let⟨sl,e1⟩:=I.base.slot b o e n hb hx;show{sl,(a.2 b<|g b o e).trans e1};let⟨o',e1⟩:=I.base.there b o e hx;show{o',(a.2 b<|g b o e).trans e1};have r:j≠i:=by rintro rfl;rw[yz w]at e2;cases e2
 rw[yt<|Ne.symm r]at e2;let⟨t,F,q⟩:=hl j y K e1 e2 e3;show{t,F,?_};have J:y≠n:=λe=>r<|sI hN e1<|e ▸ hi;rcases q with⟨k,e⟩|⟨k,c,e,z⟩;show .inl {k,by change(if y=n then v else m y)=ϑ t;rw[qa J];show e};show .inr {k,c,e,z.sameBut a<|I.Mx y c e};let⟨l,z⟩:=I.cell y c e;show{l,z.sameBut a<|I.Mx y c e};let⟨e,n,ne,nf,d⟩:=I.pin p hp;show{(a.2 p.1 ne).trans e,n,ne,nf,d};show(I.aK b C e).nr (λc l G q=>(a.2 c ?_).trans q) (λu q=>q) λu u q=>q;rintro rfl;rcases G with z|z;rw[<-z,I.free]at e;cases e;rw[I.free]at z;cases z
end
noncomputable def Ends.less(D:Ends)(i:π):Ends:={nx:=λσ H=>D.nx (σ.set i none) H,rt:=D.rt,bk:=λσ H=>D.bk (σ.set i none) H,ct:=λσ H=>D.ct (σ.set i none) H}
def aaW(K:Φ)(i:π)(C0:ε)(tb:TX)(ts:TS):TS:=λD σ H=>tb (λak cls z H'=>∃C,cls=.ref C/\mroIn K C (.ref C0)=ϑ true/\∀a,H' a=ϐ->ts (D.less i) (ak.set i<|some<|.ref a) (upd H' a<|nH a<|.ref C)) D σ H
section
variable{X:Cx}{i:π}{n x:ρ}{C0:ε}{body kz:δ Stmt}{tG:Stmt}{np tH pos:Pos}{tb:TX}{ts:TS}
def Rp(m:X.stack=X.env::X.outer)(fr:X.env.frame=ϑ X.env.locals)(hN:X.N.Nodup)(hi:X.N[i]?=some n)(hx:X.env.scope.names.lookup n=ϑ .local)(O:Gl X x)(hm:X.mg x=ϑ (.ref C0))(c0:XC X.K C0) (hb:Rn X body tb) (hs:∀a,Cu (X.gx a) (tG::kz) ts) (jh:ψ ((x==("__debug__": ρ))=ϰ) qQZ): PS X (.Try body [.ExceptHandler (some<|.Name x np) (some n) (tG::kz) tH] [] [] pos) (aaW X.K i C0 tb ts):=by intro qc s σ H D I h;show wpAny_Try_except<|yx (hb qc s σ H D _ I h) (λf s1 q=>?_) λe s1 q=>?_;{cases f with|next=>(let⟨ak,H',I',q⟩:=q;show xn qc s1 ak H' D I' q)|ret v=>show q|brk=>show q|cont=>show q};{let⟨ak,H1,s2,t,a,cls,a0,B,H',rfl,os,bare,F,C,rfl,R,hq⟩:=q;have Q:X.A.frames=ϑ (X.env::X.outer):=(by rw[I.ok.frames,m]);have fl:Heap.FlyingW B (X.env::X.outer) a (.ref C) a0 s1.heap:=(by rw[<-m];show F.fl);show wpAny_looks_onW Q fr fl λh4 Y u4=>?_;show wpAny_landsW Y λG y U=>?_;have l:rm X.prog X.w (λo=>some<|.ref C) X.stack H1 H' s2.heap a (.ref C) a0 B G:=F.loose.on (by rw[m];show y) (u4.trans U)<|.inr rfl;have r:Inv X qc ak (upd H' a<|nH a<|.ref C) {s1 with heap:=G}:=t.AO (ch:=[]) os l.Y9 l.Nc bare λb z=>absurd z `d;show wpAny_handleBy_cons (codeAny_handlers_test<|je (r.gx a) O hm ?_ jh) (by intro q;cases q);let⟨oe,vs,he,P,hd,_⟩:=l.fl.first;let⟨bm0,Z⟩:=c0.at r.lS;show qA (looks_mroIn r.lS R) Z he P ?_;show codeAny_handlers_suite_as ?_;show lands_againW y λJ M S=>?_;have E:rm X.prog X.w (λo=>some<|.ref C) X.stack H1 H' s2.heap a (.ref C) a0 B J:=l.on (by rw[m];show M) S<|.inr rfl;have L:Inv X qc ak (upd H' a<|nH a<|.ref C) {s1 with heap:=J}:=t.AO (ch:=[]) os E.Y9 E.Nc bare λb z=>absurd z `d;show iK (X:=X.gx a) (L.gx a) hN hi (.inl hx) (v:=.ref a) rfl (λs7 I7=>?_)<|.inr hx;show yx (hs a qc s7 _ _ _ I7<|hq a F.hn) (λf s8 c=>?_) λo o z=>False.elim z;cases f with|next=>(let⟨p,g,j,c⟩:=c;show name_goes (j.kx I.ok) hN hi hx λo d=>{_,g,d,c})|brk=>(let⟨p,g,j,c⟩:=c;show name_goes (j.kx I.ok) hN hi hx λo d=>{_,g,d,c})|cont=>(let⟨p,g,j,c⟩:=c;show name_goes (j.kx I.ok) hN hi hx λo d=>{_,g,d,c})|ret u=>let⟨v,p,g,j,r8,c⟩:=c;show name_goes (j.kx I.ok) hN hi hx λo d=>{v,_,g,d,r8,c}}
end
structure XA(K:Φ)(C:ε):η where
 ga:findIn K (.ref C) "__getattribute__"= some (some<|.builtin "BaseException.__getattribute__")
 gh:findIn K (.ref C) "__getattr__"= some none
 cl:findIn K (.ref C) "__class__"= some (some<|.builtin "object.__class__")
section
variable{prog:Ψ}{w:Ω}{A:ϕ}{E:ξ->ζ->η}{h:Γ}{g:Array GenState}{d:Drawn}{t:π}{os:OsState}{a:ε}{o:Obj}{C:ε}{bm:δ ξ}{K:Φ}
def Rr(c:tE h C bm)(m:bm.contains (.type "object")=ϱ)(hx:h.get? a=ϑ o)(l:o.cls=.ref C)(hq:R (.ok<|.ret<|.ref C) ⟨h,g,d,t,os⟩): codeAny `n A (.call (.builtin "getset_descriptor.__get__") {[.builtin "object.__class__",.ref a,.ref C],[]}) R ⟨h,g,d,t,os⟩:=by
 let⟨N,nm,q,bs,j,x,sub,y,n,v,k0,k1,k2,k3,r,s,p,_,_,_⟩:=c;have e:(⟨h,g,d,t,os⟩:ζ).TypeIs (.builtin "object.__class__") "getset_descriptor":=F.typeOf_object_class;have ow: ".".intercalate ("object.__class__".cutAt '.').dropLast ="object":=`c
 have i:(Value.ref C::bm).contains (.type<|".".intercalate ("object.__class__".cutAt '.').dropLast)=ϱ:=by rw[ow,List.contains_cons,m,Bool.or_true]
 show codeAny_call_builtin F.slot_gs_get.plain F.entry_gs_get<|F.slot_gs_get.check _ _ _ _ _ _ _ _ e (F.args_gs_get _ _ _) ?_;repeat (any_goals (first|assumption|(with_reducible show wpAny_loadPart_at hx ?_;rw[l])|(with_reducible show wpAny_isSubtype_exc p ?_;rw[i])|wp_step))
 show{Code.quiet_builtin _<|`c,yT F.entry_object_class ?_};repeat (any_goals (first|assumption|(with_reducible show wpAny_loadPart_at hx ?_;rw[l])|wp_step))
def JQ(c:tE h C bm)(hx:h.get? a=ϑ o)(m:o.cls=.ref C)(hq:Q () ⟨h,g,d,t,os⟩):wpAny M A (checkBuiltinCall "BaseException.__getattribute__" {[.ref a,nameV],[]}) Q E ⟨h,g,d,t,os⟩:=by
 have hb:=c.base;let⟨N,nm,q,bs,e,s,sub,v,j,r,k0,k1,k2,k3,n,p,l,_,_,_⟩:=c;have k1:builtinKind "BaseException.__getattribute__"= some .slot:=`c
 have k2:splitId "BaseException.__getattribute__"= some ("BaseException","__getattribute__"):=`c
 have i:(Value.ref C::bm).contains (.type "BaseException")=ϱ:=by rw[List.contains_cons,hb,Bool.or_true]
 have ha:=F.args_bexc_ga (.ref a) nameV;simp only[checkBuiltinCall,k1,k2];show zb ?_;unfold isInstance;repeat (first|(with_reducible show wpAny_loadPart_at hx ?_;rw[m])|(with_reducible show wpAny_isSubtype_exc l ?_;rw[i])|wp_step)
 show hq
def JR(X:K.In h)(xa:XA K C)(c:tE h C bm)(j:bm.contains (.type "object")=ϱ)(hx:h.get? a=ϑ o)(e:o.cls=.ref C)(hq:Q (.done<|.ret<|.ref C) ⟨h,g,d,t,os⟩): wpAny `n A (Builtin.«object.__getattribute__» {[.ref a,.str "__class__" tk],[]}) Q E ⟨h,g,d,t,os⟩:=by
 have l:(⟨h,g,d,t,os⟩:ζ).TypeIs (.builtin "object.__class__") "getset_descriptor":=F.typeOf_object_class;have i:=looks_findIn (M:=model prog w) X xa.cl;have n:=F.typeOf_object_class;have p:=F.slot_gs_get.lookup;have m:=F.slot_gs_set.lookup;repeat (any_goals (first|assumption|(with_reducible show wpAny_loadPart_at hx ?_;rw[e])|with_reducible show i.at ?_|wp_step))
 show Rr c j hx e ?_;repeat (any_goals (first|assumption|wp_step))
def Wa(X:K.In h)(xa:XA K C)(c:tE h C bm)(m:bm.contains (.type "object")=ϱ)(hx:h.get? a=ϑ o)(e:o.cls=.ref C)(hq:Q (.ref C) ⟨h,g,d,t,os⟩): wpAny `n A (getAttrBy (.ref a) (.str "__class__" tk) false) Q E ⟨h,g,d,t,os⟩:=by
 have i:=F.attrBase_ValueError;have r:=i.ga.bind<|.ref a;have j:=looks_findIn (M:=model prog w) X xa.ga;have L2:=looks_findIn (M:=model prog w) X xa.gh;have n:(Value.builtin "BaseException.__getattribute__"== Value.builtin "object.__getattribute__")=ϰ:=`c
 have l:(false&&onTheHeap (Value.builtin "BaseException.__getattribute__"))=ϰ:=rfl;have p:(onTheHeap (Value.ref C)&&Value.builtin "BaseException.__getattribute__"== Value.builtin "object.__getattribute__")=ϰ:=by rw[n];rfl
 repeat (any_goals (first|assumption|(with_reducible show wpAny_loadPart_at hx ?_;rw[e])|with_reducible show j.at ?_|with_reducible show L2.at ?_|wp_step))
 show codeAny_call_builtin i.ga.plain F.entry_bexc_ga<|JQ c hx e<|JR X xa c m hx e ?_;repeat (any_goals (first|assumption|wp_step))
def JT(X:K.In h)(xa:XA K C)(c:tE h C bm)(i:bm.contains (.type "object")=ϱ)(hx:h.get? a=ϑ o)(e:o.cls=.ref C)(hq:Q (some<|.ref C) {h,g,d,t+1,os}): wpAny `n A (getAttr? (.ref a) "__class__") Q E ⟨h,g,d,t,os⟩:=by unfold getAttr? getAttrBy?;repeat (any_goals (first|assumption|with_reducible apply Wa X xa c i hx e|wp_step))
end
def tE.obj(x:tE h C bm):bm.contains (.type "object")=ϱ:=by let⟨_,_,_,_,_,_,_,_,_,_,_,_,_,_,_,_,_,_,_,T⟩:=x;show T.hasType<|`a
theorem A5{K:Φ}{a C:ε}(c:XC K C)(xa:XA K C):KitX K (.ref a) (.ref C) (λh=>∃o vs,h.get? a=ϑ o/\o.cls=.ref C/\o.data=.fields vs) where
 ty:=by
  rintro M h X ⟨o,vs,hx,hc,_⟩
  show hc ▸ (PySem.W.Looks.ld hx).andThen .now
 it:=λM h X y=>by
  let⟨bm,N,nm,q,bs,hdct,sn,sub,ab,col,dd,k0,k1,k2,k3,k5,mN,hC,_,_,_⟩:=c.at X
  intro A Q E s k q
  unfold isType loadHead
  show zb<|wpAny_loadPart (k _ _ hC)<|zr q
 ne:=λh tp dd az n sl X htp=>by
  let⟨bm,N,nm,q,bs,hdct,sn,sub,ab,col,Me,k0,k1,k2,k3,k5,mN,hC,_,_,_⟩:=c.at X
  show Bool.eq_false_iff.mpr λz=>?_
  have e:C=tp:=Value.ref.inj<|beq_iff_eq.mp z
  subst e
  have q:=congrArg (λx=>x.map (·.cls))<|hC.symm.trans htp
  have q:some (Value.type "type")=ϑ (Value.type "tuple"):=q
  show absurd q<|`a
 ca:=λ{prog w A E Q s} X ⟨o,vs,hx,hc,_⟩ k=>by
  let⟨h,g,d,t,os⟩:=s
  let⟨bm,c'⟩:=c.at X
  show JT X xa c' c'.obj hx hc k
section
variable{X:Cx}
def xA:eQ X (.builtin "isinstance") (λxs H Q=>∃a C c u b,xs=[.ref a,c]/\H a=ϑ (nH a<|.ref C)/\XC X.K C/\XA X.K C/\RelV c u/\(∀d,RelV c d->d=u)/\kitOne X.K (.ref C) u=ϑ b/\Q (.bl b) H):=by intro qc s σ H xs us Q I r h;let⟨a,C,c,u,b,rfl,ha,g,xa,n,i,e,q⟩:=h;let⟨v,j,rfl,l,m⟩:=vals2 r;have:=i j m;subst this;cases (show v=Value.ref a from l);let⟨p,_⟩:=I.aK a _ ha;show kia_one (A5 g xa) I.lS p e (λz=>nomatch z) λtk=>{.bl b,H,I.tok tk,rfl,q}
theorem OZ(L:dS X E):Passes (gb X.prog X.w X.mg) X E:=V9 L λz z z h=>h
end
def ma{X:Cx}{K:Φ}(e:X.K=K):eQ X (.builtin "isinstance") (λxs H Q=>∃a C c u b,xs=[.ref a,c]/\H a=ϑ (nH a<|.ref C)/\XC K C/\XA K C/\RelV c u/\(∀d,RelV c d->d=u)/\kitOne K (.ref C) u=ϑ b/\Q (.bl b) H):=by subst e;show xA
noncomputable def jC(l:δ ρ):δ Str:=l.foldl (λc x=>if x∈c then c else c++[x]) []
def A6(l:δ ρ)(x:ρ):jC (l++[x])=if x∈jC l then jC l else jC l++[x]:=by unfold jC;rw[List.foldl_append];rfl
theorem Nd:∀(l:δ ρ),(jC l).length<=l.length:=λl=>by
 have all:∀(r c:δ ρ),(r.foldl (λc x=>if x∈c then c else c++[x]) c).length<=c.length+r.length:=by intro r;induction r with|nil=>intro c;simp|cons x r a=>intro c;rw[yS];show zH (a _) ?_;split<;>simp<;>try lia
 simpa [jC]using all l []
section
variable{prog:Ψ}{w:Ω}{A:ϕ}{R:Result->ζ->η}{I:ε}{fp wr:δ ε}{G:Array GenState->Array GenState->η}{n:π}{P:π->ξ->η}{St:π->ζ->η}
def JU(W:WalksS prog w A.in1 I fp wr G n P St)(S:ε)(a:S∉fp)(xs:δ ρ)(hx:xs.length=n)(H:∀i v,P i v->∃x t,xs[i]?=some x/\v=.str x t)(hb:n+1<scanBound): ∀(k i:π)(s:ζ),i+k=n->St i s->s.heap.SetOf (strKind prog w) S (λy=>ω<|y∈jC (xs.take i)) (jC<|xs.take i).length->(∀s',Moved (S::wr) G s s'->s'.heap.SetOf (strKind prog w) S (λy=>ω<|y∈jC xs) (jC xs).length->R (.ok<|.ret .none) s')->codeAny `n A (.builtin "set.update.loop" {[.ref S,.ref I],[]}) R s:=by have K:S∉wr:=λh=>a<|W.sub _ h;have up:∀b∈wr,b∈S::wr:=λb hb=>zh _ hb;have p:∀{i:π}{s s':ζ},Moved wr G s s'->s.heap.SetOf (strKind prog w) S (λy=>ω<|y∈jC (xs.take i)) (jC<|xs.take i).length->s'.heap.SetOf (strKind prog w) S (λy=>ω<|y∈jC (xs.take i)) (jC<|xs.take i).length:=λhm ⟨o,es,ep,tb,ho,rest⟩=>{o,es,ep,tb,hm.heap S _ K ho,rest};intro k;induction k with|zero=>intro i s hk j g l;have e:i=n:=`b;subst e;show yT F.entry_set_update_loop ?_;rw[Around.under_plainId F.plain_set_update_loop _];change wpAny _ A.in1 (pyNext (.ref I) >>=_) _ _ s;show zb<|W.done s _ _ j λs' hm=>?_;change wpAny _ A.in1 (ret Value.none) _ _ s';have q:=p hm g;rw[<-hx,yO]at q;show zr (l s' (hm.mono up) q)|succ k J=>intro i s hk j g l;have lt:i<n:=`b;show yT F.entry_set_update_loop ?_;rw[Around.under_plainId F.plain_set_update_loop _];change wpAny _ A.in1 (pyNext (.ref I) >>=_) _ _ s;show zb<|W.item i s _ _ lt j λv s' z C hm=>?_;let⟨x,t,ex,rfl⟩:=H i v z;have q:=p hm g;change wpAny _ A.in1 (holding [Value.str x t] (setAdd S<|.str x t) >>=_) _ _ s';show zb<|yQ ?_;unfold setAdd;show yQ ?_;show zb<|(strKind prog w).pyHash (k:=x) (strKind_is _ _ _ _) ?_;have c:(jC<|xs.take i).length+1<scanBound:=(by have:=Nd<|xs.take i;rw[yq]at this;lia);show wpAny_setAddHashed_of (knd:=strKind prog w) (s:={s' with toks:=s'.toks+1}) (strKind_is _ _ _ _) rfl q c λh' r L=>?_;have tk:xs.take (i+1)=xs.take i++[x]:=(by rw[List.take_succ,ex];rfl);have B:h'.SetOf (strKind prog w) S (λy=>ω<|y∈jC (xs.take<|i+1)) (jC<|xs.take<|i+1).length:=(by show SetOf_congr L (λy=>?_) ?_;rw[tk,A6];by_cases h:x∈jC (xs.take i);rw[qb h];by_cases m:y=x;subst m;simp[h];simp[m];rw[qa h];simp;rw[tk,A6];by_cases h:x∈jC (xs.take i);rw[qb h,qb<|by simpa using h];rw[qa h,qa<|by simpa using h];simp);show zr {plainId_quiet F.plain_set_update_loop _,J (i+1) _ `b (W.frame _ s' _ _ C (y9 _) λb hb o e=>?_) B λC3 E d=>?_};rw[r.2 b (λh:b=S=>a<|by rw[<-h];show hb)];show e;show l C3 (Moved.trans W.gtrans ((hm.mono up).then_heap (y9 _) λb o hb e=>?_) E) d;rw[r.2 b (λh:b=S=>hb<|by rw[h];show zw)];show e
def A7(N:A.handled=ϐ)(hl:s.heap.IsList l items)(hx:xs.length=items.size) (hi:∀(i:π)(v:ξ),items[i]?=some v->∃x t,xs[i]?=some x/\v=.str x t) (hb:items.size+1<scanBound) (h:∀(h':Γ)(tk:π),h'.SetOf (strKind prog w) s.heap.objs.size (λy=>ω<|y∈jC xs) (jC xs).length->(∀b o,b<s.heap.objs.size->s.heap.get? b=ϑ o->h'.get? b=ϑ o)->Q (.ref s.heap.objs.size) {s with heap:=h',toks:=tk}): wpAny `n A (call (.type "set") [.ref l]) Q E s:=by
 let⟨c,tl,m0⟩:=F.called_set.mro;have m1:=F.called_set.made;have m2:=F.called_set.sub;show wpAny_call<|codeAny_of_tree ?_;change wpAny _ _ (callAny (.type "set") _) _ _ _;show zr {Code.quiet_builtin _<|`c,yT F.entry_type_call ?_};rw[Around.under_plain (weight_type_call_type "set" [.ref l] []) rfl];have m3:=F.called_set.notType;have m4:=F.called_set.canCreate;have m5:=F.typeCall_set_1<|.ref l;repeat (any_goals (first|assumption|wp_step))
 show y4 (code_set_new_1 (.ref l) (E:=E) (Q₁:=λm s1=>∃a:χ,m=.ref s.heap.objs.size/\s1={s with heap:=s.heap.push {cls:=.type "set",dict:=none,data:=.set #[] 0 (.fresh 0 0 a)}}) λa=>⟨a,rfl,rfl⟩) λr s1 hr=>?_
 cases r with
 |error e=>show hr
 |ok fl =>
  cases fl with
  |ret m =>
   let⟨a,rfl,rfl⟩:=hr;generalize g:({cls:=.type "set",dict:=none,data:=.set #[] 0 (.fresh 0 0 a)} : Obj)=O;have n:(s.heap.push O).get? s.heap.objs.size=ϑ O:=zo _ (by rw[<-g];rfl);have G:Shared.TypeIs {s with heap:=s.heap.push O} (.ref s.heap.objs.size) "set":={_,n,by rw[<-g]};have i1:=F.called_set.init.lookup;have i2:=F.called_set.init.bind<|.ref s.heap.objs.size;(repeat (any_goals (first|assumption|wp_step)));show y4 (codeAny_call_builtin (R:=wants (λr s2=>r=.none/\∃h' tk,s2={s with heap:=h',toks:=tk}/\h'.SetOf (strKind prog w) s.heap.objs.size (λy=>ω<|y∈jC xs) (jC xs).length/\(∀b o,b<s.heap.objs.size->s.heap.get? b=ϑ o->h'.get? b=ϑ o)) E) F.called_set.init.plain F.entry_set_init<|check_set_init_1 G ?_) λL s2 d=>?_
   ·let⟨C,B,cl,p,dl⟩:=hl;let⟨a0,I,S,X⟩:=C;simp only at cl dl;subst cl;subst dl;have Z:(s.heap.push O).get? l=ϑ {cls:=.type "list",dict:=I,data:=.seq items p,slots:=X}:=za _ B;have j1:=F.sub_list_set;have j2:=F.sub_list_frozenset;have j3:(Value.type "list"== Value.type "dict")=ϰ:=`a;have il:(s.heap.push O).IsList l items:={_,Z,rfl,p,rfl};subst g;unfold Builtin.«set.__init__» noKeywords Builtin.Frozenset.updateFrom;generalize j:pyIter=PI;wp_walk;subst j;show wpAny_pyIter_list il ?_;show zb<|wpAny_runValue ?_;have z:l<s.heap.objs.size:=zA B;have h3:A.in1.in1.in1.handled=ϐ:=(by simp[N]);have ne:l≠(s.heap.push {cls:=.type "set",dict:=none,data:=.set #[] 0 (.fresh 0 0 a)}).objs.size:=(by rw[ye];show zD<|Nat.lt_succ_of_lt z);have nf:s.heap.objs.size∉[(s.heap.push {cls:=.type "set",dict:=none,data:=.set #[] 0 (.fresh 0 0 a)}).objs.size,l]:=(by rw[ye];simp only[zl,zE,zO,or_false,not_or];show{zD<|Nat.lt_succ_self _,yw z});show JU ((Walks.list h3 _ l ne items).toS) s.heap.objs.size nf xs hx hi hb (items.size-0) 0 _ `b {{_,zo _ rfl,rfl,rfl},(il.push _)} ?hS0 ?hR
    case hS0 =>
     have gg:=za {cls:=.type "list_iterator",data:=.fields #[.ref l,.int 0 0]} n
     show SetOf_congr ((setObjOf_fresh (knd:=strKind prog w) a).setOf gg<|by unfold scanBound;lia) (λu=>rfl) rfl
    case hR =>
     intro s' hm q
     let⟨h',K,d',U,M⟩:=s'
     have Y:K=s.gens:=hm.gens;have H:d'=s.drawn:=hm.drawn;have P:M=s.os:=hm.os
     subst Y;subst H;subst P
     change wpAny _ _ _ _ _ _;show zr ?_;change wpAny _ _ (ret Value.none) _ _ _
     show zr {rfl,h',U,rfl,q,λb o hb e=>?_}
     have b2:b≠(s.heap.push {cls:=.type "set",dict:=none,data:=.set #[] 0 (.fresh 0 0 a)}).objs.size:=by rw[ye];show zD<|Nat.lt_succ_of_lt hb
     show hm.heap b o ?_<|za _<|za _ e
     simp only[zl,zE,zO,or_false,not_or];show{zD hb,b2}
   {cases L with|error e=>show d|ok J=>cases J with|ret r=>(let⟨rfl,h',tk,rfl,q,k'⟩:=d;(repeat (any_goals (first|assumption|wp_step)));show h _ _ q k')|_=>show d.elim}
  |_=>show hr.elim
end
noncomputable def RA(P:Ψ)(w:Ω)(a:ε)(xs:δ ρ):HO:=.ext λh=>h.SetOf (strKind P w) a (λy=>ω<|y∈jC xs) (jC xs).length
def Ng(q:h.SetOf (strKind P w) a (λy=>ω<|y∈jC xs) (jC xs).length):bj P w H h a (RA P w a xs):=by let⟨o,es,ep,t,ho,rest⟩:=id q;show{q,⟨o,ho⟩,by rintro h1 h2 ⟨o,es,ep,t,ho,rest⟩ k;show{o,es,ep,t,k _ ho,rest}}
theorem A8:∀{xs:δ ρ}{a:δ ξ},Vals (xs.map V.str) a->∀(i:π)(v:ξ),a[i]?=some v->∃x t,xs[i]?=some x/\v=.str x t|[],_,.nil,i,v,e=>by simp at e|x::xs,_,.cons r rs,0,v,e=>(by let⟨t,q⟩:=r;simp at e;show{x,t,rfl,by rw[<-e];show q})|x::xs,_,.cons r rs,i+1,v,e=>by let⟨y,t,e1,e2⟩:=A8 rs i v (by simpa using e);show{y,t,by simpa using e1,e2}
section
variable{X:Cx}
def Hn{P:Ψ}{w:Ω}{K:Φ}(d:X.prog=P)(hw:X.w=w)(n:X.K=K)(t:X.calm=ϱ): eQ X (.type "set") (λvs H Q=>∃p xs,vs=[.ref p]/\jf K H p (xs.map V.str)/\xs.length<4000/\∀l,H l=ϐ->Q (.ref l) (upd H l<|RA P w l xs)):=by
 subst d;subst hw;subst n;intro qc s σ H vs us Q I r h;let⟨p,xs,rfl,hq,hz,q⟩:=h;let⟨u,rfl,j⟩:=vals1 r;cases j;let⟨g,c,m,_⟩:=I.list hq;have a:xs.length=g.toArray.size:=by have:=c.length;simpa using this
 show A7 (I.ok.hd t) m.isList a (λi v e=>A8 c i v<|by simpa using e) (by rw[<-a];unfold scanBound;lia) λh' tk qs kp=>?_;show{.ref s.heap.objs.size,_,I.laid (t':=tk) (λb o e=>kp b o (zA e) e) (zj _)<|Ng qs,rfl,q _<|I.aK.fresh<|zj _}
def Ho(d:X.prog=P)(hw:X.w=w):eQ X (.builtin "len") (λvs H Q=>∃a xs,vs=[.ref a]/\H a=ϑ (RA P w a xs)/\Q (.int (jC xs).length) H):=by subst d;subst hw;intro qc s σ H vs us Q I r h;let⟨a,xs,rfl,ha,q⟩:=h;let⟨u,rfl,e⟩:=vals1 r;cases e;let⟨⟨o,es,ep,t,ho,c,hd,i,g,hb,hf,hn⟩,_⟩:=I.aK a _ ha;show call_len_set ho c hd hf (by unfold scanBound at hb;lia) ?_;show{.int (jC xs).length,H,I.tok _,{_,by rw[hn]},q}
end
def wj(l:δ ρ):(jC l).length=l.length↔l.Nodup:=by
 have all:∀(r c:δ ρ),c.Nodup->((r.foldl (λc x=>if x∈c then c else c++[x]) c).length=c.length+r.length↔(c++r).Nodup):=by intro r;induction r with|nil=>intro c d;simpa using d|cons x r a=>intro c d;rw[yS];by_cases h:x∈c;{rw[qb h];have le:(r.foldl (λc x=>if x∈c then c else c++[x]) c).length<=c.length+r.length:=(by have all2:∀(r c:δ ρ),(r.foldl (λc x=>if x∈c then c else c++[x]) c).length<=c.length+r.length:=(by intro r;induction r with|nil=>intro c;simp|cons x r a=>intro c;rw[yS];show zH (a _) ?_;split<;>simp<;>try lia);show all2 r c);show{λe=>by simp at e;lia,λe=>?_};show absurd rfl<|(List.nodup_append.mp e).2.2 x h x<|`d};rw[qa h];have g:(c++[x]).Nodup:=nF d h;have:=a (c++[x]) g;simp only[zq,zV,List.length_nil,List.append_assoc,List.singleton_append]at this⊢;rw[<-this];constructor<;>intro e<;>lia
 simpa [jC]using all l [] List.nodup_nil
theorem jD:entryFor table "dict.update.loop"= some Builtin.«dict.update.loop»:=entryFor_of_tree<|by kernel_rfl
theorem d_:plainId "dict.update.loop"= true:=`c
def vp:typeLookup (.type "tuple") "keys"= pure none:=by rw[typeLookup_type,builtinLookup_eq_fast];kernel_rfl
section
variable{prog:Ψ}{w:Ω}{A:ϕ}{E:ξ->ζ->η}{s:ζ}
def vq(hx:s.heap.get? a=ϑ o)(p:o.cls=.type "tuple")(j:o.data=.seq xs k)(hd:o.dict=ϐ)(hA:A.handled=ϐ) (h:∀h' tk,(∀b m,s.heap.get? b=ϑ m->h'.get? b=ϑ m)->Q none {s with heap:=h',toks:=tk}):wpAny `n A (getAttr? (.ref a) "keys") Q E s:=by
 let⟨c,cZ,r,sl⟩:=o;simp only at p j hd;subst p j hd;let⟨hp,g,d,tk,os⟩:=s;have i:∀l,(⟨hp,g,d,l,os⟩:ζ).TypeIs (.ref a) "tuple":=λu=>{_,hx,rfl};have x:=sub_AttributeError;have C:=F.slot_tuple_getattribute.lookup;have t:=F.slot_tuple_getattribute.bind<|.ref a;have v:=am_tuple_getattr_none;unfold getAttr? getAttrBy? getAttrBy;repeat (any_goals (first|assumption|show i _|((with_reducible change wpAny _ _ (call (Value.builtin "tuple.__getattribute__") _ _) _ _ _);show y8 F.slot_tuple_getattribute (i _) am_entry_tuple_getattribute (F.args_tuple_getattribute_2 _ _) (meets_getattribute_miss_tuple a xs k sl "keys" _ vp `c<|by size_fits) {hx,hA,λh' l e n=>?_})|wp_step))
 let⟨z,y,B⟩:=n.there;change wpAny _ _ (getattributeRaised _ _ _ _ _ _ _) _ _ _;unfold getattributeRaised;repeat (any_goals (first|assumption|wp_step))
 show h _ _ n.keeps
end
section
variable{prog:Ψ}{w:Ω}{A:ϕ}{R:Result->ζ->η}{I:ε}{fp wr:δ ε}{G:Array GenState->Array GenState->η}{n:π}{P:π->ξ->η}{St:π->ζ->η}
def Hq(W:WalksS prog w A.in1 I fp wr G n P St)(D:ε)(d:D∉fp)(kvs:δ<|Key×ξ)(hx:kvs.length=n)(base:Γ) (K:∀i v,P i v->∃(b:ε) (k:Key) (key val:ξ) (o:Obj) (m:π),kvs[i]?=some (k,val)/\v=.ref b/\(aJ prog w).is k key=ϱ/\base.get? b=ϑ o/\o.cls=.type "tuple"/\o.data=.seq #[key,val] m/\b≠D/\b∉wr) (hb:n<=Ϙ): ∀(k i:π) (s:ζ) (c:ν) (t:Tok),i+k=n->St i s->s.heap.DictOf (aJ prog w) D (merged []<|kvs.take i)->(∀b o,base.get? b=ϑ o->b≠D->b∉wr->s.heap.get? b=ϑ o)->(∀s',Moved (D::wr) G s s'->s'.heap.DictOf (aJ prog w) D (merged [] kvs)->R (.ok<|.ret .none) s')->codeAny `n A (.builtin "dict.update.loop" {[.ref D,.ref I,.int c t,.none],[]}) R s:=by have C:D∉wr:=λh=>d<|W.sub _ h;have up:∀b∈wr,b∈D::wr:=λb hb=>zh _ hb;intro k;induction k with|zero=>(intro i s c t hk y p l z;have e:i=n:=`b;subst e;show yT jD ?_;rw[Around.under_plainId d_ _];change wpAny _ A.in1 (pyNext (.ref I) >>=_) _ _ s;show zb<|W.done s _ _ y λs' hm=>?_;change wpAny _ A.in1 (Builtin.Dict.addKeywords D [] >>=_) _ _ s';have q:s'.heap.DictOf (aJ prog w) D (merged []<|kvs.take i):=(by let⟨o,es,ep,ho,rest⟩:=p;show{o,es,ep,hm.heap D _ C ho,rest});rw[<-hx,yO]at q;show zb<|zr<|zr<|z s' (hm.mono up) q)|succ k L=>intro i s c t hk y p l z;have lt:i<n:=`b;show yT jD ?_;rw[Around.under_plainId d_ _];change wpAny _ A.in1 (pyNext (.ref I) >>=_) _ _ s;show zb<|W.item i s _ _ lt y λv s' F H hm=>?_;let⟨b,ky,key,val,o,m,O,rfl,N,ho,M,hd,r,a⟩:=K i v F;have q:s'.heap.DictOf (aJ prog w) D (merged []<|kvs.take i):=(by let⟨o,es,ep,ho,rest⟩:=p;show{o,es,ep,hm.heap D _ C ho,rest});have B:s'.heap.get? b=ϑ o:=hm.heap b o a<|l b o ho r a;have g:(merged []<|kvs.take i).length<=sizeLine:=(by have:=merged_length_le ([]:δ (Key×ξ))<|kvs.take i;rw[yq]at this;simp at this;lia);have tk:merged [] (kvs.take<|i+1)=stored (merged []<|kvs.take i) ky val:=merged_take_succ [] kvs i (ky,val) O;show zb<|yQ<|zb<|wpAny_tryCatch ?_;unfold Builtin.Dict.pairItems;show zb<|wpAny_typeOf (T:="tuple") ⟨o,B,M⟩ ?_;change wpAny _ A.in1 (seqItems? (.ref b) >>=_) _ _ s';show zb<|wpAny_seqItems B hd<|zr ?_;change wpAny _ A.in1 (holding [key,val]<|dictSet D key val) _ _ s';show yQ<|wpAny_dictSet_pairs N q (λh' E x=>?_) g;rw[<-tk]at E;show zr {plainId_quiet d_ _,L (i+1) _ _ _ `b (W.frame _ s' _ _ H (y9 _) λb hb o e=>?_) E (λb o e h1 h2=>?_) λC3 J j=>?_};rw[x.2 b (λh:b=D=>d<|by rw[<-h];show hb)];show e;rw[x.2 b h1];show hm.heap b o h2<|l b o e h1 h2;show z C3 (Moved.trans W.gtrans ((hm.mono up).then_heap (y9 _) λb o hb e=>?_) J) j;rw[x.2 b (λh:b=D=>hb<|by rw[h];show zw)];show e
def vt(I:A.handled=ϐ)(t:s.heap.get? l=ϑ ol)(cl:ol.cls=.type "tuple")(dl:ol.data=.seq items m)(O:ol.dict=ϐ)(hx:kvs.length=items.size) (hi:∀(i:π) (v:ξ),items[i]?=some v->∃(b:ε) (k:Key) (key val:ξ) (o:Obj) (m:π),kvs[i]?=some (k,val)/\v=.ref b/\(aJ prog w).is k key=ϱ/\s.heap.get? b=ϑ o/\o.cls=.type "tuple"/\o.data=.seq #[key,val] m) (hb:items.size<=Ϙ) (h:∀(h':Γ) (tk:π),h'.DictOf (aJ prog w) s.heap.objs.size (merged [] kvs)->(∀b o,s.heap.get? b=ϑ o->h'.get? b=ϑ o)->Q (.ref s.heap.objs.size) {s with heap:=h',toks:=tk}): wpAny `n A (call (.type "dict") [.ref l]) Q E s:=by
 show callType_codes (Q₁:=λobj r=>obj=.ref s.heap.objs.size/\r={s with heap:=s.heap.push {cls:=.type "dict",data:=.dict #[]}}) F.kt_called_dict (F.kt_typeCall_dict_1 _) F.entry_dict_init (kt_code_dict_new _ ⟨rfl,rfl⟩) ?_;rintro obj r ⟨rfl,rfl⟩;have n:(s.heap.push {cls:=.type "dict",data:=.dict #[]}).DictOf (aJ prog w) s.heap.objs.size []:=Heap.DictOf.new s.heap;have p:(s.heap.push {cls:=.type "dict",data:=.dict #[]}).get? l=ϑ ol:=za _ t;show{n.typeIs,F.args_dict_init_2 _ _,?_};unfold Builtin.«dict.__init__»;show zb ?_;unfold Builtin.Dict.selfAndRest;show zb<|wpAny_notOrdered_dict n.typeIs ?_;change wpAny _ _ (pure (s.heap.objs.size,[Value.ref l])) _ _ _;show zr ?_;change wpAny _ _ (Builtin.Dict.updateFrom "dict.__init__" s.heap.objs.size (.ref l) [] .none) _ _ _;unfold Builtin.Dict.updateFrom;show zb<|wpAny_typeOf (T:="tuple") ⟨ol,p,cl⟩ ?_;rw[qb<|`a];have x:A.in1.in1.handled=ϐ:=by simp[I]
 show zb<|vq p cl dl O x λh1 j d=>?_;have M:h1.get? l=ϑ ol:=d _ _ p;have d1:h1.DictOf (aJ prog w) s.heap.objs.size []:=by let⟨o,es,ep,ho,rest⟩:=n;show{o,es,ep,d _ _ ho,rest}
 have g:s.heap.objs.size<h1.objs.size:=by let⟨o,es,ep,ho,rest⟩:=d1;show zA ho
 have y:l<s.heap.objs.size:=zA t;change wpAny _ _ (rule _ >>=_) _ _ _;show zb<|y7 ?_;have a:h1.IsTuple l items:=⟨ol,M,cl,m,dl⟩;show zb<|wpAny_pyIter_tuple (s:=⟨h1,s.gens,s.drawn,j,s.os⟩) a ?_;have ne:l≠h1.objs.size:=zD<|Nat.lt_trans y g;have nf:s.heap.objs.size∉[h1.objs.size,l]:=by simp only[zl,zE,zO,or_false,not_or];show{zD g,yw y}
 show zr {plainId_quiet d_ _,?_};show Hq ((Walks.tuple x _ l ne items).toS) s.heap.objs.size nf kvs hx s.heap (λi v e=>?_) hb (items.size-0) 0 _ _ _ `b {{_,zo _ rfl,rfl,rfl},a.push _} ?hS0 ?hB ?hR;let⟨b,k,key,val,o,K,e1,e2,e3,e4,L,G⟩:=hi i v e;have c:=zA e4;show{b,k,key,val,o,K,e1,e2,e3,e4,L,G,zD c,by simp;show zD<|Nat.lt_trans c g};case hS0=>show d1.push _
 case hB=>show λb o e R P=>za _<|d _ _<|za _ e
 case hR =>
  intro s' hm q
  let⟨h',B,d',N,H⟩:=s'
  have C:B=s.gens:=hm.gens;have z:d'=s.drawn:=hm.drawn;have J:H=s.os:=hm.os
  subst C;subst z;subst J
  show{rfl,h h' N q λb o e=>?_}
  have c:=zA e
  show hm.heap b o ?_<|za _<|d _ _<|za _ e
  simp only[zl,zE,zO,or_false,not_or];show{zD c,zD<|Nat.lt_trans c g}
end
noncomputable def Fn(l:δ<|ρ×V):δ (Key×V):=l.foldl (λc p=>putK c (.inr p.1) p.2) []
def Prs(H:Hp)(ps:δ V)(kvs:δ<|ρ×V):Prop:=kvs.length=ps.length/\∀(i:π)(x:V)(p:ρ×V),ps[i]?=some x->kvs[i]?=some p->∃b,x=.ref b/\H b=ϑ (.tup [.str p.1,p.2])
section
variable{X:Cx}
def Dk(N:X.calm=ϱ):eQ X (.type "dict") (λvs H Q=>∃p ps kvs,vs=[.ref p]/\H p=ϑ (.tup ps)/\Prs H ps kvs/\∀l,H l=ϐ->Q (.ref l) (upd H l<|.dK<|Fn kvs)):=by
 intro qc s σ H vs us Q I r h;let⟨p,ps,kvs,rfl,hp,⟨hl,hq⟩,q⟩:=h;let⟨u,rfl,S⟩:=vals1 r;cases S;let⟨hz,t,A,ol,U,cl,R,m,dl⟩:=(show bj X.prog X.w H s.heap p (.tup ps) from I.aK p _ hp);have n:=A.length;have j:∀(i:π)(x:V)(g:ρ×V),ps[i]?=some x->kvs[i]?=some g->∃(b:ε)(key val:ξ)(o:Obj)(m:π),t[i]?=some (.ref b)/\(aJ X.prog X.w).is (.inr g.1) key=ϱ/\RelV g.2 val/\s.heap.get? b=ϑ o/\o.cls=.type "tuple"/\o.data=.seq #[key,val] m:=by intro i x g e1 e2;let⟨b,rfl,hb⟩:=hq i x g e1 e2;let⟨u,e3,ru⟩:=A.get e1;cases ru;let⟨_,a0,E,o,go,co,no,m2,K⟩:=(show bj X.prog X.w H s.heap b (.tup [.str g.1,g.2]) from I.aK b _ hb);let⟨k',P,rfl,⟨tk,rfl⟩,F⟩:=E.two;show{b,_,P,o,m2,e3,j_ _ _ _ _,F,go,co,by simpa using K}
 have Y:∃d:δ (Key×ξ),KV (kvs.map λp=>((.inr p.1:Key),p.2)) d/\∀(i:π)(x:V),ps[i]?=some x->∃(b:ε)(k:Key)(key val:ξ)(o:Obj)(m:π),d[i]?=some (k,val)/\t[i]?=some (.ref b)/\(aJ X.prog X.w).is k key=ϱ/\s.heap.get? b=ϑ o/\o.cls=.type "tuple"/\o.data=.seq #[key,val] m:=by clear hp q A dl hz;induction kvs generalizing ps t with|nil=>show{[],.nil,λi x e=>?_};have:ps=[]:=List.eq_nil_of_length_eq_zero (by simpa using hl.symm);subst this;simp at e|cons g r J=>cases ps with|nil=>simp at hl|cons y ys=>cases t with|nil=>simp at n|cons w0 ws=>let⟨b,key,val,o,m,e1,e2,e3,e4,L,G⟩:=j 0 y g rfl rfl;let⟨d,k1,k2⟩:=J ys (by simpa using hl) (λi x p a b=>hq (i+1) x p (by simpa using a)<|by simpa using b) ws (by simpa using n) (λi x p a b=>by simpa using j (i+1) x p (by simpa using a) (by simpa using b));show{(.inr g.1,val)::d,.cons ⟨rfl,e3⟩ k1,λi x e=>?_};cases i with|zero=>show{b,.inr g.1,key,val,o,m,rfl,e1,e2,e4,L,G}|succ i=>simpa using k2 i x (by simpa using e)
 let⟨d,z,C⟩:=Y;have O:d.length=t.length:=by have:=z.length;rw[zd]at this;lia
 show vt (kvs:=d) (I.ok.hd N) U cl dl R (by simpa using O) (λi v e=>?_) (by simp;lia) λh' tk qs kp=>?_;have e':t[i]?=some v:=by simpa using e
 have hi:i<t.length:=(zf.mp e').1;let⟨b,k,key,val,o,Z,e1,e2,e3,e4,L,G⟩:=C i (ps[i]' `b)<|zg _;rw[e']at e2;show{b,k,key,val,o,Z,e1,zS e2,e3,e4,L,G};have rel:KV (Fn kvs) (merged [] d):=by have all:∀(l:δ (ρ×V))(B:δ (Key×ξ))(c:δ (Key×V))(cv:δ (Key×ξ)),KV (l.map λp=>((.inr p.1:Key),p.2)) B->KV c cv->KV (l.foldl (λc p=>putK c (.inr p.1) p.2) c) (merged cv B):=(by intro l;induction l with|nil=>(intro B c cv h1 h2;cases h1;show h2)|cons p r J=>intro B c cv h1 h2;cases h1 with|@cons _ q _ qs M E=>let⟨k,v⟩:=q;let⟨rfl,A⟩:=M;show J qs _ _ E<|h2.put _ A);show all kvs d [] [] z .nil
 have big:=I.big;show{.ref s.heap.objs.size,_,I.laid (t':=tk) (λb o e=>kp b o e) (zj _) (o:=.dK<|Fn kvs) {?_,?_,_,rel,qs},rfl,q _<|I.aK.fresh<|zj _};have e1:=rel.length;have e2:=merged_length_le ([]:δ (Key×ξ)) d;simp at e2;lia;simp;show yw big
def Wi(K:Φ):R2:=λx y H Q=>∃a b xs ys,x=.ref a/\y=.ref b/\iy K H a xs/\iy K H b ys/\xs.length+ys.length<=Ϙ/\(xs=[]->Q (.ref b) H)/\(xs≠[]->ys=[]->Q (.ref a) H)/\(xs≠[]->ys≠[]->∀p,H p=ϐ->Q (.ref p) (upd H p<|.tup<|xs++ys))
def Nh:gX X (binaryOp .Add) (Wi X.K):=by intro qc s σ H x y v u Q I i d h;let⟨a,b,xs,ys,rfl,rfl,ha,hb,hz,A,z,E⟩:=h;by_cases hx:xs=[];cases i;cases d;let⟨g,w,p,_⟩:=I.tuple ha;let⟨B,L,p2,_⟩:=I.tuple hb;let⟨⟨cls,C,m,sl⟩,ho,l,n,hd⟩:=id p;let⟨⟨t,G,data2,J⟩,j,o,r,c⟩:=id p2;simp only at l hd o c;subst l hd o c;have e:g=[]:=w.rO.mpr hx;show concat_meets {_,ho,rfl} {_,j,rfl} noFill_tuple_add seq_tuple_add PySem.F.slot_tuple_add PySem.F.entry_tuple_add (PySem.F.args_tuple_add_2 _ _) (tuple_addW0 a b g.toArray B.toArray n r C G sl J<|by simp[e]) {ho,j,.ref b,H,I,rfl,A hx};show MT qc s σ H _ _ v u Q I i d {a,b,xs,ys,rfl,rfl,ha,hb,hx,hz,z hx,E hx}
theorem Wj(h:n<=1000):n<=sizeLine:=yU<|lC h
end
abbrev nI(h:Γ)(T:ε)(arr:Array ξ):Prop:=h.get? T=ϑ {cls:=.type "tuple",data:=.seq arr}
theorem xB(c:Heap.ExtBut b h h')(n:a≠b)(x:h.IsTupleIter a l i):h'.IsTupleIter a l i:=x.extBut c n
def O0{h h':Γ}{a l:ε}{i:π}(k:∀o,h.get? a=ϑ o->h'.get? a=ϑ o)(x:h.IsTupleIter a l i):h'.IsTupleIter a l i:=by let⟨o,e,r⟩:=x;show{o,k o e,r}
section
variable{prog:Ψ}{w:Ω}{A:ϕ}{E:ξ->ζ->η}{s:ζ}
theorem wk(h:n<=3):n<=sizeLine:=Wj<|zH h<|`a
def Hs(a:nI s.heap T arr)(hz:arr.size<=3)(h:∀h',nI h' T (arr.setIfInBounds k x)->Heap.SameBut T s.heap h'->Q () {s with heap:=h'}):wpAny `n A (updateSeq T (·.setIfInBounds k x)) Q E s:=by show wpAny_updateSeq a rfl (h _ ?_<|yJ ..) (hz:=wk hz) (_hz':=by have:=wk hz;simp;lia);change Heap.get? _ _=_;rw[yC _ a rfl];simp[Obj.mapSeq]
def Dm(a:s.heap.IsTupleIter it l i)(hl:s.heap.IsTuple l items)(hx:items[i]?=some x)(e:∀h',h'.IsTupleIter it l (i+1)->Heap.SameBut it s.heap h'->Q x {s with heap:=h'}): wpAny `n A (Builtin.SmallTypes.nextOf<|.ref it) Q E s:=by let⟨o,ho,g,hd⟩:=id a;let⟨h,c,_,j,d⟩:=hl;unfold Builtin.SmallTypes.nextOf;show zb<|wpAny_callSpecial?_slot (name:=Str.ofString "__next__") a.typeIs F.slot_tuple_iterator_next<|yN F.slot_tuple_iterator_next a.typeIs F.entry_tuple_iterator_next ?_<|F.args_tuple_iterator_next_1 _;change wpAny _ _ (field (.ref it) 0 >>=_) _ _ s;show zb<|yb ho hd (x:=.ref l) rfl ?_;change wpAny _ _ (if (Value.ref l==Value.none)=ϱ then _ else _) _ _ s;rw[qa<|show ¬((Value.ref l==Value.none)=ϱ) from ze];change wpAny _ _ (field (.ref it) 1 >>=_) _ _ s;show zb<|yb ho hd (x:=.int i 0) rfl ?_;change wpAny _ _ (seqItems? (.ref l) >>=_) _ _ s;show zb<|wpAny_seqItems c d ?_;simp only[Int.toNat_natCast,hx];show zb<|y3 ho hd `d<|zr {x,rfl,zr<|e _ {_,yC _ ho<|Obj.isFreed_of_fields<|yF hd _,(Obj.cls_mapFields ..).trans g,by rw[yF hd];simp[rawInt]}<|yJ ..}
def tI(g:A.handled=ϐ)(c:s.heap.IsTupleIter it l i)(hl:s.heap.IsTuple l items)(hx:items[i]?=none) (h:∀h' e,Heap.ExtBut it s.heap h'->(∃o,h'.get? e=ϑ o/\o.cls=.type "StopIteration")->E (.ref e) {s with heap:=h'}):wpAny `n A (Builtin.SmallTypes.nextOf<|.ref it) Q E s:=by
 let⟨o,ho,r,hd⟩:=id c;let⟨n,d,_,p,j⟩:=hl;unfold Builtin.SmallTypes.nextOf;show zb<|wpAny_callSpecial?_slot (name:=Str.ofString "__next__") c.typeIs F.slot_tuple_iterator_next<|yN F.slot_tuple_iterator_next c.typeIs F.entry_tuple_iterator_next ?_<|F.args_tuple_iterator_next_1 _;change wpAny _ _ (field (.ref it) 0 >>=_) _ _ s;show zb<|yb ho hd (x:=.ref l) rfl ?_;change wpAny _ _ (if (Value.ref l==Value.none)=ϱ then _ else _) _ _ s;rw[qa<|show ¬((Value.ref l==Value.none)=ϱ) from ze];change wpAny _ _ (field (.ref it) 1 >>=_) _ _ s;show zb<|yb ho hd (x:=.int i 0) rfl ?_;change wpAny _ _ (seqItems? (.ref l) >>=_) _ _ s;show zb<|wpAny_seqItems d j ?_;simp only[Int.toNat_natCast,hx];show zb<|y7<|zb<|y3 ho hd `d ?_;change wpAny _ _ (newExc (.type "StopIteration") [] >>=_) _ _ _;show zb ?_;simp only[newExc,newTuple];show zb<|ym ?_ (by size_fits);show zb (m:=firstArgMember _ _)<|xb (a:=Value.none) (by first|rfl|(simp only[firstArgMember];rfl)) ?_;show ym ?_ (by size_fits);simp only[raiseNew];show zb<|wpAny_handled ?_;first|rw[show A.in1.handled=ϐ from g]|rw[g]
 show zb<|zr<|wpAny_throw<|h _ _ (((yJ ..).extBut.push _).push _) {_,zo _ rfl,rfl}
end
def ZS2(n c a:π)(i:π)(h:Γ):Prop:=IsZip h (n+4) (n+2) (n+3) .none/\nI h (n+2) #[.ref n,.ref<|n+1]/\(∃arr:Array ξ,arr.size=2/\nI h (n+3) arr)/\h.IsTupleIter n c i/\h.IsTupleIter (n+1) a i
section
variable{X:Cx}{qc:δ (ε×Obj)}{σ:St}{H:Hp}{s:ζ}{h':Γ}
def Inv.Fp(I:Inv X qc σ H s)(wr:δ ε)(hw:∀b∈wr,sN X qc H b)(k:∀b o,b∉wr->s.heap.get? b=ϑ o->h'.get? b=ϑ o):Inv X qc σ H {s with heap:=h',toks:=t'}:=by show I.step (g':=s.gens) (d':=s.drawn) (ch:=wr) (λb hb=>by let⟨_,a,_,c,d,e⟩:=hw b hb;show⟨c,a,d,e⟩) (λb o x x g e x=>k b o g e) (λb o x x g e x=>{o.slots,k b o g e}) (λx x x x n=>n) (λb o g e=>{o,k b o g e}) (λx x e=>e) (λx x x e=>e) (λb ps e=>{#[],by rw[e];simp}) (λm hm=>?_) (λb u e=>?_) I.bare;let⟨o,es,ep,ho,r⟩:=hm;show{o,es,ep,k _ o (λz=>(hw _ z).2.1 rfl) ho,r};show(I.aK b u e).nr (λc v g q=>k c v (λz=>?_) q) (λx q=>q) λx x q=>q;have n:=(hw c z).1;rcases g with rfl|g;rw[n]at e;cases e;rw[n]at g;cases g
def Inv.Fq(I:Inv X qc σ H s)(wr:δ ε)(hw:∀b∈wr,sN X qc H b)(k:∀b o,b∉wr->s.heap.get? b=ϑ o->h'.get? b=ϑ o)(h:s.heap.get? T=ϐ)(new:bj X.prog X.w (upd H T o) h' T o): Inv X qc σ (upd H T o) {s with heap:=h',toks:=t'}:=by
 have fr:H T=ϐ:=by cases q:H T with|none=>rfl|some u=>let⟨z,e⟩:=(I.aK T u q).get;rw[h]at e;cases e
 have ne:∀b u,H b=ϑ u->b≠T:=λb u e z=>by rw[z,fr]at e;cases e
 show I.step (g':=s.gens) (d':=s.drawn) (ch:=wr) (λb hb=>by let⟨_,a,_,c,d,e⟩:=hw b hb;show⟨c,a,d,e⟩) (λb o x x g e x=>k b o g e) (λb o x x g e x=>{o.slots,k b o g e}) (λb i x e n=>?_) (λb o g e=>{o,k b o g e}) (λb xs e=>by rw[ax<|ne b _ e];show e) (λb i u e=>by rw[ax<|ne b _ e];show e) (λb ps e=>{#[],by rw[ax<|ne b _ e,e];simp}) (λm hm=>?_) (λb u e=>?_) I.bare;have:b≠T:=λz=>by rw[z,h]at e;cases e
 rw[ax this];show n;let⟨o,es,ep,ho,r⟩:=hm;show{o,es,ep,k _ o (λz=>(hw _ z).2.1 rfl) ho,r};by_cases hb:b=T;subst hb;rw[aD]at e;cases e;show new;rw[ax hb]at e;show(I.aK b u e).nr (λc v g q=>k c v (λz=>?_) q) (λc q=>by rw[ax<|ne c _ q];show q) λc xs q=>by rw[ax<|ne c _ q];show q
 have n:=(hw c z).1;rcases g with rfl|g;rw[n]at e;cases e;rw[n]at g;cases g
end
noncomputable abbrev Ni(h:Γ)(l0:ε):Heap:=(h).push {cls:=.type "tuple_iterator",data:=.fields #[.ref l0,.int 0 0]}
noncomputable abbrev Nj(h:Γ)(l0 l1:ε):Heap:=(Ni h l0).push {cls:=.type "tuple_iterator",data:=.fields #[.ref l1,.int 0 0]}
noncomputable abbrev Nk(h:Γ)(l0 l1:ε):Heap:=(Nj h l0 l1).push {cls:=.type "tuple",data:=.seq #[.ref h.objs.size,.ref (Ni h l0).objs.size]}
noncomputable abbrev Nl(h:Γ)(l0 l1:ε):Heap:=(Nk h l0 l1).push {cls:=.type "tuple",data:=.seq #[.none,.none]}
noncomputable abbrev Ds(h:Γ)(l0 l1:ε):Heap:=(Nl h l0 l1).push {cls:=.type "zip",data:=.fields #[.none,.bool false,.bool false,.ref (Nj h l0 l1).objs.size,.ref (Nk h l0 l1).objs.size]}
theorem Du(a c:ε)(i e:Array ξ):Meets (Builtin.«zip.__new__» {[.type "zip",.ref a,.ref c],[]}) (λz R s=>s.heap.IsTuple a i/\s.heap.IsTuple c e/\R (.ok<|.ret<|.ref (Nl s.heap a c).objs.size) {s with heap:=Ds s.heap a c}):=.of_wp λprog w A R s h=>by let⟨hp,g,d,tk,os⟩:=s;let⟨m,j,h⟩:=h;have o:=sub_zip;have l:Heap.IsTuple (Shared.heap ⟨hp,g,d,tk,os⟩) a i:=m;have n:Heap.IsTuple (Shared.heap {hp.push {cls:=.type "tuple_iterator",data:=.fields #[.ref a,.int 0 0]},g,d,tk,os}) c e:=Heap.IsTuple.push (j) _;wp_walk using wpAny_pyIter_tuple l,wpAny_pyIter_tuple n;show{_,rfl,h}
def Dz(p:s.heap.IsTuple l0 Dn)(n:s.heap.IsTuple l1 Dq) (h:∀h',ZS2 s.heap.objs.size l0 l1 0 h'->(∀c o,s.heap.get? c=ϑ o->h'.get? c=ϑ o)->Q (.ref<|s.heap.objs.size+4) {s with heap:=h'}):wpAny `n A (call (.type "zip") [.ref l0,.ref l1]) Q E s:=by
 show callType_new F.called_zip `a (F.typeCall_zip_2 _ _) (F.newCall_zip_2 _ _) (λobj=>F.args_object_init_3 obj _ _) F.entry_zip_new (Du l0 l1 Dn Dq) {p,n,?_};have a:(Ni s.heap l0).objs.size=s.heap.objs.size+1:=ye ..;have e:(Nj s.heap l0 l1).objs.size=s.heap.objs.size+2:=by rw[ye,a]
 have g:(Nk s.heap l0 l1).objs.size=s.heap.objs.size+3:=by rw[ye,e]
 have d:(Nl s.heap l0 l1).objs.size=s.heap.objs.size+4:=by rw[ye,g]
 have r:(Ds s.heap l0 l1).objs.size=s.heap.objs.size+5:=by rw[ye,d]
 have g0:(Ds s.heap l0 l1).get? (s.heap).objs.size=ϑ _:=za _<|za _<|za _<|za _<|zo _ rfl;have j:(Ds s.heap l0 l1).get? (Ni s.heap l0).objs.size=ϑ _:=za _<|za _<|za _<|zo _ rfl;have l:(Ds s.heap l0 l1).get? (Nj s.heap l0 l1).objs.size=ϑ _:=za _<|za _<|zo _ rfl;have m:(Ds s.heap l0 l1).get? (Nk s.heap l0 l1).objs.size=ϑ _:=za _<|zo _ rfl;have i:(Ds s.heap l0 l1).get? (Nl s.heap l0 l1).objs.size=ϑ _:=zo _ rfl;change _/\_;rw[e,g,d]at i;rw[g]at m;rw[a,e]at l;rw[a]at j;rw[d];show{{_,i,rfl},h _ {i,l,!⟨m⟩,{_,g0,rfl,rfl},{_,j,rfl,rfl}} λc o x=>za _<|za _<|za _<|za _<|za _ x}
def Nm(K:Φ):V->δ V->Hp->VK->Prop:=λx vs H Q=>∃(a:ε)(xs:δ V)(y z:V)(j:π),x=.ref a/\vs=[y]/\jf K H a xs/\iN y=ϱ/\xs.all iN=ϱ/\xs[j]?=some z/\eqV z y=ϱ/\(∀m u,m<j->xs[m]?=some u->eqV u y=ϰ)/\Q (.int j) H
def Ht:VJ X "list.index" (Nm X.K):=by
 intro qc s σ H x vs v us Q I M L h;let⟨a,xs,y,z,j,rfl,rfl,hq,N,C,A,o,E,q⟩:=h;cases M;let⟨u,rfl,O⟩:=L.one;let⟨g,r,p,hz⟩:=I.list hq;let⟨⟨cls,G,B,sl⟩,ho,t,n,hd⟩:=p.isList;simp only at t hd;subst t hd;have hl:=r.length;have P:j<xs.length:=(zf.mp A).1;have fl:∀(m:π)(w:V),xs[m]?=some w->iN w=ϱ:=λm w e=>yr.mp C w<|zB e;have d:∀(m:π)(hm:m<g.toArray.size)(w:V),xs[m]?=some w->AX y g.toArray[m]=eqV w y:=λm hm w e=>by let⟨J,e',i⟩:=r.get e;have:g.toArray[m]=J:=(by have:=zf.mp e';simpa using this.2);rw[this];show C6 i<|fl m w e
 have R:Ϙ=16777216:=yg;show y8 PySem.F.slot_list_index {_,ho,rfl} PySem.F.entry_list_index (PySem.F.args_list_index_2 _ _) (SeqAt.list_indexAt a g.toArray n G sl u (AX y) j (by simp;lia) `b ?_ ?_) {ho,λw hw=>iO O N r C w<|by simpa using hw,{.int j,H,I.tok _,{_,rfl},q}};rw[d j _ z A];show o;intro m hm l;have c:m<xs.length:=`b
 rw[d m hm _<|zg c];show E m _ l<|zg c
def Wk:R2:=λx y H Q=>∃z n,x=.str z/\y=.int n/\MulOk z n/\Q (.str<|PySem.Txt.mul z n) H
def DB:gX X (binaryOp .Mult) Wk:=by intro qc s σ H x y v u Q I d a h;let⟨z,n,rfl,rfl,hm,q⟩:=h;let⟨t,rfl⟩:=d;let⟨e,rfl⟩:=a;show SB.mul hm λc k=>{.str _,H,I.tok k,{_,rfl},q}
def Mf(w:Ω)(K:Φ)(a:ε)(kvs:δ<|ρ×V):Prop:=(a==sysModules)=ϰ/\∃(o:Obj)(es:Array DictEntry)(ep:π),K.lookup a=ϑ o/\o.ExactDict/\o.data=.dict es ep/\Paired (λ(e:DictEntry)(c:ρ×V)=>e.hash=hashStr w c.1/\(∃t,e.key=.str c.1 t)/\RelV c.2 e.val) es.toList kvs/\(kvs.map Prod.fst).Nodup
theorem tJ(z:ρ):∀kvs:δ (ρ×V),gY (kvs.map λp=>((.inr p.1:Key),p.2)) (.inr z)=kvs.lookup z
 |[]=>rfl
 | (x,v)::r=>by
  rw[zK,zW];by_cases e:z=x;subst e;rw[sX rfl];simp;have e1:(z==x)=ϰ:=by simpa using e
  rw[sY λq=>e (yY q).symm,e1];show tJ z r
section
variable{X:Cx}{qc:δ (ε×Obj)}{σ:St}{H:Hp}{s:ζ}{a:ε}{kvs:δ (ρ×V)}
def DC(I:Inv X qc σ H s)(d:Mf X.w X.K a kvs):(a==sysModules)=ϰ/\∃vs,KV (kvs.map λp=>((.inr p.1:Key),p.2)) vs/\s.heap.DictOf (aJ X.prog X.w) a vs:=by
 let⟨ns,o,es,ep,hk,hx,hd,hp,hn⟩:=d;have all:∀(es:δ DictEntry)(kvs:δ (ρ×V)),Paired (λ(e:DictEntry)(c:ρ×V)=>e.hash=hashStr X.w c.1/\(∃t,e.key=.str c.1 t)/\RelV c.2 e.val) es kvs->∃vs:δ (Key×ξ),KV (kvs.map λp=>((.inr p.1:Key),p.2)) vs/\Pairs (aJ X.prog X.w) es vs/\vs.map (·.1)=kvs.map (λp=>(.inr p.1:Key))/\∀e∈es,∃k,(aJ X.prog X.w).is k e.key=ϱ/\e.hash=(aJ X.prog X.w).hash k:=by intro es kvs hp;induction hp with|nil=>show{[],.nil,.nil,rfl,`d}|@cons e c m i h t j=>let⟨vs,k1,k2,k3,k4⟩:=j;let⟨h1,⟨tk,h2⟩,l⟩:=h;have hi:(aJ X.prog X.w).is (.inr c.1) e.key=ϱ:=(by rw[h2];show j_ _ _ _ _);show{(.inr c.1,e.val)::vs,.cons ⟨rfl,l⟩ k1,.cons hi rfl k2,by rw[zK,zK,k3],λe' g=>?_};rcases zl.mp g with rfl|g;show{.inr c.1,hi,h1};show k4 e' g
 let⟨vs,k1,k2,k3,k4⟩:=all _ _ hp;show{ns,vs,k1,o,es,ep,I.lS a o hk,hx,hd,λe g=>k4 e<|by simpa using g,k2,?_};rw[k3];have:(kvs.map λp=>(.inr p.1:Key))=(kvs.map Prod.fst).map Sum.inr:=by rw[zC];rfl
 rw[this];show List.Pairwise.map _ (λx y h q=>h<|yY q) hn
def JV{w:Ω}{K:Φ}(hw:X.w=w)(g:X.K=K):gX X (compareOp .In) (λx y H Q=>∃z a kvs,x=.str z/\y=.ref a/\Mf w K a kvs/\Q (.bl (kvs.lookup z).isSome) H):=by subst hw g;intro qc s σ H x y v u Q I i c h;let⟨z,a,kvs,rfl,rfl,d,q⟩:=h;cases c;let⟨ns,vs,rel,e⟩:=DC I d;show wpAny_in_of (km (k:=.inr z) i) ns e.mapOf ?_;rw[<-(rel.val<|.inr z).iP,tJ];show{.bl _,H,I.tok _,rfl,q}
def Wl(w:Ω)(K:Φ):V->δ V->Hp->VK->Prop:=λx vs H Q=>∃a z kvs,x=.ref a/\vs=[.str z]/\Mf w K a kvs/\Q ((kvs.lookup z).getD .ay) H
def Nn{w:Ω}{K:Φ}(hw:X.w=w)(g:X.K=K):VJ X "dict.get" (Wl w K):=by subst hw g;intro qc s σ H x vs v us Q I j i h;let⟨a,z,kvs,rfl,rfl,d,q⟩:=h;cases j;let⟨u,rfl,e⟩:=i.one;let⟨ns,vs,rel,c⟩:=DC I d;show call_meetsIn yE c.typeIs PySem.F.entry_dict_get (PySem.F.args_dict_get_2 _ _) (meets_dict_get (aJ X.prog X.w) a (km (k:=.inr z) e) ns) {_,c.mapOf,_,H,I.tok _,?_,q};rw[<-tJ];show(rel.val<|.inr z).getD rfl
def JW{w:Ω}{K:Φ}{o e:Δ}{apos aV:Pos}{td ty:TE}(hw:X.w=w)(r:X.K=K)(ho:PE X o td)(t:PE X e ty)(m:M1 X o "get" apos e aV):PE X (.Call (.Attribute o "get" apos) [e] [] aV) (λσ H Q=>td σ H λx H1=>∃a kvs,x=.ref a/\Mf w K a kvs/\ty σ H1 λy H2=>∃z,y=.str z/\Q ((kvs.lookup z).getD .ay) H2):=by subst hw r;intro qc s σ H Q I h;show wpAny_Call_method m.base m.IP m.line PySem.F.plainAttrs_dict yE PySem.F.type_dict_get<|bB (ho qc s σ H _ I h) λu s1 ⟨x,H1,c,B,a,kvs,ex,d,n⟩=>?_;subst ex;obtain rfl:u=Value.ref a:=B;let⟨ns,vs,rel,g⟩:=DC c d;let⟨l,_,_,h1,h2,_⟩:=id g;show{g.typeIs,λb q=>by cases q;show⟨l,h1,h2.2.1⟩,?_};rw[m.trees];show Calls.callWith_builtin rfl<|Calls.evalArgs_plain<|yM<|bB (t qc s1 σ H1 _ c n) λp s2 ⟨y,H2,j,i,z,v,A⟩=>Calls.spliced_nil ?_;subst v;show Nn rfl rfl qc s2 σ H2 (.ref a) [.str z] _ [p] Q j rfl (.cons i .nil) ⟨a,z,kvs,rfl,rfl,d,A⟩
end
theorem RD:bootBuiltins "min"= some (.builtin "min"):=`c
def ZS3(n c a l2:π)(i:π)(h:Γ):Prop:=IsZip h (n+5) (n+3) (n+4) .none/\nI h (n+3) #[.ref n,.ref<|n+1,.ref<|n+2]/\(∃arr:Array ξ,arr.size=3/\nI h (n+4) arr)/\h.IsTupleIter n c i/\h.IsTupleIter (n+1) a i/\h.IsTupleIter (n+2) l2 i
noncomputable abbrev Np(h:Γ)(l0:ε):Heap:=(h).push {cls:=.type "tuple_iterator",data:=.fields #[.ref l0,.int 0 0]}
noncomputable abbrev Nq(h:Γ)(l0 l1:ε):Heap:=(Np h l0).push {cls:=.type "tuple_iterator",data:=.fields #[.ref l1,.int 0 0]}
noncomputable abbrev Nr(h:Γ)(l0 l1 l2:ε):Heap:=(Nq h l0 l1).push {cls:=.type "tuple_iterator",data:=.fields #[.ref l2,.int 0 0]}
noncomputable abbrev Nt(h:Γ)(l0 l1 l2:ε):Heap:=(Nr h l0 l1 l2).push {cls:=.type "tuple",data:=.seq #[.ref h.objs.size,.ref (Np h l0).objs.size,.ref (Nq h l0 l1).objs.size]}
noncomputable abbrev Nu(h:Γ)(l0 l1 l2:ε):Heap:=(Nt h l0 l1 l2).push {cls:=.type "tuple",data:=.seq #[.none,.none,.none]}
noncomputable abbrev A9(h:Γ)(l0 l1 l2:ε):Heap:=(Nu h l0 l1 l2).push {cls:=.type "zip",data:=.fields #[.none,.bool false,.bool false,.ref (Nr h l0 l1 l2).objs.size,.ref (Nt h l0 l1 l2).objs.size]}
theorem DD(a c l2:ε)(i e j:Array ξ):Meets (Builtin.«zip.__new__» {[.type "zip",.ref a,.ref c,.ref l2],[]}) (λz R s=>s.heap.IsTuple a i/\s.heap.IsTuple c e/\s.heap.IsTuple l2 j/\R (.ok<|.ret<|.ref (Nu s.heap a c l2).objs.size) {s with heap:=A9 s.heap a c l2}):=.of_wp λprog w A R s h=>by let⟨hp,g,d,tk,os⟩:=s;let⟨o,l,m,h⟩:=h;have r:=sub_zip;have n:Heap.IsTuple (Shared.heap ⟨hp,g,d,tk,os⟩) a i:=o;have p:Heap.IsTuple (Shared.heap {hp.push {cls:=.type "tuple_iterator",data:=.fields #[.ref a,.int 0 0]},g,d,tk,os}) c e:=Heap.IsTuple.push (l) _;have L2:Heap.IsTuple (Shared.heap {(hp.push {cls:=.type "tuple_iterator",data:=.fields #[.ref a,.int 0 0]}).push {cls:=.type "tuple_iterator",data:=.fields #[.ref c,.int 0 0]},g,d,tk,os}) l2 j:=Heap.IsTuple.push (Heap.IsTuple.push (m) _) _;wp_walk using wpAny_pyIter_tuple n,wpAny_pyIter_tuple p,wpAny_pyIter_tuple L2;show{_,rfl,h}
def DF(a0 a c:ξ):checkTypeCall "zip" {[a0,a,c],[]}=pure ():=by kernel_rfl
def DH(a0 a c:ξ):checkBuiltinCall "zip.__new__" {[.type "zip",a0,a,c],[]}=pure ():=by kernel_rfl
def RE(x a0 a c:ξ):argsOk "object.__init__" {[x,a0,a,c],[]}:=by unfold argsOk;rw[signature?_of (id:="object.__init__") (n:=['_','_','t','i','n','i','_','_']) (o:=['t','c','e','j','b','o']) (by kernel_rfl) F.owner_object];kernel_rfl
def DJ(v:s.heap.IsTuple l0 Dn)(r:s.heap.IsTuple l1 Dq)(t:s.heap.IsTuple l2 Uv) (h:∀h',ZS3 s.heap.objs.size l0 l1 l2 0 h'->(∀c o,s.heap.get? c=ϑ o->h'.get? c=ϑ o)->Q (.ref<|s.heap.objs.size+5) {s with heap:=h'}):wpAny `n A (call (.type "zip") [.ref l0,.ref l1,.ref l2]) Q E s:=by
 show callType_new F.called_zip `a (DF _ _ _) (DH _ _ _) (λobj=>RE obj _ _ _) F.entry_zip_new (DD l0 l1 l2 Dn Dq Uv) {v,r,t,?_};have a:(Np s.heap l0).objs.size=s.heap.objs.size+1:=ye ..;have j:(Nq s.heap l0 l1).objs.size=s.heap.objs.size+2:=by rw[ye,a]
 have e:(Nr s.heap l0 l1 l2).objs.size=s.heap.objs.size+3:=by rw[ye,j]
 have d:(Nt s.heap l0 l1 l2).objs.size=s.heap.objs.size+4:=by rw[ye,e]
 have i:(Nu s.heap l0 l1 l2).objs.size=s.heap.objs.size+5:=by rw[ye,d]
 have y:(A9 s.heap l0 l1 l2).objs.size=s.heap.objs.size+6:=by rw[ye,i]
 have g0:(A9 s.heap l0 l1 l2).get? (s.heap).objs.size=ϑ _:=za _<|za _<|za _<|za _<|za _<|zo _ rfl;have m:(A9 s.heap l0 l1 l2).get? (Np s.heap l0).objs.size=ϑ _:=za _<|za _<|za _<|za _<|zo _ rfl;have l:(A9 s.heap l0 l1 l2).get? (Nq s.heap l0 l1).objs.size=ϑ _:=za _<|za _<|za _<|zo _ rfl;have n:(A9 s.heap l0 l1 l2).get? (Nr s.heap l0 l1 l2).objs.size=ϑ _:=za _<|za _<|zo _ rfl;have p:(A9 s.heap l0 l1 l2).get? (Nt s.heap l0 l1 l2).objs.size=ϑ _:=za _<|zo _ rfl;have g:(A9 s.heap l0 l1 l2).get? (Nu s.heap l0 l1 l2).objs.size=ϑ _:=zo _ rfl;change _/\_;rw[e,d,i]at g;rw[d]at p;rw[a,j,e]at n;rw[a]at m;rw[j]at l;rw[i];show{{_,g,rfl},h _ {g,n,!⟨p⟩,{_,g0,rfl,rfl},{_,m,rfl,rfl},{_,l,rfl,rfl}} λc o x=>za _<|za _<|za _<|za _<|za _<|za _ x}
def Vals.three(h:Vals [x,y,z] us):∃u v w,us=[u,v,w]/\RelV x u/\RelV y v/\RelV z w:=by cases h with|cons r h=>cases h with|cons q h=>cases h with|cons p h=>cases h;show{_,_,_,rfl,r,q,p}
section
variable{X:Cx}
def aa4:V->θ ν->θ ν->Hp->VK->Prop:=λx lo hi H Q=>∃z,x=.str z/\z.length<=Ϙ/\Q (.str<|PySem.Txt.slice z lo hi) H
def RF:Ul X aa4:=by intro qc s σ H x v r w lo hi sl Q I p m n g h;let⟨z,rfl,hz,q⟩:=h;let⟨t,rfl⟩:=p;let⟨o,e1,e2,e3⟩:=m;show{"str",_,F.slot_str_getitem.lookup,typeIs_str _ _ _,?_};have c:∀k,∀a:Tok,EP X qc σ Q (.str (PySem.Txt.slice z lo hi) a) {s with toks:=k}:=λk a=>{.str _,H,I.tok k,{_,rfl},q};cases n with|none=>(cases g with|none=>show wpAny_getItem_str_slice (l:=none) (u:=none) (st:=none) ⟨o,e1,e2,e3⟩ rfl (post_val_or_str {zH (Txt.slice_le z _ _) hz,λa k=>c k a})|int j d=>show wpAny_getItem_str_slice (l:=none) (u:=some (j,d)) (st:=none) ⟨o,e1,e2,e3⟩ rfl<|post_val_or_str {zH (Txt.slice_le z _ _) hz,λa k=>c k a})|int i e=>cases g with|none=>show wpAny_getItem_str_slice (l:=some (i,e)) (u:=none) (st:=none) ⟨o,e1,e2,e3⟩ rfl (post_val_or_str {zH (Txt.slice_le z _ _) hz,λa k=>c k a})|int j d=>show wpAny_getItem_str_slice (l:=some (i,e)) (u:=some (j,d)) (st:=none) ⟨o,e1,e2,e3⟩ rfl<|post_val_or_str {zH (Txt.slice_le z _ _) hz,λa k=>c k a}
end
end L2
namespace L2
open PySem PySem.Spec PyProof.Rows PySem.SeqAt
end L2
namespace L2
open PySem PySem.Spec PyProof.Rows
theorem xC(l:ε)(items:Array ξ)(n:π)(b:ε)(a:Array ξ)(i:π)(sl:Array<|θ ξ)(t:¬(!items.isEmpty&&Builtin.List.listTooLong (items.size+a.size))=ϱ)(e:items.size<=Ϙ)(j:items.size+a.size<=Ϙ+1): Meets (Builtin.«list.extend» {[.ref l,.ref b],[]}) (λz R s=>s.heap.get? l=ϑ {cls:=.type "list",dict:=none,data:=.seq items n,slots:=#[]}/\s.heap.get? b=ϑ {cls:=.type "tuple",dict:=none,data:=.seq a i,slots:=sl}/\R (.ok<|.ret Value.none) {s with heap:=s.heap.update l<|Obj.mapSeq λx=>x++a,toks:=s.toks}):=.of_wp λprog w A R s h=>by
 let⟨hp,g,d,tk,os⟩:=s;let⟨hl,hb,h⟩:=h;have p:=AutoSeq1.idx_int;have r:=AutoSeq1.sub_tuple_tuple;have v:=AutoSeq1.sub_list_list;have m:=AutoSeq1.sub_tuple_list;have o:=AutoSeq1.sub_list_tuple;have c:(items++a).size<=Ϙ+1:=by rw[Array.size_append];show j
 wp_walk using (wpAny_updateSeq hl rfl (hz:=e) (_hz':=c)),AutoSeq1.wpAny_loadPart' hl,AutoSeq1.wpAny_loadPart' hb;show{_,rfl,h}
theorem pJ:fillsNumberSlot (.type "tuple") "mul"= pure false:=PySem.fillsNumberSlot_seq (id:="tuple.__mul__") (r:=some<|.builtin "tuple.__rmul__") F.slot_tuple_mul.lookup `c F.slot_tuple_rmul.lookup<|`c
def xD:seqRepeat? (.type "tuple")=pure (some<|.builtin "tuple.__mul__"):=by unfold seqRepeat?;rw[PySem.seqSlot_of (T:="tuple") (name:="__mul__") (id:="tuple.__mul__") F.slot_tuple_mul.lookup<|`c,PySem.seqSlot_of (T:="tuple") (name:="__rmul__") (id:="tuple.__rmul__") F.slot_tuple_rmul.lookup<|`c];rfl
theorem tL(a:ν)(t:Tok)(l:ε)(items:Array ξ)(n:π)(dd:θ ε)(sl:Array<|θ ξ): Meets (Builtin.«int.__rmul__» {[.int a t,.ref l],[]}) (λz R s=>s.heap.get? l=ϑ {cls:=.type "tuple",dict:=dd,data:=.seq items n,slots:=sl}/\R (.ok<|.ret Value.notImplemented) s):=.of_wp λprog w A R s h=>by let⟨hp,g,d,tk,os⟩:=s;let⟨hl,h⟩:=h;wp_walk;show{_,rfl,h}
theorem A_(l:ε)(v:ξ)(n:π)(dd:θ ε)(sl:Array<|θ ξ)(u:Tok): Meets (Builtin.«tuple.__mul__» {[.ref l,.int 1 u],[]}) (λz R s=>s.heap.get? l=ϑ {cls:=.type "tuple",dict:=dd,data:=.seq #[v] n,slots:=sl}/\R (.ok<|.ret<|.ref l) {s with heap:=s.heap,toks:=s.toks}):=.of_wp λprog w A R s h=>by let⟨hp,g,d,tk,os⟩:=s;let⟨hl,h⟩:=h;have c:=AutoSeq1.idx_int;have a:=AutoSeq1.sub_tuple_tuple;wp_walk using AutoSeq1.wpAny_loadPart' hl;show{_,rfl,h}
theorem DK(l:ε)(v:ξ)(n:π)(dd:θ ε)(sl:Array<|θ ξ)(x:ν)(u:Tok)(h1:2<=x)(h2:x<=1000): Meets (Builtin.«tuple.__mul__» {[.ref l,.int x u],[]}) (λz R s=>s.heap.get? l=ϑ {cls:=.type "tuple",dict:=dd,data:=.seq #[v] n,slots:=sl}/\R (.ok<|.ret<|Value.ref s.heap.objs.size) {s with heap:=s.heap.push {cls:=Value.type "tuple",data:=Data.seq<|List.foldl (λx1 x2=>x1++x2) #[] (List.replicate x.toNat #[v])},toks:=s.toks}):=.of_wp λprog w A R s h=>by
 let⟨hp,g,d,tk,os⟩:=s;let⟨hl,h⟩:=h;have i:=AutoSeq1.idx_int;have j:=AutoSeq1.sub_tuple_tuple;have c0:-9223372036854775808<=x:=`b
 have e:x<9223372036854775808:=`b
 have p:¬x=1:=`b
 have c:0<x:=`b
 have m:x<=1152921504606846975:=`b
 have o:Builtin.Tuple.tupleTooMany x=ϰ:=by simp[Builtin.Tuple.tupleTooMany,sizeLine];lia
 have a:(List.foldl (λx1 x2=>x1++x2) #[] (List.replicate x.toNat #[v])).size<=sizeLine:=by rw[AutoSeq1.size_joined];change 0+x.toNat*1<=16777216;lia
 wp_walk using AutoSeq1.wpAny_loadPart' hl;show{_,rfl,h}
section
variable{X:Cx}{K:Φ}
def JX:V->δ V->Hp->VK->Prop:=λx vs H Q=>∃l b xs zs,x=.ref l/\vs=[.ref b]/\H l=ϑ (.lst xs)/\H b=ϑ (.tup zs)/\xs.length+zs.length<=Ϙ/\Q .ay (upd H l<|.lst<|xs++zs)
def DL:MtM X "list.extend" JX:=by
 intro qc s σ H x vs v us Q I y B h;let⟨l,b,xs,zs,rfl,rfl,o,p,hz,q⟩:=h;cases y;let⟨u,rfl,G⟩:=B.one;cases G;let⟨z,a,n,r,hl,e⟩:=I.Ha o;let⟨M,c,j,⟨L,J,A,C⟩,e2,m,g,t,i⟩:=(show bj X.prog X.w H s.heap b (.tup zs) from I.aK b _ p);dsimp only at m g i;subst m g i;have K:=j.length;have d:a.toArray.size+c.toArray.size<=sizeLine:=by rw[zx,zx];lia
 have E:¬(!a.toArray.isEmpty&&Builtin.List.listTooLong (a.toArray.size+c.toArray.size))=ϱ:=by rw[Jw d,yH];show ze
 show y8 F.slot_list_extend {_,e,rfl} F.entry_list_extend (F.args_list_extend_2 _ _) (xC l a.toArray n b c.toArray t C E (by rw[zx];lia)<|`b) {e,e2,?_};show{.ay,_,I.QW (its':=a++c) o e `d (r.append j) ?_,rfl,q};rw[zq];lia
def vA(o:X.K=K):eQ X (.builtin "isinstance") (λxs H Q=>∃a C b cs r,xs=[.ref a,.ref b]/\H a=ϑ (nH a<|.ref C)/\XC K C/\XA K C/\H b=ϑ (.tup cs)/\(∀d,Vals cs d->kitAny K (.ref C) d=ϑ r)/\Q (.bl r) H):=by subst o;intro qc s σ H xs us Q I r h;let⟨a,C,b,cs,t,rfl,ha,j,xa,hb,e,q⟩:=h;let⟨v,n,rfl,x,y⟩:=vals2 r;cases (show v=Value.ref a from x);cases (show n=Value.ref b from y);let⟨p,_⟩:=I.aK a _ ha;let⟨F,G,m,⟨E,B,l,J⟩,e2,i,c,A,g⟩:=(show bj X.prog X.w H s.heap b (.tup cs) from I.aK b _ hb);dsimp only at i c g;subst i c g;show PySem.W.kia_tup (A5 j xa) I.lS p e2 (e _ m) (λz=>nomatch z) λtk=>{.bl t,H,I.tok tk,rfl,q}
theorem Ba(ns:δ ν):∀n,preSum (λi=>(ns[i]?).getD 0) n=(ns.take n).sum|0=>rfl|n+1=>by change preSum _ n+_=_;rw[Ba ns n,List.take_add_one,List.sum_append];cases h:ns[n]?<;>simp[h]
theorem RG:bootBuiltins "sum"= some (.builtin "sum"):=PyProof.Rows.Boot.«sum»
def Hu(n:X.K=K)(t:X.calm=ϱ):eQ X (.builtin "sum") (λxs H Q=>∃(a:ε)(ns:δ ν),xs=[.ref a]/\jf K H a (ns.map V.int)/\Q (.int ns.sum) H):=by
 subst n;intro qc s σ H xs us Q I r h;let⟨a,ns,rfl,hq,q⟩:=h;let⟨u,rfl,y⟩:=vals1 r;cases y;let⟨g,l,p,hz⟩:=I.list hq;have hl:=l.length;rw[zd]at hl;show call_sum_walkG<|wpAny_pyIter_list p.isList ?_;show{s.heap.objs.size,_,_,_,_,_,λi=>(ns[i]?).getD 0,rfl,Walks.list (A:=X.A.in1) (I.ok.hd t) s.heap.objs.size a (zD p.lt) g.toArray,{{_,zo _ rfl,rfl,rfl},p.isList.at λo e=>za _ e},?_,?_,λh' tk w hk=>?_};intro b hb;simp only[zl,zO,or_false]at hb;rcases hb with rfl|rfl;simp[Heap.push];show zu p.lt (by simp[Heap.push]);intro i v hv;have d:g[i]?=some v:=by simpa using hv
 cases hn:ns[i]? with|none=>(have h1:=(List.getElem?_eq_none_iff.mp hn);rw[List.getElem?_eq_none<|`b]at d;cases d)|some k=>let⟨z,c,j⟩:=l.get (i:=i) (x:=.int k) (by rw[zm,hn];rfl);rw[d]at c;cases c;let⟨m,rfl⟩:=j;show{m,by simp[hn]}
 have e:g.toArray.size=ns.length:=by rw[zx,<-hl]
 rw[e,Ba,yO];show{.int ns.sum,H,I.kept (h':=h') (t':=tk) λb o e=>hk b o (by simpa using zD (zA e))<|za _ e,{_,rfl},q}
theorem xE(v:ξ):∀(n:π)(a:δ ξ),List.foldl (λx1 x2=>x1++x2) a.toArray (List.replicate n #[v])=(a++List.replicate n v).toArray|0,a=>by simp|n+1,a=>by rw[List.replicate_succ,yS,show a.toArray++#[v]=(a++[v]).toArray by simp,xE v n,List.append_assoc];rfl
theorem tM(r:RelV x v):∀n,Vals (List.replicate n x) (List.replicate n v)|0=>.nil|n+1=>.cons r<|tM r n
def Wn:R2:=λx y H Q=>∃a z n,x=.ref a/\y=.int n/\H a=ϑ (.tup [z])/\1<=n/\n<=1000/\(n=1->Q (.ref a) H)/\(2<=n->∀p,H p=ϐ->Q (.ref p) (upd H p<|.tup<|List.replicate n.toNat z))
def Nv:gX X (binaryOp .Mult) Wn:=by
 intro qc s σ H x y v u Q I p o h;let⟨a,z,n,rfl,rfl,ha,h1,h2,A,B⟩:=h;cases p;let⟨c,rfl⟩:=o;let⟨J,K,t,⟨G,E,r,g⟩,ho,l,i,d,j⟩:=(show bj X.prog X.w H s.heap a (.tup [z]) from I.aK a _ ha);dsimp only at l i j;subst l i j;let⟨w,rfl,C⟩:=t.one;show wpAny_binaryOp_repeat_ref (T:="tuple") (U:="int") `a {_,ho,rfl} (λs'=>typeIs_int s' n c) pJ F.fills_int_mul F.slot_int_rmul xD F.slot_int_index.lookup<|y8 F.slot_int_rmul (typeIs_int s n c) F.entry_int_rmul (F.args_int_rmul_2 _ _) (tL n c a #[w] d none g) {ho,rfl,{_,ho,rfl},?_};by_cases e:n=1;subst e;show y8 F.slot_tuple_mul {_,ho,rfl} F.entry_tuple_mul (F.args_tuple_mul_2 _ _) (A_ a w d none g c) {ho,.ref a,H,I.tok _,rfl,A rfl};have m:2<=n:=`b
 show y8 F.slot_tuple_mul {_,ho,rfl} F.entry_tuple_mul (F.args_tuple_mul_2 _ _) (DK a w d none g n c m h2) {ho,?_};rw[show(#[]:Array ξ)=([]:δ ξ).toArray from rfl,xE,List.nil_append];show{.ref s.heap.objs.size,_,I.laid (t':=s.toks) (λk k q=>za _ q) (zj _) ?_,rfl,B m _ I.fresh};show(show bj X.prog X.w _ _ _ (.tup<|List.replicate n.toNat z) from{by rw[yk];show Wj<|`b,_,tM C _,gs.new _ _})
end
def EnS(n l:π)(i:π)(h:Γ):Prop:=(∃old,IsEnum h (n+1) n (i:ν) old)/\h.IsListIter n l i
noncomputable def Wo(K:Φ)(l:ε):It:={λi H=>∃(xs:δ V)(x:V),jf K H l xs/\xs[i]?=some x,λi H x H'=>∃T,H T=ϐ/\x=.ref T/\∀(xs:δ V)(y:V),jf K H l xs->xs[i]?=some y->H'=upd H T (.tup [.int (i:π),y]),λi H=>∃xs,jf K H l xs/\xs.length<=i}
theorem Hv{P:Ψ}{w:Ω}{K:Φ}{es:δ Δ}{kk:π}{tp:Pos}{n l:π}(b0:l<n):Turn P w K (.Tuple es kk tp) (Wo K l) [n,(n+1)] (n+1) (EnS n l) where
 mem:=`d
 obj:=λi h st b hb=>by
  let⟨⟨old,he⟩,j0⟩:=st
  have c:b=n\/b=(n+1):=by simpa using hb
  rcases c with rfl|rfl
  ·let⟨o,e,c,d⟩:=j0;show{o,e,λv z=>by rw[d]at z;cases z}
  ·show{_,he,λv z=>by cases z}
 keep:=λi h h' st k=>by
  let⟨⟨old,he⟩,j0⟩:=st
  show{{old,k _ `d _ he},j0.at λo e=>k _ `d o e}
 item:=by
  intro X hP hw hK hc i qc s σ H E I hf st hg
  subst hP hw hK
  let⟨xs,x,q0,e0⟩:=hg
  let⟨az,rv,p,_⟩:=I.list q0
  let⟨u,hu,ru⟩:=rv.get e0
  let⟨⟨old,he⟩,j0⟩:=st
  show wpAny_pyNext_enum_item he j0 p.isList (x:=u) (by simpa using hu) (by change @Ne π _ _;lia) λh1 z1 m0 T1 hs1 kp=>?_
  show{_,rfl,?_}
  show wpAny_letOwnedTupleGo_enum (s:={s with heap:=h1,toks:=s.toks+1}) z1 λh2 z2 r2=>?_
  have Ux:∀c o,c∉([(n+1),n]:δ ε)->s.heap.get? c=ϑ o->h2.get? c=ϑ o:=λc o hc e=>by
   simp only[zl,zO,or_false,not_or]at hc
   let⟨dz,d0⟩:=hc
   show r2.extBut _ _ dz<|kp c o dz d0 e
  have lz:(n+1)<s.heap.objs.size:=zA he
  have T2:h2.get? s.heap.objs.size=ϑ {cls:=.type "tuple",data:=.seq #[.int i s.toks,u]}:=r2.extBut _ _ (yw lz) T1
  have hf':∀b∈([(n+1),n]:δ ε),sN X qc H b:=λb hb=>hf b<|by simp only[zl,zO,or_false]at hb⊢;rcases hb with h|h<;>simp[h]
  have I2:Inv X qc σ (upd H s.heap.objs.size<|.tup [.int (i:π),x]) {s with heap:=h2,toks:=s.toks+1}:=I.Fq (t':=s.toks+1) [(n+1),n] hf' Ux (Heap.get?_none_of_le<|zj _) {Wj<|show 2<=1000 by decide,[.int i s.toks,u],.cons {_,rfl}<|.cons ru<|.nil,{_,T2,rfl,rfl,_,rfl}}
  show{.ref s.heap.objs.size,_,I2,rfl,{_,I.aK.fresh<|zj _,rfl,λys y g0 f0=>?_},?_,λb hb=>?_}
  ·have:=I.sJ g0 q0;subst this;have:=e0.symm.trans f0;cases this
   rfl
  ·show{{_,z2},m0.at λo e=>r2.extBut _ _ (by change @Ne π _ _;lia) e}
  ·have l2:b<s.heap.objs.size:=by
    simp only[zl,zO,or_false]at hb
    have lz:@LT.lt π _ (n+1) s.heap.objs.size:=lz
    rcases hb with rfl|rfl<;>(change @LT.lt π _ _ s.heap.objs.size;lia)
   rw[ax<|zD l2];show(hf b hb).1
 done:=by
  intro X hP hw hK hc i qc s σ H E I hf st hg
  subst hP hw hK
  let⟨xs,q0,hx⟩:=hg
  let⟨az,rv,p,_⟩:=I.list q0
  let⟨⟨old,he⟩,j0⟩:=st
  have hl:=rv.length
  show wpAny_pyNext_enum_end (I.ok.hd hc) he j0 p.isList (by simp;lia) λh1 kp=>{rfl,I.Fp (t':=s.toks) [n] (λb hb=>hf b<|by simp only[zE]at hb;simp[hb]) λc o hc e=>kp c o (λz=>hc<|by simp[z]) e}
 self:=λA' i s Q E st h=>wpAny_pyIter_enum st.1.choose_spec h
def Wq(K:Φ)(ta:TA):TI:=λσ H R=>ta σ H λvs H1=>∃l,vs=[.ref l]/\(∃xs,jf K H1 l xs)/\R (Wo K l) H1
theorem Hw:bootBuiltins "enumerate"= some (.type "enumerate"):=`c
def Nx{X:Cx}{a:Δ}{ta:TA}{p pos tp:Pos}{es:δ Δ}{kk:π}(hg:Gl X "enumerate")(hm:X.mg "enumerate"= none)(ha:PA X [a] ta)(j:ψ (starEach [a] X.env=[(false,eval a X.env)]) qQJ): PI X (.Tuple es kk tp) (.Call (.Name "enumerate" p) [a] [] pos) (Wq X.K ta):=by
 intro qc s σ H R I h;show Call_<|fT I hg hm Hw<|yn (bB (ha pos qc s σ H _ I h) λus s1 ⟨vs,H1,c,i,m⟩=>?_) (by rw[j];rfl) rfl;let⟨l,e,⟨xs,n⟩,q⟩:=m;subst e;let⟨u,rfl,r⟩:=i.one;cases r;let⟨t,v,g,_⟩:=c.list n;show call_enumerate_list g.isList λh' zs o hz kp=>?_;show wpAny_pyIter_enum (s:={s1 with heap:=h'}) zs {_,_,_,_,H1,rfl,c.kept (t':=s1.toks) kp,Hv g.lt,{{_,zs},o},λb hb=>?_,q};have d:s1.heap.objs.size<=b:=by simp only[zl,zO,or_false]at hb;rcases hb with rfl|rfl<;>(change @LE.le π _ _ _;lia)
 show c.pC d<|c.aK.fresh d
set_option genInjectivity true in
set_option genSizeOfSpec true in
inductive D
 |ay|bl (b:χ)|int (i:ν)|str (x:ρ)|tup (ds:δ D)|lV (ds:δ D)|kt (ds:δ D)|ref (a:ε)|ty (n:String)
def KtL(K:Φ)(a:ε)(xs:δ V):Prop:=∃(o:Obj)(az:Array ξ)(n:π),K.lookup a=ϑ o/\o.cls=.type "tuple"/\o.data=.seq az n/\az.size<=Ϙ/\Vals xs az.toList
def O3(K:Φ)(H:Hp)(a:ε)(xs:δ V):Prop:=(∃o,H a=ϑ (.l9 o<|.lst xs))\/∃(o:Obj)(az:Array ξ)(n:π),K.lookup a=ϑ o/\o.cls=.type "list"/\o.dict=ϐ/\o.data=.seq az n/\az.size<=Ϙ/\Vals xs az.toList
def O3.sq{K:Φ}{H:Hp}{a:ε}{xs:δ V}(h:O3 K H a xs):jf K H a xs:=by rcases h with h|h;show .inl<|.inr h;show .inr h
structure Kp(K:Φ)(H H':Hp):η where
 t:∀a xs,H a=ϑ (.tup xs)->H' a=ϑ (.tup xs)
 r:∀a xs,O3 K H a xs->O3 K H' a xs
 f:∀a o u,H a=ϑ (.l9 o u)->H' a=ϑ (.l9 o u)
theorem Kp.refl{K:Φ}(H:Hp):Kp K H H:={λz z h=>h,λz z h=>h,λz z z h=>h}
theorem Kp.trans{K:Φ}{H H1 H2:Hp}(a:Kp K H H1)(b:Kp K H1 H2):Kp K H H2:={λp xs h=>b.t p xs<|a.t p xs h,λp xs h=>b.r p xs<|a.r p xs h,λp o u h=>b.f p o u<|a.f p o u h}
theorem Kp.of{K:Φ}{H H':Hp}(h:∀b o,H b=ϑ o->H' b=ϑ o\/(∀xs,o≠.tup xs)/\∀u v,o≠.l9 u v):Kp K H H' where
 t:=λa xs q=>(h _ _ q).resolve_right λz=>z.1 _ rfl
 r:=λa xs q=>by
  rcases q with⟨o,q⟩|q
  ·show .inl {o,(h _ _ q).resolve_right λz=>z.2 _ _ rfl}
  ·show .inr q
 f:=λa o u q=>(h _ _ q).resolve_right λz=>z.2 _ _ rfl
theorem Kp.new{K:Φ}{H:Hp}{a:ε}{o:HO}(h:H a=ϐ):Kp K H (upd H a o):=.of λb u e=>.inl<|by rw[ax<|aA e h];show e
theorem Kp.put{K:Φ}{H:Hp}{a:ε}{o u:HO}(h:H a=ϑ o)(h1:∀xs,o≠.tup xs)(h2:∀u v,o≠.l9 u v):Kp K H (upd H a u):=.of λb v e=>by by_cases q:b=a;subst q;rw[h]at e;cases e;show .inr ⟨h1,h2⟩;show .inl<|by rw[ax q];show e
mutual
def Rv(K:Φ)(H:Hp):D->V->η|.ay,v=>v=.ay|.bl b,v=>v=.bl b|.int i,v=>v=.int i|.str z,v=>v=.str z|.tup ds,v=>∃a xs,v=.ref a/\H a=ϑ (.tup xs)/\RvAll K H ds xs|.lV ds,v=>∃a xs,v=.ref a/\O3 K H a xs/\RvAll K H ds xs|.kt ds,v=>∃a xs,v=.ref a/\KtL K a xs/\RvAll K H ds xs|.ref a,v=>v=.ref a|.ty n,v=>v=.ty n
def RvAll(K:Φ)(H:Hp):δ D->δ V->η|[],xs=>xs=[]|d::ds,xs=>∃y ys,xs=y::ys/\Rv K H d y/\RvAll K H ds ys
end
section
variable{K:Φ}{H H':Hp}
def kB:Rv K H .ay .ay:=by simp only[Rv]
def bV(b:χ):Rv K H (.bl b) (.bl b):=by simp only[Rv]
def aS(i:ν):Rv K H (.int i) (.int i):=by simp only[Rv]
def jj(z:ρ):Rv K H (.str z) (.str z):=by simp only[Rv]
def eX(a:ε):Rv K H (.ref a) (.ref a):=by simp only[Rv]
def Wr(n:String):Rv K H (.ty n) (.ty n):=by simp only[Rv]
def O4(h:KtL K a xs)(t:RvAll K H ds xs):Rv K H (.kt ds) (.ref a):=by simp only[Rv];show⟨a,xs,rfl,h,t⟩
def jk(h:H a=ϑ (.tup xs))(t:RvAll K H ds xs):Rv K H (.tup ds) (.ref a):=by simp only[Rv];show⟨a,xs,rfl,h,t⟩
def JY(h:O3 K H a xs)(t:RvAll K H ds xs):Rv K H (.lV ds) (.ref a):=by simp only[Rv];show⟨a,xs,rfl,h,t⟩
def Rv.ay(h:Rv K H .ay v):v=.ay:=by simpa only[Rv]using h
def Rv.bl(h:Rv K H (.bl b) v):v=.bl b:=by simpa only[Rv]using h
def Rv.int(h:Rv K H (.int i) v):v=.int i:=by simpa only[Rv]using h
def Rv.str(h:Rv K H (.str z) v):v=.str z:=by simpa only[Rv]using h
def Rv.ref(h:Rv K H (.ref a) v):v=.ref a:=by simpa only[Rv]using h
def Rv.ty(h:Rv K H (.ty n) v):v=.ty n:=by simpa only[Rv]using h
def Rv.kt(h:Rv K H (.kt ds) v):∃a xs,v=.ref a/\KtL K a xs/\RvAll K H ds xs:=by simpa only[Rv]using h
def Rv.tup(h:Rv K H (.tup ds) v):∃a xs,v=.ref a/\H a=ϑ (.tup xs)/\RvAll K H ds xs:=by simpa only[Rv]using h
def Rv.lV(h:Rv K H (.lV ds) v):∃a xs,v=.ref a/\O3 K H a xs/\RvAll K H ds xs:=by simpa only[Rv]using h
def bL:RvAll K H [] []:=by simp only[RvAll]
def aZ(h:Rv K H d x)(t:RvAll K H ds xs):RvAll K H (d::ds) (x::xs):=by simp only[RvAll];show⟨x,xs,rfl,h,t⟩
def RvAll.nil(h:RvAll K H [] xs):xs=[]:=by simpa only[RvAll]using h
def RvAll.cons(h:RvAll K H (d::ds) xs):∃y ys,xs=y::ys/\Rv K H d y/\RvAll K H ds ys:=by simpa only[RvAll]using h
mutual
theorem Rv.ts(s:Kp K H H'):∀(d:D){v:V},Rv K H d v->Rv K H' d v|.ay,v,h=>by simpa only[Rv]using h|.bl b,v,h=>by simpa only[Rv]using h|.int i,v,h=>by simpa only[Rv]using h|.str z,v,h=>by simpa only[Rv]using h|.tup ds,v,h=>(by let⟨a,xs,rfl,e,t⟩:=h.tup;show jk (s.t _ _ e)<|RvAll.ts s ds t)|.lV ds,v,h=>(by let⟨a,xs,rfl,e,t⟩:=h.lV;show JY (s.r _ _ e)<|RvAll.ts s ds t)|.kt ds,v,h=>(by let⟨a,xs,rfl,e,t⟩:=h.kt;show O4 e<|RvAll.ts s ds t)|.ref a,v,h=>by simpa only[Rv]using h|.ty n,v,h=>by simpa only[Rv]using h
theorem RvAll.ts(s:Kp K H H'):∀(ds:δ D){xs:δ V},RvAll K H ds xs->RvAll K H' ds xs|[],xs,h=>by rw[h.nil];show bL|d::ds,xs,h=>by let⟨y,ys,rfl,h1,h2⟩:=h.cons;show aZ (Rv.ts s d h1)<|RvAll.ts s ds h2
end
theorem RvAll.len:∀{ds:δ D}{xs:δ V},RvAll K H ds xs->xs.length=ds.length|[],xs,h=>by rw[h.nil];rfl|d::ds,xs,h=>by let⟨y,ys,rfl,_,h2⟩:=h.cons;rw[zV,zV,h2.len]
theorem RvAll.get:∀{ds:δ D}{xs:δ V}{i:π}{d:D},RvAll K H ds xs->ds[i]?=some d->∃v,xs[i]?=some v/\Rv K H d v|[],xs,i,d,h,e=>by simp at e|d0::ds,xs,0,d,h,e=>(by let⟨y,ys,rfl,h1,h2⟩:=h.cons;simp at e;subst e;show⟨y,rfl,h1⟩)|d0::ds,xs,i+1,d,h,e=>by let⟨y,ys,rfl,h1,h2⟩:=h.cons;let⟨v,e1,e2⟩:=h2.get (i:=i) (by simpa using e);show{v,by simpa using e1,e2}
theorem RvAll.app:∀{ds es:δ D}{xs ys:δ V},RvAll K H ds xs->RvAll K H es ys->RvAll K H (ds++es) (xs++ys)|[],es,xs,ys,h,k=>by rw[h.nil];show k|d::ds,es,xs,ys,h,k=>by let⟨y,zs,rfl,h1,h2⟩:=h.cons;show aZ h1<|h2.app k
theorem RvAll.take:∀{ds:δ D}{xs:δ V}(n:π),RvAll K H ds xs->RvAll K H (ds.take n) (xs.take n)|[],xs,n,h=>by rw[h.nil];simp only[List.take_nil];show bL|d::ds,xs,0,h=>by simp only[List.take_zero];show bL|d::ds,xs,n+1,h=>by let⟨y,zs,rfl,h1,h2⟩:=h.cons;show aZ h1<|h2.take n
theorem RvAll.drop:∀{ds:δ D}{xs:δ V}(n:π),RvAll K H ds xs->RvAll K H (ds.drop n) (xs.drop n)|[],xs,n,h=>by rw[h.nil];simp only[List.drop_nil];show bL|d::ds,xs,0,h=>h|d::ds,xs,n+1,h=>by let⟨y,zs,rfl,h1,h2⟩:=h.cons;show h2.drop n
theorem RvAll.set:∀{ds:δ D}{xs:δ V}{d:D}{v:V}(n:π),RvAll K H ds xs->Rv K H d v->RvAll K H (ds.set n d) (xs.set n v)|[],xs,d,v,n,h,r=>by rw[h.nil];show bL|d0::ds,xs,d,v,0,h,r=>(by let⟨y,zs,rfl,h1,h2⟩:=h.cons;show aZ r h2)|d0::ds,xs,d,v,n+1,h,r=>by let⟨y,zs,rfl,h1,h2⟩:=h.cons;show aZ h1<|h2.set n r
theorem RvAll.dropLast:∀{ds:δ D}{xs:δ V},RvAll K H ds xs->RvAll K H ds.dropLast xs.dropLast|[],xs,h=>by rw[h.nil];show bL|[d],xs,h=>(by let⟨y,zs,rfl,h1,h2⟩:=h.cons;rw[h2.nil];show bL)|d::e::ds,xs,h=>by let⟨y,zs,rfl,h1,h2⟩:=h.cons;let⟨y2,a,rfl,g,c⟩:=id h2.cons;show aZ h1<|RvAll.dropLast h2
theorem RvAll.bools:∀{bs:δ χ}{xs:δ V},RvAll K H (bs.map D.bl) xs->xs=bs.map V.bl|[],xs,h=>h.nil|b::bs,xs,h=>by let⟨y,ys,rfl,h1,h2⟩:=h.cons;rw[h1.bl,h2.bools];rfl
theorem RvAll.ints:∀{bs:δ ν}{xs:δ V},RvAll K H (bs.map D.int) xs->xs=bs.map V.int|[],xs,h=>h.nil|b::bs,xs,h=>by let⟨y,ys,rfl,h1,h2⟩:=h.cons;rw[h1.int,h2.ints];rfl
theorem RvAll.strs:∀{bs:δ ρ}{xs:δ V},RvAll K H (bs.map D.str) xs->xs=bs.map V.str|[],xs,h=>h.nil|b::bs,xs,h=>by let⟨y,ys,rfl,h1,h2⟩:=h.cons;rw[h1.str,h2.strs];rfl
theorem Fs:∀(bs:δ ν),RvAll K H (bs.map D.int) (bs.map V.int)|[]=>bL|b::bs=>aZ (aS b)<|Fs bs
theorem xG:∀(bs:δ ρ),RvAll K H (bs.map D.str) (bs.map V.str)|[]=>bL|b::bs=>aZ (jj b)<|xG bs
def cJ{κ:Type}(K:Φ)(H:Hp):δ (κ×D)->δ (κ×V)->Prop:=Paired λp q=>p.1=q.1/\Rv K H p.2 q.2
theorem cJ.ts(s:Kp K H H'):∀{ks:δ (κ×D)}{vs:δ (κ×V)},cJ K H ks vs->cJ K H' ks vs|_,_,.nil=>.nil|_,_,.cons r t=>.cons {r.1,Rv.ts s _ r.2}<|cJ.ts s t
def cJ.look(h:cJ K H ks vs)(f:ρ):(∀d,ks.lookup f=ϑ d->∃v,vs.lookup f=ϑ v/\Rv K H d v)/\(ks.lookup f=ϐ->vs.lookup f=ϐ):=by induction h with|nil=>(show{λd e=>(by cases e),λz=>rfl})|@cons a b l m r t c=>let⟨k,d⟩:=a;let⟨k',v⟩:=b;let⟨rfl,r⟩:=r;simp only[zW];cases q:f==k with|true=>(show{λd' e=>{v,rfl,(by cases e;show r)},λe=>(by cases e)})|false=>show c
end
set_option genInjectivity true in
set_option genSizeOfSpec true in
inductive Ce
 |lst (ds:δ D)|cZ (kvs:δ<|Key×D)|ins (c:ε) (fs:δ<|ρ×D)|well|exc (c:ε)|tab (q:ρ)|raw (o:HO)
def Ft(H:Hp)(q:ρ)(ps:Array ξ):Prop:=TriplesOk ps.toList/\∀pos cv,codeAmong pos ps.toList=ϑ cv->∃c o vs t,cv=.ref c/\H c=ϑ (.l9 o<|.own 0)/\o.data=.fields vs/\vs[1]?=some (.str q t)
abbrev av:=ε->θ Ce
noncomputable def av.set(S:av)(a:ε)(c:Ce):av:=λb=>if b=a then some c else S b
def aa{S:av}{a:ε}{c:Ce} : S.set a c a=ϑ c:=by unfold av.set;rw[qb rfl]
def ae{S:av}{a b:ε}{c:Ce}(h:b≠a):S.set a c b=S b:=by unfold av.set;rw[qa h]
def bR{S:av}{a:ε}{c e:Ce} : (S.set a c).set a e=S.set a e:=by funext b;unfold av.set;split<;>rfl
def fk{S:av}{a b:ε}{c:Ce}(h:S a=ϑ c)(h':S b=ϐ):a≠b:=by intro e;subst e;rw[h]at h';cases h'
def Rc(K:Φ)(H:Hp)(a:ε):Ce->η|.lst ds=>∃xs,H a=ϑ (.lst xs)/\RvAll K H ds xs|.cZ kvs=>∃vs,H a=ϑ (.dK vs)/\cJ K H kvs vs|.ins c fs=>∃dx vs,H a=ϑ (.ins c dx vs)/\cJ K H fs vs|.well=>∃x y z:ν,H a=ϑ (.lst [.int x,.int y,.int z])|.exc c=>H a=ϑ (nH a<|.ref c)|.tab q=>∃ps,H a=ϑ (.rJ ps)/\Ft H q ps|.raw o=>H a=ϑ o/\(∀xs,o≠.tup xs)/\∀u v,o≠.l9 u v
def Rs(K:Φ)(S:av)(H:Hp):Prop:=∀a c,S a=ϑ c->Rc K H a c
section
variable{K:Φ}{H H':Hp}{S:av}{a b:ε}{c:Ce}
def Rc.has(h:Rc K H a c):∃o,H a=ϑ o/\(∀xs,o≠.tup xs)/\∀u v,o≠.l9 u v:=by cases c with|lst ds=>(let⟨xs,e,_⟩:=h;show{_,e,λw=>nofun,λw w=>nofun})|cZ ds=>(let⟨xs,e,_⟩:=h;show{_,e,λw=>nofun,λw w=>nofun})|ins c fs=>(let⟨dx,vs,e,_⟩:=h;show{_,e,λw=>nofun,λw w=>nofun})|well=>(let⟨x,y,z,e⟩:=h;show{_,e,λw=>nofun,λw w=>nofun})|exc c=>show{_,h,λw=>nofun,λw w=>nofun}|tab q=>(let⟨ps,e,_⟩:=h;show{_,e,λw=>nofun,λw w=>nofun})|raw o=>show⟨o,h⟩
def Rc.keep(h:Rc K H a c)(e:∀o,H a=ϑ o->H' a=ϑ o)(s:Kp K H H'):Rc K H' a c:=by cases c with|lst ds=>(let⟨xs,e1,r⟩:=h;show{xs,e _ e1,RvAll.ts s _ r})|cZ ds=>(let⟨xs,e1,r⟩:=h;show{xs,e _ e1,r.ts s})|ins c fs=>(let⟨dx,vs,e1,r⟩:=h;show{dx,vs,e _ e1,r.ts s})|well=>(let⟨x,y,z,e1⟩:=h;show{x,y,z,e _ e1})|exc c=>show e _ h|tab q=>(let⟨ps,e1,r,i⟩:=h;show{ps,e _ e1,r,λpos cv z=>by let⟨c,o,vs,t,d,j,g⟩:=i pos cv z;show{c,o,vs,t,d,s.f _ _ _ j,g}})|raw o=>show{e _ h.1,h.2}
def Rs.fresh(h:Rs K S H)(e:H a=ϐ):S a=ϐ:=by cases q:S a with|none=>rfl|some c=>let⟨o,e1,_⟩:=(h a c q).has;rw[e]at e1;cases e1
theorem Rs.new(h:Rs K S H)(e:H a=ϐ){o:HO}(r:Rc K (upd H a o) a c):Rs K (S.set a c) (upd H a o):=λb x hb=>by by_cases q:b=a;subst q;rw[aa]at hb;cases hb;show r;rw[ae q]at hb;show(h b x hb).keep (λo e1=>by rw[ax q];show e1)<|Kp.new e
theorem Rs.grow(h:Rs K S H)(e:H a=ϐ):Rs K S (upd H a o):=λb x hb=>by let⟨u,e1,_⟩:=(h b x hb).has;have q:b≠a:=aA e1 e;show(h b x hb).keep (λo e1=>by rw[ax q];show e1)<|Kp.new e
def Rs.jl(h:Rs K S H)(ha:S a=ϑ e):Kp K H (upd H a o):=by let⟨u,e1,c,d⟩:=(h a e ha).has;show Kp.put e1 c d
theorem Rs.put(h:Rs K S H){e:Ce}(ha:S a=ϑ e){o:HO}(r:Rc K (upd H a o) a c):Rs K (S.set a c) (upd H a o):=λb x hb=>by by_cases q:b=a;subst q;rw[aa]at hb;cases hb;show r;rw[ae q]at hb;show(h b x hb).keep (λo e1=>by rw[ax q];show e1)<|h.jl ha
theorem Rs.lst(h:Rs K S H)(e:S a=ϑ (.lst ds)):∃xs,H a=ϑ (.lst xs)/\RvAll K H ds xs:=h a _ e
theorem Rs.cZ(h:Rs K S H)(e:S a=ϑ (.cZ ds)):∃xs,H a=ϑ (.dK xs)/\cJ K H ds xs:=h a _ e
theorem Rs.ins{c:ε}{fs:δ<|ρ×D}(h:Rs K S H)(e:S a=ϑ (.ins c fs)):∃dx vs,H a=ϑ (.ins c dx vs)/\cJ K H fs vs:=h a _ e
end
abbrev KD:=D->av->η
abbrev KX:=ε->av->η
abbrev SD:=δ<|θ D
def gZ(K:Φ)(H:Hp):SD->St->Prop:=Paired λ(o:θ D)(u:θ V)=>∀d,o=ϑ d->∃v,u=ϑ v/\Rv K H d v
section
variable{K:Φ}{H H':Hp}
theorem gZ.ts(s:Kp K H H'):∀{σ:SD}{τ:St},gZ K H σ τ->gZ K H' σ τ|_,_,.nil=>.nil|_,_,.cons r t=>.cons (λd e=>by let⟨v,e1,a⟩:=r d e;show{v,e1,Rv.ts s _ a})<|gZ.ts s t
theorem gZ.get:∀{σ:SD}{τ:St}{i:π}{d:D},gZ K H σ τ->σ[i]?=some (some d)->∃v,τ[i]?=some (some v)/\Rv K H d v|_,_,i,d,.nil,e=>by simp at e|_,_,0,d,.cons r t,e=>(by simp at e;let⟨v,e1,r1⟩:=r d e;show{v,by simp[e1],r1})|_,_,i+1,d,.cons r t,e=>by let⟨v,e1,r1⟩:=gZ.get (i:=i) t (by simpa using e);show{v,by simpa using e1,r1}
theorem gZ.set:∀{σ:SD}{τ:St}(i:π){d:D}{v:V},gZ K H σ τ->Rv K H d v->gZ K H (σ.set i<|some d) (τ.set i<|some v)|_,_,i,d,v,.nil,r=>.nil|_,_,0,d,v,.cons r t,q=>(.cons (λd' e=>by cases e;show⟨v,rfl,q⟩) t)|_,_,i+1,d,v,.cons r t,q=>.cons r<|gZ.set i t q
theorem gZ.unset:∀{σ:SD}{τ:St}(i:π)(o:θ V),gZ K H σ τ->gZ K H (σ.set i none) (τ.set i o)|_,_,i,o,.nil=>.nil|_,_,0,o,.cons r t=>(.cons (λd' e=>by cases e) t)|_,_,i+1,o,.cons r t=>.cons r<|gZ.unset i o t
theorem tN:∀(n:π)(τ:St),τ.length=n->gZ K H (List.replicate n none) τ|0,[],_=>.nil|n+1,_::τ,h=>.cons (λd e=>by cases e)<|tN n τ<|by simpa using h
theorem tO:∀{ds:δ D}{vs:δ V},RvAll K H ds vs->gZ K H (ds.map some) (vs.map some)|[],vs,h=>by rw[h.nil];show .nil|d::ds,vs,h=>by let⟨y,ys,rfl,h1,h2⟩:=h.cons;show .cons (λd' e=>by cases e;show⟨y,rfl,h1⟩)<|tO h2
theorem gZ.app:∀{σ ak:SD}{τ a:St},gZ K H σ τ->gZ K H ak a->gZ K H (σ++ak) (τ++a)|_,_,_,_,.nil,h=>h|_,_,_,_,.cons r t,h=>.cons r<|gZ.app t h
end
structure Rdy(Y:Cx)(E:St->XK)(b:χ):η where
 call:∀p2 τ H s e s',Inv Y p2 τ H s->gb Y.prog Y.w Y.mg Y.stack H s (E τ) e s'->Y.xe e s'
 own:b=ϱ->∀p2 τ H s h' a cls args,Inv Y p2 τ H s->Heap.MadeExcOf s.heap h' a cls args->E τ cls none H->Y.xe (.ref a) {s with heap:=h'}
 loop:b=ϱ->PassesOwn (model Y.prog Y.w) Y.A Y.env Y.xe
structure Ev(X:Cx)(b:χ) where
 pn:δ (ε×Obj)
 xe:ξ->ζ->η
 E:St->XK
 ok:Rdy {X with pn:=pn,xe:=xe} E b
noncomputable abbrev Ev.cx{X:Cx}{b:χ}(y:Ev X b):Cx:={X with pn:=y.pn,xe:=y.xe}
def Cn(K:Φ)(H:Hp)(R:KD)(Q:VK):Prop:=∀d S v H',R d S->Rv K H' d v->Rs K S H'->Kp K H H'->Q v H'
def Hx(K:Φ)(H:Hp)(Z:KX)(e:XK):Prop:=∀C S H',Z C S->Rs K S H'->Kp K H H'->e (.ref C) none H'
theorem Cn.kp{K:Φ}{H H1:Hp}{R:KD}{Q:VK}(h:Cn K H R Q)(k:Kp K H H1):Cn K H1 R Q:=λd S v H' r a s1 k1=>h d S v H' r a s1<|k.trans k1
theorem Hx.kp{K:Φ}{H H1:Hp}{Z:KX}{e:XK}(h:Hx K H Z e)(k:Kp K H H1):Hx K H1 Z e:=λC S H' r s1 k1=>h C S H' r s1<|k.trans k1
abbrev TD:=SD->av->KD->KX->η
def T(K:Φ)(E:St->XK)(t:TD):TE:=λτ H Q=>∃σ S R Z,gZ K H σ τ/\Rs K S H/\t σ S R Z/\Cn K H R Q/\Hx K H Z (E τ)
structure DE(K:Φ)(X:Cx)(e:Δ)(t:TD):η where
 of:∀{b:χ}(y:Ev X b),PE y.cx e<|T K y.E t
abbrev lW:=SD->av->(χ->av->η)->KX->η
def Zb(K:Φ)(H:Hp)(R:χ->av->η)(Q:χ->Hp->η):Prop:=∀b S H',R b S->Rs K S H'->Kp K H H'->Q b H'
theorem Zb.kp{K:Φ}{H H1:Hp}{R:χ->av->η}{Q:χ->Hp->η}(h:Zb K H R Q)(k:Kp K H H1):Zb K H1 R Q:=λd S H' r s1 k1=>h d S H' r s1<|k.trans k1
def Tt(K:Φ)(E:St->XK)(t:lW):TT:=λτ H Q=>∃σ S R Z,gZ K H σ τ/\Rs K S H/\t σ S R Z/\Zb K H R Q/\Hx K H Z (E τ)
structure DT(K:Φ)(X:Cx)(e:Δ)(t:lW):η where
 of:∀{b:χ}(y:Ev X b),PT y.cx e<|Tt K y.E t
abbrev iJ:=SD->av->(δ D->av->η)->KX->η
def CnA(K:Φ)(H:Hp)(R:δ D->av->η)(Q:δ V->Hp->η):Prop:=∀ds S vs H',R ds S->RvAll K H' ds vs->Rs K S H'->Kp K H H'->Q vs H'
def Ta(K:Φ)(E:St->XK)(t:iJ):TA:=λτ H Q=>∃σ S R Z,gZ K H σ τ/\Rs K S H/\t σ S R Z/\CnA K H R Q/\Hx K H Z (E τ)
structure DA(K:Φ)(X:Cx)(es:δ Δ)(t:iJ):η where
 of:∀{b:χ}(y:Ev X b),PA y.cx es<|Ta K y.E t
theorem PE.mono{t t':TE}(h:PE X e t)(i:∀τ H Q,t' τ H Q->t τ H Q):PE X e t':=λqc s τ H Q I q=>h qc s τ H Q I<|i τ H Q q
theorem PT.mono{t t':TT}(h:PT X e t)(i:∀τ H Q,t' τ H Q->t τ H Q):PT X e t':=λqc s τ H Q I q=>h qc s τ H Q I<|i τ H Q q
theorem PA.mono{t t':TA}(h:PA X e t)(i:∀τ H Q,t' τ H Q->t τ H Q):PA X e t':=λpos qc s τ H Q I q=>h pos qc s τ H Q I<|i τ H Q q
section
variable{K:Φ}{X:Cx}
inductive Ws (i:π) (σ:SD) (S:av) (R:KD):η
 |mk (d:D) (h:σ[i]?=some (some d)) (r:R d S)
def Wu(i:π):TD:=λσ S R _=>Ws i σ S R
inductive Uz (x:D) (S:av) (R:χ->av->η):η
 |mk (b:χ) (h:x=.bl b) (r:R b S)
def dC(d:D):TD:=λz S R z=>R d S
theorem dv(i:π)(hN:ψ (X.N[i]?=some x) qQJ)(hv:P_ X.env.scope x:=by first|show Or.inl rfl|show Or.inr (Or.inl rfl)|show Or.inr (Or.inr rfl))(hd:ψ ((x==("__debug__": ρ))=ϰ) qQZ) (j:ψ ((x==("__classdict__": ρ))=ϰ) qQZ):DE K X (.Name x pos) (Wu i):=⟨λy=>(Qd (X:=y.cx) hN hv hd j).mono <| by rintro τ H Q ⟨σ,S,R,Z,c,a,⟨d,e,r⟩,g,_⟩;show by let⟨v,e1,h⟩:=c.get e;show{v,e1,g d S v H r h a<|Kp.refl _}⟩
theorem DE.const(h:∀Y:Cx,Y.env=X.env->Y.mg=X.mg->PE Y e (tC v))(r:∀H,Rv K H d v):DE K X e (dC d):=⟨λy=>(h y.cx rfl rfl).mono <| by rintro τ H Q ⟨σ,S,R,Z,g,c,q,a,_⟩;show a d S v H q (r H) c<|Kp.refl _⟩
theorem di:DE K X (.Constant (.int i) j pos) (dC<|.int i):=.const (λz z z=>Qe) λz=>aS i
theorem ds:DE K X (.Constant (.str i) j pos) (dC<|.str i):=.const (λz z z=>Qg) λz=>jj i
theorem db:DE K X (.Constant (.bool i) j pos) (dC<|.bl i):=.const (λz z z=>ON) λz=>bV i
theorem dn:DE K X (.Constant .none j pos) (dC .ay):=.const (λz z z=>Qf) λz=>kB
theorem dg(hm:X.mg x=ϑ u)(r:RelV v u)(rd:∀H,Rv K H d v)(hg:ψ (Gl X x) qQJ)(hd:ψ ((x==("__debug__": ρ))=ϰ) qQZ):DE K X (.Name x pos) (dC d):=.const (λY e1 e2=>E7 (X:=Y) (u:=u) (show Y.env.kindOf x=_ by rw[e1];show hg) (by rw[e2];show hm) r hd) rd
theorem lG(hm:X.mg x=ϐ)(hv:bootBuiltins x=ϑ (.type n))(hg:ψ (Gl X x) qQJ)(hn:ψ (x≠"__name__") qQZ)(hd:ψ ((x==("__debug__": ρ))=ϰ) qQZ):DE K X (.Name x pos) (dC<|.ty n):=.const (λY e1 e2=>MA (X:=Y) (v:=.ty n) (show Y.env.kindOf x=_ by rw[e1];show hg) (by rw[e2];show hm) hv rfl hn hd) λz=>Wr n
def JZ:iJ:=λz S R z=>R [] S
def O5(t:TD)(u:iJ):iJ:=λσ S R Z=>t σ S (λd S1=>u σ S1 (λds a=>R (d::ds) a) Z) Z
theorem an:DA K X [] JZ:=⟨λy=>(CY (X:=y.cx)).mono <| by rintro τ H Q ⟨σ,S,R,Z,d,c,q,a,_⟩;show a [] S [] H q bL c<|Kp.refl _⟩
theorem ac{t:TD}(h:DE K X e t)(hr:DA K X es u)(hp:ψ (isPlain e=ϱ) qQJ):DA K X (e::es) (O5 t u):=
 ⟨λy=>(pa2 (h.of y) (hr.of y) hp).mono <| by rintro τ H Q ⟨σ,S,R,Z,a,i,q,o,c⟩;show
  ⟨σ,S,_,Z,a,i,q,λd S1 x H1 n g s1 k1=>⟨σ,S1,_,Z,a.ts k1,s1,n,λds l xs H2 j m s2 k2=>o (d::ds) l (x::xs) H2 j (aZ (Rv.ts k2 _ g) m) s2<|k1.trans k2,c.kp k1⟩,c⟩⟩
abbrev vB:=D->D->av->KD->η
theorem ap{x:ρ}{pos:Pos}(i:π)(hr:DA K X es u)(hN:ψ (X.N[i]?=some x) qQJ)(hv:P_ X.env.scope x:=by first|show Or.inl rfl|show Or.inr (Or.inl rfl)|show Or.inr (Or.inr rfl))(hd:ψ ((x==("__debug__": ρ))=ϰ) qQZ) (a:ψ ((x==("__classdict__": ρ))=ϰ) qQZ):DA K X (.Name x pos::es) (O5 (Wu i) u):=ac (dv i hN hv hd a) hr rfl
def Lr(K:Φ)(r:vB):R2:=λx y H Q=>∃d e S R,Rv K H d x/\Rv K H e y/\Rs K S H/\r d e S R/\Cn K H R Q
def pK(K:Φ)(f:ξ->ξ->Sem ξ)(r:vB):Prop:=∀X:Cx,X.K=K->X.A.units+64<cLine->gX X f (Lr K r)
def RH(r:vB)(ta tb:TD):TD:=λσ S R Z=>ta σ S (λx S1=>tb σ S1 (λy a=>r x y a R) Z) Z
def T.op(h:T K E (RH r ta tb) τ H Q):Uj (Lr K r) (T K E ta) (T K E tb) τ H Q:=by let⟨σ,S,R,Z,a,i,q,o,c⟩:=h;show{σ,S,_,Z,a,i,q,λd S1 x H1 n g s1 k1=>{σ,S1,_,Z,a.ts k1,s1,n,λe l y H2 j m s2 k2=>{d,e,l,R,Rv.ts k2 _ g,m,s2,j,o.kp<|k1.trans k2},c.kp k1},c}
theorem bo(ho:pK K (binaryOp op) r)(hu:X.A.units+64<cLine)(ha:DE K X a ta)(hb:DE K X b tb)(c:ψ (X.K=K) qQJ):DE K X (.BinOp a op b pos) (RH r ta tb):=⟨λy=>(Vp (ho y.cx c hu) (ha.of y)<|hb.of y).mono λz z z h=>h.op⟩
theorem cm(ho:pK K (compareOp op) r)(hu:X.A.units+64<cLine)(ha:DE K X a ta)(hb:DE K X b tb)(hm:ψ (behindInMarks op b=ϰ) qQ2)(c:ψ (X.K=K) qQJ):DE K X (.Compare a [op] [b] pos) (RH r ta tb):=⟨λy=>(Fd (ho y.cx c hu) (ha.of y) (hb.of y) hm).mono λz z z h=>h.op⟩
def dB(t:TD):lW:=λσ S R Z=>t σ S (λx S1=>Uz x S1 R) Z
def Tt.b{t:TD}(h:Tt K E (dB t) τ H Q):T K E t τ H λx H'=>∃k,x=.bl k/\Q k H':=by let⟨σ,S,R,Z,g,c,q,i,l⟩:=h;show{σ,S,_,Z,g,c,q,by rintro d S1 x H1 ⟨b,e,j⟩ a s1 k1;show by subst e;show{b,a.bl,i b S1 H1 j s1 k1},l}
theorem Tt.bop(h:Tt K E (dB<|RH r ta tb) τ H Q):Jp (Uj (Lr K r) (T K E ta)<|T K E tb) τ H Q:=h.b.op
theorem bJ(ho:pK K (compareOp op) r)(hu:X.A.units+64<cLine)(ha:DE K X a ta)(hb:DE K X b tb)(hm:ψ (behindInMarks op b=ϰ) qQ2)(c:ψ (X.K=K) qQJ):DT K X (.Compare a [op] [b] pos) (dB<|RH r ta tb):=⟨λy=>(MK (ho y.cx c hu) (ha.of y) (hb.of y) hm).mono λz z z h=>h.bop⟩
theorem tv{t:TD}(h:DE K X e t)(c:ψ (∀a,isTrue e X.env a=(do let v <-a;standAt e.pos;holding [v] (truthy v))) qQ0):DT K X e (dB t):=⟨λy=>(Qh (X:=y.cx) (h.of y) c).mono λz z z h=>h.b⟩
def DM(r e:vB)(ta tb tc:TD):TD:=λσ S R Z=>ta σ S (λx S1=>tb σ S1 (λy c=>r x y c λz a=>Uz z a λk a=>if k=ϱ then tc σ a (λw d=>e y w d R) Z else R (.bl false) a) Z) Z
def T.chain(h:T K E (DM r r' ta tb tc) τ H Q):CP (Lr K r) (Lr K r') (T K E ta) (T K E tb) (T K E tc) τ H Q:=by let⟨σ,S,R,Z,g,C,q,m,c⟩:=h;show{σ,S,_,Z,g,C,q,λd S1 x H1 t B s1 k1=>{σ,S1,_,Z,g.ts k1,s1,t,λe G y H2 p l s2 k2=>{d,e,G,_,Rv.ts k2 _ B,l,s2,p,λz j v A a o i k3=>?_},c.kp k1},c};let⟨k,rfl,a⟩:=a;show{k,o.bl,?_};cases k with|true=>rw[qb rfl]at a⊢;show{σ,j,_,Z,((g.ts k1).ts k2).ts k3,i,a,λw s L J n I F k4=>{e,w,s,R,Rv.ts (k3.trans k4) _ l,I,F,n,m.kp<|((k1.trans k2).trans k3).trans k4},c.kp<|(k1.trans k2).trans k3}|false=>rw[qa ze]at a⊢;show m _ j _ A a (bV false) i<|(k1.trans k2).trans k3
theorem cc(ho:pK K (compareOp op) r)(g:pK K (compareOp G5) r')(hu:X.A.units+64<cLine)(ha:DE K X a ta)(hb:DE K X b tb)(e:DE K X c tc) (hm:ψ (lastMarks [op,G5] [b,c]=ϰ) qQ2) (d:ψ (X.K=K) qQJ):DE K X (.Compare a [op,G5] [b,c] pos) (DM r r' ta tb tc):=⟨λy=>(Jq (ho y.cx d hu) (g y.cx d hu) (ha.of y) (hb.of y) (e.of y) hm).mono λz z z h=>h.chain⟩
theorem tcc(ho:pK K (compareOp op) r)(g:pK K (compareOp G5) r')(hu:X.A.units+64<cLine)(ha:DE K X a ta)(hb:DE K X b tb)(e:DE K X c tc) (hm:ψ (lastMarks [op,G5] [b,c]=ϰ) qQ2) (d:ψ (X.K=K) qQJ):DT K X (.Compare a [op,G5] [b,c] pos) (dB<|DM r r' ta tb tc):=⟨λy=>(Jr (ho y.cx d hu) (g y.cx d hu) (ha.of y) (hb.of y) (e.of y) hm).mono λz z z h=>h.b.chain⟩
def Ww(ta tb:TD):TD:=λσ S R Z=>ta σ S (λx S1=>Uz x S1 λc S1=>if c=ϱ then tb σ S1 R Z else R (.bl false) S1) Z
def aa8(ta tb:TD):TD:=λσ S R Z=>ta σ S (λx S1=>Uz x S1 λc S1=>if c=ϱ then R (.bl true) S1 else tb σ S1 R Z) Z
def Wx(ta:TD):TD:=λσ S R Z=>ta σ S (λx S1=>Uz x S1 λc S1=>R (.bl<|!c) S1) Z
theorem IV{t:TD}(h:DE K X a t):DE K X (.BoolOp op [a] pos) t:=⟨λy=>Qj<|h.of y⟩
theorem pL{a b:Δ}{rest:δ Δ}{ta tb:TD}{pos:Pos}(ha:DE K X a ta)(hb:DE K X (.BoolOp .And (b::rest) pos) tb):DE K X (.BoolOp .And (a::b::rest) pos) (Ww ta tb):=
 ⟨λy=>(Ql (ha.of y)<|hb.of y).mono <| by rintro τ H Q ⟨σ,S,R,Z,h,m,q,i,j⟩;show
  ⟨σ,S,_,Z,h,m,q,by
   rintro d S1 x H1 ⟨c,e,g⟩ l s1 k1
   subst e
   show{c,l.bl,?_}
   cases c with
   |true=>rw[qb rfl]at g⊢;show{σ,S1,R,Z,h.ts k1,s1,g,i.kp k1,j.kp k1}
   |false=>rw[qa ze]at g⊢;show i _ S1 _ H1 g (bV false) s1 k1,j⟩⟩
theorem eor{a b:Δ}{rest:δ Δ}{ta tb:TD}{pos:Pos}(ha:DE K X a ta)(hb:DE K X (.BoolOp .Or (b::rest) pos) tb):DE K X (.BoolOp .Or (a::b::rest) pos) (aa8 ta tb):=
 ⟨λy=>(Va (ha.of y)<|hb.of y).mono <| by rintro τ H Q ⟨σ,S,R,Z,h,m,q,i,j⟩;show
  ⟨σ,S,_,Z,h,m,q,by
   rintro d S1 x H1 ⟨c,e,g⟩ l s1 k1
   subst e
   show{c,l.bl,?_}
   cases c with
   |false=>rw[qa ze]at g⊢;show{σ,S1,R,Z,h.ts k1,s1,g,i.kp k1,j.kp k1}
   |true=>rw[qb rfl]at g⊢;show i _ S1 _ H1 g (bV true) s1 k1,j⟩⟩
theorem aa9(ha:DE K X a ta):DE K X (.UnaryOp .Not a pos) (Wx ta):=
 ⟨λy=>(Qm<|ha.of y).mono <| by rintro τ H Q ⟨σ,S,R,Z,i,h,q,j,m⟩;show
  ⟨σ,S,_,Z,i,h,q,by rintro d S1 x H1 ⟨c,e,l⟩ g s1 k1;show by subst e;show⟨c,g.bl,j _ S1 _ H1 l (bV _) s1 k1⟩,m⟩⟩
def aa_(t:lW):lW:=λσ S R Z=>t σ S (λc S1=>R (!c) S1) Z
def aba(t u:lW):lW:=λσ S R Z=>t σ S (λc S1=>if c=ϱ then u σ S1 R Z else R false S1) Z
def dOr(t u:lW):lW:=λσ S R Z=>t σ S (λc S1=>if c=ϱ then R true S1 else u σ S1 R Z) Z
theorem bS{t:lW}(ha:DT K X a t):DT K X (.UnaryOp .Not a pos) (aa_ t):=⟨λy=>(Qi<|ha.of y).mono <| by rintro τ H Q ⟨σ,S,R,Z,e,d,q,g,i⟩;show{σ,S,_,Z,e,d,q,λc S1 H1 h s1 k1=>g _ S1 H1 h s1 k1,i}⟩
structure DW(K:Φ)(X:Cx)(e:Δ)(t:lW):η where
 of:∀{b:χ}(y:Ev X b),PW y.cx e<|Tt K y.E t
theorem PW.mono{t t':TT}(h:PW X e t)(i:∀τ H Q,t' τ H Q->t τ H Q):PW X e t':=λa qc s τ H Q I q=>h a qc s τ H Q I<|i τ H Q q
theorem twd{t:lW}(h:DW K X e t):DT K X e t:=⟨λy=>(h.of y).pt⟩
theorem tw1{t:lW}(h:DT K X a t):DW K X (.BoolOp op [a] pos) t:=⟨λy=>by cases op with|And=>show pw_and1 (h.of y)|Or=>show pw_or1<|h.of y⟩
theorem twand{a b:Δ}{rest:δ Δ}{t u:lW}{pos:Pos}(ha:DT K X a t)(hb:DW K X (.BoolOp .And (b::rest) pos) u):DW K X (.BoolOp .And (a::b::rest) pos) (aba t u):=
 ⟨λy=>(pw_and (ha.of y)<|hb.of y).mono <| by rintro τ H Q ⟨σ,S,R,Z,e,i,q,g,h⟩;show
  ⟨σ,S,_,Z,e,i,q,λc S1 H1 d s1 k1=>by
   cases c with
   |true=>rw[qb rfl]at d⊢;show{σ,S1,R,Z,e.ts k1,s1,d,g.kp k1,h.kp k1}
   |false=>rw[qa ze]at d⊢;show g _ S1 H1 d s1 k1,h⟩⟩
theorem twor{a b:Δ}{rest:δ Δ}{t u:lW}{pos:Pos}(ha:DT K X a t)(hb:DW K X (.BoolOp .Or (b::rest) pos) u):DW K X (.BoolOp .Or (a::b::rest) pos) (dOr t u):=
 ⟨λy=>(pw_or (ha.of y)<|hb.of y).mono <| by rintro τ H Q ⟨σ,S,R,Z,e,i,q,g,h⟩;show
  ⟨σ,S,_,Z,e,i,q,λc S1 H1 d s1 k1=>by
   cases c with
   |false=>rw[qa ze]at d⊢;show{σ,S1,R,Z,e.ts k1,s1,d,g.kp k1,h.kp k1}
   |true=>rw[qb rfl]at d⊢;show g _ S1 H1 d s1 k1,h⟩⟩
def abb(t:lW)(ta tb:TD):TD:=λσ S R Z=>t σ S (λc S1=>if c=ϱ then ta σ S1 R Z else tb σ S1 R Z) Z
theorem UA{t:lW}(i:DT K X c t)(ha:DE K X a ta)(hb:DE K X b tb):DE K X (.IfExp c a b pos) (abb t ta tb):=
 ⟨λy=>(Jg (i.of y) (ha.of y)<|hb.of y).mono <| by rintro τ H Q ⟨σ,S,R,Z,e,j,q,h,g⟩;show
  ⟨σ,S,_,Z,e,j,q,λc S1 H1 d s1 k1=>by
   cases c with
   |true=>rw[qb rfl]at d⊢;show{σ,S1,R,Z,e.ts k1,s1,d,h.kp k1,g.kp k1}
   |false=>rw[qa ze]at d⊢;show{σ,S1,R,Z,e.ts k1,s1,d,h.kp k1,g.kp k1},g⟩⟩
def abc(t:iJ):TD:=λσ S R Z=>t σ S (λds S1=>ds.length<=Ϙ/\∀p,S1 p=ϐ->R (.ref p) (S1.set p<|.lst ds)) Z
def abd(t:iJ):TD:=λσ S R Z=>t σ S (λds S1=>ds.length<=Ϙ/\R (.tup ds) S1) Z
theorem ba{t:iJ}(h:DA K X es t):DE K X (.List es pos) (abc t):=
 ⟨λy=>(QL<|h.of y).mono <| by rintro τ H Q ⟨σ,S,R,Z,d,c,q,e,i⟩;show
  ⟨σ,S,_,Z,d,c,q,by rintro ds S1 xs H1 ⟨hl,g⟩ a s1 k1;show⟨by rw[a.len];show hl,λp hp=>e _ _ _ _ (g p<|s1.fresh hp) (eX p) (s1.new hp ⟨xs,aD,RvAll.ts (.new hp) _ a⟩)<|k1.trans<|.new hp⟩,i⟩⟩
theorem aI{t:iJ}(h:DA K X es t):DE K X (.Tuple es x1 pos) (abd t):=
 ⟨λy=>(QK<|h.of y).mono <| by rintro τ H Q ⟨σ,S,R,Z,d,c,q,e,i⟩;show
  ⟨σ,S,_,Z,d,c,q,by rintro ds S1 xs H1 ⟨hl,g⟩ a s1 k1;show⟨by rw[a.len];show hl,λp hp=>e _ _ _ _ g (jk aD<|RvAll.ts (.new hp) _ a) (s1.grow hp)<|k1.trans<|.new hp⟩,i⟩⟩
def abe:TD:=λz S R z=>∀p,S p=ϐ->R (.ref p) (S.set p<|.cZ [])
theorem Hy:DE K X (.Dict [] [] pos) abe:=⟨λy=>(JB (X:=y.cx)).mono <| by rintro τ H Q ⟨σ,S,R,Z,d,a,q,c,e⟩ p hp;show c _ _ _ _ (q p<|a.fresh hp) (eX p) (a.new hp {[],aD,.nil})<|.new hp⟩
def Lc(K:Φ)(r:δ D->av->KD->η):δ V->Hp->VK->Prop:=λxs H Q=>∃ds S R,RvAll K H ds xs/\Rs K S H/\r ds S R/\Cn K H R Q
def jE(K:Φ)(f:ξ)(r:δ D->av->KD->η):Prop:=∀X:Cx,X.K=K->X.calm=ϱ->eQ X f (Lc K r)
def Wy(r:δ D->av->KD->η)(t:iJ):TD:=λσ S R Z=>t σ S (λds S1=>r ds S1 R) Z
def T.cb{t:iJ}(h:T K E (Wy r t) τ H Q):tCB (Lc K r) (Ta K E t) τ H Q:=by let⟨σ,S,R,Z,d,c,q,e,i⟩:=h;show{σ,S,_,Z,d,c,q,λds S1 xs H1 g a s1 k1=>{ds,S1,R,a,s1,g,e.kp k1},i}
theorem cb{x:ρ}{id:String}{r:δ D->av->KD->η}{e:Δ}{es:δ Δ}{t:iJ}{p pos:Pos}(a:jE K (.builtin id) r)(hm:X.mg x=ϐ)(hv:bootBuiltins x=ϑ (.builtin id))(ha:DA K X (e::es) t)(hg:ψ (Gl X x) qQJ) (hn:ψ (x≠"__name__") qQZ) (c:ψ ((x==("__debug__": ρ))=ϰ) qQZ) (j:ψ (starEach (e::es) X.env=`j::starEach es X.env) qQJ) (g:ψ ((backTo pos<|starEach es X.env).any (·.1)=ϰ) qQJ) (i:ψ (X.K=K) qQJ) (d:ψ (X.calm=ϱ) qQJ): DE K X (.Call (.Name x p) (e::es) [] pos) (Wy r t):=⟨λy=>(sV (X:=y.cx) (a _ i d) hg hm hv (ha.of y) hn c j g).mono λz z z h=>h.cb⟩
theorem ct{x:ρ}{id:String}{r:δ D->av->KD->η}{e:Δ}{es:δ Δ}{t:iJ}{p pos:Pos}(a:jE K (.type id) r)(hm:X.mg x=ϐ)(hv:bootBuiltins x=ϑ (.type id))(ha:DA K X (e::es) t)(hg:ψ (Gl X x) qQJ) (hn:ψ (x≠"__name__") qQZ) (c:ψ ((x==("__debug__": ρ))=ϰ) qQZ) (j:ψ (starEach (e::es) X.env=`j::starEach es X.env) qQJ) (g:ψ ((backTo pos<|starEach es X.env).any (·.1)=ϰ) qQJ) (i:ψ (X.K=K) qQJ) (d:ψ (X.calm=ϱ) qQJ): DE K X (.Call (.Name x p) (e::es) [] pos) (Wy r t):=⟨λy=>(wa (X:=y.cx) (a _ i d) hg hm hv (ha.of y) hn c j g).mono λz z z h=>h.cb⟩
end
section
variable{K:Φ}
theorem Cn.now(h:Cn K H R Q)(a:Rs K S H)(r:R d S)(c:Rv K H d v):Q v H:=h d S v H r c a<|.refl _
theorem Cn.new{H:Hp}{R:KD}{Q:VK}{S:av}{p:ε}{ds:δ D}{xs:δ V}(h:Cn K H R Q)(a:Rs K S H)(hp:H p=ϐ)(r:S p=ϐ->R (.ref p) (S.set p<|.lst ds))(c:RvAll K H ds xs):Q (.ref p) (upd H p<|.lst xs):=h _ _ _ _ (r<|a.fresh hp) (eX p) (a.new hp {xs,aD,RvAll.ts (.new hp) _ c})<|.new hp
theorem Cn.Ny{H:Hp}{R:KD}{Q:VK}{S:av}{p:ε}{ds:δ D}{xs:δ V}(h:Cn K H R Q)(c:Rs K S H)(hp:H p=ϐ)(r:R (.tup ds) S)(a:RvAll K H ds xs):Q (.ref p) (upd H p<|.tup xs):=h _ _ _ _ r (jk aD<|RvAll.ts (.new hp) _ a) (c.grow hp)<|.new hp
theorem Cn.put{H:Hp}{R:KD}{Q:VK}{S:av}{p:ε}{ds es:δ D}{xs:δ V}{d:D}{v:V}(h:Cn K H R Q)(a:Rs K S H)(hp:S p=ϑ (.lst es))(r:R d<|S.set p<|.lst ds)(rd:Rv K H d v)(c:RvAll K H ds xs):Q v (upd H p<|.lst xs):=h _ _ _ _ r (Rv.ts (a.jl hp) _ rd) (a.put hp {xs,aD,RvAll.ts (a.jl hp) _ c})<|a.jl hp
def qB(S:av):D->δ D->η|.ref a,ds=>S a=ϑ (.lst ds)|.lV es,ds=>es=ds|_,_=>False
def qB.at{H:Hp}{S:av}{d:D}{ds:δ D}{v:V}(h:qB S d ds)(c:Rs K S H)(r:Rv K H d v):∃a xs,v=.ref a/\jf K H a xs/\RvAll K H ds xs:=by cases d with|ref a=>(let⟨xs,e,q⟩:=c.lst h;show{a,xs,r.ref,.of e,q})|lV es=>(have h:es=ds:=h;subst h;let⟨a,xs,e,q,t⟩:=r.lV;show⟨a,xs,e,q.sq,t⟩)|_=>show h.elim
def abf:vB:=λx y S R=>match x,y with|.int i,.int j=>R (.int<|i+j) S|.str a,.str b=>a.length+b.length<=Ϙ/\R (.str<|a++b) S|.tup a,.tup b=>a.length+b.length<=Ϙ/\R (.tup<|a++b) S|.ref a,.ref b=>∃xs ys,S a=ϑ (.lst xs)/\S b=ϑ (.lst ys)/\xs.length+ys.length<=Ϙ/\∀p,S p=ϐ->R (.ref p) (S.set p<|.lst<|xs++ys)|_,_=>False
def eR:pK K (binaryOp .Add) abf:=by rintro X A hu qc s σ H x y v u Q I t n ⟨d,e,S,R,r,o,c,h,m⟩;subst A;cases d with|int i=>(cases e with|int j=>show Jn qc s σ H x y v u Q I t n {i,j,r.int,o.int,m.now c h<|aS _}|_=>show h.elim)|str i=>(cases e with|str j=>show sR qc s σ H x y v u Q I t n {i,j,r.str,o.str,h.1,m.now c h.2<|jj _}|_=>show h.elim)|tup i=>(cases e with|tup j=>(let⟨a,xs,rfl,w,l⟩:=r.tup;let⟨b,ys,rfl,z,g⟩:=o.tup;show Nh qc s σ H _ _ v u Q I t n {a,b,xs,ys,rfl,rfl,.of w,.of z,by rw[l.len,g.len];show h.1,λe=>?_,λk e=>?_,λk k p hp=>m.Ny c hp h.2<|l.app g};subst e;have:i=[]:=List.length_eq_zero_iff.mp l.len.symm;subst this;show m.now c h.2<|jk z g;subst e;have:j=[]:=List.length_eq_zero_iff.mp g.len.symm;subst this;show m.now c h.2<|by rw[yR];show jk w l)|_=>show h.elim)|ref a=>(cases e with|ref b=>(let⟨xs,ys,e1,e2,hl,q⟩:=h;let⟨vs,h1,l⟩:=c.lst e1;let⟨ws,h2,g⟩:=c.lst e2;show Jx qc s σ H x y v u Q I t n {a,b,vs,ws,r.ref,o.ref,h1,h2,by rw[l.len,g.len];show hl,λp hp=>m.new c hp (q p)<|l.app g})|_=>show h.elim)|_=>show h.elim
def abg:vB:=λx y S R=>match x,y with|.int i,.int j=>R (.int<|i-j) S|_,_=>False
def O6:pK K (binaryOp .Sub) abg:=by rintro X m hu qc s σ H x y v u Q I l a ⟨d,e,S,R,i,g,c,h,j⟩;cases d<;>cases e<;>first|show False.elim h|show QB qc s σ H x y v u Q I l a {_,_,i.int,g.int,j.now c h<|aS _}
def abh:vB:=λx y S R=>match x,y with|.int i,.int j=>MI i j/\R (.int<|i*j) S|.str z,.int n=>MulOk z n/\R (.str<|PySem.Txt.mul z n) S|_,_=>False
def wm:pK K (binaryOp .Mult) abh:=by rintro X m hu qc s σ H x y v u Q I l a ⟨d,e,S,R,i,g,c,h,j⟩;cases d<;>cases e<;>first|show False.elim h|show QC qc s σ H x y v u Q I l a {_,_,i.int,g.int,h.1,j.now c h.2<|aS _}|show DB qc s σ H x y v u Q I l a {_,_,i.str,g.int,h.1,j.now c h.2<|jj _}
def abi:vB:=λx y S R=>match x,y with|.int i,.int j=>0<j/\R (.int<|i%j) S|_,_=>False
def c8:pK K (binaryOp .Mod) abi:=by rintro X m hu qc s σ H x y v u Q I l a ⟨d,e,S,R,i,g,c,h,j⟩;cases d<;>cases e<;>first|show False.elim h|show QD qc s σ H x y v u Q I l a {_,_,i.int,g.int,h.1,j.now c h.2<|aS _}
def Wz:vB:=λx y S R=>match x,y with|.int i,.int j=>JG i j/\R (.int<|i/j) S|_,_=>False
def gy:pK K (binaryOp .FloorDiv) Wz:=by rintro X m hu qc s σ H x y v u Q I l a ⟨d,e,S,R,i,g,c,h,j⟩;cases d<;>cases e<;>first|show False.elim h|show JH qc s σ H x y v u Q I l a {_,_,i.int,g.int,h.1,j.now c h.2<|aS _}
def abj:vB:=λx y S R=>match x,y with|.int i,.int j=>Vs i j/\R (.int<|i^j.toNat) S|_,_=>False
def nJ:pK K (binaryOp .Pow) abj:=by rintro X m hu qc s σ H x y v u Q I l a ⟨d,e,S,R,i,g,c,h,j⟩;cases d<;>cases e<;>first|show False.elim h|show QE qc s σ H x y v u Q I l a {_,_,i.int,g.int,h.1,j.now c h.2<|aS _}
def J1(f:ν->ν->χ)(g:ρ->ρ->χ):vB:=λx y S R=>match x,y with|.int i,.int j=>R (.bl<|f i j) S|.str i,.str j=>R (.bl<|g i j) S|_,_=>False
def Fu(h1:∀X:Cx,gX X (compareOp op)<|MG λi j=>.bl<|f i j) (h2:∀X:Cx,gX X (compareOp op) λx y H Q=>∃i j,x=.str i/\y=.str j/\Q (.bl<|g i j) H):pK K (compareOp op) (J1 f g):=by rintro X p hu qc s σ H x y v u Q I o a ⟨d,e,S,R,m,l,c,h,n⟩;cases d<;>cases e<;>first|show False.elim h|show h1 X qc s σ H x y v u Q I o a {_,_,m.int,l.int,n.now c h<|bV _}|show h2 X qc s σ H x y v u Q I o a {_,_,m.str,l.str,n.now c h<|bV _}
theorem xH:pK K (compareOp .Lt) (J1 (λi j=>ω<|i<j) λi j=>oZ i j):=Fu (λz=>Vu) λz=>G1
theorem mG:pK K (compareOp .LtE) (J1 (λi j=>ω<|i<=j) λi j=>IQ i j):=Fu (λz=>Vv) λz=>Hh
theorem vE:pK K (compareOp .Gt) (J1 (λi j=>ω<|j<i) λi j=>oZ j i):=Fu (λz=>Vx) λz=>Hj
theorem abk:pK K (compareOp .GtE) (J1 (λi j=>ω<|j<=i) λi j=>IQ j i):=Fu (λz=>Vy) λz=>Hi
noncomputable def ai:D->χ|.ay=>true|_=>false
def Bb(r:Rv K H d v):ω (v=.ay)=ai d:=by cases d with|ay=>rw[r.ay];rfl|bl b=>rw[r.bl];rfl|int b=>rw[r.int];rfl|str b=>rw[r.str];rfl|ref b=>rw[r.ref];rfl|ty b=>rw[r.ty];rfl|tup b=>(let⟨a,xs,rfl,_⟩:=r.tup;rfl)|lV b=>(let⟨a,xs,rfl,_⟩:=r.lV;rfl)|kt b=>let⟨a,xs,rfl,_⟩:=r.kt;rfl
def isD:vB:=λx y S R=>match y with|.ay=>R (.bl<|ai x) S|_=>False
def WA:vB:=λx y S R=>match y with|.ay=>R (.bl<|!ai x) S|_=>False
def mH:pK K (compareOp .Is) isD:=by rintro X m hu qc s σ H x y v u Q I l a ⟨d,e,S,R,i,g,c,h,j⟩;cases e<;>first|show False.elim h|show QG qc s σ H x y v u Q I l a {g.ay,by rw[Bb i];show j.now c h<|bV _}
def iC:pK K (compareOp .IsNot) WA:=by rintro X m hu qc s σ H x y v u Q I l a ⟨d,e,S,R,i,g,c,h,j⟩;cases e<;>first|show False.elim h|show MJ qc s σ H x y v u Q I l a {g.ay,by rw[Bb i];show j.now c h<|bV _}
mutual
def Dp(S:av):D->PyData->η|.ay,p=>p=.none|.bl b,p=>p=.bool b|.int i,p=>p=.int i|.str z,p=>p=.str z|.tup ds,p=>∃ps,p=.tuple ps/\DpAll S ds ps|.lV ds,p=>∃ps,p=.list ps/\DpAll S ds ps|.kt _,_=>False|.ref _,_=>False|.ty _,_=>False
def DpAll(S:av):δ D->δ PyData->η|[],ps=>ps=[]|d::ds,ps=>∃q qs,ps=q::qs/\Dp S d q/\DpAll S ds qs
end
mutual
theorem Dp.dt:∀(d:D){p:PyData}{v:V},Dp S d p->Rv K H d v->Dt K H p v|.ay,p,v,h,r=>by simp only[Dp]at h;subst h;simp only[Dt];show r.ay|.bl b,p,v,h,r=>by simp only[Dp]at h;subst h;simp only[Dt];show r.bl|.int b,p,v,h,r=>by simp only[Dp]at h;subst h;simp only[Dt];show r.int|.str b,p,v,h,r=>by simp only[Dp]at h;subst h;simp only[Dt];show r.str|.tup ds,p,v,h,r=>(by simp only[Dp]at h;let⟨ps,rfl,h⟩:=h;let⟨a,xs,rfl,q,t⟩:=r.tup;simp only[Dt];show{a,xs,rfl,.of q,DpAll.dt ds h t})|.lV ds,p,v,h,r=>(by simp only[Dp]at h;let⟨ps,rfl,h⟩:=h;let⟨a,xs,rfl,q,t⟩:=r.lV;simp only[Dt];show{a,xs,rfl,q.sq,DpAll.dt ds h t})|.kt a,p,v,h,r=>by simp only[Dp]at h|.ref a,p,v,h,r=>by simp only[Dp]at h|.ty a,p,v,h,r=>by simp only[Dp]at h
theorem DpAll.dt:∀(ds:δ D){ps:δ PyData}{vs:δ V},DpAll S ds ps->RvAll K H ds vs->DtAll K H ps vs|[],ps,vs,h,r=>by simp only[DpAll]at h;subst h;rw[r.nil];simp only[DtAll]|d::ds,ps,vs,h,r=>by simp only[DpAll]at h;let⟨q,qs,rfl,h1,h2⟩:=h;let⟨y,ys,rfl,c,a⟩:=r.cons;simp only[DtAll];show{y,ys,rfl,Dp.dt d h1 c,DpAll.dt ds h2 a}
end
def Dl(S:av):D->PyData->η|.ref a,p=>∃ds ps,S a=ϑ (.lst ds)/\p=.list ps/\DpAll S ds ps|d,p=>Dp S d p
def Dl.dt(h:Dl S d p)(c:Rs K S H)(r:Rv K H d v):Dt K H p v:=by cases d with|ref a=>(let⟨ds,ps,e,rfl,h⟩:=h;let⟨xs,e1,t⟩:=c.lst e;rw[r.ref];simp only[Dt];show{a,xs,rfl,.of e1,DpAll.dt ds h t})|_=>show Dp.dt _ h r
def IW(a:χ):vB:=λx y S R=>match x,y with|.int i,.int j=>(R (.bl<|if a then !decide (i=j) else ω (i=j)) S)|.str i,.str j=>(R (.bl<|if a then !decide (i=j) else ω (i=j)) S)|x,y=>∃p q,Dl S x p/\Dl S y q/\p.canLay0=ϱ/\q.canLay0=ϱ/\(p.depth<=64\/q.depth<=64)/\R (.bl<|if a then !PyData.eqv p q else PyData.eqv p q) S
def J2(h:IW neg x y S R):(∃i j,x=.int i/\y=.int j/\R (.bl<|if neg then !decide (i=j) else ω (i=j)) S)\/(∃i j,x=.str i/\y=.str j/\R (.bl<|if neg then !decide (i=j) else ω (i=j)) S)\/∃p q,Dl S x p/\Dl S y q/\p.canLay0=ϱ/\q.canLay0=ϱ/\(p.depth<=64\/q.depth<=64)/\R (.bl<|if neg then !PyData.eqv p q else PyData.eqv p q) S:=by cases x<;>cases y<;>first|show .inl {_,_,rfl,rfl,h}|show .inr (.inl {_,_,rfl,rfl,h})|show .inr (.inr h)
def cE:pK K (compareOp .Eq) (IW false):=by
 rintro X r hu qc s σ H x y v u Q I n c ⟨d,e,S,R,l,g,a,h,m⟩;subst r;rcases J2 h with⟨i,j,rfl,rfl,h⟩|⟨i,j,rfl,rfl,h⟩|⟨p,q,h1,h2,o,t,dp,h⟩;cases l.int;cases g.int;show OQ qc s σ H _ _ v u Q I n c {rfl,?_};have e:ω (V.int i=V.int j)=ω (i=j):=`d
 rw[e];show m.now a h<|bV _;cases l.str;cases g.str;show OQ qc s σ H _ _ v u Q I n c {rfl,?_};have e:ω (V.str i=V.str j)=ω (i=j):=`d
 rw[e];show m.now a h<|bV _;show Ri hu qc s σ H x y v u Q I n c {p,q,h1.dt a l,h2.dt a g,o,t,dp,m.now a h<|bV _}
def fK:pK K (compareOp .NotEq) (IW true):=by
 rintro X r hu qc s σ H x y v u Q I n c ⟨d,e,S,R,l,g,a,h,m⟩;subst r;rcases J2 h with⟨i,j,rfl,rfl,h⟩|⟨i,j,rfl,rfl,h⟩|⟨p,q,h1,h2,o,t,dp,h⟩;cases l.int;cases g.int;show OR qc s σ H _ _ v u Q I n c {rfl,?_};have e:ω (V.int i=V.int j)=ω (i=j):=`d
 rw[e];show m.now a h<|bV _;cases l.str;cases g.str;show OR qc s σ H _ _ v u Q I n c {rfl,?_};have e:ω (V.str i=V.str j)=ω (i=j):=`d
 rw[e];show m.now a h<|bV _;show Rj hu qc s σ H x y v u Q I n c {p,q,h1.dt a l,h2.dt a g,o,t,dp,m.now a h<|bV _}
noncomputable def cK(kvs:δ<|Key×D)(k:Key):θ D:=(kvs.find? λa=>ω<|a.1=k).map (·.2)
noncomputable def dput(kvs:δ<|Key×D)(k:Key)(v:D):δ (Key×D):=if (kvs.any λa=>ω<|a.1=k)=ϱ then kvs.map (λa=>if a.1=k then (a.1,v) else a) else kvs++[(k,v)]
noncomputable def Bc(kvs:δ<|Key×D)(k:Key):δ (Key×D):=kvs.filter λa=>ω<|a.1≠k
def cJ.val(h:cJ K H ks vs)(k:Key):(∀d,cK ks k=ϑ d->∃v,gY vs k=ϑ v/\Rv K H d v)/\(cK ks k=ϐ->gY vs k=ϐ):=by induction h with|nil=>(show{λd e=>(by cases e),λz=>rfl})|@cons a b l m r t i=>let⟨k',d⟩:=a;let⟨g,v⟩:=b;let⟨c,r⟩:=r;dsimp only at c;subst c;unfold cK gY;simp only[yc];by_cases q:k'=k;rw[zy q];show{λd' e=>{v,rfl,(by cases e;show r)},λe=>(by cases e)};rw[zp q];show i
def cJ.any(h:cJ K H ks vs)(k:Key):(ks.any λkv=>ω<|kv.1=k)=(vs.any λkv=>ω<|kv.1=k):=by induction h with|nil=>rfl|cons r t a=>rw[yZ,yZ,a,r.1]
theorem cJ.len(h:cJ K H ks vs):vs.length=ks.length:=(yP h).symm
theorem cJ.app:∀{ks a:δ (κ×D)}{vs ws:δ (κ×V)},cJ K H ks vs->cJ K H a ws->cJ K H (ks++a) (vs++ws)|_,_,_,_,.nil,h=>h|_,_,_,_,.cons r t,h=>.cons r<|cJ.app t h
def cJ.QY(h:cJ K H ks vs)(k:Key)(rd:Rv K H d v):cJ K H (ks.map λkv=>if kv.1=k then (kv.1,d) else kv) (vs.map λkv=>if kv.1=k then (kv.1,v) else kv):=by induction h with|nil=>show .nil|@cons a b l m r t c=>show .cons ?_ c;dsimp only;by_cases q:b.1=k;rw[qb q,qb<|r.1.trans q];show⟨r.1,rd⟩;rw[qa q,qa λz=>q<|r.1.symm.trans z];show r
def cJ.put(h:cJ K H ks vs)(k:Key)(rd:Rv K H d v):cJ K H (dput ks k d) (putK vs k v):=by unfold dput putK;rw[h.any k];split;show h.QY k rd;show h.app<|.cons ⟨rfl,rd⟩ .nil
def cJ.drop(h:cJ K H ks vs)(k:Key):cJ K H (Bc ks k) (qx vs k):=by unfold Bc qx;induction h with|nil=>show .nil|@cons a b l m r t c=>rw[yW,yW,r.1];by_cases q:b.1=k;rw[qa<|by simp[q],qa<|by simp[q]];show c;rw[qb<|by simp[q],qb<|by simp[q]];show .cons r c
noncomputable def DN:D->θ Key|.int i=>some (.inl i)|.str z=>some (.inr z)|_=>none
def mI(h:DN d=ϑ k)(r:Rv K H d v):v=kV k:=by cases d with|int i=>(cases h;show r.int)|str i=>(cases h;show r.str)|_=>cases h
noncomputable def kC:D->χ|.ay=>true|.bl _=>true|.int _=>true|.str _=>true|_=>false
noncomputable def mJ:D->V|.ay=>.ay|.bl b=>.bl b|.int i=>.int i|.str z=>.str z|.ref a=>.ref a|.ty n=>.ty n|_=>.ay
def kD(h:kC d=ϱ)(r:Rv K H d v):v=mJ d/\iN v=ϱ:=by cases d with|ay=>(cases r.ay;show⟨rfl,rfl⟩)|bl b=>(cases r.bl;show⟨rfl,rfl⟩)|int b=>(cases r.int;show⟨rfl,rfl⟩)|str b=>(cases r.str;show⟨rfl,rfl⟩)|_=>cases h
theorem g_:∀{ds:δ D}{vs:δ V},ds.all kC=ϱ->RvAll K H ds vs->vs=ds.map mJ/\vs.all iN=ϱ|[],vs,_,r=>by rw[r.nil];show⟨rfl,rfl⟩|d::ds,vs,h,r=>by let⟨y,ys,rfl,r1,r2⟩:=r.cons;rw[List.all_cons,zR]at h;let⟨e1,a⟩:=kD h.1 r1;let⟨e2,c⟩:=g_ h.2 r2;show{by rw[e1,e2];rfl,?_};rw[List.all_cons,a,c];rfl
def inD(c:χ):vB:=λx y S R=>match y with|.str j=>(∃i,x=.str i/\R (.bl<|if c then !(!(Builtin.Str.occurrences j i 0 j.length 1).isEmpty) else !(Builtin.Str.occurrences j i 0 j.length 1).isEmpty) S)|.kt ds=>(kC x=ϱ/\ds.all kC=ϱ/\R (.bl<|if c then !IM (mJ x) (ds.map mJ) else IM (mJ x) (ds.map mJ)) S)|.tup ds=>(kC x=ϱ/\ds.all kC=ϱ/\R (.bl<|if c then !IM (mJ x) (ds.map mJ) else IM (mJ x) (ds.map mJ)) S)|.ref a=>((∃ds,S a=ϑ (.lst ds)/\kC x=ϱ/\ds.all kC=ϱ/\R (.bl<|if c then !IM (mJ x) (ds.map mJ) else IM (mJ x) (ds.map mJ)) S)\/∃kvs k,S a=ϑ (.cZ kvs)/\DN x=ϑ k/\R (.bl<|if c then !(cK kvs k).isSome else (cK kvs k).isSome) S)|_=>False
def rT(c:Rs K S H)(e:S a=ϑ (.cZ kvs)):∃o,pH H a (kV k) o/\o.isSome=(cK kvs k).isSome/\∀d,cK kvs k=ϑ d->∃v,o=ϑ v/\Rv K H d v:=by let⟨vs,e1,t⟩:=c.cZ e;show{_,pH.k e1,?_,λd h=>(t.val k).1 d h};cases q:cK kvs k with|none=>rw[(t.val k).2 q];rfl|some d=>let⟨v,e2,_⟩:=(t.val k).1 d q;rw[e2];rfl
def DP:pK K (compareOp .In) (inD false):=by rintro X C hu qc s σ H x y v u Q I A l ⟨d,e,S,R,p,B,c,h,z⟩;subst C;cases e with|str j=>(let⟨i,rfl,h⟩:=h;show G4 qc s σ H x y v u Q I A l {i,j,p.str,B.str,z.now c h<|bV _})|tup ds=>(let⟨m,n,h⟩:=h;let⟨a,xs,rfl,q,t⟩:=B.tup;let⟨e1,w⟩:=kD m p;let⟨e2,r⟩:=g_ n t;subst e1 e2;show pG qc s σ H _ _ v u Q I A l {a,_,rfl,.inr<|.of q,w,r,z.now c h<|bV _})|kt ds=>(let⟨m,n,h⟩:=h;let⟨a,xs,rfl,q,t⟩:=B.kt;let⟨e1,w⟩:=kD m p;let⟨e2,r⟩:=g_ n t;subst e1 e2;show pG qc s σ H _ _ v u Q I A l {a,_,rfl,.inr<|.inr q,w,r,z.now c h<|bV _})|ref a=>(cases B.ref;rcases h with⟨ds,e,m,n,h⟩|⟨kvs,k,e,hk,h⟩;let⟨xs,e1,t⟩:=c.lst e;let⟨e2,w⟩:=kD m p;let⟨e3,r⟩:=g_ n t;subst e2 e3;show pG qc s σ H _ _ v u Q I A l {a,_,rfl,.inl<|.of e1,w,r,z.now c h<|bV _};cases mI hk p;cases l;let⟨o,g,e1,_⟩:=rT (k:=k) c e;show aaC `b I g A λs' E=>{.bl o.isSome,H,E,rfl,?_};rw[e1];show z.now c h<|bV _)|_=>show h.elim
def WD:pK K (compareOp .NotIn) (inD true):=by rintro X C hu qc s σ H x y v u Q I A l ⟨d,e,S,R,p,B,c,h,z⟩;subst C;cases e with|str j=>(let⟨i,rfl,h⟩:=h;show xo qc s σ H x y v u Q I A l {i,j,p.str,B.str,z.now c h<|bV _})|tup ds=>(let⟨m,n,h⟩:=h;let⟨a,xs,rfl,q,t⟩:=B.tup;let⟨e1,w⟩:=kD m p;let⟨e2,r⟩:=g_ n t;subst e1 e2;show ji qc s σ H _ _ v u Q I A l {a,_,rfl,.inr<|.of q,w,r,z.now c h<|bV _})|kt ds=>(let⟨m,n,h⟩:=h;let⟨a,xs,rfl,q,t⟩:=B.kt;let⟨e1,w⟩:=kD m p;let⟨e2,r⟩:=g_ n t;subst e1 e2;show ji qc s σ H _ _ v u Q I A l {a,_,rfl,.inr<|.inr q,w,r,z.now c h<|bV _})|ref a=>(cases B.ref;rcases h with⟨ds,e,m,n,h⟩|⟨kvs,k,e,hk,h⟩;let⟨xs,e1,t⟩:=c.lst e;let⟨e2,w⟩:=kD m p;let⟨e3,r⟩:=g_ n t;subst e2 e3;show ji qc s σ H _ _ v u Q I A l {a,_,rfl,.inl<|.of e1,w,r,z.now c h<|bV _};cases mI hk p;cases l;let⟨o,g,e1,_⟩:=rT (k:=k) c e;show MV `b I g A λs' E=>{.bl<|!o.isSome,H,E,rfl,?_};rw[e1];show z.now c h<|bV _)|_=>show h.elim
def IxD(K:Φ)(r:vB):Prop:=∀X:Cx,X.K=K->X.A.units+64<cLine->VI X (Lr K r)
inductive Zc (ds:δ D) (i:ν) (S:av) (R:KD):η
 |mk (d:D) (h:iM ds i=ϑ d) (r:R d S)
inductive AtL (a:ε) (i:ν) (S:av) (R:KD):η
 |mk (ds:δ D) (d:D) (e:S a=ϑ (.lst ds)) (h:iM ds i=ϑ d) (r:R d S)
def ixD:vB:=λx y S R=>match x,y with|.tup ds,.int i=>Zc ds i S R|.kt ds,.int i=>Zc ds i S R|.lV ds,.int i=>Zc ds i S R|.str z,.int i=>∃c,z.length<=Ϙ/\iM z.cps.toList i=ϑ c/\R (.str ⟨#[c]⟩) S|.ref a,.int i=>AtL a i S R|.ref a,.str z=>∃kvs d,S a=ϑ (.cZ kvs)/\cK kvs (.inr z)=ϑ d/\R d S|_,_=>False
def RvAll.at{H:Hp}{ds:δ D}{xs:δ V}{i:ν}{d:D}(h:RvAll K H ds xs)(e:iM ds i=ϑ d):∃v,iM xs i=ϑ v/\Rv K H d v:=by unfold iM at e⊢;rw[h.len];cases q:C4 ds.length i with|none=>(rw[q]at e;cases e)|some j=>rw[q]at e;show h.get e
def abn:IxD K ixD:=by rintro X E hu value slice qc s σ H x y v u Q I B l ⟨d,e,S,R,n,m,j,h,A⟩ p;subst E;cases d with|tup ds=>(cases e with|int i=>(let⟨d,e,h⟩:=h;let⟨a,xs,rfl,q,t⟩:=n.tup;let⟨z,e1,r⟩:=t.at e;show Ju value slice qc s σ H _ _ v u Q I B l {a,xs,i,z,rfl,m.int,.of q,e1,A.now j h r} p)|_=>show h.elim)|kt ds=>(cases e with|int i=>(let⟨d,e,h⟩:=h;let⟨a,xs,rfl,q,t⟩:=n.kt;let⟨z,e1,r⟩:=t.at e;show Ju value slice qc s σ H _ _ v u Q I B l {a,xs,i,z,rfl,m.int,.inr q,e1,A.now j h r} p)|_=>show h.elim)|lV ds=>(cases e with|int i=>(let⟨d,e,h⟩:=h;let⟨a,xs,rfl,q,t⟩:=n.lV;let⟨z,e1,r⟩:=t.at e;show Fi value slice qc s σ H _ _ v u Q I B l {a,xs,i,z,rfl,m.int,q.sq,e1,A.now j h r} p)|_=>show h.elim)|str w=>(cases e with|int i=>(let⟨c,G,e,h⟩:=h;show QQ value slice qc s σ H _ _ v u Q I B l {w,i,c,n.str,m.int,G,e,A.now j h<|jj _} p)|_=>show h.elim)|ref a=>(cases e with|int i=>(let⟨ds,d,e,e1,h⟩:=h;let⟨xs,e2,t⟩:=j.lst e;let⟨z,e3,r⟩:=t.at e1;show Fi value slice qc s σ H _ _ v u Q I B l {a,xs,i,z,n.ref,m.int,.of e2,e3,A.now j h r} p)|str w=>(let⟨kvs,d,e,e1,h⟩:=h;cases n.ref;cases m.str;cases B;let⟨o,g,_,e2⟩:=rT (k:=.inr w) j e;let⟨z,rfl,r⟩:=e2 d e1;show tail_any (AY I g) PySem.F.slot_dict_getitem.lookup (Hc `b I g l λL s' J C=>{z,H,J,C,A.now j h r}) p)|_=>show h.elim)|_=>show h.elim
theorem ix(hu:X.A.units+64<cLine)(ha:DE K X a ta)(hb:DE K X b tb)(c:Fh b:=by show λz z=>rfl)(d:ψ (X.K=K) qQJ):DE K X (.Subscript a b pos) (RH ixD ta tb):=⟨λy=>(VL (abn y.cx d hu) (ha.of y) (hb.of y) c).mono λz z z h=>h.op⟩
end
section
variable{K:Φ}{X:Cx}
abbrev O7:=SD->av->(θ ν->av->η)->KX->η
def To(K:Φ)(E:St->XK)(t:O7):TO:=λτ H Q=>∃σ S R Z,gZ K H σ τ/\Rs K S H/\t σ S R Z/\(∀o S' H',R o S'->Rs K S' H'->Kp K H H'->Q o H')/\Hx K H Z (E τ)
structure DO(K:Φ)(X:Cx)(e:θ Δ)(t:O7):η where
 of:∀{b:χ}(y:Ev X b),PO y.cx e<|To K y.E t
theorem PO.mono{t t':TO}(h:PO X e t)(i:∀τ H Q,t' τ H Q->t τ H Q):PO X e t':=λqc s τ H Q I q=>h qc s τ H Q I<|i τ H Q q
def WE:O7:=λz S R z=>R none S
inductive WG (d:D) (S:av) (R:θ ν->av->η):η
 |mk (i:ν) (h:d=.int i) (r:R (some i) S)
def WH(t:TD):O7:=λσ S R Z=>t σ S (λd S1=>WG d S1 R) Z
theorem o0:DO K X none WE:=⟨λy=>(MR (X:=y.cx)).mono <| by rintro τ H Q ⟨σ,S,R,Z,d,c,q,a,e⟩;show a _ S H q c<|.refl _⟩
theorem o1{t:TD}(h:DE K X e t):DO K X (some e) (WH t):=⟨λy=>(MS<|h.of y).mono <| by rintro τ H Q ⟨σ,S,R,Z,g,c,q,j,m⟩;show{σ,S,_,Z,g,c,q,by rintro d S1 x H1 ⟨i,e,l⟩ a s1 k1;show by subst e;show{i,a.int,j _ S1 H1 l s1 k1},m}⟩
noncomputable def ck{α:Type}(xs:δ α)(lo hi:θ ν):δ α:=(xs.drop<|HT.sIx xs.length 0 lo).take<|HT.sIx xs.length xs.length hi-HT.sIx xs.length 0 lo
def RvAll.cut{H:Hp}{ds:δ D}{xs:δ V}(h:RvAll K H ds xs)(lo hi:θ ν):RvAll K H (ck ds lo hi) (AW xs lo hi):=by unfold ck AW;rw[h.len];show(h.drop _).take _
def slD:D->θ ν->θ ν->av->KD->Prop:=λx lo hi S R=>match x with|.str z=>z.length<=Ϙ/\R (.str<|PySem.Txt.slice z lo hi) S|.tup ds=>¬(HT.sIx ds.length 0 lo=0/\HT.sIx ds.length ds.length hi=ds.length)/\R (.tup<|ck ds lo hi) S|.ref a=>∃ds,S a=ϑ (.lst ds)/\∀p,S p=ϐ->R (.ref p) (S.set p<|.lst<|ck ds lo hi)|.lV ds=>∀p,S p=ϐ->R (.ref p) (S.set p<|.lst<|ck ds lo hi)|_=>False
def Lsl(K:Φ):V->θ ν->θ ν->Hp->VK->Prop:=λx lo hi H Q=>∃d S R,Rv K H d x/\Rs K S H/\slD d lo hi S R/\Cn K H R Q
def abo(w:X.K=K):Ul X (Lsl K):=by rintro qc s σ H x v l n lo hi sl Q I o i j r ⟨d,S,R,g,c,h,m⟩;subst w;cases d with|str z=>show RF qc s σ H x v l n lo hi sl Q I o i j r {z,g.str,h.1,m.now c h.2<|jj _}|tup ds=>(let⟨a,xs,rfl,q,t⟩:=g.tup;show QP qc s σ H _ v l n lo hi sl Q I o i j r {a,xs,rfl,.of q,by rw[t.len];show h.1,λp hp=>m.Ny c hp h.2<|t.cut lo hi})|ref a=>(let⟨ds,e,h⟩:=h;let⟨xs,e1,t⟩:=c.lst e;show rP qc s σ H _ v l n lo hi sl Q I o i j r {a,xs,g.ref,.of e1,λp hp=>m.new c hp (h p)<|t.cut lo hi})|lV ds=>(let⟨a,xs,rfl,q,t⟩:=g.lV;show rP qc s σ H _ v l n lo hi sl Q I o i j r {a,xs,rfl,q.sq,λp hp=>m.new c hp (h p)<|t.cut lo hi})|_=>show h.elim
def dSl(te:TD)(tl th:O7):TD:=λσ S R Z=>te σ S (λx S1=>tl σ S1 (λl c=>th σ c (λu a=>slD x l u a R) Z) Z) Z
theorem sl{e:Δ}{lo hi:θ Δ}{te:TD}{tl th:O7}{p2 pos:Pos}(m:DE K X e te)(hl:DO K X lo tl)(hu:DO K X hi th)(j:ψ (X.K=K) qQJ):DE K X (.Subscript e (.Slice lo hi none p2) pos) (dSl te tl th):=
 ⟨λy=>(AV (X:=y.cx) (abo j) (m.of y) (hl.of y)<|hu.of y).mono <| by rintro τ H Q ⟨σ,S,R,Z,c,p,q,s,a⟩;show
  ⟨σ,S,_,Z,c,p,q,λd S1 x H1 i o s1 k1=>⟨σ,S1,_,Z,c.ts k1,s1,i,λl r H2 g s2 k2=>⟨σ,r,_,Z,c.ts<|k1.trans k2,s2,g,λu n v t h k3=>⟨d,n,R,Rv.ts (k2.trans k3) _ o,h,t,s.kp<|(k1.trans k2).trans k3⟩,a.kp<|k1.trans k2⟩,a.kp k1⟩,a⟩⟩
def abp(te:TD):TD:=λσ S R Z=>te σ S (λx S1=>∃i,x=.int i/\R (.int (-i)) S1) Z
theorem Hz(l:DE K X e te):DE K X (.UnaryOp .USub e pos) (abp te):=⟨λy=>(Vq QF<|l.of y).mono <| by rintro τ H Q ⟨σ,S,R,Z,g,c,q,h,m⟩;show{σ,S,_,Z,g,c,q,by rintro d S1 x H1 ⟨i,e,j⟩ a s1 k1;show by subst e;show{i,a.int,h _ S1 _ H1 j (aS _) s1 k1},m}⟩
def tyD(T:String)(S:av):D->η|.str _=>T ="str"|.ref a=>T ="list"/\∃ds,S a=ϑ (.lst ds)|.lV _=>T ="list"|_=>False
def O8{H:Hp}{S:av}{T:String}{d:D}{v:V}(h:tyD T S d)(c:Rs K S H)(r:Rv K H d v):Y4 K T v H:=by cases d with|str z=>rw[r.str];show h|ref a=>(let⟨e,ds,h⟩:=h;let⟨xs,e1,_⟩:=c.lst h;rw[r.ref];show .inl {e,xs,.of e1})|lV ds=>(let⟨a,xs,rfl,q,_⟩:=r.lV;show .inl ⟨h,xs,q.sq⟩)|_=>show h.elim
abbrev Mg:=D->δ D->av->KD->η
def Lm(K:Φ)(r:Mg):V->δ V->Hp->VK->Prop:=λx xs H Q=>∃d ds S R,Rv K H d x/\RvAll K H ds xs/\Rs K S H/\r d ds S R/\Cn K H R Q
def UB(K:Φ)(id:String)(r:Mg):Prop:=∀X:Cx,X.K=K->VJ X id (Lm K r)
def dBM(T:String)(r:Mg)(to:TD)(t:iJ):TD:=λσ S R Z=>to σ S (λx S1=>tyD T S1 x/\t σ S1 (λds a=>r x ds a R) Z) Z
def abr(T:String)(r:Mg)(to:TD):TD:=λσ S R Z=>to σ S (λx S1=>tyD T S1 x/\r x [] S1 R) Z
def bm{o e:Δ}{es:δ Δ}{T id:String}{name:ρ}{r:Mg}{to:TD}{t:iJ}{apos aV:Pos}(s:PlainAttrs T)(slot:Slot T name id)(h:typeOf (.builtin id)=pure (.type "method_descriptor"))(hm:UB K id r)(ho:DE K X o to)(ha:DA K X (e::es) t) (w:ψ (attributeBase o name X.env (eval o X.env)=eval o X.env) qQJ) (l:ψ (((backTo aV<|starEach (e::es) X.env).all (λx=>!x.1)&&(backToKw aV<|keywordEach [] X.env).all (λx=>x.1.isSome)&&ω ((e::es).length+([]:δ Keyword).length+(if ([]:δ Keyword).isEmpty then 0 else 1)<30))=ϱ) qQJ) (z:ψ ((apos.endLine==aV.line)=ϱ) qQJ) (m:ψ (starEach (e::es) X.env=`j::starEach es X.env) qQJ) (p:ψ ((backTo aV<|starEach es X.env).any (·.1)=ϰ) qQJ) (n:ψ (X.K=K) qQJ): DE K X (.Call (.Attribute o name apos) (e::es) [] aV) (dBM T r to t):=by
 subst n
 show⟨λy=>(VN (X:=y.cx) s slot h (hm _ rfl) (ho.of y) (ha.of y) w l z m p).mono <| by rintro τ H Q ⟨σ,S,R,Z,g,v,q,C,a⟩;show
  ⟨σ,S,_,Z,g,v,q,by rintro d S1 x H1 ⟨h1,j⟩ c s1 k1;show⟨O8 h1 s1 c,σ,S1,_,Z,g.ts k1,s1,j,λds A xs H2 i B s2 k2=>⟨d,ds,A,R,Rv.ts k2 _ c,B,s2,i,C.kp<|k1.trans k2⟩,a.kp k1⟩,a⟩⟩
def bm0{o:Δ}{T id:String}{name:ρ}{r:Mg}{to:TD}{apos aV:Pos}(p:PlainAttrs T)(slot:Slot T name id)(g:typeOf (.builtin id)=pure (.type "method_descriptor"))(hm:UB K id r)(ho:DE K X o to) (e:ψ (attributeBase o name X.env (eval o X.env)=eval o X.env) qQJ) (h:ψ ((apos.endLine==aV.line)=ϱ) qQJ) (m:ψ (X.K=K) qQJ): DE K X (.Call (.Attribute o name apos) [] [] aV) (abr T r to):=by
 subst m
 show⟨λy=>(QT (X:=y.cx) p slot g (hm _ rfl) (ho.of y) e h).mono <| by rintro τ H Q ⟨σ,S,R,Z,i,c,q,j,n⟩;show
  ⟨σ,S,_,Z,i,c,q,by rintro d S1 x H1 ⟨h1,l⟩ a s1 k1;show⟨O8 h1 s1 a,d,[],S1,R,a,bL,s1,l,j.kp k1⟩,n⟩⟩
def RvAll.one(h:RvAll K H [d] xs):∃v,xs=[v]/\Rv K H d v:=by let⟨y,ys,rfl,h1,h2⟩:=h.cons;rw[h2.nil];show⟨y,rfl,h1⟩
inductive WI (x:D) (ds:δ D) (S:av) (R:KD):η
 |mk (a:ε) (es:δ D) (d:D) (e1:x=.ref a) (e2:ds=[d]) (e3:S a=ϑ (.lst es)) (e4:es.length<Ϙ) (r:R .ay<|S.set a<|.lst<|es++[d])
def Nz:Mg:=λx ds S R=>WI x ds S R
def bh:UB K "list.append" Nz:=by rintro X n qc s σ H x xs v us Q I m rs ⟨d,ds,S,R,g,e,c,⟨a,es,y,e1,e2,e3,hl,h⟩,l⟩;subst e1 e2;let⟨i,rfl,j⟩:=e.one;let⟨zs,e4,t⟩:=c.lst e3;show Hb qc s σ H x _ v us Q I m rs {a,zs,i,g.ref,rfl,e4,by rw[t.len];show hl,l.put c e3 h kB<|t.app<|aZ j bL}
def abt:Mg:=λx ds S R=>∃a es d,x=.ref a/\ds=[]/\S a=ϑ (.lst es)/\es[es.length-1]?=some d/\R d (S.set a<|.lst es.dropLast)
def WJ:UB K "list.pop" abt:=by rintro X m qc s σ H x xs v us Q I l rs ⟨d,ds,S,R,g,e,c,⟨a,es,y,e1,e2,e3,hl,h⟩,j⟩;subst e1 e2;let⟨zs,e4,t⟩:=c.lst e3;let⟨w,i,r⟩:=t.get hl;show QX qc s σ H x _ v us Q I l rs {a,zs,w,g.ref,e.nil,e4,by rw[t.len];show i,j.put c e3 h r t.dropLast}
def NA:Mg:=λx ds S R=>∃(es:δ D)(d:D)(j:π),ds=[d]/\qB S x es/\kC d=ϱ/\es.all kC=ϱ/\(∃z,es[j]?=some z/\eqV (mJ z) (mJ d)=ϱ)/\(∀m u,m<j->es[m]?=some u->eqV (mJ u) (mJ d)=ϰ)/\R (.int j) S
def Be:UB K "list.index" NA:=by rintro X r qc s σ H x xs v us Q I J rs ⟨d,ds,S,R,p,o,g,⟨es,y,j,e2,e3,l,n,⟨z,e4,B⟩,i,h⟩,G⟩;subst r e2;let⟨L,rfl,c⟩:=o.one;let⟨a,zs,rfl,q,t⟩:=e3.at g p;let⟨E,A⟩:=kD l c;let⟨F,w⟩:=g_ n t;subst E F;show Ht qc s σ H _ _ v us Q I J rs {a,_,_,mJ z,j,rfl,rfl,q,A,w,by rw[zm,e4];rfl,B,λm u hm e=>?_,G.now g h<|aS _};rw[zm]at e;cases c:es[m]? with|none=>(rw[c]at e;cases e)|some C=>rw[c]at e;cases e;show i m C hm c
def J3(S:av)(R:KD):D->η|.str z=>z.length<=Ϙ/\R (.int z.length) S|.tup es=>R (.int es.length) S|.kt es=>R (.int es.length) S|.lV es=>R (.int es.length) S|.ref a=>(∃es,S a=ϑ (.lst es)/\R (.int es.length) S)\/∃kvs,S a=ϑ (.cZ kvs)/\R (.int kvs.length) S|_=>False
inductive WK (ds:δ D) (S:av) (R:KD):η
 |mk (x:D) (h:ds=[x]) (r:J3 S R x)
def abu:δ D->av->KD->Prop:=λds S R=>WK ds S R
def aY:jE K (.builtin "len") abu:=by rintro X j l qc s σ H xs us Q I g ⟨ds,S,R,r,c,⟨x,e,h⟩,d⟩;subst j e;let⟨w,rfl,i⟩:=r.one;cases x with|str z=>(cases i.str;show kh qc s σ H _ us Q I g {_,_,rfl,⟨h.1,rfl⟩,d.now c h.2<|aS _})|tup es=>(let⟨a,xs,rfl,q,t⟩:=i.tup;show kh qc s σ H _ us Q I g {_,_,rfl,.inr {xs,.of q,t.len.symm},d.now c h<|aS _})|kt es=>(let⟨a,xs,rfl,q,t⟩:=i.kt;show kh qc s σ H _ us Q I g {_,_,rfl,.inr {xs,.inr q,t.len.symm},d.now c h<|aS _})|lV es=>(let⟨a,xs,rfl,q,t⟩:=i.lV;show kh qc s σ H _ us Q I g {_,_,rfl,.inl ⟨xs,q.sq,t.len.symm⟩,d.now c h<|aS _})|ref a=>(cases i.ref;rcases h with⟨es,e,h⟩|⟨kvs,e,h⟩;let⟨xs,e1,t⟩:=c.lst e;show kh qc s σ H _ us Q I g {_,_,rfl,.inl {xs,.of e1,t.len.symm},d.now c h<|aS _};let⟨xs,e1,t⟩:=c.cZ e;show Hg qc s σ H _ us Q I g {a,xs,rfl,e1,by rw[t.len];show d.now c h<|aS _})|_=>show h.elim
def Mh(S:av):D->Kd->η|.ay,k=>k=.ay|.bl _,k=>k=.bl|.int _,k=>k=.int|.str _,k=>k=.str|.ref a,k=>(k=.lst/\∃ds,S a=ϑ (.lst ds))\/(k=.cZ/\∃ds,S a=ϑ (.cZ ds))|.tup _,k=>k=.tup|_,_=>False
def WL(h:Mh S d k)(c:Rs K S H)(r:Rv K H d v):tw H v k:=by cases d with|ay=>(cases h;rw[r.ay];show .ay)|bl b=>(cases h;rw[r.bl];show .bl b)|int b=>(cases h;rw[r.int];show .int b)|str b=>(cases h;rw[r.str];show .str b)|tup b=>(cases h;let⟨a,xs,rfl,q,_⟩:=r.tup;show .tup q)|ref a=>(rw[r.ref];rcases h with⟨rfl,ds,h⟩|⟨rfl,ds,h⟩;let⟨xs,e,_⟩:=c.lst h;show .lst e;let⟨xs,e,_⟩:=c.cZ h;show .cZ e)|_=>show h.elim
inductive WM (ds:δ D) (S:av) (R:KD):η
 |mk (x:D) (n:String) (k:Kd) (g:Kd->χ) (e:ds=[x,.ty n]) (a:xx n=ϑ g) (b:Mh S x k) (r:R (.bl<|g k) S)
def abv:δ D->av->KD->Prop:=λds S R=>WM ds S R
def RvAll.two(h:RvAll K H [d,e] xs):∃v u,xs=[v,u]/\Rv K H d v/\Rv K H e u:=by let⟨y,ys,rfl,h1,h2⟩:=h.cons;let⟨u,rfl,a⟩:=h2.one;show⟨y,u,rfl,h1,a⟩
def bE:jE K (.builtin "isinstance") abv:=by rintro X l m qc s σ H xs us Q I c ⟨ds,S,R,r,a,⟨x,n,k,g,e,h1,h2,h⟩,j⟩;subst l e;let⟨v,u,rfl,i,d⟩:=r.two;rw[d.ty]at c;show JM qc s σ H _ us Q I c {v,n,k,g,rfl,h1,WL h2 a i,j.now a h<|bV _}
inductive WO (ds:δ D) (S:av) (f:δ χ->χ) (R:KD):η
 |mk (x:D) (bs:δ χ) (e:ds=[x]) (h:qB S x<|bs.map D.bl) (r:R (.bl<|f bs) S)
def WQ:δ D->av->KD->Prop:=λds S R=>WO ds S (λbs=>bs.all id) R
def me:jE K (.builtin "all") WQ:=by rintro X i l qc s σ H xs us Q I j ⟨ds,S,R,r,c,⟨x,bs,e,h1,h⟩,g⟩;subst i e;let⟨v,rfl,d⟩:=r.one;let⟨a,zs,rfl,q,t⟩:=h1.at c d;rw[t.bools]at q;show vo l qc s σ H _ us Q I j {a,bs,rfl,q,g.now c h<|bV _}
def intD:δ D->av->KD->Prop:=λds S R=>(∃i,ds=[.int i]/\R (.int i) S)\/∃k,ds=[.bl k]/\R (.int<|if k then 1 else 0) S
def J4:jE K (.type "int") intD:=by rintro X g j qc s σ H xs us Q I e ⟨ds,S,R,r,c,h,d⟩;rcases h with⟨i,rfl,h⟩|⟨k,rfl,h⟩;let⟨v,rfl,a⟩:=r.one;show v5 qc s σ H _ us Q I e<|.inl {i,by rw[a.int],d.now c h<|aS _};let⟨v,rfl,a⟩:=r.one;show v5 qc s σ H _ us Q I e<|.inr {k,by rw[a.bl],d.now c h<|aS _}
def WR:δ D->av->KD->Prop:=λds S R=>∃x es,ds=[x]/\(qB S x es\/x=.tup es)/\∀p,S p=ϐ->R (.ref p) (S.set p<|.lst es)
def DQ:jE K (.type "list") WR:=by rintro X j l qc s σ H xs us Q I i ⟨ds,S,R,r,c,⟨x,es,e,h1,h⟩,g⟩;subst j e;let⟨v,rfl,d⟩:=r.one;rcases h1 with h1|rfl;let⟨a,zs,rfl,q,t⟩:=h1.at c d;show nC qc s σ H _ us Q I i {a,zs,rfl,.inl q,λp hp=>g.new c hp (h p) t};let⟨a,zs,rfl,q,t⟩:=d.tup;show nC qc s σ H _ us Q I i {a,zs,rfl,.inr<|.of q,λp hp=>g.new c hp (h p) t}
inductive WS (ds:δ D) (S:av) (R:KD):η
 |mk (x:D) (es:δ D) (e:ds=[x]) (h:qB S x es\/x=.tup es) (r:R (.tup es) S)
def RJ:δ D->av->KD->Prop:=λds S R=>WS ds S R
def jm:jE K (.type "tuple") RJ:=by rintro X j l qc s σ H xs us Q I i ⟨ds,S,R,r,c,⟨x,es,e,h1,h⟩,g⟩;subst j e;let⟨v,rfl,d⟩:=r.one;rcases h1 with h1|rfl;let⟨a,zs,rfl,q,t⟩:=h1.at c d;show l_ qc s σ H _ us Q I i {a,zs,rfl,.inl {q,λp hp=>g.Ny c hp h t}};let⟨a,zs,rfl,q,t⟩:=d.tup;show l_ qc s σ H _ us Q I i {a,zs,rfl,.inr {.of q,g.now c h<|jk q t}}
def minD(f:ν->ν->χ):δ D->av->KD->Prop:=λds S R=>∃i j,ds=[.int i,.int j]/\R (.int<|if f j i then j else i) S
def WT:jE K (.builtin "min") (minD λa b=>ω<|a<b):=by rintro X o n qc s σ H xs us Q I m ⟨ds,S,R,r,c,⟨i,j,e,h⟩,l⟩;subst e;let⟨v,u,rfl,g,d⟩:=r.two;show G6 n qc s σ H _ us Q I m {i,j,by rw[g.int,d.int],?_};have:=l.now c h<|aS _;simpa using this
end
abbrev lH:=δ D->av->KD->KX->η
def rV(K:Φ)(sp:lH):Sp:=λvs H Q e=>∃ds S R Z,RvAll K H ds vs/\Rs K S H/\sp ds S R Z/\Cn K H R Q/\Hx K H Z e
section
variable{K:Φ}{X:Cx}{k:π}{f C:ε}{fd:FuncData}{ps:δ ρ}{sp:Sp}{oY:δ V}{ds:δ ξ}{x m:ρ}{p pos apos:Pos}{e o:Δ}{es:δ Δ}{b:χ}{y:Ev X b}
def rW(F:bU X.prog X.w X.K X.mg X.base (gb X.prog X.w X.mg) k f fd ps sp)(hr:cj k X.A)(hb:Binds X.K fd ps ds)(hd:Vals oY ds) (I:Inv y.cx p2 σ H s) (r:Vals vs us) (h:sp (vs++oY) H Q<|y.E σ):wpAny `m X.A (call (.ref f) us) (EP y.cx p2 σ Q) y.xe s:=by
 have c:Vals (vs++oY) (us++ds):=r.append hd;have hl:(us++ds).length=ps.length:=by rw[<-c.length];show F.len _ _ _ _ h
 show wpAny_call<|y4 (F.run X.A X.stack s H {us,[]} (us++ds) (vs++oY) Q (y.E σ) hr I.VA (hb s us I.lS hl) c h) λa s' hq=>?_;cases a with|error e=>show y.ok.call p2 σ H s e s' I hq|ok fl=>cases fl with|ret u=>show I.after hq|next=>show False.elim hq|brk=>show False.elim hq|cont=>show False.elim hq
def J5{t:TA}(F:bU X.prog X.w X.K X.mg X.base (gb X.prog X.w X.mg) k f fd ps sp)(hr:cj k X.A)(hg:Gl X x)(hm:X.mg x=ϑ (.ref f))(hk:keepIn X.K (.ref f)=ϱ)(hb:Binds X.K fd ps ds)(hd:Vals oY ds) (ha:PA y.cx (e::es) t) (c:(x==("__debug__": ρ))=ϰ) (g:starEach (e::es) X.env=`j::starEach es X.env) (d:(backTo pos<|starEach es X.env).any (·.1)=ϰ): PE y.cx (.Call (.Name x p) (e::es) [] pos) (λσ H Q=>t σ H λvs H1=>sp (vs++oY) H1 Q<|y.E σ):=by intro p2 s σ H Q I h;show wpAny_Call_Name_kw<|je I hg hm ?_ c;show callWith_K (h₀:=X.base) I.ok.mod.Uh hk (bB (ha pos p2 s σ H _ I h) λus s1 ⟨vs,H1,a,r,q⟩=>{a.lS,?_}) g d;show rW F hr hb hd a r q
def HA(F:bU X.prog X.w X.K X.mg X.base (gb X.prog X.w X.mg) k f fd ps sp)(hr:cj k X.A)(hg:Gl X x)(hm:X.mg x=ϑ (.ref f))(hk:keepIn X.K (.ref f)=ϱ)(hb:Binds X.K fd ps ds)(hd:Vals oY ds) (a:(x==("__debug__": ρ))=ϰ):PE y.cx (.Call (.Name x p) [] [] pos) (λσ H Q=>sp oY H Q<|y.E σ):=by intro p2 s σ H Q I h;show wpAny_Call_Name_kw<|je I hg hm ?_ a;show callWith_K0 I.lS hk<|rW (us:=[]) (vs:=[]) F hr hb hd I .nil h
theorem J6{pl:Sem χ}{ta:TE}{t:TA}(n:PE y.cx o ta)(c:rN X.K C)(hm:Meth X.K C m f)(F:bU X.prog X.w X.K X.mg X.base (gb X.prog X.w X.mg) k f fd ps sp)(hr:cj k X.A)(hb:Binds X.K fd ps ds)(hd:Vals oY ds)(ha:PA y.cx (e::es) t)
  (z:starEach (e::es) X.env=`j::starEach es X.env) (j:(backTo pos<|starEach es X.env).any (·.1)=ϰ)
  (p:eval (.Call (.Attribute o m apos) (e::es) [] pos) X.env=(do
   let ov <-eval o X.env
   standAt apos.atName
   let (f,first) <-holding [ov] (getMethod ov m pl)
   callWith pos f first (backTo pos<|starEach (e::es) X.env) (backToKw pos<|keywordEach [] X.env))):
  PE y.cx (.Call (.Attribute o m apos) (e::es) [] pos) (λσ H Q=>ta σ H λx H1=>∃a dx fs,x=.ref a/\H1 a=ϑ (.ins C dx fs)/\fs.lookup m=ϐ/\t σ H1 λvs H2=>sp (x::(vs++oY)) H2 Q<|y.E σ):=by
 intro p2 s σ H Q I h
 show methodCall_KW (pl:=pl) (bB (n p2 s σ H _ I h) λu s1 ⟨x,H1,g,B,a,dx,fs,ex,i,l,q⟩=>?_) p
 subst ex
 obtain rfl:u=Value.ref a:=B
 show sU g i c hm l ?_
 show callWith_K (first:=[.ref a]) (h₀:=X.base) I.ok.mod.Uh hm.kp (bB (ha pos p2 s1 σ H1 _ g q) λus s2 ⟨vs,H2,d,r,v⟩=>{d.lS,?_}) z j
 show rW (us:=.ref a::us) (vs:=.ref a::vs) F hr hb hd d (.cons rfl r) v
theorem HB(j:PE y.cx o ta)(c:rN X.K C)(hm:Meth X.K C m f)(F:bU X.prog X.w X.K X.mg X.base (gb X.prog X.w X.mg) k f fd ps sp)(hr:cj k X.A)(hb:Binds X.K fd ps ds)(hd:Vals oY ds)
  (g:eval (.Call (.Attribute o m apos) [] [] pos) X.env=(do
   let ov <-eval o X.env
   standAt apos.atName
   let (f,first) <-holding [ov] (getMethod ov m pl)
   callWith pos f first (backTo pos<|starEach [] X.env) (backToKw pos<|keywordEach [] X.env))):
  PE y.cx (.Call (.Attribute o m apos) [] [] pos) (λσ H Q=>ta σ H λx H1=>∃a dx fs,x=.ref a/\H1 a=ϑ (.ins C dx fs)/\fs.lookup m=ϐ/\sp (x::oY) H1 Q (y.E σ)):=by
 intro p2 s σ H Q I h
 show methodCall_KW (pl:=pl) (bB (j p2 s σ H _ I h) λu s1 ⟨x,H1,d,i,a,dx,fs,ex,e,l,q⟩=>?_) g
 subst ex
 obtain rfl:u=Value.ref a:=i
 show sU d e c hm l ?_
 show callWith_K0 (first:=[.ref a]) d.lS hm.kp<|rW (us:=[.ref a]) (vs:=[.ref a]) F hr hb hd d (.cons rfl .nil) q
def HC(M:Mk X.K C f)(F:bU X.prog X.w X.K X.mg X.base (gb X.prog X.w X.mg) k f fd ps sp)(hr:cj (k+1) X.A)(hb:Binds X.K fd ps ds)(hd:Vals oY ds) (I:Inv y.cx p2 σ H s) (r:Vals vs us) (h:∀x dx,H x=ϐ->H dx=ϐ->dx≠x->sp (.ref x::(vs++oY)) (upd (upd H dx<|.own x) x<|.ins C dx []) (λv H2=>v=.ay/\Q (.ref x) H2) (y.E σ)): wpAny `m X.A (call (.ref C) us) (EP y.cx p2 σ Q) y.xe s:=by
 have hq:=h (s.heap.objs.size+1) s.heap.objs.size (I.aK.fresh<|y9 _) (I.aK.fresh<|zj _)<|zD<|Nat.lt_succ_self _;have c:=Inv.made (C:=C) I;have d:Vals (V.ref (s.heap.objs.size+1)::(vs++oY)) (Value.ref (s.heap.objs.size+1)::(us++ds)):=.cons rfl<|r.append hd;have hl:(Value.ref (s.heap.objs.size+1)::us++ds).length=ps.length:=by have e:=d.length;rw[F.len _ _ _ _ hq]at e;show e.symm
 show wpAny_call<|Jt (f:=f) I.lS M.makes M.init (beq_iff_eq.mp M.fn)<|y4 (F.run _ X.stack _ _ {Value.ref (s.heap.objs.size+1)::us,[]} (Value.ref (s.heap.objs.size+1)::(us++ds)) _ _ (y.E σ) (hr.make C us []) (c.VA.make C us []) (hb _ (Value.ref (s.heap.objs.size+1)::us) c.lS hl) d hq) λr s' a=>?_;cases r with|error e=>show y.ok.call p2 σ _ _ e s' c a|ok fl=>cases fl with|ret u=>(let⟨v,H',g,i,ev,j⟩:=c.after a;subst ev;show{i,{V.ref<|s.heap.objs.size+1,H',g,rfl,j}})|next=>show False.elim a|brk=>show False.elim a|cont=>show False.elim a
def J_{t:TA}(M:Mk X.K C f)(F:bU X.prog X.w X.K X.mg X.base (gb X.prog X.w X.mg) k f fd ps sp)(hr:cj (k+1) X.A)(hg:Gl X x)(hm:X.mg x=ϑ (.ref C))(hb:Binds X.K fd ps ds)(hd:Vals oY ds) (ha:PA y.cx (e::es) t) (c:(x==("__debug__": ρ))=ϰ) (g:starEach (e::es) X.env=`j::starEach es X.env) (d:(backTo pos<|starEach es X.env).any (·.1)=ϰ): PE y.cx (.Call (.Name x p) (e::es) [] pos) (λσ H Q=>t σ H λvs H1=>∀x dx,H1 x=ϐ->H1 dx=ϐ->dx≠x->sp (.ref x::(vs++oY)) (upd (upd H1 dx<|.own x) x<|.ins C dx []) (λv H2=>v=.ay/\Q (.ref x) H2) (y.E σ)):=by intro p2 s σ H Q I h;show wpAny_Call_Name_kw<|je I hg hm ?_ c;show callWith_K (h₀:=X.base) I.ok.mod.Uh M.kp (bB (ha pos p2 s σ H _ I h) λus s1 ⟨vs,H1,a,r,q⟩=>{a.lS,?_}) g d;show HC M F hr hb hd a r q
end
section
variable{K:Φ}{X:Cx}{k:π}{f C:ε}{fd:FuncData}{ps:δ ρ}{sp:lH}{wo:δ D}{oY:δ V}{ds:δ ξ}{x m:ρ}{p pos apos:Pos}{e o:Δ}{es:δ Δ}
structure RK(K:Φ)(wo:δ D)(oY:δ V)(ds:δ ξ):η where
 v:Vals oY ds
 d:∀H,RvAll K H wo oY
theorem d0:RK K [] [] []:={.nil,λz=>bL}
theorem d1:RK K [.ay] [.ay] [.none]:={.cons rfl .nil,λz=>aZ kB bL}
def Ka(sp:lH)(wo:δ D)(t:iJ):TD:=λσ S R Z=>t σ S (λds S1=>sp (ds++wo) S1 R Z) Z
def cf{t:iJ}(F:bU X.prog X.w K X.mg X.base (gb X.prog X.w X.mg) k f fd ps<|rV K sp)(hr:cj k X.A)(hm:X.mg x=ϑ (.ref f))(hk:keepIn K (.ref f)=ϱ)(hb:Binds K fd ps ds)(hd:RK K wo oY ds)(ha:DA K X (e::es) t) (hg:ψ (Gl X x) qQJ) (h:ψ ((x==("__debug__": ρ))=ϰ) qQZ) (o:ψ (starEach (e::es) X.env=`j::starEach es X.env) qQJ) (m:ψ ((backTo pos<|starEach es X.env).any (·.1)=ϰ) qQJ) (n:ψ (X.K=K) qQJ): DE K X (.Call (.Name x p) (e::es) [] pos) (Ka sp wo t):=by
 subst n
 show⟨λy=>(J5 F hr hg hm hk hb hd.v (ha.of y) h o m).mono <| by rintro τ H Q ⟨σ,S,R,Z,i,g,q,j,a⟩;show
  ⟨σ,S,_,Z,i,g,q,λes S1 xs H1 l c s1 k1=>⟨es++wo,S1,R,Z,c.app<|hd.d _,s1,l,j.kp k1,a.kp k1⟩,a⟩⟩
def cf0(F:bU X.prog X.w K X.mg X.base (gb X.prog X.w X.mg) k f fd ps<|rV K sp)(hr:cj k X.A)(hm:X.mg x=ϑ (.ref f))(hk:keepIn K (.ref f)=ϱ)(hb:Binds K fd ps ds)(hd:RK K wo oY ds) (hg:ψ (Gl X x) qQJ) (c:ψ ((x==("__debug__": ρ))=ϰ) qQZ) (g:ψ (X.K=K) qQJ): DE K X (.Call (.Name x p) [] [] pos) (Ka sp wo JZ):=by subst g;show⟨λy=>(HA F hr hg hm hk hb hd.v c).mono <| by rintro τ H Q ⟨σ,S,R,Z,i,a,q,e,h⟩;show{wo,S,R,Z,hd.d _,a,q,e,h}⟩
inductive MeR (C:ε) (m:ρ) (x:D) (S:av) (p:η):η
 |mk (a:ε) (fs:δ<|ρ×D) (e1:x=.ref a) (e2:S a=ϑ (.ins C fs)) (e3:fs.lookup m=ϐ) (r:p)
def Fv(C:ε)(m:ρ)(sp:lH)(wo:δ D)(ta:TD)(t:iJ):TD:=λσ S R Z=>ta σ S (λx S1=>MeR C m x S1<|t σ S1 (λds a=>sp (x::(ds++wo)) a R Z) Z) Z
theorem Zd{t:iJ}(r:DE K X o ta)(c:rN K C)(hm:Meth K C m f)(F:bU X.prog X.w K X.mg X.base (gb X.prog X.w X.mg) k f fd ps<|rV K sp)(hr:cj k X.A)(hb:Binds K fd ps ds)(hd:RK K wo oY ds)(ha:DA K X (e::es) t)
  (E:ψ (starEach (e::es) X.env=`j::starEach es X.env) qQJ) (l:ψ ((backTo pos<|starEach es X.env).any (·.1)=ϰ) qQJ)
  (s:ψ (eval (.Call (.Attribute o m apos) (e::es) [] pos) X.env=(do
   let ov <-eval o X.env
   standAt apos.atName
   let (f,first) <-holding [ov] (getMethod ov m pl)
   callWith pos f first (backTo pos<|starEach (e::es) X.env) (backToKw pos<|keywordEach [] X.env))) qQJ) (p:ψ (X.K=K) qQJ):
  DE K X (.Call (.Attribute o m apos) (e::es) [] pos) (Fv C m sp wo ta t):=by
 subst p
 show⟨λy=>(J6 (r.of y) c hm F hr hb hd.v (ha.of y) E l s).mono <| by rintro τ H Q ⟨σ,S,R,Z,i,z,q,J,g⟩;show
  ⟨σ,S,_,Z,i,z,q,by
   rintro d S1 x H1 ⟨a,fs,e1,e2,e3,n⟩ h s1 k1
   subst e1
   let⟨dx,vs,e4,B⟩:=s1.ins e2
   show{a,dx,vs,h.ref,e4,(B.look m).2 e3,σ,S1,_,Z,i.ts k1,s1,n,λes G xs H2 j I s2 k2=>{_,G,R,Z,aZ (Rv.ts k2 _ h)<|I.app<|hd.d _,s2,j,J.kp<|k1.trans k2,g.kp<|k1.trans k2},g.kp k1},g⟩⟩
theorem abw(j:DE K X o ta)(c:rN K C)(hm:Meth K C m f)(F:bU X.prog X.w K X.mg X.base (gb X.prog X.w X.mg) k f fd ps<|rV K sp)(hr:cj k X.A)(hb:Binds K fd ps ds)(hd:RK K wo oY ds)
  (l:ψ (eval (.Call (.Attribute o m apos) [] [] pos) X.env=(do
   let ov <-eval o X.env
   standAt apos.atName
   let (f,first) <-holding [ov] (getMethod ov m pl)
   callWith pos f first (backTo pos<|starEach [] X.env) (backToKw pos<|keywordEach [] X.env))) qQJ) (i:ψ (X.K=K) qQJ):
  DE K X (.Call (.Attribute o m apos) [] [] pos) (Fv C m sp wo ta JZ):=by
 subst i
 show⟨λy=>(HB (j.of y) c hm F hr hb hd.v l).mono <| by rintro τ H Q ⟨σ,S,R,Z,r,n,q,s,e⟩;show
  ⟨σ,S,_,Z,r,n,q,by
   rintro d S1 x H1 ⟨a,fs,e1,e2,e3,h⟩ g s1 k1
   subst e1
   let⟨dx,vs,e4,p⟩:=s1.ins e2
   show{a,dx,vs,g.ref,e4,(p.look m).2 e3,_,S1,R,Z,aZ g<|hd.d _,s1,h,s.kp k1,e.kp k1},e⟩⟩
def WU(C:ε)(sp:lH)(wo:δ D)(t:iJ):TD:=λσ S R Z=>t σ S (λds S1=>∀x,S1 x=ϐ->sp (.ref x::(ds++wo)) (S1.set x<|.ins C []) (λd a=>d=.ay/\R (.ref x) a) Z) Z
def mk{t:iJ}(M:Mk K C f)(F:bU X.prog X.w K X.mg X.base (gb X.prog X.w X.mg) k f fd ps<|rV K sp)(hr:cj (k+1) X.A)(hm:X.mg x=ϑ (.ref C))(hb:Binds K fd ps ds)(hd:RK K wo oY ds)(ha:DA K X (e::es) t) (hg:ψ (Gl X x) qQJ) (i:ψ ((x==("__debug__": ρ))=ϰ) qQZ) (o:ψ (starEach (e::es) X.env=`j::starEach es X.env) qQJ) (l:ψ ((backTo pos<|starEach es X.env).any (·.1)=ϰ) qQJ) (n:ψ (X.K=K) qQJ): DE K X (.Call (.Name x p) (e::es) [] pos) (WU C sp wo t):=by
 subst n
 show⟨λy=>(J_ M F hr hg hm hb hd.v (ha.of y) i o l).mono <| by rintro τ H Q ⟨σ,S,R,Z,z,s,q,B,g⟩;show
  ⟨σ,S,_,Z,z,s,q,λes S1 xs H1 m r s1 k1 x dx hx a ne=>by
   have h:upd H1 dx (.own x) x=ϐ:=by rw[ax ne.symm];show hx
   have k2:Kp X.K H1 (upd (upd H1 dx<|.own x) x<|.ins C dx []):=(Kp.new a).trans<|Kp.new h
   show{_,_,_,Z,aZ (eX x)<|RvAll.ts k2 _<|r.app<|hd.d _,(s1.grow a).new (c:=.ins C []) h {dx,[],aD,.nil},m x<|s1.fresh hx,by rintro d G v H2 ⟨e,j⟩ E s2 k3;show by subst e;show{E.ay,B _ _ _ _ j (eX x) s2<|(k1.trans k2).trans k3},(g.kp k1).kp k2},g⟩⟩
inductive FlR (C:ε) (f:ρ) (x:D) (S:av) (R:KD):η
 |mk (a:ε) (fs:δ<|ρ×D) (d:D) (e1:x=.ref a) (e2:S a=ϑ (.ins C fs)) (e3:fs.lookup f=ϑ d) (r:R d S)
def abx(C:ε)(f:ρ)(ta:TD):TD:=λσ S R Z=>ta σ S (λx S1=>FlR C f x S1 R) Z
def fl{f:ρ}{ta:TD}(c:rN K C)(n:kj K C f)(j:DE K X e ta)(hb:ψ (attributeBase e f X.env (eval e X.env)=eval e X.env) qQJ)(i:ψ (X.K=K) qQJ):DE K X (.Attribute e f pos) (abx C f ta):=by
 subst i
 show⟨λy=>(QI (X:=y.cx) (j.of y) hb).mono <| by rintro τ H Q ⟨σ,S,R,Z,s,o,q,t,l⟩;show
  ⟨σ,S,_,Z,s,o,q,by
   rintro d S1 x H1 ⟨a,fs,y,e1,e2,e3,h⟩ m s1 k1
   subst e1
   let⟨dx,vs,e4,r⟩:=s1.ins e2
   let⟨v,p,g⟩:=(r.look f).1 y e3
   show{a,C,dx,vs,v,m.ref,e4,c,n,p,(t.kp k1).now s1 h g},l⟩⟩
end
structure wq where
 nx:SD->av->η
 rt:KD
 bk:SD->av->Prop:=λz z=>False
 ct:SD->av->Prop:=λz z=>False
abbrev jX:=wq->SD->av->(SD->KX)->η
def O9(K:Φ)(H:Hp)(R:SD->av->η)(Q:St->Hp->η):Prop:=∀σ S τ H',R σ S->gZ K H' σ τ->Rs K S H'->Kp K H H'->Q τ H'
structure Ze(K:Φ)(H:Hp)(De:wq)(Dv:Ends):η where
 nx:O9 K H De.nx Dv.nx
 rt:Cn K H De.rt Dv.rt
 bk:O9 K H De.bk Dv.bk
 ct:O9 K H De.ct Dv.ct
def Bf(K:Φ)(H:Hp)(Z:SD->KX)(E:St->XK):Prop:=∀σ τ C S H',Z σ C S->gZ K H' σ τ->Rs K S H'->Kp K H H'->E τ (.ref C) none H'
section
variable{K:Φ}{H H1:Hp}{De:wq}{Dv:Ends}{Z:SD->KX}{E:St->XK}{σ:SD}{τ:St}{S:av}
theorem O9.kp(h:O9 K H R Q)(k:Kp K H H1):O9 K H1 R Q:=λσ S τ H' r a b c=>h σ S τ H' r a b<|k.trans c
theorem Ze.kp(h:Ze K H De Dv)(k:Kp K H H1):Ze K H1 De Dv:={h.nx.kp k,h.rt.kp k,h.bk.kp k,h.ct.kp k}
theorem Bf.kp(h:Bf K H Z E)(k:Kp K H H1):Bf K H1 Z E:=λσ τ C S H' r a b c=>h σ τ C S H' r a b<|k.trans c
theorem Bf.at(h:Bf K H Z E)(r:gZ K H σ τ):Hx K H (Z σ) (E τ):=λC S H' z s k=>h σ τ C S H' z (r.ts k) s k
theorem Bf.on(h:Bf K H Z E)(k:Kp K H H1)(r:gZ K H1 σ τ):Hx K H1 (Z σ) (E τ):=(h.kp k).at r
end
def Tl(K:Φ)(E:St->XK)(t:jX):TS:=λDv τ H=>∃σ S De Z,gZ K H σ τ/\Rs K S H/\t De σ S Z/\Ze K H De Dv/\Bf K H Z E
structure DS(K:Φ)(X:Cx)(b:χ)(st:Stmt)(t:jX):η where
 of:∀y:Ev X b,PS y.cx st<|Tl K y.E t
structure Bg(K:Φ)(X:Cx)(b:χ)(st:δ Stmt)(t:jX):η where
 of:∀y:Ev X b,Cu y.cx st<|Tl K y.E t
theorem PS.mono{t t':TS}(h:PS X e t)(i:∀D τ H,t' D τ H->t D τ H):PS X e t':=λqc s τ H D I q=>h qc s τ H D I<|i D τ H q
theorem Cu.mono{t t':TS}(h:Cu X e t)(i:∀D τ H,t' D τ H->t D τ H):Cu X e t':=λqc s τ H D I q=>h qc s τ H D I<|i D τ H q
section
variable{K:Φ}{X:Cx}{b:χ}{pos:Pos}
def WV:jX:=λDe σ S _=>De.nx σ S
def aby(t u:jX):jX:=λDe σ S Z=>t {De with nx:=λak S'=>u De ak S' Z} σ S Z
theorem s0:Bg K X b [] WV:=⟨λy=>(xn (X:=y.cx)).mono <| by rintro D τ H ⟨σ,S,De,Z,a,c,q,d,e⟩;show d.nx _ _ _ _ q a c<|.refl _⟩
theorem sc{st:Stmt}{r:δ Stmt}{t u:jX}(h1:DS K X b st t)(h2:Bg K X b r u):Bg K X b (st::r) (aby t u):=
 ⟨λy=>(Jh (h1.of y)<|h2.of y).mono <| by rintro D τ H ⟨σ,S,De,Z,i,g,q,d,e⟩;show
  ⟨σ,S,_,Z,i,g,q,⟨λh S1 l H1 j a b c=>⟨h,S1,De,Z,a,b,j,d.kp c,e.kp c⟩,d.rt,d.bk,d.ct⟩,e⟩⟩
theorem s1{st:Stmt}{t:jX}(h:DS K X b st t):Bg K X b [st] t:=⟨λy=>MB<|h.of y⟩
def WX(t:TD):jX:=λDe σ S Z=>t σ S (λz S1=>De.nx σ S1)<|Z σ
theorem se{t:TD}(h:DE K X e t)(i:ψ (swapsWith e none pos.line X.env=pure false) qQJ):DS K X b (.Expr e pos) (WX t):=⟨λy=>(MC (X:=y.cx) (h.of y) i).mono <| by rintro D τ H ⟨σ,S,De,Z,a,c,q,l,j⟩;show{σ,S,_,_,a,c,q,λd S1 v H1 g z s1 k1=>l.nx _ _ _ _ g (a.ts k1) s1 k1,j.at a}⟩
def abz(t:TD):jX:=λDe σ S Z=>t σ S De.rt<|Z σ
theorem sr{t:TD}(h:DE K X e t):DS K X b (.Return (some e) pos) (abz t):=⟨λy=>(Qn<|h.of y).mono <| by rintro D τ H ⟨σ,S,De,Z,a,c,q,g,d⟩;show{σ,S,_,_,a,c,q,g.rt,d.at a}⟩
def dIf(c:lW)(t u:jX):jX:=λDe σ S Z=>c σ S (λb S1=>if b=ϱ then t De σ S1 Z else u De σ S1 Z)<|Z σ
theorem si{t u:jX}(i:DT K X c tc)(ha:Bg K X b a t)(hb:Bg K X b a' u):DS K X b (.If c a a' pos) (dIf tc t u):=
 ⟨λy=>(Vd (i.of y) (ha.of y)<|hb.of y).mono <| by rintro D τ H ⟨σ,S,De,Z,d,j,q,h,g⟩;show
  ⟨σ,S,_,_,d,j,q,λc S1 H1 e s1 k1=>by
   cases c with
   |true=>rw[qb rfl]at e⊢;show{σ,S1,De,Z,d.ts k1,s1,e,h.kp k1,g.kp k1}
   |false=>rw[qa ze]at e⊢;show{σ,S1,De,Z,d.ts k1,s1,e,h.kp k1,g.kp k1},g.at d⟩⟩
abbrev CA:=D->SD->av->(SD->av->η)->η
def Tg(K:Φ)(g:CA):TG:=λv τ H Q=>∃d σ S R,Rv K H d v/\gZ K H σ τ/\Rs K S H/\g d σ S R/\O9 K H R Q
structure DG(K:Φ)(X:Cx)(e:Δ)(g:CA):η where
 of:∀Y:Cx,Y.K=X.K->Y.N=X.N->Y.env=X.env->Y.fn=X.fn->Y.calm=X.calm->PG Y e (Tg K g)
theorem PG.mono{t t':TG}(h:PG X e t)(i:∀v τ H Q,t' v τ H Q->t v τ H Q):PG X e t':=λqc s τ H v u Q I r q=>h qc s τ H v u Q I r<|i v τ H Q q
def UC(i:π):CA:=λd σ S R=>R (σ.set i<|some d) S
theorem gn(hN:X.N.Nodup)(hi:ψ (X.N[i]?=some x) qQJ)(hx:ψ (Loc X.env.scope x) qJ1)(hf:ψ (X.fn x=ϱ\/X.env.scope.names.lookup x=ϑ .local) qJQ):DG K X (.Name x pos) (UC i):=⟨λY z e2 e3 e4 z=>(rL (X:=Y) (by rw[e2];show hN) (by rw[e2];show hi) (by rw[e3];show hx)<|by rw[e3,e4];show hf).mono <| by rintro v τ H Q ⟨d,σ,S,R,g,c,a,q,e⟩;show e _ S _ H q (c.set i g) a<|.refl _⟩
abbrev HD:=δ D->SD->av->(SD->av->η)->η
def Tgs(K:Φ)(g:HD):OO:=λvs τ H Q=>∃ds σ S R,RvAll K H ds vs/\gZ K H σ τ/\Rs K S H/\g ds σ S R/\O9 K H R Q
structure Zg(K:Φ)(X:Cx)(es:δ Δ)(g:HD):η where
 of:∀Y:Cx,Y.K=X.K->Y.N=X.N->Y.env=X.env->Y.fn=X.fn->Y.calm=X.calm->OP Y es (Tgs K g)
theorem OP.mono{t t':OO}(h:OP X e t)(i:∀v τ H Q,t' v τ H Q->t v τ H Q):OP X e t':=λqc s τ H v u Q I r q=>h qc s τ H v u Q I r<|i v τ H Q q
def O_:HD:=λds σ S R=>ds=[]/\R σ S
def DR(g:CA)(u:HD):HD:=λds σ S R=>∃d r,ds=d::r/\g d σ S λa S1=>u r a S1 R
theorem g0:Zg K X [] O_:=⟨λY z z z z z=>(E8 (X:=Y)).mono <| by rintro vs τ H Q ⟨ds,σ,S,R,g,c,a,⟨e,q⟩,d⟩;show by subst e;show{g.nil,d _ _ _ _ q c a<|.refl _}⟩
theorem gc(h1:DG K X e g)(h2:Zg K X es u)(p:ψ (∀env:Env,(assignEach (e::es) env).map (·.2)=assign e env::(assignEach es env).map (·.2)) qQ0):Zg K X (e::es) (DR g u):=⟨λY a b c d f=>(sM (h1.of Y a b c d f) (h2.of Y a b c d f)<|p _).mono <| by rintro vs τ H Q ⟨ds,σ,S,R,s,l,h,⟨d,r,e,q⟩,n⟩;subst e;let⟨y,ys,e1,m,j⟩:=s.cons;show{y,ys,e1,d,σ,S,_,m,l,h,q,λi S1 t H1 o a b c=>{r,i,S1,R,RvAll.ts c _ j,a,b,o,n.kp c}}⟩
def Pa(n:π)(g:HD):CA:=λd σ S R=>∃ds,d=.tup ds/\ds.length=n/\g ds σ S R
theorem gt(h:Zg K X es g)(hn:ψ (∀env:Env,(assignEach es env).length=n) qQ0)(l:ψ (∀env:Env,(assignEach es env).findIdx? (·.1)=ϐ) qQ0)(w:ψ (X.K=K) qQJ)(s:ψ (X.calm=ϱ) qQJ):DG K X (.Tuple es j pos) (Pa n g):=⟨λY a b c d f=>(Ji (X:=Y) (by rw[f];show s) (h.of Y a b c d f) (hn _)<|l _).mono <| by rintro v τ H Q ⟨d,σ,S,R,r,m,i,⟨ds,e,hl,q⟩,o⟩;subst e;let⟨p,xs,e1,e2,t⟩:=r.tup;show{p,xs,e1,.of e2,by rw[t.len];show hl,ds,σ,S,R,t,m,i,q,o}⟩
def RL(i:π)(t:TD):jX:=λDe σ S Z=>t σ S (λd S1=>De.nx (σ.set i<|some d) S1)<|Z σ
theorem bT{t:TD}(hN:X.N.Nodup)(h:DE K X e t)(hi:ψ (X.N[i]?=some x) qQJ)(hx:ψ (Loc X.env.scope x) qJ1)(l:ψ (swapsWith e (some<|.Name x pos') pos.line X.env=pure false) qQJ) (hf:ψ (X.fn x=ϱ\/X.env.scope.names.lookup x=ϑ .local) qJQ):DS K X b (.Assign [.Name x pos'] e pos) (RL i t):=⟨λy=>(Qr (X:=y.cx) (i:=i) hN hi hx (h.of y) l hf).mono <| by rintro D τ H ⟨σ,S,De,Z,a,g,q,n,m⟩;show{σ,S,_,_,a,g,q,λd S1 v H1 j c s1 k1=>n.nx _ _ _ _ j ((a.ts k1).set i c) s1 k1,m.at a}⟩
def abA(t:TD)(g:CA):jX:=λDe σ S Z=>t σ S (λd S1=>g d σ S1 De.nx)<|Z σ
theorem sa{t:TD}(h:DE K X e t)(hg:DG K X tg g)(l:ψ (swapsWithSole [tg] e pos.line X.env=pure false) qQJ)(hw:ψ (swappedStores [tg] e X.env=pure none) qQJ)(h1:ψ ((assignEach [tg] X.env).map (·.2)=[assign tg X.env]) qQJ): DS K X b (.Assign [tg] e pos) (abA t g):=⟨λy=>(Jj (X:=y.cx) (h.of y) (hg.of _ rfl rfl rfl rfl rfl) l hw h1).mono <| by rintro D τ H ⟨σ,S,De,Z,a,i,q,n,m⟩;show{σ,S,_,_,a,i,q,λd S1 v H1 j c s1 k1=>{d,σ,S1,_,c,a.ts k1,s1,j,n.nx.kp k1},m.at a}⟩
def abB(td ty tv:TD):jX:=λDe σ S Z=>tv σ S (λv S1=>td σ S1 (λx d=>ty σ d (λy c=>∃a kvs k,x=.ref a/\c a=ϑ (.cZ kvs)/\DN y=ϑ k/\kvs.length<Ϙ/\De.nx σ (c.set a<|.cZ<|dput kvs k v))<|Z σ)<|Z σ)<|Z σ
theorem sd{o i value:Δ}{td ty tv:TD}{pos':Pos}(hu:X.A.units+64<cLine)(ho:DE K X o td)(hi:DE K X i ty)(hv:DE K X value tv)(n:ψ (swapsWith value (some<|.Subscript o i pos') pos.line X.env=pure false) qQJ):DS K X b (.Assign [.Subscript o i pos'] value pos) (abB td ty tv):=
 ⟨λy=>(MW (X:=y.cx) (by change X.A.units+1<cLine;lia) (ho.of y) (hi.of y) (hv.of y) n).mono <| by rintro D τ H ⟨σ,S,De,Z,d,r,q,z,g⟩;show
  ⟨σ,S,_,_,d,r,q,λv S1 h H1 m p s1 k1=>⟨σ,S1,_,_,d.ts k1,s1,m,λx s G H2 l w s2 k2=>⟨σ,s,_,_,d.ts<|k1.trans k2,s2,l,by
   rintro y E F C ⟨a,kvs,k,e1,e2,e3,hl,B⟩ j e k3
   subst e1
   let⟨vs,e4,t⟩:=e.cZ e2
   have kk:=e.jl (o:=.dK<|putK vs k h) e2
   show{a,_,(Rv.ts k3 _ w).ref,by rw[mI e3 j];show Jz.k e4<|by rw[t.len];show hl,?_}
   show z.nx _ _ _ _ B (d.ts<|((k1.trans k2).trans k3).trans kk) (e.put (c:=.cZ _) e2 {_,aD,(t.put k<|Rv.ts (k2.trans k3) _ p).ts kk})<|((k1.trans k2).trans k3).trans kk,g.on (k1.trans k2)<|d.ts<|k1.trans k2⟩,g.on k1<|d.ts k1⟩,g.at d⟩⟩
end
section
variable{X:Cx}{qc:δ (ε×Obj)}{σ:St}{H:Hp}{s:ζ}{A:ϕ}{E:ξ->ζ->η}{a:ε}{kvs:δ (Key×V)}{k:Key}{u:ξ}
def RM(I:Inv X qc σ H s)(e:H a=ϑ (.dK kvs))(j:RelV (kV k) u)(l:RelV z r)(hl:kvs.length<Ϙ) (h1:∀v g s',gY kvs k=ϑ v->Inv X qc σ H s'->RelV v g->Q g s') (h2:gY kvs k=ϐ->∀s',Inv X qc σ (upd H a<|.dK<|putK kvs k z) s'->Q r s'): wpAny `m A (call (.builtin "dict.setdefault") [.ref a,u,r]) Q E s:=by
 let⟨m,hd,vs,rel,h⟩:=Fj I.aK e;have hp:=qy kvs k z;show call_meetsIn PySem.F.slot_dict_setdefault h.typeIs PySem.F.entry_dict_setdefault (PySem.F.args_dict_setdefault_3 _ _ _) (PySem.kt_meets_setdefault (aJ X.prog X.w) a (km j) hd r) {vs,h,by rw[<-rel.length];show m,λg hw=>?_,λhn h' i n=>?_};cases q:gY kvs k with|none=>(have:=gU.none_of (o:=valueAt vs k) (by rw[<-q];show rel.val k);rw[this]at hw;cases hw)|some v=>let⟨t,d,c⟩:=gU.some_of (v:=v) (o:=valueAt vs k) (by rw[<-q];show rel.val k);rw[d]at hw;cases hw;show h1 v _ _ q (I.tok _) c
 cases q:gY kvs k with|some v=>(let⟨t,d,c⟩:=gU.some_of (v:=v) (o:=valueAt vs k) (by rw[<-q];show rel.val k);rw[d]at hn;cases hn)|none=>have p:∃q,h'.get? a=ϑ q:=(by let⟨q,_,_,hq,_⟩:=i;show⟨q,hq⟩);show h2 q _<|xr I (by rw[e];show True.intro) n p<|C_ `b hd (rel.put k l) i
end
section
variable{X:Cx}{o e f:Δ}{apos aV:Pos}{td ty tx:TE}
def WZ(td ty tx:TE):TE:=λσ H Q=>td σ H λx H1=>∃a,x=.ref a/\Um H1 a/\ty σ H1 λy H2=>tx σ H2 λz c=>∃kvs k,c a=ϑ (.dK kvs)/\y=kV k/\kvs.length<Ϙ/\(∀v,gY kvs k=ϑ v->Q v c)/\(gY kvs k=ϐ->Q z (upd c a<|.dK<|putK kvs k z))
def Kb(ho:PE X o td)(C:PE X e ty)(hf:PE X f tx)(m:M2 X o "setdefault" apos e f aV):PE X (.Call (.Attribute o "setdefault" apos) [e,f] [] aV) (WZ td ty tx):=by intro qc s σ H Q I h;show wpAny_Call_method m.base m.IP m.line PySem.F.plainAttrs_dict PySem.F.slot_dict_setdefault PySem.F.type_dict_setdefault<|bB (ho qc s σ H _ I h) λu s1 ⟨x,H1,g,N,a,ex,d,A⟩=>?_;subst ex;obtain rfl:u=Value.ref a:=N;let⟨J,p,_⟩:=xt g d;show{J,p,?_};rw[m.trees];show Calls.callWith_builtin rfl<|Calls.evalArgs_plain<|yM<|bB (C qc s1 σ H1 _ g A) λR s2 ⟨y,H2,t,n,M⟩=>yM<|bB (hf qc s2 σ H2 _ t M) λS O ⟨z,G,B,i,kvs,k,j,K,hl,E,w⟩=>Calls.spliced_nil ?_;subst K;show RM B j n i hl (λv P L l c r=>{v,G,c,r,E v l}) λl L c=>{z,_,c,i,w l}
end
section
variable{K:Φ}{X:Cx}{b:χ}{o e f:Δ}{apos aV pos:Pos}{td ty tx:TD}
def xI(c:Rs K S H)(e:S a=ϑ (.cZ kvs)):Um H a:=by let⟨vs,e1,_⟩:=c.cZ e;show .inl {vs,.inl e1}
def W0(td ty:TD):TD:=λσ S R Z=>td σ S (λx S1=>∃a kvs,x=.ref a/\S1 a=ϑ (.cZ kvs)/\ty σ S1 (λy c=>∃kvs k,c a=ϑ (.cZ kvs)/\DN y=ϑ k/\R ((cK kvs k).getD .ay) c) Z) Z
def Kc(c:Rs K S H)(e:S a=ϑ (.cZ kvs))(r:Rv K H d v):∃o,pH H a (kV k) o/\Rv K H ((cK kvs k).getD d) (o.getD v):=by let⟨o,g,h1,h2⟩:=rT (k:=k) c e;show{o,g,?_};cases q:cK kvs k with|none=>(rw[q]at h1;cases o with|none=>show r|some _=>cases h1)|some d'=>let⟨i,rfl,h⟩:=h2 d' q;show h
theorem mg1(hu:X.A.units+64<cLine)(ho:DE K X o td)(j:DE K X e ty)(m:ψ (M1 X o "get" apos e aV) qQ4):DE K X (.Call (.Attribute o "get" apos) [e] [] aV) (W0 td ty):=
 ⟨λy=>(JD (X:=y.cx) (by change X.A.units+1<cLine;lia) (ho.of y) (j.of y) ⟨m.base,m.IP,m.line,m.trees⟩).mono <| by rintro τ H Q ⟨σ,S,R,Z,d,n,q,p,c⟩;show
  ⟨σ,S,_,Z,d,n,q,by
   rintro x S1 v H1 ⟨a,kvs,e1,e2,i⟩ l s1 k1
   subst e1
   show⟨a,l.ref,xI s1 e2,σ,S1,_,Z,d.ts k1,s1,i,by
    rintro y w t H2 ⟨kvs,k,e3,e4,h⟩ s s2 k2
    let⟨o,g,r⟩:=Kc (k:=k) s2 e3 kB
    show{o,by rw[mI e4 s];show g,(p.kp<|k1.trans k2).now s2 h r},c.kp k1⟩,c⟩⟩
def W2(td ty tx:TD):TD:=λσ S R Z=>td σ S (λx S1=>∃a kvs,x=.ref a/\S1 a=ϑ (.cZ kvs)/\ty σ S1 (λy d=>tx σ d (λz c=>∃kvs k,c a=ϑ (.cZ kvs)/\DN y=ϑ k/\R ((cK kvs k).getD z) c) Z) Z) Z
theorem mg2(hu:X.A.units+64<cLine)(ho:DE K X o td)(n:DE K X e ty)(hf:DE K X f tx)(m:ψ (M2 X o "get" apos e f aV) qQ4):DE K X (.Call (.Attribute o "get" apos) [e,f] [] aV) (W2 td ty tx):=
 ⟨λy=>(JE (X:=y.cx) (by change X.A.units+1<cLine;lia) (ho.of y) (n.of y) (hf.of y) ⟨m.base,m.IP,m.line,m.trees⟩).mono <| by rintro τ H Q ⟨σ,S,R,Z,d,s,q,w,c⟩;show
  ⟨σ,S,_,Z,d,s,q,by
   rintro x S1 I H1 ⟨a,kvs,e1,e2,l⟩ p s1 k1
   subst e1
   show⟨a,p.ref,xI s1 e2,σ,S1,_,Z,d.ts k1,s1,l,λy t G H2 j v s2 k2=>⟨σ,t,_,Z,d.ts<|k1.trans k2,s2,j,by
    rintro z E F C ⟨kvs,k,e3,e4,B⟩ i h k3
    let⟨o,g,r⟩:=Kc (k:=k) h e3 i
    show{o,by rw[mI e4 v];show g,(w.kp<|(k1.trans k2).trans k3).now h B r},c.kp<|k1.trans k2⟩,c.kp k1⟩,c⟩⟩
def W4(td ty:TD):TD:=λσ S R Z=>td σ S (λx S1=>∃a kvs,x=.ref a/\S1 a=ϑ (.cZ kvs)/\ty σ S1 (λy c=>∃kvs k d,c a=ϑ (.cZ kvs)/\DN y=ϑ k/\cK kvs k=ϑ d/\R d (c.set a<|.cZ<|Bc kvs k)) Z) Z
theorem mp1(ho:DE K X o td)(p:DE K X e ty)(m:ψ (M1 X o "pop" apos e aV) qQ4):DE K X (.Call (.Attribute o "pop" apos) [e] [] aV) (W4 td ty):=
 ⟨λy=>(JF (X:=y.cx) (ho.of y) (p.of y) ⟨m.base,m.IP,m.line,m.trees⟩).mono <| by rintro τ H Q ⟨σ,S,R,Z,h,w,q,A,g⟩;show
  ⟨σ,S,_,Z,h,w,q,by
   rintro x S1 E H1 ⟨a,kvs,e1,e2,n⟩ r s1 k1
   subst e1
   show⟨a,r.ref,xI s1 e2,σ,S1,_,Z,h.ts k1,s1,n,by
    rintro y F C H2 ⟨kvs,k,d,e3,e4,z,j⟩ B s2 k2
    let⟨vs,l,t⟩:=s2.cZ e3
    let⟨v,s,i⟩:=(t.val k).1 d z
    have kk:=s2.jl (o:=.dK<|qx vs k) e3
    show{vs,k,v,l,mI e4 B,s,A _ _ _ _ j (Rv.ts kk _ i) (s2.put (c:=.cZ _) e3 {_,aD,(t.drop k).ts kk})<|(k1.trans k2).trans kk},g.kp k1⟩,g⟩⟩
def W6(td ty tx:TD):TD:=λσ S R Z=>td σ S (λx S1=>∃a kvs,x=.ref a/\S1 a=ϑ (.cZ kvs)/\ty σ S1 (λy e=>tx σ e (λz c=>∃kvs k,c a=ϑ (.cZ kvs)/\DN y=ϑ k/\kvs.length<Ϙ/\(∀d,cK kvs k=ϑ d->R d c)/\(cK kvs k=ϐ->R z (c.set a<|.cZ<|dput kvs k z))) Z) Z) Z
theorem ms2(ho:DE K X o td)(B:DE K X e ty)(hf:DE K X f tx)(m:ψ (M2 X o "setdefault" apos e f aV) qQ4):DE K X (.Call (.Attribute o "setdefault" apos) [e,f] [] aV) (W6 td ty tx):=
 ⟨λy=>(Kb (X:=y.cx) (ho.of y) (B.of y) (hf.of y) ⟨m.base,m.IP,m.line,m.trees⟩).mono <| by rintro τ H Q ⟨σ,S,R,Z,l,E,q,L,i⟩;show
  ⟨σ,S,_,Z,l,E,q,by
   rintro x S1 U H1 ⟨a,kvs,e1,e2,A⟩ C s1 k1
   subst e1
   show⟨a,C.ref,xI s1 e2,σ,S1,_,Z,l.ts k1,s1,A,λy I P H2 s J s2 k2=>⟨σ,I,_,Z,l.ts<|k1.trans k2,s2,s,by
    rintro z O F N ⟨kvs,k,e3,e4,hl,M,r⟩ p h k3
    let⟨vs,w,t⟩:=h.cZ e3
    have kk:=h.jl (o:=.dK<|putK vs k F) e3
    have g:=L.kp<|(k1.trans k2).trans k3
    show{vs,k,w,mI e4<|Rv.ts k3 _ J,by rw[t.len];show hl,λv hv=>?_,λhn=>?_}
    ·cases q:cK kvs k with
     |none=>rw[(t.val k).2 q]at hv;cases hv
     |some d =>
      let⟨G,j,n⟩:=(t.val k).1 d q
      rw[j]at hv;cases hv
      show g.now h (M d q) n
    ·cases q:cK kvs k with
     |some d=>let⟨G,j,n⟩:=(t.val k).1 d q;rw[j]at hn;cases hn
     |none=>show g _ _ _ _ (r q) (Rv.ts kk _ p) (h.put (c:=.cZ _) e3 {_,aD,(t.put k p).ts kk}) kk,i.kp<|k1.trans k2⟩,i.kp k1⟩,i⟩⟩
noncomputable def DU(f:ρ)(d:D):δ (ρ×D)->δ (ρ×D)|[]=>[(f,d)]| (g,x)::r=>if g=f then (g,d)::r else (g,x)::DU f d r
theorem cJ.DU{H:Hp}{f:ρ}{d:D}{v:V}(rd:Rv K H d v):∀{ks:δ (ρ×D)}{vs:δ (ρ×V)},cJ K H ks vs->cJ K H (DU f d ks) (putF f v vs)|_,_,.nil=>.cons ⟨rfl,rd⟩ .nil| (g,x)::r,(g',y)::r',.cons h t=>by let⟨e,h⟩:=h;dsimp only at e;subst e;change cJ K H (if g=f then (g,d)::r else (g,x)::L2.DU f d r) (if g=f then (g,v)::r' else (g,y)::putF f v r');by_cases q:g=f;rw[qb q,qb q];show .cons ⟨rfl,rd⟩ t;rw[qa q,qa q];show .cons ⟨rfl,h⟩<|cJ.DU rd t
def W8(C:ε)(f:ρ)(ta tv:TD):jX:=λDe σ S Z=>tv σ S (λy S1=>ta σ S1 (λx c=>∃a fs,x=.ref a/\c a=ϑ (.ins C fs)/\fs.length<1000/\De.nx σ (c.set a<|.ins C<|DU f y fs))<|Z σ)<|Z σ
def sf{C:ε}{f:ρ}{value:Δ}{ta tv:TD}{pos':Pos}(c:rN K C)(n:kj K C f)(ha:DE K X o ta)(hv:DE K X value tv)(j:ψ (swapsWith value (some<|.Attribute o f pos') pos.line X.env=pure false) qQJ)(l:ψ (X.K=K) qQJ): DS K X b (.Assign [.Attribute o f pos'] value pos) (W8 C f ta tv):=by
 subst l
 show⟨λy=>(QJ (X:=y.cx) (ha.of y) (hv.of y) j).mono <| by rintro D τ H ⟨σ,S,De,Z,d,p,q,t,e⟩;show
  ⟨σ,S,_,_,d,p,q,λy S1 r H1 i m s1 k1=>⟨σ,S1,_,_,d.ts k1,s1,i,by
   rintro x w v H2 ⟨a,fs,e1,e2,hl,h⟩ s s2 k2
   subst e1
   let⟨dx,vs,e4,g⟩:=s2.ins e2
   have kk:=s2.jl (o:=.ins C dx<|putF f r vs) e2
   show{a,C,dx,vs,s.ref,e4,c,n,by rw[g.len];show hl,t.nx _ _ _ _ h (d.ts<|(k1.trans k2).trans kk) (s2.put (c:=.ins C _) e2 {dx,_,aD,(cJ.DU (Rv.ts k2 _ m) g).ts kk})<|(k1.trans k2).trans kk},e.on k1<|d.ts k1⟩,e.at d⟩⟩
def RN(C:ε)(t:iJ):jX:=λ_ σ S Z=>t σ S (λds S1=>ds.length<=Ϙ/\Z σ C S1)<|Z σ
end
section
variable{K:Φ}{X:Cx}{C:ε}{x:ρ}{e:Δ}{es:δ Δ}{np aV pos:Pos}
def HE{t:TA}{y:Ev X true}(B:X.calm=ϱ)(c:XC X.K C)(hg:Gl X x)(hm:X.mg x=ϑ (.ref C))(ha:PA y.cx (e::es) t)(v:(x==("__debug__": ρ))=ϰ) (n:starEach (e::es) X.env=`j::starEach es X.env) (A:(backTo aV<|starEach es X.env).any (·.1)=ϰ): PS y.cx (.Raise (some<|.Call (.Name x np) (e::es) [] aV) none pos) (λ_ σ H=>t σ H λvs H1=>vs.length<=Ϙ/\y.E σ (.ref C) none H1):=by intro qc s σ H D I h;let⟨bm,N,nm,q,bs,d,l,sub,m,g,p,k0,k1,k2,k3,o,j,w,hN,G,T⟩:=c.at I.mod.Uh;have J:bm.contains (.type "BaseException")=ϱ:=T.hasType `a;show wpAny_Raise_call_subT (C:=C) (nm:=nm) (q:=q) (N:=N) (bs:=bs) (bm:=bm) (hdct:=d) (sn:=l) (sub:=sub) (ab:=m) (col:=g) (dd:=p) (k0:=k0) (k1:=k1) (k2:=k2) (k3:=k3) (k5:=o) PySem.F.excBase_ValueError (mN:=j) J (I.ok.hd B) (by change((backTo aV<|starEach (e::es) X.env).any (·.1))=ϰ;rw[n];change(false||(backTo aV<|starEach es X.env).any (·.1))=ϰ;rw[A];rfl) G<|je I hg hm {rfl,?_} v;have h1:=ha aV qc s σ H _ I h;have L:starEach (e::es) y.cx.env=`j::starEach es X.env:=n;rw[L]at h1⊢;show Calls.evalArgs_plain<|bB h1 <| by rintro us s2 ⟨vs,H2,i,r,z,M⟩;show{rfl,by change us.length<=Ϙ;rw[<-r.length];show z,i.bk _ _ w,hN.keeps i.bk,T.keeps i.bk,λh' a hx=>y.ok.own rfl qc σ H2 s2 h' a _ _ i hx M}
def lX{t:iJ}(c:XC K C)(hm:X.mg x=ϑ (.ref C))(ha:DA K X (e::es) t)(hg:ψ (Gl X x) qQJ)(j:ψ ((x==("__debug__": ρ))=ϰ) qQZ) (o:ψ (starEach (e::es) X.env=`j::starEach es X.env) qQJ) (l:ψ ((backTo aV<|starEach es X.env).any (·.1)=ϰ) qQJ) (g:ψ (X.calm=ϱ) qQJ) (n:ψ (X.K=K) qQJ): DS K X true (.Raise (some<|.Call (.Name x np) (e::es) [] aV) none pos) (RN C t):=by subst n;show⟨λy=>(HE (y:=y) g c hg hm (ha.of y) j o l).mono λD τ H ⟨σ,S,De,Z,a,i,q,p,d⟩=>{σ,S,_,_,a,i,q,λds S1 vs H1 ⟨hl,m⟩ h s1 k1=>{by rw[h.len];show hl,d.at a C S1 H1 m s1 k1},d.at a}⟩
end
structure qC where
 xs:δ D
 ok:av->η
def Xa(K:Φ)(a:Hp)(J:It)(I:qC):Prop:=∀i S H,Kp K a H->Rs K S H->I.ok S->(∀d,I.xs[i]?=some d->J.go i H/\∀x H',J.Vf i H x H'->Rv K H' d x/\Kp K H H'/\Rs K S H')/\(I.xs.length<=i->J.stop i H)
abbrev xJ:=SD->av->(qC->av->η)->KX->η
def Ti(K:Φ)(E:St->XK)(t:xJ):TI:=λτ H R=>∃σ S RI Z,gZ K H σ τ/\Rs K S H/\t σ S RI Z/\(∀I S' J H',RI I S'->Xa K H' J I->Rs K S' H'->Kp K H H'->R J H')/\Hx K H Z (E τ)
structure DI(K:Φ)(X:Cx)(tg it:Δ)(t:xJ):η where
 of:∀{b:χ}(y:Ev X b),PI y.cx tg it<|Ti K y.E t
theorem PI.mono{t t':TI}(h:PI X tg it t)(i:∀τ H R,t' τ H R->t τ H R):PI X tg it t':=λqc s τ H R I q=>h qc s τ H R I<|i τ H R q
section
variable{K:Φ}{X:Cx}{tg l:Δ}
def abC(t:TD):xJ:=λσ S R Z=>t σ S (λx S1=>∃ds,qB S1 x ds/\R {ds,λS=>qB S x ds} S1) Z
def il{t:TD}(h:DE K X l t)(n:ψ (X.K=K) qQJ):DI K X tg l (abC t):=by subst n;show⟨λy=>(MF (X:=y.cx)<|h.of y).mono <| by rintro τ H R ⟨σ,S,RI,Z,s,p,q,w,o⟩;show{σ,S,_,Z,s,p,q,by rintro x S1 v H1 ⟨ds,h1,m⟩ g s1 k1;let⟨a,xs,rfl,hq,t⟩:=h1.at s1 g;show{a,rfl,⟨xs,hq⟩,w _ S1 _ H1 m (λi B H2 k2 s2 z=>?_) s1 k1};let⟨A,c,e',e,j⟩:=qB.at z s2<|Rv.ts k2 _ g;cases e';show{λd hd=>?_,λhl=>{c,e,by rw[j.len];show hl}};let⟨v,e1,r⟩:=j.get hd;show{⟨c,v,e,e1⟩,λC H' ⟨e2,e3⟩=>?_};subst e2;have:=e3 c e;rw[e1]at this;cases this;show{r,.refl _,s2},o}⟩
def Xb(t:TD):xJ:=λσ S R Z=>t σ S (λx S1=>∃ds,(x=.tup ds\/x=.kt ds)/\R {ds,λz=>True} S1) Z
def RP{H:Hp}{x:D}{ds:δ D}{v:V}(h:x=.tup ds\/x=.kt ds)(r:Rv K H x v):∃a xs,v=.ref a/\(∀H',Kp K H H'->iy K H' a xs)/\RvAll K H ds xs:=by rcases h with rfl|rfl;let⟨a,xs,rfl,q,t⟩:=r.tup;show{a,xs,rfl,λH' k=>.of<|k.t _ _ q,t};let⟨a,xs,rfl,q,t⟩:=r.kt;show{a,xs,rfl,λH' k=>.inr q,t}
def HF{t:TD}(h:DE K X l t)(g:ψ (X.K=K) qQJ):DI K X tg l (Xb t):=by subst g;show⟨λy=>(Qx (X:=y.cx)<|h.of y).mono <| by rintro τ H R ⟨σ,S,RI,Z,o,n,q,p,j⟩;show{σ,S,_,Z,o,n,q,by rintro x S1 v H1 ⟨ds,h1,e⟩ m s1 k1;let⟨a,xs,rfl,hq,t⟩:=RP h1 m;show{a,rfl,{xs,hq _<|.refl _},p _ S1 _ H1 e (λi s H2 k2 s2 z=>?_) s1 k1};have c:=hq H2 k2;show{λd hd=>?_,λhl=>{xs,c,by rw[t.len];show hl}};let⟨v,e1,r⟩:=(RvAll.ts k2 _ t).get hd;show{⟨xs,v,c,e1⟩,λw H' ⟨e2,e3⟩=>?_};subst e2;have:=e3 xs c;rw[e1]at this;cases this;show{r,.refl _,s2},j}⟩
noncomputable def fU(lo:ν)(n:π):δ D:=(List.range n).map λi=>D.int<|lo+(i:π)
def eY{lo:ν}{n:π} : (fU lo n).length=n:=by unfold fU;rw[zd,List.length_range]
def eZ{lo:ν}{n i:π}{d:D}(h:(fU lo n)[i]?=some d):i<n/\d=.int (lo+i):=by unfold fU at h;rw[zm]at h;by_cases q:i<n;rw[List.getElem?_range q]at h;show{q,(zS h).symm};rw[List.getElem?_eq_none<|by rw[List.length_range];omega]at h;cases h
theorem Ke{a:Hp}{lo:ν}{n:π} : Xa K a (Vh lo n) {fU lo n,λz=>True}:=λi S H k s z=>{λd hd=>by let⟨h1,rfl⟩:=eZ hd;show{h1,by rintro x H' ⟨e1,e2⟩;show by subst e1 e2;show{aS _,.refl _,s}},λhl=>by rw[eY]at hl;show hl}
def abD(t:iJ):xJ:=λσ S R Z=>t σ S (λds S1=>∃j:ν,ds=[.int j]/\-(2^62)<=j/\j<2^62/\R {fU 0 j.toNat,λz=>True} S1) Z
theorem NB{t:iJ}(hm:X.mg "range"= none)(ha:DA K X [a] t)(hg:ψ (Gl X "range") qQJ)(l:ψ (starEach [a] X.env=[(false,eval a X.env)]) qQJ):DI K X tg (.Call (.Name "range" p) [a] [] pos) (abD t):=⟨λy=>(GY (X:=y.cx) hg hm (ha.of y) l).mono <| by rintro τ H R ⟨σ,S,RI,Z,g,d,q,h,m⟩;show{σ,S,_,Z,g,d,q,by rintro ds S1 vs H1 ⟨j,e,h1,h2,i⟩ c s1 k1;subst e;let⟨v,rfl,r⟩:=c.one;show{j,by rw[r.int],h1,h2,h _ S1 _ H1 i Ke s1 k1},m}⟩
def Xc(t:iJ):xJ:=λσ S R Z=>t σ S (λds S1=>∃i j:ν,ds=[.int i,.int j]/\(-(2^62)<=i/\i<2^62/\-(2^62)<=j/\j<2^62)/\R {fU i (j-i).toNat,λz=>True} S1) Z
theorem ir2{t:iJ}(hm:X.mg "range"= none)(ha:DA K X [a,c] t)(hg:ψ (Gl X "range") qQJ)(n:ψ (starEach [a,c] X.env=[(false,eval a X.env),(false,eval c X.env)]) qQJ)(s:ψ (starEach [c] X.env=[(false,eval c X.env)]) qQJ): DI K X tg (.Call (.Name "range" p) [a,c] [] pos) (Xc t):=⟨λy=>(GZ (X:=y.cx) hg hm (ha.of y) n s).mono <| by rintro τ H R ⟨σ,S,RI,Z,h,g,q,l,o⟩;show{σ,S,_,Z,h,g,q,by rintro ds S1 vs H1 ⟨i,j,e,h1,m⟩ d s1 k1;subst e;let⟨v,u,rfl,r,w⟩:=d.two;show{i,j,by rw[r.int,w.int],h1,l _ S1 _ H1 m Ke s1 k1},o}⟩
end
section
variable{K:Φ}{X:Cx}{tg iter:Δ}{pos:Pos}
def abE(ti:xJ)(g:CA)(tb:jX):jX:=λDe σ S Z=>ti σ S (λI S1=>∃P:π->SD->av->η,P 0 σ S1/\(∀i σ S,P i σ S->I.ok S)/\(∀i d σ S,I.xs[i]?=some d->P i σ S->g d σ S λa c=>tb {De with nx:=P<|i+1,ct:=P<|i+1,bk:=De.nx} a c Z)/\∀σ S,P I.xs.length σ S->De.nx σ S)<|Z σ
theorem tP(hi:DI K X tg iter ti)(hg:DG K X tg g)(hb:Bg K X true body tb)(Y:ψ (∀x,foldedSetIterable iter X.env x=pure x) qQ0)(G:ψ (X.calm=ϱ) qQJ):DS K X true (.For tg iter body [] pos) (abE ti g tb):=
 ⟨λy=>(Qy (X:=y.cx) (y.ok.loop rfl) G (hi.of y) (hg.of _ rfl rfl rfl rfl rfl) (hb.of y) Y).mono <| by rintro D τ H ⟨σ,S,De,Z,s,M,q,t,v⟩;show
  ⟨σ,S,_,_,s,M,q,by
   rintro I S1 J H1 ⟨P,O,o,h,a⟩ R s1 k1
   show{λi m τ H=>m=I.xs.length-i/\i<=I.xs.length/\∃σ S,gZ K H σ τ/\Rs K S H/\P i σ S/\Kp K H1 H,!{yh _,σ,S1,s.ts k1,s1,O,.refl _},?_}
   rintro i m τ2 H2 ⟨rfl,Xd,z,n,w,s2,p2,k2⟩
   have ok:=R i n H2 k2 s2<|o _ _ _ p2
   by_cases c:i<I.xs.length
   ·let⟨go,F⟩:=ok.1 _ (zg c)
    show .inr {go,λN H'=>i+1<=I.xs.length/\∃σ S,gZ K H' σ N/\Rs K S H'/\P (i+1) σ S/\Kp K H1 H',λak H' h'=>{_,by omega,rfl,h'},λx H' L=>?_}
    let⟨Q,k3,E⟩:=F x H' L
    show{_,z,n,_,Q,w.ts k3,E,h i _ z n (zg c) p2,λZi U τ4 H4 B C s4 k4=>?_}
    have kk:=(k2.trans k3).trans k4
    show{Zi,U,_,Z,C,s4,B,{λj S5 τ5 A d p r l=>{c,j,S5,p,r,d,kk.trans l},t.rt.kp<|k1.trans kk,(t.nx.kp<|k1.trans kk),λj S5 τ5 A d p r l=>{c,j,S5,p,r,d,kk.trans l}},v.kp<|k1.trans kk}
   ·have e:i=I.xs.length:=by omega
    subst e
    show .inl {ok.2<|zj _,t.nx _ _ _ _ (a _ _ p2) w s2<|k1.trans k2},v.at s⟩⟩
end
noncomputable def qD(σ:SD)(src:δ<|θ π):SD:=src.map λo=>match o with|some j=>(σ[j]?).join|none=>none
theorem gZ.pick{K:Φ}{H:Hp}{σ:SD}{τ:St}(h:gZ K H σ τ):∀src:δ (θ π),gZ K H (qD σ src) (pick τ src)|[]=>.nil|o::r=>.cons (λd e=>by cases o with|none=>(cases e)|some j=>dsimp only at e⊢;cases q:σ[j]? with|none=>(rw[q]at e;cases e)|some o'=>rw[q]at e;obtain rfl:o'=ϑ d:=e;let⟨v,e1,a⟩:=h.get q;show{v,by rw[e1];rfl,a})<|gZ.pick h r
def Zf:KX:=λz z=>False
def Fw(σ:SD)(src:δ<|θ π)(g:CA)(tc:lW)(te:TD)(R:KD)(I:qC)(S1:av):Prop:=∃P:π->δ D->av->η,P 0 [] S1/\(∀i out S,P i out S->I.ok S)/\(∀i d out S,I.xs[i]?=some d->P i out S->out.length<Ϙ/\g d (qD σ src) S λa e=>tc a e (λb c=>if b=ϱ then te a c (λv S5=>P (i+1) (out++[v]) S5) Zf else P (i+1) out c) Zf)/\∀out S2,P I.xs.length out S2->∀p,S2 p=ϐ->R (.ref p) (S2.set p<|.lst out)
def wu(ti:xJ)(src:δ<|θ π)(g:CA)(tc:lW)(te:TD):TD:=λσ S R Z=>ti σ S (λI S1=>Fw σ src g tc te R I S1) Z
theorem Hx.f{K:Φ}{H:Hp}{e:XK} : Hx K H Zf e:=λx x x z=>z.elim
def T.comp{K:Φ}{E E':St->XK}{ti:xJ}{src:δ<|θ π}{g:TG}{gd:CA}{tc:lW}{te:TD}{τ:St}{H:Hp}{Q:VK}(hg:∀v τ H Q,Tg K gd v τ H Q->g v τ H Q) (h:T K E (wu ti src gd tc te) τ H Q):JI (Ti K E ti) src g (Tt K E' tc) (T K E' te) τ H Q:=by
 let⟨σ,S,R,Z,B,O,q,hR,G⟩:=h;show{σ,S,_,Z,B,O,q,λI S1 J H1 ⟨P,U,t,r,j⟩ Y s1 k1=>?_,G};show{λi m out H=>m=I.xs.length-i/\i<=I.xs.length/\∃ds S,RvAll K H ds out/\Rs K S H/\P i ds S/\Kp K H1 H,!{yh _,[],S1,bL,s1,U,.refl _},?_};rintro i m out H2 ⟨rfl,Xd,ds,s,o,s2,p2,k2⟩;have ok:=Y i s H2 k2 s2<|t _ _ _ p2;by_cases n:i<I.xs.length;let⟨go,L⟩:=ok.1 _<|zg n;let⟨hz,st⟩:=r i _ ds s (zg n) p2;show .inr {go,by rw[o.len];show hz,λx H' N=>?_};let⟨X,k3,F⟩:=L x H' N;show hg _ _ _ _ {_,_,s,_,X,(((B.ts k1).ts k2).ts k3).pick src,F,st,λA S4 τ4 H4 C w s4 k4=>?_};show{A,S4,_,Zf,w,s4,C,λc S5 H5 l z a=>?_,.f};cases c with|true=>rw[qb rfl]at l⊢;show{A,S5,_,Zf,w.ts a,z,l,λd M v H6 r6 v6 s6 y=>{_,by omega,rfl,n,ds++[d],M,(RvAll.ts (((k3.trans k4).trans a).trans y) _ o).app<|aZ v6 bL,s6,r6,(((k2.trans k3).trans k4).trans a).trans y},.f}|false=>rw[qa ze]at l⊢;show{_,by omega,rfl,n,ds,S5,RvAll.ts ((k3.trans k4).trans a) _ o,z,l,((k2.trans k3).trans k4).trans a}
 have e:i=I.xs.length:=by omega
 subst e;show .inl {ok.2<|zj _,λp hp=>(hR.kp<|k1.trans k2).new s2 hp (j _ _ p2 p) o}
noncomputable def Ev.none(X:Cx)(h:X.xe=λx x=>False):Ev X false:={X.pn,X.xe,λx=>E0,{by rintro p2 τ H s e s' _ ⟨_,_,_,_,_,_,_,_,_,z⟩;show z.elim,λe=>(by cases e),λe=>(by cases e)}}
section
variable{K:Φ}{X:Cx}{b:χ}{N:δ ρ}{src:δ (θ π)}{scope:Scope}{tg iter elt:Δ}{ifs:δ Δ}{pos:Pos}{ti:xJ}{g:TG}{gd:CA}{tc:lW}{te:TD}
structure UD(K:Φ)(X:Cx)(ifs:δ Δ)(t:lW):η where
 of:∀{b:χ}(y:Ev X b),Uo y.cx ifs<|Tt K y.E t
def wA:lW:=λz S R z=>R true S
theorem vF:UD K X [] wA:=⟨λy qc s τ H Q I ⟨σ,S,R,Z,d,a,q,c,e⟩=>MZ qc s τ H Q I<|c true S H q a<|.refl _⟩
theorem if1{t:lW}(h:DT K X c t):UD K X [c] t:=⟨λy=>M0<|h.of y⟩
theorem Xe(S:bx X N src scope)(c:DI K X tg iter ti)(hg:∀C s H ex pn,PG (g9 X N scope C s H ex pn) tg g)(hx:Dc g src)(a:∀v τ H Q,Tg K gd v τ H Q->g v τ H Q) (hi:∀C s H ex pn,UD K (g9 X N scope C s H ex pn) ifs tc) (i:∀C s H ex pn,DE K (g9 X N scope C s H ex pn) elt te) (e:ψ (∀x,foldedSetIterable iter X.env x=pure x) qQ0) (d:ψ (X.calm=ϱ) qQJ):DE K X (.ListComp elt [{tg,iter,ifs,0}] scope pos) (wu ti src gd tc te):=⟨λy=>(M5 (X:=y.cx) (tc:=Tt K (λz=>E0) tc) (te:=T K (λz=>E0) te) ⟨S.kind,S.iA,S.loc,S.Cv,S.len,S.src⟩ d (c.of y) hg hx (λC s H ex pn=>(hi C s H ex pn).of<|.none _ rfl) (λC s H ex pn=>(i C s H ex pn).of<|.none _ rfl) e).mono λz z z h=>h.comp a⟩
theorem stc(hN:X.N.Nodup)(S:bx X N src scope)(a:DI K X tg iter ti)(hg:∀C s H ex pn,PG (g9 X N scope C s H ex pn) tg g)(hx:Dc g src)(e:∀v τ H Q,Tg K gd v τ H Q->g v τ H Q) (hi:∀C s H ex pn,UD K (g9 X N scope C s H ex pn) ifs tc) (n:∀C s H ex pn,DE K (g9 X N scope C s H ex pn) elt te) (j:ψ (X.N[i]?=some x) qQJ) (w:ψ (X.env.scope.names.lookup x=ϑ .local) qQJ) (h:ψ (swapsWith (.ListComp elt [{tg,iter,ifs,0}] scope pos) (some<|.Name x pos') Hk.line X.env=pure true) qQJ) (m:ψ (∀x,foldedSetIterable iter X.env x=pure x) qQ0) (p:ψ (X.calm=ϱ) qQJ):DS K X b (.Assign [.Name x pos'] (.ListComp elt [{tg,iter,ifs,0}] scope pos) Hk) (RL i<|wu ti src gd tc te):=⟨λy=>(Dd (X:=y.cx) (i:=i) (tc:=Tt K (λu=>E0) tc) (te:=T K (λu=>E0) te) hN j w ⟨S.kind,S.iA,S.loc,S.Cv,S.len,S.src⟩ p (a.of y) hg hx (λC s H ex pn=>(hi C s H ex pn).of<|.none _ rfl) (λC s H ex pn=>(n C s H ex pn).of<|.none _ rfl) h m).mono <| by rintro D τ H ⟨σ,S,De,Z,c,t,q,z,o⟩;show T.comp e {σ,S,_,_,c,t,q,λd S1 v H1 l r s1 k1=>z.nx _ _ _ _ l ((c.ts k1).set i r) s1 k1,o.at c}⟩
def Fx:∀v τ H Q,Tg K (UC i) v τ H Q->jA i v τ H Q:=by rintro v τ H Q ⟨d,σ,S,R,g,a,e,q,c⟩;show c _ S _ H q (a.set i g) e<|.refl _
end
structure xK(K:Φ)(x qual:ρ)(st:Stmt)(f:ε)(fd:FuncData):η where
 ex:∃(oc:ξ)(od:θ ε)(dV kV doc pm:ξ)(an:θ ε)(iL ct:ξ)(QN:Array (θ ξ)),
  fd=fnOf x qual (b9 st) (bK st) (ar st) dV kV doc pm an iL ct/\K.lookup f=ϑ {oc,od,.func fd,QN}/\codeIn K iL qual=ϱ
noncomputable def kE(N:δ ρ)(ds:δ D):SD:=ds.map some++List.replicate (N.length-ds.length) none
section
variable{P:Ψ}{w:Ω}{K:Φ}{mg:ρ->θ ξ}{base:Γ}
def xK.okD{x qual:ρ}{st:Stmt}{f:ε}{fd:FuncData}{N ps:δ ρ}{k:π}{sp:lH}(F:xK K x qual st f fd)(S:g8 N ps<|ar st)(len:∀ds S R Z,sp ds S R Z->ds.length=ps.length) (g:∀(iL:ξ)(A:ϕ)(outer:δ Env)(s:ζ)(H:Hp)(E:XK)(ds:δ D)(S:av)(R:KD)(Z:KX),cj k (A.deeper<|envOfC qual (ar st) s.heap.objs.size f iL)->sp ds S R Z->∃t,Bg K (lT (gb P w mg) P w K mg base N qual (ar st) f iL A outer s H E) true (bK st) t/\t {nx:=λu S'=>R .ay S',rt:=R} (kE N ds) S λu=>Z):bU P w K mg base (gb P w mg) (k+1) f fd ps (rV K sp):=by
 let⟨oc,od,dV,kV,doc,pm,an,iL,ct,QN,rfl,lk,n⟩:=F.ex;have o:ps.length<=N.length:=by have:=congrArg List.length S.pre;rw[yq]at this;lia
 show OV lk n S (by rintro vs H Q E ⟨ds,S',R,Z,v,_,h,_⟩;show by rw[v.len];show len _ _ _ _ h) λA outer s H vs Q E hr ⟨ds,S',R,Z,v,m,h,d,j⟩=>?_;let⟨t,l,q⟩:=g iL A outer s H E ds S' R Z hr h;have L:dS (lT (gb P w mg) P w K mg base N qual (ar st) f iL A outer s H E) E:=wg;let y:Ev (lT (gb P w mg) P w K mg base N qual (ar st) f iL A outer s H E) true:={_,(lT (gb P w mg) P w K mg base N qual (ar st) f iL A outer s H E).xe,λu=>E,{λp2 τ H1 s1 e s' I h=>OZ L p2 τ H1 s1 e s' I h,λ_ p2 τ H1 s1 h' a cls args I hx i=>qz L I hx i,λu=>PassesOwn.leaving}};show{Tl K (λu=>E) t,l.of y,kE N ds,S',_,λu=>Z,?_,m,q,{λσ S1 τ H1 r a b c=>d.kp c |>.now b r kB,d,λu u u u z=>z.elim,λu u u u z=>z.elim},λσ τ C S1 H1 z a b c=>j C S1 H1 z b c};unfold kE start;show(tO v).app ?_;rw[v.len];show tN _ _<|by rw[yk]
theorem bU.Xf(F:bU P w K mg base (gb P w mg) k f fd ps<|rV K sp)(h:∀ds S R Z,sp' ds S R Z->sp ds S R Z):bU P w K mg base (gb P w mg) k f fd ps (rV K sp'):=F.imp <| by rintro vs H Q E ⟨ds,S,R,Z,a,b,c,d⟩;show{ds,S,R,Z,a,b,h _ _ _ _ c,d}
def bU.calm(F:bU P w K mg base (gb P w mg) k f fd ps sp):bU P w K mg base Y5 k f fd ps λvs H Q x=>sp vs H Q E0:=by show{λvs H Q E h=>F.len vs H Q E0 h,λA outer s H args us vs Q E hr c hb r h=>y4 (F.run A outer s H args us vs Q E0 hr c hb r h) λa s' q=>?_};cases a with|error e=>(let⟨_,_,_,_,_,_,_,_,_,z⟩:=q;show z.elim)|ok fl=>cases fl<;>show q
end
section
variable{K:Φ}{X:Cx}{b:χ}{i:π}{n x:ρ}{C0:ε}{body kz:δ Stmt}{tG:Stmt}{np tH pos:Pos}
def Kf{t:jX}(h:Bg K X false body t):Rn X body (λE=>Tl K E t):=by intro qc s σ H D E I q;let y:Ev X false:={X.pn++qc,XE X qc E,E,{λp2 τ H1 s1 e s' a hq=>{τ,H1,s1,{⟨a.ok.mod,a.ok.kind,a.ok.glob,a.ok.blt,a.ok.above,a.ok.inj,a.ok.has,a.ok.Qa,a.ok.hd,a.ok.frames,a.ok.Ui,a.ok.YW,a.ok.bs,a.ok.GS,a.ok.CI,a.ok.GU,a.ok.lR,a.ok.Jd⟩,a.os,a.bare,a.base,a.loc,a.cell,a.free,a.eP,λp hp=>a.pin p<|yj _ hp,a.aK,a.len},hq},λe=>(by cases e),λe=>(by cases e)}};have c:∀{ak:St}{H':Hp}{s':ζ},Inv y.cx [] ak H' s'->Inv X qc ak H' s':=λa=>{⟨a.ok.mod,a.ok.kind,a.ok.glob,a.ok.blt,a.ok.above,a.ok.inj,a.ok.has,a.ok.Qa,a.ok.hd,a.ok.frames,a.ok.Ui,a.ok.YW,a.ok.bs,a.ok.GS,a.ok.CI,a.ok.GU,a.ok.lR,a.ok.Jd⟩,a.os,a.bare,a.base,a.loc,a.cell,a.free,a.eP,λp hp=>a.pin p<|yj _ hp,a.aK,a.len};have g:Inv y.cx [] σ H s:={⟨I.ok.mod,I.ok.kind,I.ok.glob,I.ok.blt,I.ok.above,I.ok.inj,I.ok.has,I.ok.Qa,I.ok.hd,I.ok.frames,I.ok.Ui,I.ok.YW,I.ok.bs,I.ok.GS,I.ok.CI,I.ok.GU,I.ok.lR,I.ok.Jd⟩,I.os,I.bare,I.base,I.loc,I.cell,I.free,I.eP,λp hp=>I.pin p<|by rw[yR]at hp;show hp,I.aK,I.len};show yx (h.of y [] s σ H D g q) (λf s' r=>?_) λz z r=>r;cases f with|next=>(let⟨ak,H',d,q⟩:=r;show{ak,H',c d,q})|brk=>(let⟨ak,H',d,q⟩:=r;show{ak,H',c d,q})|cont=>(let⟨ak,H',d,q⟩:=r;show{ak,H',c d,q})|ret u=>let⟨v,ak,H',d,i,q⟩:=r;show{v,ak,H',c d,i,q}
noncomputable def wq.less(De:wq)(i:π):wq:={nx:=λσ S=>De.nx (σ.set i none) S,rt:=De.rt,bk:=λσ S=>De.bk (σ.set i none) S,ct:=λσ S=>De.ct (σ.set i none) S}
def abJ(K:Φ)(i:π)(C0:ε)(tb ts:jX):jX:=λDe σ S _=>tb De σ S λak C S'=>mroIn K C (.ref C0)=ϑ true/\∀a,S' a=ϐ->ts (De.less i) (ak.set i<|some<|.ref a) (S'.set a<|.exc C) λz=>Zf
def abK{tb ts:jX}(hN:X.N.Nodup)(hm:X.mg x=ϑ (.ref C0))(c0:XC K C0)(hb:Bg K X false body tb)(G:∀a,Bg K (X.gx a) false (tG::kz) ts) (hi:ψ (X.N[i]?=some n) qQJ) (hx:ψ (X.env.scope.names.lookup n=ϑ .local) qQJ) (J:ψ (Gl X x) qQJ) (A:ψ ((x==("__debug__": ρ))=ϰ) qQZ) (M:ψ (X.stack=X.env::X.outer) qQJ) (fr:ψ (X.env.frame=ϑ X.env.locals) qQJ) (I:ψ (X.K=K) qQJ): DS K X b (.Try body [.ExceptHandler (some<|.Name x np) (some n) (tG::kz) tH] [] [] pos) (abJ K i C0 tb ts):=by subst I;show⟨λy=>(Rp (X:=y.cx) (ts:=Tl X.K (λu=>E0) ts) M fr hN hi hx J hm c0 (Kf (X:=y.cx) (K:=X.K) (t:=tb) ⟨λz=>hb.of ⟨z.pn,z.xe,z.E,z.ok⟩⟩) (λa=>(G a).of {y.pn,λu u=>False,λu=>E0,{λp2 τ H s e s' _ ⟨_,_,_,_,_,_,_,_,_,z⟩=>z.elim,λe=>(by cases e),λe=>(by cases e)}}) A).mono λD τ H ⟨σ,S,De,Z,O,L,q,p,R⟩=>?_⟩;show{σ,S,De,_,O,L,q,p,λP Q C S1 H1 ⟨w,B⟩ F s1 k1=>{C,rfl,w,λa ha=>?_}};have kn:Kp X.K H1 (upd H1 a<|nH a<|.ref C):=.new ha;have kk:=k1.trans kn;have un:∀{o:SD}{d:St}{m:Hp},gZ X.K m o d->gZ X.K m (o.set i none) (d.set i none):=λr=>r.unset i none;show{_,_,De.less i,λu=>Zf,(F.ts kn).set i<|eX a,s1.new (c:=.exc C) ha aD,B a<|s1.fresh ha,{λo v d m h g j l=>p.nx _ _ _ _ h (un g) j<|kk.trans l,p.rt.kp kk,λo v d m h g j l=>p.bk _ _ _ _ h (un g) j<|kk.trans l,λo v d m h g j l=>p.ct _ _ _ _ h (un g) j<|kk.trans l},λu u u u u z=>z.elim}
end
section
variable{K:Φ}{X:Cx}{x:ρ}{id:String}{e:Δ}{es:δ Δ}{p pos:Pos}{t:iJ}{r:δ D->av->KD->η}
def Pc(K:Φ)(f:ξ)(r:δ D->av->KD->η):Prop:=∀X:Cx,X.K=K->eQ X f (Lc K r)
theorem Xg(a:Pc K (.builtin id) r)(hm:X.mg x=ϐ)(hv:bootBuiltins x=ϑ (.builtin id))(ha:DA K X (e::es) t)(hg:ψ (Gl X x) qQJ) (hn:ψ (x≠"__name__") qQZ) (c:ψ ((x==("__debug__": ρ))=ϰ) qQZ) (i:ψ (starEach (e::es) X.env=`j::starEach es X.env) qQJ) (d:ψ ((backTo pos<|starEach es X.env).any (·.1)=ϰ) qQJ) (g:ψ (X.K=K) qQJ): DE K X (.Call (.Name x p) (e::es) [] pos) (Wy r t):=⟨λy=>(sV (X:=y.cx) (a _ g) hg hm hv (ha.of y) hn c i d).mono λz z z h=>h.cb⟩
def abL(K:Φ):δ D->av->KD->Prop:=λds S R=>∃a C c b,ds=[.ref a,c]/\S a=ϑ (.exc C)/\XC K C/\XA K C/\((∃Cd,c=.ref Cd/\kitOne K (.ref C) (.ref Cd)=ϑ b)\/(∃n,c=.ty n/\kitOne K (.ref C) (.type n)=ϑ b)\/∃as:δ ε,c=.tup (as.map D.ref)/\kitAny K (.ref C) (as.map Value.ref)=ϑ b)/\R (.bl b) S
theorem RvAll.refs:∀{a:δ ε}{xs:δ V},RvAll K H (a.map D.ref) xs->xs=a.map V.ref|[],xs,h=>h.nil|b::bs,xs,h=>by let⟨y,ys,rfl,h1,h2⟩:=h.cons;rw[h1.ref,h2.refs];rfl
theorem wB:∀{c:δ ε}{a:δ ξ},Vals (c.map V.ref) a->a=c.map Value.ref|[],_,.nil=>rfl|_::_,_,.cons r t=>by rw[wB t];cases r;rfl
def Bh:Pc K (.builtin "isinstance") (abL K):=by rintro X x qc s σ H xs us Q I m ⟨ds,S,R,r,g,⟨a,C,c,b,e,h1,h2,o,d,h⟩,l⟩;subst x e;let⟨v,u,rfl,j,i⟩:=r.two;have ha:H a=ϑ (nH a<|.ref C):=g a _ h1;rcases d with⟨w,rfl,d⟩|⟨n,rfl,d⟩|⟨A,rfl,d⟩;show ma rfl qc s σ H _ us Q I m {a,C,.ref w,.ref w,b,by rw[j.ref,i.ref],ha,h2,o,rfl,λy e=>e,d,l.now g h<|bV _};show ma rfl qc s σ H _ us Q I m {a,C,.ty n,.type n,b,by rw[j.ref,i.ty],ha,h2,o,rfl,λy e=>e,d,l.now g h<|bV _};let⟨p,zs,rfl,q,t⟩:=i.tup;rw[t.refs]at q;show vA rfl qc s σ H _ us Q I m {a,C,p,_,b,by rw[j.ref],ha,h2,o,q,λz hv=>by rw[wB hv];show d,l.now g h<|bV _}
end
theorem wC{P:Ψ}{w:Ω} : ∀{ss:δ ρ}{vs:δ ξ},vs.length=ss.length->(∀(j:π)(v:ξ),vs[j]?=some v->∃x,ss[j]?=some x/\keyIs (.inr x) v=ϱ)->StrsAre vs ss|[],[],_,_=>.nil|[],_::_,h,_=>by simp at h|_::_,[],h,_=>by simp at h|x::ss,v::vs,h,k=>by let⟨x',e,q⟩:=k 0 v rfl;cases e;rcases bN q with⟨i,t,e,_⟩|⟨y,t,e,rfl⟩;cases e;cases e;show .cons x t<|wC (P:=P) (w:=w) (by simpa using h) λj v e=>k (j+1) v<|by simpa using e
theorem wD:∀{vs:δ ξ}{ss:δ ρ},StrsAre vs ss->Vals (ss.map V.str) vs|_,_,.nil=>.nil|_,_,.cons y t h=>.cons ⟨t,rfl⟩<|wD h
def KV.abM{κ:Type}{kvs:δ<|κ×V}{vs:δ<|κ×ξ}(h:KV kvs vs):vs.map (·.1)=kvs.map (·.1):=by unfold KV at h;induction h with|nil=>rfl|cons r t a=>rw[zK,zK,a,r.1]
def Kg{prog:Ψ}{w:Ω}{A:ϕ}{E:ξ->ζ->η}{s:ζ}{T:String}{r d:ε}{n:π}{P:π->ξ->η}{p:Γ->η}{R:δ ξ->ζ->η}(K:PySem.W.KdlSrc prog w T r d n P p)(z:A.handled=ϐ)(aK:p s.heap)(hn:n<=Ϙ) (h:∀(h':Γ) (tk:π) (g:Array ξ),(∀b o,s.heap.get? b=ϑ o->h'.get? b=ϑ o)->s.heap.objs.size<=h'.objs.size->ItemsOf P g n->R g.toList {s with heap:=h',toks:=tk}): wpAny `n A (collect<|.ref r) R E s:=by have t:=K.there _ aK;unfold collect;show zb<|wpAny_runValue<|yT entry_proto_collect' ?_;rw[Around.under_plainId PySem.F.plain_proto_collect _];change wpAny _ A.in1 (newList [] >>=λl=>again<|.builtin "list.__iadd__" {[l,.ref r],[]}) _ _ s;show zb<|ym ?_;show zr {plainId_quiet PySem.F.plain_list_iadd _,yT entry_list_iadd' ?_};rw[Around.under_plainId PySem.F.plain_list_iadd _];have v:(s.heap.push {cls:=.type "list",data:=.seq ([]:δ ξ).toArray}).get? s.heap.objs.size=ϑ {cls:=.type "list",data:=.seq #[]}:=zo _ rfl;change wpAny _ A.in1 (Builtin.List.listExtendWith (.ref s.heap.objs.size) (.ref r)<|.ref s.heap.objs.size) _ _ _;have key:=PySem.W.kdl_extend (A:=A) (s:={s with heap:=s.heap.push {cls:=.type "list",data:=.seq ([]:δ ξ).toArray}}) (R:=λ(q:Result) (s':ζ)=>∃(h':Γ) (tk:π) (a:Array ξ) (j:π),q=.ok (.ret<|.ref s.heap.objs.size)/\s'={s with heap:=h',toks:=tk}/\(∀b o,s.heap.get? b=ϑ o->h'.get? b=ϑ o)/\h'.get? s.heap.objs.size=ϑ {cls:=.type "list",dict:=none,data:=.seq a j,slots:=#[]}/\ItemsOf P a n) K z (K.keep _ _ aK λb u o e=>za _ e) s.heap.objs.size (yw t.1) (yw t.2) (.ref s.heap.objs.size) 0 v (λh' tk a j hk c i=>{h',tk,a,j,rfl,rfl,λb o e=>hk b o (zD<|zA e)<|za _ e,c,i}) hn;show yx key (λm s' x=>?_) λe s' x=>?_;{cases m with|done f=>(let⟨h',tk,a,j,e,rfl,hk,c,i⟩:=x;cases e;change wpAny _ A (load s.heap.objs.size >>=_) _ _ _;show zb<|wpAny_load c<|zr<|h h' tk a hk (yU<|zA c) i)|again B=>show{x.1,y4 x.2 λq C y=>?_};let⟨h',tk,a,j,rfl,rfl,hk,c,i⟩:=y;change wpAny _ A (load s.heap.objs.size >>=_) _ _ _;show zb<|wpAny_load c<|zr<|h h' tk a hk (yU<|zA c) i};let⟨_,_,_,_,e',_⟩:=x;cases e'
def xM{X:Cx}(N:X.calm=ϱ):eQ X (.builtin "sorted") (λxs H Q=>∃(a:ε)(kvs:δ (Key×V))(ss:δ ρ),xs=[.ref a]/\H a=ϑ (.dK kvs)/\kvs.map (·.1)=ss.map Sum.inr/\kvs.length<64/\∀d,d.Perm ss->sortedS d=ϱ->∀l,H l=ϐ->Q (.ref l) (upd H l<|.lst<|d.map V.str)):=by
 intro qc s σ H xs us Q I r h;let⟨a,kvs,ss,rfl,e,hk,hl,q⟩:=h;let⟨u,rfl,Z⟩:=vals1 r;cases Z;let⟨z,hd,vs,rel,O⟩:=Fj I.aK e;let⟨ep,R⟩:=O.dictAt;have i:vs.length<64:=by rw[<-rel.length];show hl
 have M:=I.ok.hd N;show PySem.Calls.call_function_entry kind_sorted plain_sorted entry_sorted (args_sorted1 _) ?_;unfold Builtin.«sorted»;show zb (m:=checkCount "sorted" 1 1 _)<|zr ?_;show zb<|Kg (A:=X.A.in1) (PySem.W.kdl_dict (knd:=aJ X.prog X.w) (kvs:=vs) (ep:=ep) hd) M R (by rw[yg];omega) λh' tk c g F J=>?_;have C:c.toList.length=vs.length:=by rw[yy];show J.1
 show zb<|wpAny_newList ?_ (by rw[C,yg];omega);have B:StrsAre c.toList ss:=by have E:=rel.abM;show wC (P:=X.prog) (w:=X.w) (by rw[C,<-rel.length];have:=congrArg List.length hk;simpa using this) λj v ev=>?_;let⟨k,x,e1,e2⟩:=J.2 j v (by rw[<-Array.getElem?_toList];show ev);have e3:(vs.map (·.1))[j]?=some k:=(by rw[zm,e1];rfl);rw[E,hk,zm]at e3;cases K:ss[j]? with|none=>(rw[K]at e3;cases e3)|some y=>rw[K]at e3;cases e3;show⟨y,rfl,e2⟩
 have p:(h'.push<|seqObj "list" c.toList.toArray 0).get? h'.objs.size=ϑ (seqObj "list" c.toList.toArray 0):=zo _ rfl;change wpAny _ _ _ _ _ {s with heap:=h'.push<|seqObj "list" c.toList.toArray 0,toks:=tk};show zb<|yQ<|yN slot_list_sort {_,p,rfl} entry_list_sort (list_sort_treeK (s:={s with heap:=h'.push<|seqObj "list" c.toList.toArray 0,toks:=tk}) strKind_oneLt p B.keysOf (λpM pN rest e=>keyKind_strs<|by rw[<-e];show B) (by rw[C];show i) λL hp S=>!⟨?_⟩)<|args_list_sort _;show zr !⟨?_⟩;let⟨d,h1,h2,Y⟩:=sorted_out_str B hp S;let⟨e1,t⟩:=sortedHeap_at (vs:=c.toList) (n:=0) (out:=(arrOf L).map (·.2)) p;have U:d.length<=sizeLine:=by rw[h2.length_eq,yg];have:=congrArg List.length hk;rw[zd,zd]at this;omega
 show{.ref h'.objs.size,_,I.laid (a:=h'.objs.size) (o:=.lst<|d.map V.str) (λb u hb=>?_) F {by rw[zd];show U,_,e1,wD h1,t},rfl,q d h2 Y _<|I.aK.fresh F};have G:=zA<|g b u hb;rw[sortedHeap_old (zD G)<|by rw[ye];show Nat.lt_succ_of_lt G,za _<|g b u hb]
section
variable{K:Φ}
def NC:δ D->av->KD->Prop:=λds S R=>∃(a:ε)(kvs:δ (Key×D))(ss:δ ρ),ds=[.ref a]/\S a=ϑ (.cZ kvs)/\kvs.map (·.1)=ss.map Sum.inr/\kvs.length<64/\∀Fy,Fy.Perm ss->sortedS Fy=ϱ->∀p,S p=ϐ->R (.ref p) (S.set p<|.lst<|Fy.map D.str)
def cJ.keys{κ:Type}{H:Hp}{ks:δ<|κ×D}{vs:δ<|κ×V}(h:cJ K H ks vs):vs.map (·.1)=ks.map (·.1):=by unfold cJ at h;induction h with|nil=>rfl|cons r t a=>rw[zK,zK,a,r.1]
def tQ:jE K (.builtin "sorted") NC:=by rintro X o j qc s σ H xs us Q I n ⟨ds,S,R,r,c,⟨a,kvs,ss,e,e1,hk,hl,h⟩,m⟩;subst e;let⟨v,rfl,i⟩:=r.one;let⟨vs,e2,t⟩:=c.cZ e1;show xM j qc s σ H _ us Q I n {a,vs,ss,by rw[i.ref],e2,by rw[t.keys];show hk,by rw[t.len];show hl,λd g p2 l hl=>m.new c hl (h d g p2 l)<|xG d}
end
def Pd(K:Φ)(a:ε)(n:π):It:={λi H=>∃xs x,jf K H a xs/\xs.length=n/\i<n/\xs[n-1-i]?=some x,λi H x H'=>H'=H/\∀xs,jf K H a xs->xs.length=n->xs[n-1-i]?=some x,λi z=>n<=i}
theorem Kh{P:Ψ}{w:Ω}{K:Φ}{tg:Δ}(a it:ε)(n:π):Turn P w K tg (Pd K a n) [it] it (λi h=>i<=n/\h.IsRevIter it a ((n:ν)-1-(i:ν))) where
 mem:=`d
 obj:=λi h st b hb=>by
  have e:b=it:=by simpa using hb
  subst e
  let⟨_,o,e,c,d⟩:=st
  show{o,e,λv z=>by rw[d]at z;cases z}
 keep:=λi h h' st k=>{st.1,st.2.at λo e=>k it `d o e}
 item:=by
  intro X hP hw hK hc i qc s σ H E I hf st hg
  subst hP hw hK
  let⟨xs,x,hq,hn,hi,hx⟩:=hg
  let⟨az,rv,p,hz⟩:=I.list hq
  let⟨u,hu,ru⟩:=rv.get hx
  let⟨f0,f1,f2,f3,f4,f5⟩:=hf it<|`d
  have e:(n:ν)-1-(i:ν)=((n-1-i:π):ν):=`b
  have hit:=st.2
  rw[e]at hit
  show wpAny_pyNext_rev_item hit p.isList (x:=u) (by simpa using hu) λh' fR sb=>?_
  have I1:Inv X qc σ H {s with heap:=h'}:=I.turned (t':=s.toks) (λb o hb e=>(sb.2 b hb).trans e) f0 f1 f3 f4 f5
  let⟨o,e1,c,d⟩:=id fR
  show{u,rfl,vZ (s:={s with heap:=h'}) e1 c d `a {x,H,I1,ru,{rfl,λys hy y=>by rw[I.sJ hy hq];show hx},{hi,?_},λb hb=>(hf b hb).1}}
  have e2:(n:ν)-1-((i+1:π):ν)=((n-1-i:π):ν)-1:=`b
  rw[e2];show fR
 done:=by
  intro X hP hw hK hc i qc s σ H E I hf st hg
  subst hP hw hK
  let⟨f0,f1,f2,f3,f4,f5⟩:=hf it<|`d
  have hg:n<=i:=hg
  have e:(n:ν)-1-(i:ν) = -1:=by have:=st.1;lia
  have hit:=st.2
  rw[e]at hit
  show wpAny_pyNext_rev_end (I.ok.hd hc) hit λh' eb=>{rfl,I.turned (t':=s.toks) (λb o hb e=>eb b o hb e) f0 f1 f3 f4 f5}
 self:=λy y y y y st h=>wpAny_pyIter_revIter st.2 h
def abO(K:Φ)(ta:TA):TI:=λσ H R=>ta σ H λvs H1=>∃a xs,vs=[.ref a]/\jf K H1 a xs/\R (Pd K a xs.length) H1
def RT{X:Cx}{tg a:Δ}{ta:TA}{p pos:Pos}(hg:Gl X "reversed")(hm:X.mg "reversed"= none)(ha:PA X [a] ta)(n:starEach [a] X.env=[(false,eval a X.env)]):PI X tg (.Call (.Name "reversed" p) [a] [] pos) (abO X.K ta):=by
 intro qc s σ H R I h;show Call_<|fT I hg hm boot_reversed<|yn (bB (ha pos qc s σ H _ I h) λus s1 ⟨vs,H1,c,i,m⟩=>?_) n rfl;let⟨l,xs,e,q,r⟩:=m;subst e;let⟨u,rfl,v⟩:=vals1 i;cases v;let⟨d,t,j,hz⟩:=c.list q;have hn:d.toArray.size=xs.length:=by rw[zx,t.length]
 show call_reversed_list j.isList ?_;rw[hn];have st:(s1.heap.push<|revObj l<|(xs.length:ν)-1).IsRevIter s1.heap.objs.size l ((xs.length:ν)-1-((0:π):ν)):={_,zo _ rfl,rfl,by change Data.fields _=Data.fields _;simp};have g:Inv X qc σ H1 {s1 with heap:=s1.heap.push<|revObj l<|(xs.length:ν)-1}:=c.kept (t':=s1.toks) λb o e=>za _ e;show wpAny_pyIter_revIter st {_,_,_,_,H1,rfl,g,Kh l s1.heap.objs.size xs.length,{yh _,st},λb hb=>?_,r};have hb:b=s1.heap.objs.size:=by simpa using hb
 subst hb;show c.pC (zj _)<|c.aK.fresh<|zj _
section
variable{K:Φ}{X:Cx}{tg:Δ}
def Xj(t:iJ):xJ:=λσ S R Z=>t σ S (λds S1=>∃x es,ds=[x]/\qB S1 x es/\R {es.reverse,λS=>qB S x es} S1) Z
def irv{t:iJ}(hm:X.mg "reversed"= none)(ha:DA K X [a] t)(hg:ψ (Gl X "reversed") qQJ)(m:ψ (starEach [a] X.env=[(false,eval a X.env)]) qQJ)(o:ψ (X.K=K) qQJ):DI K X tg (.Call (.Name "reversed" p) [a] [] pos) (Xj t):=by subst o;show⟨λy=>(RT (X:=y.cx) hg hm (ha.of y) m).mono <| by rintro τ H R ⟨σ,S,RI,Z,A,z,q,B,s⟩;show{σ,S,_,Z,A,z,q,by rintro ds S1 vs H1 ⟨x,es,e,h1,l⟩ w s1 k1;subst e;let⟨v,rfl,r⟩:=w.one;let⟨a,xs,rfl,hq,t⟩:=h1.at s1 r;show{a,xs,rfl,hq,B _ S1 _ H1 l (λi F H2 k2 s2 C=>?_) s1 k1};let⟨E,c,e',g,j⟩:=qB.at C s2<|Rv.ts k2 _ r;cases e';have hl:xs.length=es.length:=t.len;have n:c.length=es.length:=j.len;show{λd hd=>?_,λh=>by rw[yK]at h;change xs.length<=i;lia};have hi:i<es.length:=(by have:=(zf.mp hd).1;rwa [yK]at this);rw[List.getElem?_reverse hi]at hd;let⟨v,e1,r⟩:=j.get hd;rw[<-hl]at e1;show{{c,v,g,`b,`b,e1},λG H' ⟨e2,e3⟩=>?_};subst e2;have:=e3 c g `b;rw[e1]at this;cases this;show{r,.refl _,s2},s}⟩
noncomputable def jn(xs ys:δ D):δ D:=List.zipWith (λa b=>D.tup [a,b]) xs ys
def Xl(t:iJ):xJ:=λσ S R Z=>t σ S (λds S1=>∃xs ys,ds=[.tup xs,.tup ys]/\xs.length=ys.length/\R {jn xs ys,λz=>True} S1) Z
def rX:∀v τ H Q,Tg K (Pa 2<|DR (UC i)<|DR (UC j) O_) v τ H Q->ME K 2 (sL (jA i)<|sL (jA j) MD) v τ H Q:=by rintro v τ H Q ⟨d,σ,S,R,s,n,m,⟨ds,e,hl,a,r,e1,b,w,e2,e3,q⟩,o⟩;subst e e1 e2 e3;let⟨p,xs,rfl,hp,t⟩:=s.tup;let⟨l,c,rfl,h,g⟩:=t.two;show{p,_,rfl,.of hp,rfl,l,[c],rfl,c,[],rfl,rfl,o _ S _ H q ((n.set i h).set j g) m<|.refl _}
end
section
variable{K:Φ}{X:Cx}{b:χ}{pos:Pos}
def Xm(tl ti tv:TD):jX:=λDe σ S Z=>tv σ S (λv S1=>tl σ S1 (λx d=>ti σ d (λy c=>∃a es i j,x=.ref a/\y=.int i/\c a=ϑ (.lst es)/\C4 es.length i=ϑ j/\De.nx σ (c.set a<|.lst<|es.set j v))<|Z σ)<|Z σ)<|Z σ
theorem sls{o i value:Δ}{tl ti tv:TD}{pos':Pos}(ho:DE K X o tl)(hi:DE K X i ti)(hv:DE K X value tv)
  (ha:ψ (∀v,assign (.Subscript o i pos') X.env v=(do
   let ov <-holding [v] (eval o X.env)
   let iv <-holding [v,ov] (eval i X.env)
   standAt pos'
   holding [v,ov,iv] (setItem ov iv v)
   release [v,ov,iv] [])) qQ0)
  (p:ψ (swapsWithSole [.Subscript o i pos'] value pos.line X.env=pure false) qQJ) (hw:ψ (swappedStores [.Subscript o i pos'] value X.env=pure none) qQJ) (h1:ψ ((assignEach [.Subscript o i pos'] X.env).map (·.2)=[assign (.Subscript o i pos') X.env]) qQJ):
  DS K X b (.Assign [.Subscript o i pos'] value pos) (Xm tl ti tv):=
 ⟨λy=>(Jj (X:=y.cx) (hv.of y) (Qp (ho.of y) (hi.of y) set_list ha) p hw h1).mono <| by rintro D τ H ⟨σ,S,De,Z,d,s,q,B,g⟩;show
  ⟨σ,S,_,_,d,s,q,λv S1 h H1 n r s1 k1=>⟨σ,S1,_,_,d.ts k1,s1,n,λx z I H2 m A s2 k2=>⟨σ,z,_,_,d.ts<|k1.trans k2,s2,m,by
   rintro y F G E ⟨a,es,i,j,e1,e2,e3,e4,C⟩ l e k3
   subst e1 e2
   let⟨xs,w,t⟩:=e.lst e3
   have kk:=e.jl (o:=.lst<|xs.set j h) e3
   show{a,xs,i,j,(Rv.ts k3 _ A).ref,l.int,w,by rw[t.len];show e4,?_}
   show B.nx _ _ _ _ C (d.ts<|((k1.trans k2).trans k3).trans kk) (e.put (c:=.lst _) e3 {_,aD,RvAll.ts kk _<|t.set j<|Rv.ts (k2.trans k3) _ r})<|((k1.trans k2).trans k3).trans kk,g.on (k1.trans k2)<|d.ts<|k1.trans k2⟩,g.on k1<|d.ts k1⟩,g.at d⟩⟩
noncomputable def gz(z:ρ):δ D:=z.cps.toList.map λc=>D.str ⟨#[c]⟩
def Pe(t:TD):xJ:=λσ S R Z=>t σ S (λx S1=>∃z,x=.str z/\R {gz z,λy=>True} S1) Z
theorem RU{t:TD}(h:DE K X l t):DI K X tg l (Pe t):=⟨λy=>(Q7 (X:=y.cx)<|h.of y).mono <| by rintro τ H R ⟨σ,S,RI,Z,n,m,q,o,g⟩;show⟨σ,S,_,Z,n,m,q,by
 rintro x S1 v H1 ⟨z,e,a⟩ j s1 k1;subst e;show{z,j.str,o _ S1 _ H1 a (λi p H2 k2 s2 w=>{λd hd=>?_,λhl=>?_}) s1 k1};unfold gz at hd;rw[zm,Array.getElem?_toList]at hd;cases q:z.cps[i]? with|none=>(rw[q]at hd;cases hd)|some c=>rw[q]at hd;cases hd;show{(Array.getElem?_eq_some_iff.mp q).1,λr H' ⟨e1,s,e2,e3⟩=>?_};rw[q]at e2;cases e2;subst e1 e3;show{jj _,.refl _,s2}
 unfold gz at hl;rw[zd,yy]at hl;show hl,g⟩⟩
def ND(t:TD):TD:=λσ S R Z=>t σ S (λx S1=>∃ss:δ ρ,qB S1 x (ss.map D.str)/\ss.length<4000/\R (.int (jC ss).length) S1) Z
def Zk{t:TD}(h:DE K X e t)(hm:X.mg "len"= none)(c:X.mg "set"= none)(hp:ψ (isPlain e=ϱ) qQJ)(hg:ψ (Gl X "len") qQJ)(g:ψ (Gl X "set") qQJ)(m:ψ (starEach [e] X.env=[`j]) qQJ) (d:ψ (starEach [Expr.Call (.Name "set" p') [e] [] pos'] X.env=[(false,eval (.Call (.Name "set" p') [e] [] pos') X.env)]) qQJ) (j:ψ (X.K=K) qQJ) (o:ψ (X.calm=ϱ) qQJ): DE K X (.Call (.Name "len" p) [.Call (.Name "set" p') [e] [] pos'] [] pos) (ND t):=by subst j;show⟨λy=>(sV (X:=y.cx) (Ho (X:=y.cx) rfl rfl) hg hm aH (pa2 (wa (X:=y.cx) (Hn (X:=y.cx) rfl rfl rfl o) g c Rh (pa2 (h.of y) CY hp) `a `a m rfl) CY rfl) `a `a d rfl).mono λτ H Q ⟨σ,S,R,Z,w,s,q,z,n⟩=>?_⟩;show{σ,S,_,Z,w,s,q,λx S1 v H1 ⟨ss,h1,hl,i⟩ r s1 k1=>?_,n};let⟨a,xs,rfl,hq,t⟩:=h1.at s1 r;rw[t.strs]at hq;show{a,ss,rfl,hq,hl,λl hl=>{l,ss,rfl,aD,z _ _ _ _ i (aS _) (s1.grow hl)<|k1.trans<|.new hl}}
end
theorem fw:bootBuiltins "sorted"= some (.builtin "sorted"):=`c
def Sub(S S':av):Prop:=∀b c,S b=ϑ c->S' b=ϑ c
theorem Sub.refl(S:av):Sub S S:=λz z h=>h
theorem Sub.trans(a:Sub S S1)(b:Sub S1 S2):Sub S S2:=λp c h=>b p c<|a p c h
theorem Sub.new(h:S p=ϐ):Sub S (S.set p c):=λb a hb=>by rw[ae<|fk hb h];show hb
theorem Rs.sub{K:Φ}{S S':av}{H:Hp}(h:Rs K S' H)(s:Sub S S'):Rs K S H:=λa c e=>h a c<|s a c e
inductive Fo (S':av) (p:av->η):η
 |mk (S:av) (h:Sub S S') (r:p S):Fo S' p
theorem fo(h:p S):Fo S p:={S,.refl S,h}
section
variable{P:Ψ}{w:Ω}{K:Φ}{mg:ρ->θ ξ}{base:Γ}
def xK.ok{x qual:ρ}{st:Stmt}{f:ε}{fd:FuncData}{N ps:δ ρ}{k:π}{sp:lH}(F:xK K x qual st f fd)(S:g8 N ps<|ar st)(len:∀ds S R Z,sp ds S R Z->ds.length=ps.length) (g:∀(iL:ξ)(A:ϕ)(outer:δ Env)(s:ζ)(H:Hp)(E:XK)(ds:δ D)(S:av)(R:KD)(Z:KX),cj k (A.deeper<|envOfC qual (ar st) s.heap.objs.size f iL)->sp ds S R Z->∃t,Bg K (lT (gb P w mg) P w K mg base N qual (ar st) f iL A outer s H E) true (bK st) t/\t {nx:=λz S'=>Fo S'<|R .ay,rt:=λd S'=>Fo S'<|R d} (kE N ds) S λz C S'=>Fo S'<|Z C):bU P w K mg base (gb P w mg) (k+1) f fd ps (rV K sp):=by
 have n:bU P w K mg base (gb P w mg) (k+1) f fd ps (rV K λds S m j=>∃R Z,sp ds S R Z/\m=(λd S'=>Fo S'<|R d)/\j=λC S'=>Fo S'<|Z C):=by show F.okD S (by rintro ds S R Z ⟨c,e,h,_⟩;show len _ _ _ _ h) λiL A outer s H E ds S R Z hr ⟨c,e,h,e1,e2⟩=>?_;subst e1 e2;show g iL A outer s H E ds S c e hr h
 show n.imp <| by rintro vs H Q E ⟨ds,S,R,Z,v,l,h,o,i⟩;show{ds,S,_,_,v,l,⟨R,Z,h,rfl,rfl⟩,by rintro d S' u H' ⟨a,sb,r⟩ p rs kp;show o d a u H' r p (rs.sub sb) kp,by rintro C S' H' ⟨a,sb,r⟩ rs kp;show i C a H' r (rs.sub sb) kp}
end
section
variable{K:Φ}{X:Cx}{b:χ}
def Xn(t:jX):jX:=λDe σ S Z=>∃P:SD->av->η,t {De with nx:=λak S'=>Fo S'<|P ak} σ S Z/\∀ak S',P ak S'->De.nx ak S'
theorem jd{st:Stmt}{t:jX}(h:DS K X b st t):DS K X b st (Xn t):=⟨λy=>(h.of y).mono <| by rintro D τ H ⟨σ,S,De,Z,i,g,⟨P,q,e⟩,d,l⟩;show{σ,S,_,Z,i,g,q,{by rintro m S1 n H1 ⟨o,sb,j⟩ a b c;show d.nx _ _ _ _ (e _ _ j) a (b.sub sb) c,d.rt,d.bk,d.ct},l}⟩
def dFo(t:TD):TD:=λσ S R Z=>t σ S (λd S'=>Fo S'<|R d) Z
theorem Fz{t:TD}(h:DE K X e t):DE K X e (dFo t):=⟨λy=>(h.of y).mono <| by rintro τ H Q ⟨σ,S,R,Z,g,a,q,i,j⟩;show{σ,S,_,Z,g,a,q,by rintro d S' v H' ⟨c,sb,r⟩ l rs kp;show i d c v H' r l (rs.sub sb) kp,j}⟩
theorem cg1(nd:N.Nodup)(h0:ψ (N[0]?=some a) qQJ)(hx:ψ (∀C s H ex pn,Loc (g9 X N scope C s H ex pn).env.scope a/\(g9 X N scope C s H ex pn).env.scope.names.lookup a=ϑ .local) qJX): ∀C s H ex pn,PG (g9 X N scope C s H ex pn) (.Name a p) (jA 0):=λC s H ex pn=>rL (i:=0) nd h0 (hx C s H ex pn).1<|.inr (hx C s H ex pn).2
theorem Zl(nd:N.Nodup)(h0:ψ (N[0]?=some a) qQJ)(h1:ψ (N[1]?=some c) qQJ) (hx:ψ (∀C s H ex pn,Loc (g9 X N scope C s H ex pn).env.scope a/\(g9 X N scope C s H ex pn).env.scope.names.lookup a=ϑ .local) qJX) (d:ψ (∀C s H ex pn,Loc (g9 X N scope C s H ex pn).env.scope c/\(g9 X N scope C s H ex pn).env.scope.names.lookup c=ϑ .local) qJX) (hl:∀env:Env,(assignEach [.Name a p,.Name c p'] env).length=2/\(assignEach [.Name a p,.Name c p'] env).findIdx? (·.1)=ϐ/\(assignEach [.Name a p,.Name c p'] env).map (·.2)=assign (.Name a p) env::(assignEach [.Name c p'] env).map (·.2)/\(assignEach [.Name c p'] env).map (·.2)=assign (.Name c p') env::(assignEach [] env).map (·.2):=by intro _;show⟨rfl,rfl,rfl,rfl⟩) (g:ψ (X.K=K) qQJ) (h:ψ (X.calm=ϱ) qQJ): ∀C s H ex pn,PG (g9 X N scope C s H ex pn) (.Tuple [.Name a p,.Name c p'] j p2) (ME K 2<|sL (jA 0)<|sL (jA 1) MD):=λC s H ex pn=>by subst g;have e:=hl (g9 X N scope C s H ex pn).env;show Ji (X:=g9 X N scope C s H ex pn) h (sM (rL (i:=0) nd h0 (hx C s H ex pn).1<|.inr (hx C s H ex pn).2) (sM (rL (i:=1) nd h1 (d C s H ex pn).1<|.inr (d C s H ex pn).2) E8 e.2.2.2) e.2.2.1) e.1 e.2.1
end
theorem tR:∀{ss:δ ρ}{a:δ ξ},Vals (ss.map V.str) a->StrsAre a ss|[],_,.nil=>.nil|z::ss,_,.cons r t=>by let⟨tk,rfl⟩:=r;show .cons z tk<|tR t
section
variable{K:Φ}
noncomputable def Pf(xs:δ D):δ D:=(List.range xs.length).zipWith (λi x=>.tup [.int (i:π),x]) xs
def FA(xs:δ D):(Pf xs).length=xs.length:=by unfold Pf;simp
def FC{xs:δ D}{i:π}{d:D}(h:(Pf xs)[i]?=some d):∃x,xs[i]?=some x/\d=.tup [.int (i:π),x]:=by unfold Pf at h;let⟨a,y,e1,e2,e3⟩:=List.getElem?_zipWith_eq_some.mp h;have hi:i<xs.length:=(zf.mp e2).1;rw[List.getElem?_range hi]at e1;cases e1;show⟨y,e2,e3.symm⟩
def abR(t:iJ):xJ:=λσ S R Z=>t σ S (λds S1=>∃x xs,ds=[x]/\qB S1 x xs/\R {Pf xs,λS=>qB S x xs} S1) Z
def ien{X:Cx}{a:Δ}{t:iJ}{p pos tp:Pos}{es:δ Δ}{kk:π}(hm:X.mg "enumerate"= none)(ha:DA K X [a] t)(hg:ψ (Gl X "enumerate") qQJ)(A:ψ (starEach [a] X.env=[(false,eval a X.env)]) qQJ)(B:ψ (X.K=K) qQJ): DI K X (.Tuple es kk tp) (.Call (.Name "enumerate" p) [a] [] pos) (abR t):=by subst B;show⟨λy=>(Nx (X:=y.cx) hg hm (ha.of y) A).mono <| by rintro τ H R ⟨σ,S,RI,Z,J,F,q,L,C⟩;show{σ,S,_,Z,J,F,q,by rintro ds S1 vs H1 ⟨x,xs,e,hx,z⟩ E s1 k1;subst e;let⟨v,rfl,ra⟩:=E.one;let⟨l,s,e1,r,ta⟩:=hx.at s1 ra;subst e1;show{l,rfl,⟨s,r⟩,L _ S1 _ H1 z (λi O H2 k2 s2 aK=>?_) s1 k1};have c:=Rv.ts k2 _ ra;let⟨M,m,e2,g,tb⟩:=qB.at (d:=x) aK s2 c;cases e2;show{λd hd=>?_,λh=>{m,g,by rw[FA]at h;rw[tb.len];show h}};let⟨N,w,rfl⟩:=FC hd;let⟨j,o,I⟩:=tb.get w;show{⟨m,j,g,o⟩,λP H' ⟨T,n,e4,G⟩=>?_};have:=G m j g o;subst this e4;have kk:Kp X.K H2 (upd H2 T<|.tup [.int (i:π),j]):=.new n;show{jk aD<|RvAll.ts kk _<|aZ (aS _)<|aZ I bL,kk,s2.grow n},C}⟩
end
end L2
namespace HT
open PySem PySem.Spec PyProof.Rows
end HT
namespace L2
open PySem PySem.Spec PyProof.Rows
section
variable{K:Φ}{X:Cx}
theorem DV(r:Rv K H d v):∀n:π,RvAll K H (List.replicate n d) (List.replicate n v)|0=>bL|n+1=>aZ r<|DV r n
def Xo:vB:=λx y S R=>∃d n,x=.tup [d]/\y=.int n/\2<=n/\n<=1000/\R (.tup<|List.replicate n.toNat d) S
def RV:pK K (binaryOp .Mult) Xo:=by rintro X r hu qc s σ H x y v u Q I o c ⟨d,e,S,R,i,g,j,⟨d0,n,e1,e2,h1,h2,h⟩,m⟩;subst e1 e2;let⟨a,xs,rfl,q,t⟩:=i.tup;let⟨z,rfl,l⟩:=t.one;show Nv qc s σ H _ _ v u Q I o c {a,z,n,rfl,g.int,q,`b,h2,λe=>by lia,λw p hp=>m.Ny j hp h<|DV l _}
end
inductive Ki (S:av):δ D->δ PyData->η
 |nil:Ki S [] []
 |cons {d:D}{p:PyData}{ds:δ D}{ps:δ PyData} : Dl S d p->Ki S ds ps->Ki S (d::ds) (p::ps)
section
variable{K:Φ}
noncomputable def Kj(p:ρ×D):D:=.tup [.str p.1,p.2]
noncomputable def tT(l:δ<|ρ×D):δ (Key×D):=l.foldl (λc p=>dput c (.inr p.1) p.2) []
theorem FD:∀{kvs:δ (ρ×D)}{ys:δ V},RvAll K H (kvs.map Kj) ys->∃a:δ (ρ×V),Prs H ys a/\∀c d,cJ K H c d->cJ K H (kvs.foldl (λc p=>dput c (.inr p.1) p.2) c) (a.foldl (λc p=>putK c (.inr p.1) p.2) d)|[],ys,h=>(by rw[h.nil];show{[],{rfl,λi x p e=>(by cases i<;>cases e)},λc d h=>h})|p::kvs,ys,h=>by let⟨y,ys,rfl,r1,r2⟩:=h.cons;let⟨b,zs,rfl,hb,l⟩:=Rv.tup<|show Rv K H (.tup [.str p.1,p.2]) y from r1;let⟨v,u,rfl,j,g⟩:=l.two;have ev:=j.str;subst ev;let⟨a,⟨hl,hp⟩,hf⟩:=FD r2;show{(p.1,u)::a,{by rw[zV,zV,hl],λi x q e1 e2=>?_},λc d h=>hf _ _<|h.put (.inr p.1) g};cases i with|zero=>(cases e1;cases e2;show⟨b,rfl,hb⟩)|succ i=>show hp i x q e1 e2
def Xp:δ D->av->KD->Prop:=λds S R=>∃kvs:δ (ρ×D),ds=[.tup<|kvs.map Kj]/\∀p,S p=ϐ->R (.ref p) (S.set p<|.cZ<|tT kvs)
def RW:jE K (.type "dict") Xp:=by rintro X j m qc s σ H xs us Q I o ⟨ds,S,R,r,g,⟨kvs,e,h⟩,n⟩;subst j e;let⟨v,rfl,i⟩:=r.one;let⟨a,ys,rfl,q,t⟩:=i.tup;let⟨d,hp,hf⟩:=FD t;show Dk m qc s σ H _ us Q I o {a,ys,d,rfl,q,hp,λl hl=>?_};have kn:Kp X.K H (upd H l<|.dK<|Fn d):=.new hl;show n _ _ _ _ (h l<|g.fresh hl) (eX l) (g.new (c:=.cZ<|tT kvs) hl {_,aD,(hf [] [] .nil).ts kn}) kn
def Bj(kvs:δ<|Key×D)(k k':Key)(d:D):cK (dput kvs k d) k'=if k'=k then some d else cK kvs k':=by
 unfold dput;by_cases hk:(kvs.any λa=>ω<|a.1=k)=ϱ;rw[qb hk];unfold cK;induction kvs with|nil=>(cases hk)|cons r kvs g=>rw[zK,yc,yc];by_cases e:r.1=k;rw[qb e];by_cases e2:k'=k;rw[qb e2,show ω (r.1=k')=ϱ from zy (e.trans e2.symm)];rfl;rw[qa e2,show ω (r.1=k')=ϰ from zp λq=>e2<|q.symm.trans e];by_cases c:(kvs.any λa=>ω<|a.1=k)=ϱ;have:=g c;rw[qa e2]at this;show this;have h:kvs.map (λa=>if a.1=k then (a.1,d) else a)=kvs:=(by(conv=>rhs;rw[<-List.map_id kvs]);show zX λx hx=>?_;rw[qa λq=>c<|List.any_eq_true.mpr {x,hx,zy q}];rfl);rw[h];rw[qa e];have c:(kvs.any λa=>ω<|a.1=k)=ϱ:=(by rw[yZ,zp e,Bool.false_or]at hk;show hk);by_cases e3:r.1=k';rw[zy e3,qa λq=>e<|e3.trans q];rw[zp e3];show g c
 rw[qa hk];unfold cK;rw[List.find?_append];have hn:∀x∈kvs,x.1≠k:=λx hx q=>hk<|List.any_eq_true.mpr {x,hx,zy q};by_cases e:k'=k;subst e;rw[qb rfl,List.find?_eq_none.mpr λx hx=>by simp[hn x hx]];simp;rw[qa e];have:([(k,d)].find? λa=>ω<|a.1=k')=ϐ:=by rw[yc,show ω (k=k')=ϰ from zp λq=>e q.symm];rfl
 rw[this,Option.or_none]
def HG(l:δ<|ρ×D)(z:ρ):(cK (tT l)<|.inr z).isSome=l.any λp=>ω (p.1=z):=by
 have all:∀(l:δ (ρ×D))(c:δ (Key×D)),(cK (l.foldl (λc p=>dput c (.inr p.1) p.2) c)<|.inr z).isSome=((cK c<|.inr z).isSome||l.any λp=>ω<|p.1=z):=by intro l;induction l with|nil=>intro c;simp|cons p l a=>intro c;rw[yS,a,Bj,yZ];by_cases e:p.1=z;rw[qb<|by rw[e],zy e];simp;rw[qa λq=>e (yY q).symm,zp e];simp
 show(all l []).trans<|by rfl
def Xq(a:ε)(kvs:δ<|ρ×V):vB:=λx y S R=>∃z,x=.str z/\y=.ref a/\R (.bl (kvs.lookup z).isSome) S
def cmk{X:Cx}{a b:Δ}{ta tb:TD}{pos:Pos}{w:Ω}{ad:ε}{kvs:δ<|ρ×V}(d:Mf w K ad kvs)(ha:DE K X a ta)(hb:DE K X b tb)(hw:ψ (X.w=w) qQJ)(hm:ψ (behindInMarks .In b=ϰ) qQ2)(n:ψ (X.K=K) qQJ): DE K X (.Compare a [.In] [b] pos) (RH (Xq ad kvs) ta tb):=by show⟨λy=>(Fd (X:=y.cx) (r:=Lr K<|Xq ad kvs) ?_ (ha.of y) (hb.of y) hm).mono λt t t h=>h.op⟩;rintro qc s σ H x i v u Q I o c ⟨d',e,S,R,l,j,g,⟨z,e1,e2,h⟩,m⟩;subst e1 e2;show JV (X:=y.cx) hw n qc s σ H x i v u Q I o c {z,ad,kvs,l.str,j.ref,d,m.now g h<|bV _}
end
structure Xr(k:π)(A:ϕ):η where
 dp:A.depth+3*k+5<recursionLimit
 un:A.units+16*k+200<cLine
structure FnH(P:Ψ)(w:Ω)(K:Φ)(mg:ρ->θ ξ)(base:Γ)(k:π)(f:ε)(fd:FuncData)(ps:δ ρ)(sp:lH):η where
 len:∀ds S R Z,sp ds S R Z->ds.length=ps.length
 run:∀(A:ϕ)(outer:δ Env)(s:ζ)(H:Hp)(args:Args)(us:δ ξ)(vs:δ V)(Q:VK),Xr k A->AR P w K mg base A outer s H->BindsTo s fd args (ps.zip us)->Vals vs us->rV K sp vs H Q E0 ->
  codeAny (model P w) A (.call (.ref f) args) (CR (gb P w mg) outer P w H s Q E0) s
def PEg(pre:π)(X:Cx)(e:Δ)(t:TE):Prop:=∀(qc:δ (ε×Obj))(s:ζ)(σ:St)(H:Hp)(Q:VK),Inv X qc σ H s->pre<=s.toks->t σ H Q->wpAny `m X.A (eval e X.env) (λu s'=>EP X qc σ Q u s'/\1<=s'.toks) X.xe s
structure DEg(pre:π)(K:Φ)(X:Cx)(e:Δ)(t:TD):η where
 of:∀{b:χ}(y:Ev X b),PEg pre y.cx e<|T K y.E t
def abS{a b:ρ}(h:a.cps.toList=b.cps.toList):a=b:=by let⟨⟨x⟩⟩:=a;let⟨⟨y⟩⟩:=b;cases h;rfl
end L2
namespace HT
open PySem PySem.Spec PyProof.Rows
end HT
namespace L2
open PySem PySem.Spec PyProof.Rows
section
variable{K:Φ}{X:Cx}
def Xs:Mg:=λx ds S R=>∃a es fs,x=.ref a/\ds=[.tup fs]/\S a=ϑ (.lst es)/\es.length+fs.length<=Ϙ/\R .ay (S.set a<|.lst<|es++fs)
def HH:UB K "list.extend" Xs:=by rintro X o qc s σ H x xs v us Q I n rs ⟨d,ds,S,R,i,g,e,⟨a,es,fs,e1,e2,e3,hl,h⟩,m⟩;subst e1 e2;let⟨r,rfl,l⟩:=g.one;let⟨zs,j,t⟩:=e.lst e3;let⟨p,ys,rfl,q,c⟩:=l.tup;show DL qc s σ H x _ v us Q I n rs {a,p,zs,ys,i.ref,rfl,j,q,by rw[t.len,c.len];show hl,m.put e e3 h kB<|t.app c}
end
section
variable{K:Φ}{X:Cx}{E:XK}
structure DEx(K:Φ)(X:Cx)(E:XK)(e:Δ)(t:TD):η where
 of:∀(y:Ev X true),y.E=(λz=>E)->dS y.cx E->PE y.cx e (T K y.E t)
structure DAx(K:Φ)(X:Cx)(E:XK)(es:δ Δ)(t:iJ):η where
 of:∀(y:Ev X true),y.E=(λz=>E)->dS y.cx E->PA y.cx es (Ta K y.E t)
structure DSx(K:Φ)(X:Cx)(E:XK)(b:δ Stmt)(t:jX):η where
 of:∀(y:Ev X true),y.E=(λz=>E)->dS y.cx E->Cu y.cx b (Tl K y.E t)
variable{N:δ ρ}{src:δ (θ π)}{scope:Scope}{tg iter elt:Δ}{ifs:δ Δ}{ti:xJ}{g:TG}{gd:CA}{tc:lW}{te:TD}
end
open PySem.Builtin PySem.Builtin.Str
structure M3(X:Cx)(o:Δ)(m:ρ)(apos:Pos)(e f g:Δ)(aV:Pos):η where
 base:attributeBase o m X.env (eval o X.env)=eval o X.env
 IP:((backTo aV<|starEach [e,f,g] X.env).all (λx=>!x.1)&&(backToKw aV<|keywordEach [] X.env).all (λx=>x.1.isSome)
  && ω (([e,f,g]:δ Δ).length+([]:δ Keyword).length+(if ([]:δ Keyword).isEmpty then 0 else 1)<30))=ϱ
 line:(apos.endLine==aV.line)=ϱ
 trees:backTo aV (starEach [e,f,g] X.env)=[`j,(false,eval f X.env),(false,eval g X.env)]
section
variable{X:Cx}{t:TE}
def PAg(pre:π)(X:Cx)(es:δ Δ)(t:TA):Prop:=∀(pos:Pos)(qc:δ (ε×Obj))(s:ζ)(σ:St)(H:Hp)(Q:δ V->Hp->η),Inv X qc σ H s->pre<=s.toks->t σ H Q->wpAny `m X.A (spliced<|backTo pos<|starEach es X.env) (AP X qc σ Q) X.xe s
end
section
variable{K:Φ}{X:Cx}
structure DAg(pre:π)(K:Φ)(X:Cx)(es:δ Δ)(t:iJ):η where
 of:∀{b:χ}(y:Ev X b),PAg pre y.cx es<|Ta K y.E t
end
structure Gh(a₀:Array Keyed)(g:π->π)(xs:Array Keyed):η where
 at_:∀k,k<a₀.size->xs[k]?=a₀[g k]?
 lt:∀k,k<a₀.size->g k<a₀.size
 inj:∀i j,i<a₀.size->j<a₀.size->g i=g j->i=j
def Log(κ:KeyKind)(a₀:Array Keyed)(i j:π):Prop:=κ.klt (KK κ a₀ i) (KK κ a₀ j)\/(KK κ a₀ i=KK κ a₀ j/\i<j)
def DX(κ:KeyKind)(a₀:Array Keyed)(g:π->π)(k:π):Prop:=∀i j,i<j->j<k->Log κ a₀ (g i) (g j)
def Zm(κ:KeyKind)(a₀:Array Keyed)(g:π->π)(k:π):Prop:=∀i j,i<j->j<k->Log κ a₀ (g j) (g i)
def HI(g:π->π)(m n:π):Prop:=∀k,m<=k->k<n->g k=k
noncomputable def Kk(g:π->π)(i j k:π):Nat:=if i<=k/\k<j then g (i+j-1-k) else g k
noncomputable def NG(g:π->π)(src l k:π):Nat:=if k=l then g src else if l<k/\k<=src then g (k-1) else g k
section
variable{κ:KeyKind}{a₀ xs:Array Keyed}{g:π->π}
def Log.kle(h:Log κ a₀ i j):κ.kle (KK κ a₀ i) (KK κ a₀ j):=by rcases h with h|⟨h,_⟩;show KeyOrd.kle_of_klt h;rw[h];show KeyOrd.kle_refl _
def Pg(h:κ.kle (KK κ a₀ i)<|KK κ a₀ j)(hl:i<j):Log κ a₀ i j:=by cases q:κ.blt (KK κ a₀ i) (KK κ a₀ j) with|true=>show .inl q|false=>show .inr {KeyOrd.kle_antisymm h q,hl}
def Gh.low(h:Gh a₀ g xs)(t:HI g m a₀.size)(hm:m<=a₀.size)(hi:i<m):g i<m:=by show Nat.lt_of_not_le λq=>?_;have h1:=h.lt i `b;have h2:=h.inj (g i) i h1 `b<|t (g i) q h1;lia
theorem Gh.key(h:Gh a₀ g xs)(hk:k<a₀.size):KK κ xs k=KK κ a₀ (g k):=KK_congr<|h.at_ k hk
theorem Gh.mirror(h:Gh a₀ g xs)(hs:xs.size=a₀.size)(hj:j<=a₀.size):Gh a₀ (Kk g i j) (mirror xs i j<|(j-i)/2) where
 at_:=λk hk=>by
  rw[getElem?_mirror_all<|`b]
  unfold Kk
  by_cases q:i<=k/\k<j
  ·rw[qb q,qb q];show h.at_ _<|`b
  ·rw[qa q,qa q];show h.at_ _ hk
 lt:=λk hk=>by
  unfold Kk
  by_cases q:i<=k/\k<j
  ·rw[qb q];show h.lt _<|`b
  ·rw[qa q];show h.lt _ hk
 inj:=λa b ha hb e=>by
  unfold Kk at e
  by_cases q:i<=a/\a<j<;>by_cases r:i<=b/\b<j
  ·rw[qb q,qb r]at e;have:=h.inj _ _ `b `b e;lia
  ·rw[qb q,qa r]at e;have:=h.inj _ _ `b `b e;lia
  ·rw[qa q,qb r]at e;have:=h.inj _ _ `b `b e;lia
  ·rw[qa q,qa r]at e;show h.inj _ _ ha hb e
theorem Gh.bubble(h:Gh a₀ g xs)(hs:xs.size=a₀.size)(hl:l<=src)(hj:src<a₀.size):Gh a₀ (NG g src l) (bubble xs src<|src-l) where
 at_:=λk hk=>by
  rw[getElem?_bubble `b _<|`b,show src-(src-l)=l by lia]
  unfold NG
  by_cases q:k=l
  ·rw[qb q,qb q];show h.at_ _ hj
  ·rw[qa q,qa q]
   by_cases r:l<k/\k<=src
   ·rw[qb r,qb r];show h.at_ _<|`b
   ·rw[qa r,qa r];show h.at_ _ hk
 lt:=λk hk=>by
  unfold NG
  by_cases q:k=l
  ·rw[qb q];show h.lt _ hj
  ·rw[qa q]
   by_cases r:l<k/\k<=src
   ·rw[qb r];show h.lt _<|`b
   ·rw[qa r];show h.lt _ hk
 inj:=λa b ha hb e=>by
  unfold NG at e
  repeat' split at e
  all_goals (have:=h.inj _ _ `b `b e;lia)
def jo(h:i<=k/\k<j):Kk g i j k=g (i+j-1-k):=by unfold Kk;rw[qb h]
def hU(h:¬(i<=k/\k<j)):Kk g i j k=g k:=by unfold Kk;rw[qa h]
end
section
variable{prog:Ψ}{w:Ω}{A:ϕ}{E:ξ->ζ->η}{s:ζ}{a₀:Array Keyed}{κ:KeyKind}
def Ph{st:SortSt}{g:π->π}{a top:π}{Q:AscSt->SortSt->η}(p:κ.OneLt)(h0:KeysOf κ a₀)(v:top<=a₀.size)(h1:1<=a)(h2:a<=top)(B:SBase a₀ st)(G:Gh a₀ g<|arrOf st)(T:HI g a a₀.size)(U:DX κ a₀ g a) (h:∀n,a<=n->n<=top->DX κ a₀ g n->(n=top\/κ.klt (KK κ a₀<|g n) (KK κ a₀<|g<|n-1))->Q (none,n) st):wpS `n A E s (ascLoop a top) Q st:=by
 unfold ascLoop;show wpS_forRange (I:=λx c t=>t=st/\c=(none,x)/\DX κ a₀ g x) ?_ ?_ ⟨rfl,rfl,U⟩;rintro x c t d C ⟨rfl,rfl,V⟩;dsimp only;show wpS_bind<|wpS_ltKK p B h0 `b `b ?_;rw[G.key<|`b,G.key<|`b];cases q:κ.blt (KK κ a₀<|g x) (KK κ a₀<|g<|x-1) with|true=>show wpS_pure (h x d `b V<|.inr q)|false=>show wpS_pure {rfl,rfl,λi j e r=>?_};rcases Nat.lt_or_ge j x with z|z;show V i j e z;obtain rfl:j=x:=`b;have o:=G.low (m:=j) (λk hk l=>T k `b l) `b e;rw[T j d<|`b]at q⊢;show Pg ?_ o;rcases Nat.lt_or_ge i (j-1) with y|y;show KeyOrd.kle_trans (V i (j-1) y<|`b).kle q;obtain rfl:i=j-1:=`b;show q
 rintro c t ⟨rfl,rfl,V⟩;rw[show max a top=top by lia]at V⊢;show h top h2 (zj _) V<|.inl rfl
def Kl{st:SortSt}{g:π->π}{n top:π}{Q:θ π->SortSt->η}(r:κ.OneLt)(h0:KeysOf κ a₀)(o:top<=a₀.size)(h1:1<=n)(h2:n<=top)(B:SBase a₀ st)(G:Gh a₀ g<|arrOf st)(T:HI g n a₀.size)(D:Zm κ a₀ g n) (h:∀m g' c,SBase a₀ c->Gh a₀ g' (arrOf c)->HI g' m a₀.size->1<=m->m<=top->DX κ a₀ g' m->Q (some m) c):wpS `n A E s (tail3 n top) Q st:=by
 unfold tail3;show wpS_bind<|wpS_reverse ?_;have l:SBase a₀ (setArr st<|mirror (arrOf st) 0 n<|(n-0)/2):=B.setArr<|mirror_perm _ _ _ _;have d:Gh a₀ (Kk g 0 n) (arrOf<|setArr st<|mirror (arrOf st) 0 n<|(n-0)/2):=G.mirror B.size `b;have e:HI (Kk g 0 n) n a₀.size:=λk hk a=>by rw[hU<|`b];show T k hk a
 show wpS_bind<|Ph r h0 o h1 h2 l d e (λi j x t=>?_) λm v p V z=>wpS_pure<|h m _ _ l d (λk hk a=>e k `b a) `b p V;rw[jo<|`b,jo<|`b];show D _ _ `b<|`b
structure Mi(κ:KeyKind)(a₀:Array Keyed)(g:π->π)(x q:π):η where
 le:q+1<=x
 tl:HI g (x-(q+1)) a₀.size
 dn:∀i j,i<j->j<x->i<x-(q+1)->Log κ a₀ (g j) (g i)
 eq:∀i,x-(q+1)<=i->i<x->KK κ a₀ (g i)=KK κ a₀ (g<|x-1)
theorem Mi.full(F:Mi κ a₀ g x q)(hx:x<=a₀.size):Zm κ a₀ (Kk g (x-(q+1)) x) x:=λi j c a=>by have le:=F.le;by_cases hi:i<x-(q+1);rw[hU (k:=i)<|`b];by_cases d:j<x-(q+1);rw[hU<|`b];show F.dn i j c a hi;rw[jo<|`b];show F.dn i _ `b `b hi;rw[jo<|`b,jo<|`b];show .inr {(F.eq _ `b<|`b).trans (F.eq _ `b<|`b).symm,?_};rw[F.tl _ `b<|`b,F.tl _ `b<|`b];lia
theorem Mi.Pj(F:Mi κ a₀ g x 0):Zm κ a₀ g x:=λi j c a=>F.dn i j c a<|`b
theorem Mi.next(D:Zm κ a₀ g x)(T:HI g x a₀.size)(hx:x<a₀.size)(h1:1<=x)(hl:κ.klt (KK κ a₀<|g x)<|KK κ a₀<|g<|x-1):Mi κ a₀ g (x+1) 0 where
 le:=`b
 tl:=λk hk eC=>T k `b eC
 dn:=λi j kf hj hi=>by
  by_cases Zo:j<x
  ·show D i j kf Zo
  ·obtain rfl:j=x:=`b
   show .inl ?_
   by_cases q:i=j-1
   ·rw[q];show hl
   ·show KeyOrd.klt_of_klt_of_kle hl (D i (j-1) `b<|`b).kle
 eq:=λi hi hj=>by rw[show i=x+1-1 by lia]
set_option tactic.hygienic true in
def RX{st:SortSt}{g:π->π}{n top:π}{Q:DescSt->SortSt->η}(p:κ.OneLt)(h0:KeysOf κ a₀)(J:top<=a₀.size)(h1:1<=n)(h2:n<=top)(B:SBase a₀ st)(G:Gh a₀ g<|arrOf st)(F:Mi κ a₀ g n 0) (h:∀m q g' o,SBase a₀ o->Gh a₀ g' (arrOf o)->n<=m->m<=top->Mi κ a₀ g' m q->Q (none,m,q) o):wpS `n A E s (descLoop n top) Q st:=by
 unfold descLoop;show wpS_forRange (I:=λx c t=>∃q g',c=(none,x,q)/\SBase a₀ t/\Gh a₀ g' (arrOf t)/\Mi κ a₀ g' x q) ?_ ?_ {0,g,rfl,B,G,F};rintro x c t r K ⟨q,g',rfl,d,a,F'⟩;have le:=F'.le;dsimp only;show wpS_bind<|wpS_ltKK p d h0 `b `b ?_;rw[a.key<|`b,a.key<|`b];cases hl:κ.blt (KK κ a₀<|g' x) (KK κ a₀<|g'<|x-1) with|true=>(simp only[if_true];by_cases hq:q>0;rw[qb hq];show wpS_bind<|wpS_reverse<|wpS_pure {0,_,rfl,d.setArr<|mirror_perm _ _ _ _,a.mirror d.size<|`b,?_};show .next (F'.full<|`b) (λk hk l=>?_) `b `b ?_;rw[hU<|`b];show F'.tl k `b l;rw[hU<|`b,jo<|`b,F'.eq (x-(q+1)+x-1-(x-1)) `b<|`b];show hl;rw[qa hq];obtain rfl:q=0:=`b;show wpS_pure {0,g',rfl,d,a,.next F'.Pj (λk hk l=>F'.tl k `b l) `b `b hl})|false=>simp only[Bool.false_eq_true,if_false];show wpS_bind<|wpS_ltKK p d h0 `b `b ?_;rw[a.key<|`b,a.key<|`b];cases hg:κ.blt (KK κ a₀<|g'<|x-1) (KK κ a₀<|g' x) with|true=>show wpS_pure (h x q g' t d a r `b F')|false=>have e:KK κ a₀ (g' x)=KK κ a₀ (g'<|x-1):=KeyOrd.kle_antisymm hg hl;show wpS_pure {q+1,g',rfl,d,a,{`b,λk hk l=>F'.tl k `b l,λi j y C hi=>?_,λi hi C=>?_}};by_cases v:j<x;show F'.dn i j y v `b;obtain rfl:j=x:=`b;have:=F'.dn i (j-1) `b `b `b;rcases this with z|⟨_,z⟩;show .inl (by rw[e];show z);rw[F'.tl (j-1) `b<|`b]at z;have:=a.low (m:=j-(q+1)) F'.tl `b (i:=i) `b;lia;rw[show x+1-1=x by lia];by_cases H:i=x;rw[H];rw[e];show F'.eq i `b<|`b
 rintro c t ⟨q,g',rfl,d,a,F'⟩;rw[show max n top=top by lia]at F'⊢;show h top q g' t d a h2 (zj _) F'
def Km{st:SortSt}{g:π->π}{n top:π}{Q:θ π->SortSt->η}(i:κ.OneLt)(h0:KeysOf κ a₀)(c:top<=a₀.size)(h2:n+1<=top)(B:SBase a₀ st)(G:Gh a₀ g<|arrOf st)(F:Mi κ a₀ g (n+1) 0) (h:∀m g' a,SBase a₀ a->Gh a₀ g' (arrOf a)->HI g' m a₀.size->1<=m->m<=top->DX κ a₀ g' m->Q (some m) a):wpS `n A E s (descPart n top) Q st:=by
 unfold descPart;show wpS_bind<|wpS_lift<|y7 {rfl,?_};show wpS_bind<|RX i h0 c `b h2 B G F λm q g' a e j o l F'=>?_;have le:=F'.le;dsimp only;by_cases hq:q>0;rw[qb hq];show wpS_bind<|wpS_reverse<|Kl i h0 c `b l (e.setArr<|mirror_perm _ _ _ _) (j.mirror e.size<|`b) (λk hk d=>?_) (F'.full<|`b) h;rw[hU<|`b];show F'.tl k `b d;rw[qa hq];obtain rfl:q=0:=`b
 show Kl i h0 c `b l e j (λk hk d=>F'.tl k `b d) F'.Pj h
set_option tactic.hygienic true in
def Xt{st:SortSt}{g:π->π}{top:π}{Q:θ π->SortSt->η}(d:κ.OneLt)(h0:KeysOf κ a₀)(e:top<=a₀.size)(h1:1<=top)(B:SBase a₀ st)(G:Gh a₀ g<|arrOf st)(T:HI g 0 a₀.size) (h:∀m g' l,SBase a₀ l->Gh a₀ g' (arrOf l)->HI g' m a₀.size->1<=m->m<=top->DX κ a₀ g' m->Q (some m) l):wpS `n A E s (countRun' 0 top) Q st:=by
 rw[countRun0_eq];show wpS_bind<|Ph d h0 e (zj 1) h1 B G (λk hk c=>T k `b c) (λi j C r=>by lia) λn t x U o=>?_;dsimp only;have p:∀m,HI g m a₀.size:=λm k hk c=>T k `b c;by_cases a:n=top;rw[qb<|by simpa using a];show wpS_pure<|h n g st B G (p n) t x U;rw[qa<|by simpa using a];have v:=o.resolve_left a;by_cases y:n>1;rw[qb y];show wpS_bind<|wpS_ltKK d B h0 `b `b ?_;rw[G.key<|`b,G.key<|`b];cases hr:κ.blt (KK κ a₀<|g 0) (KK κ a₀<|g<|n-1) with|true=>show wpS_pure (h n g st B G (p n) t x U)|false=>simp only[Bool.false_eq_true,if_false];have all:∀k,k<n->KK κ a₀ (g k)=KK κ a₀ (g<|n-1):=λk hk=>(by have H:κ.kle (KK κ a₀<|g 0) (KK κ a₀<|g k):=(by by_cases z:k=0;rw[z];show KeyOrd.kle_refl _;show(U 0 k `b hk).kle);have F:κ.kle (KK κ a₀<|g k) (KK κ a₀<|g<|n-1):=(by by_cases z:k=n-1;rw[z];show KeyOrd.kle_refl _;show(U k (n-1) `b<|`b).kle);show KeyOrd.kle_antisymm F<|KeyOrd.kle_trans hr H);show wpS_bind<|wpS_reverse<|Km d h0 e `b (B.setArr<|mirror_perm _ _ _ _) (G.mirror B.size<|`b) ?_ h;show .next (λi j C r=>?_) (λk hk c=>by rw[hU<|`b];show T k `b c) `b `b ?_;rw[jo<|`b,jo<|`b];show .inr {(all _<|`b).trans (all _<|`b).symm,?_};rw[T _ `b<|`b,T _ `b<|`b];lia;rw[hU<|`b,jo<|`b,all (0+n-1-(n-1))<|`b];show v
 rw[qa y];obtain rfl:n=1:=`b
 show Km d h0 e `b B G (.next (λi j C r=>by lia) (p 1) `b `b v) h
def Xu{st:SortSt}{g:π->π}{n ok:π}{Q:χ->SortSt->η}(P:κ.OneLt)(h0:KeysOf κ a₀)(hn:n<=a₀.size)(aK:ok<=n)(B:SBase a₀ st)(G:Gh a₀ g<|arrOf st)(T:HI g ok a₀.size)(U:DX κ a₀ g ok) (h:∀g' v,SBase a₀ v->Gh a₀ g' (arrOf v)->DX κ a₀ g' n->Q true v):wpS `n A E s (binarySort' 0 n ok) Q st:=by
 rw[binarySort'_eq];simp only[Nat.zero_add];show wpS_bind<|wpS_mono (wpS_forRange (I:=λk c t=>c=(none,())/\∃g',SBase a₀ t/\Gh a₀ g' (arrOf t)/\HI g' k a₀.size/\DX κ a₀ g' (min k n)) (Q:=λc t=>c=(none,())/\∃g',SBase a₀ t/\Gh a₀ g' (arrOf t)/\DX κ a₀ g' n) ?_ ?_ ?_) ?_;rintro k c t NH K ⟨rfl,g',e,d,o,V⟩;rw[show min k n=k by lia]at V;have hk:k<a₀.size:=`b
 show wpS_bind<|wpS_mono (wpS_forRange (I:=λx c m=>m=t/\∃l r,c=(none,l,r)/\l<=r/\r<=k/\r-l<=k-x/\(∀i,i<l->κ.kle (KK κ a₀<|g' i) (KK κ a₀<|g' k))/\(∀i,r<=i->i<k->κ.klt (KK κ a₀<|g' k) (KK κ a₀<|g' i))) (Q:=λc m=>m=t/\∃l r,c=(none,l,r)/\l<=k/\(∀i,i<l->κ.kle (KK κ a₀<|g' i) (KK κ a₀<|g' k))/\(∀i,l<=i->i<k->κ.klt (KK κ a₀<|g' k) (KK κ a₀<|g' i))) ?_ ?_ ?_) ?_;rintro x c m _ N ⟨rfl,l,r,rfl,M,p,hm,lo,hi⟩;dsimp only;by_cases F:l>=r;rw[qb F];obtain rfl:l=r:=`b
 show wpS_pure ⟨rfl,l,l,rfl,p,lo,hi⟩;rw[qa F];show wpS_bind<|wpS_ltKK P e h0 hk `b ?_;rw[d.key hk,d.key<|`b];cases hl:κ.blt (KK κ a₀<|g' k) (KK κ a₀<|g'<|(l+r)/2) with|true=>show wpS_pure {rfl,l,(l+r)/2,rfl,`b,`b,`b,lo,λi a b=>?_};by_cases z:i=(l+r)/2;rw[z];show hl;show KeyOrd.klt_of_klt_of_kle hl (V _ _ `b b).kle|false=>show wpS_pure {rfl,(l+r)/2+1,r,rfl,`b,`b,`b,λi a=>?_,hi};by_cases z:i=(l+r)/2;rw[z];show hl;show KeyOrd.kle_trans (V i ((l+r)/2) `b<|`b).kle hl
 rintro c m ⟨rfl,l,r,rfl,M,p,hm,lo,hi⟩;obtain rfl:l=r:=`b
 show⟨rfl,l,l,rfl,p,lo,hi⟩;show{rfl,0,k,rfl,`b,`b,`b,λi hi=>by lia,λi a b=>by lia};rintro c m ⟨rfl,l,r,rfl,O,lo,hi⟩;change wpS _ _ _ _ (do moveDown' k l;pure (ForInStep.yield (none,()))) _ _;rw[moveDown'_eq];show wpS_bind<|wpS_modify<|wpS_pure {rfl,_,e.setArr<|bubble_perm _ _ _,d.bubble e.size O hk,λx Hm X=>?_,?_};change NG g' k l x=x;unfold NG;rw[qa<|`b,qa<|`b];show o x `b X;rw[show min (k+1) n=k+1 by lia];have Y:∀i,i<k->g' i<k:=λi q=>d.low o `b q;have Z:=o k (zj _) hk;intro i j H S;change Log κ a₀ (NG g' k l i) (NG g' k l j);unfold NG;by_cases L:i=l;rw[qb L,qa<|`b,qb<|`b];show .inl<|hi _ `b `b;rw[qa L];by_cases J:j=l;rw[qb J,qa<|`b];have h1:=lo i `b;have h2:=Y i `b;rw[Z]at h1⊢;show Pg h1 h2;rw[qa J];by_cases y:l<i/\i<=k<;>by_cases C:l<j/\j<=k;rw[qb y,qb C];show V _ _ `b `b;lia;rw[qa y,qb C];show V _ _ `b `b;rw[qa y,qa C];show V _ _ `b `b;rintro c t ⟨R,g',e,d,o,V⟩;show{R,g',e,d,?_};rwa [show min (max (max ok 1) n) n=n by lia]at V;show{rfl,g,B,G,λk hk K=>T k `b K,λi j H S=>?_};show U i j H `b;rintro c t ⟨rfl,g',e,d,V⟩;show wpS_pure<|h g' t e d V
def RY(κ:KeyKind)(a₀:Array Keyed)(st:SortSt):Prop:=failedOf st=ϐ/\pendingOf st=#[(0,a₀.size,0)]/\∃g,(arrOf st).size=a₀.size/\Gh a₀ g (arrOf st)/\DX κ a₀ g a₀.size
def RZ{st:SortSt}{Q:Unit->SortSt->η}(p:κ.OneLt)(h0:KeysOf κ a₀)(B:SBase a₀ st)(N:arrOf st=a₀)(h2:2<=a₀.size)(K:a₀.size<64) (h:∀i g,failedOf i=ϐ->(arrOf i).size=a₀.size->Gh a₀ g (arrOf i)->DX κ a₀ g a₀.size->Q () i):wpS `n A E s sortRuns' Q st:=by
 have G:Gh a₀ (λk=>k) (arrOf st):={λk u=>by rw[N],λk hk=>hk,λu u u u e=>e};have d:∀(t:SortSt)(g:π->π),SBase a₀ t->Gh a₀ g (arrOf t)->DX κ a₀ g a₀.size->RY κ a₀ (setPending t<|(pendingOf t).push (0,a₀.size,0)):=λt g l F U=>{l.failed,by change(pendingOf t).push _=_;rw[l.pend];rfl,g,l.size,F,U};rw[sortRuns'_eq];show wpS_bind<|wpS_get ?_;dsimp only;have hm:minRun' a₀.size a₀.size 0=a₀.size:=by obtain⟨f,hf⟩:∃f,a₀.size=f+1:={a₀.size-1,`b};have:minRun' (f+1) a₀.size 0=a₀.size:=(by rw[minRun'_succ,qb K];rfl);rwa [<-hf]at this
 simp only[B.size,hm];show wpS_bind<|wpS_mono (wpS_forRange (I:=λx c t=>(x=0/\c=(none,0)/\t=st)\/(1<=x/\c=(none,a₀.size)/\RY κ a₀ t)) (Q:=λc t=>c=(none,a₀.size)/\RY κ a₀ t) ?_ ?_<|.inl ⟨rfl,rfl,rfl⟩) ?_;rintro x c t _ hx (⟨rfl,rfl,rfl⟩|⟨Hm,rfl,D⟩);dsimp only;rw[qa<|`b];simp only[Nat.sub_zero,Nat.min_self,Nat.zero_add];show wpS_bind<|Xt p h0 (zj _) `b B G (λu u u=>rfl) λm J a j o H Z P v=>?_;dsimp only;by_cases n:m<a₀.size;rw[qb n];show wpS_bind<|wpS_lift<|y7 {rfl,?_};show wpS_bind<|Xu p h0 (zj _) P j o H v λX y r O R=>?_;simp only[Bool.not_true,Bool.false_eq_true,if_false];show wpS_bind<|wpS_get ?_;rw[show(pendingOf y).back?=none by rw[r.pend];rfl];dsimp only;show wpS_bind<|wpS_modify<|wpS_pure<|.inr {`b,rfl,d y X r O R};rw[qa n];obtain rfl:m=a₀.size:=`b
 show wpS_bind<|wpS_get ?_;rw[show(pendingOf a).back?=none by rw[j.pend];rfl];dsimp only;show wpS_bind<|wpS_modify<|wpS_pure<|.inr {`b,rfl,d a J j o v};dsimp only;rw[qb<|zj _];show wpS_pure ⟨rfl,D⟩;rintro c t (⟨hx,_,_⟩|⟨_,M,D⟩);lia;show⟨M,D⟩;rintro c t ⟨rfl,D⟩;dsimp only;let⟨d1,L,g,S,C,Y⟩:=D;show wpS_bind<|wpS_mono (wpS_forRange (I:=λu c a=>a=t/\c=(none,())) (Q:=λc a=>a=t/\c=(none,())) ?_ (λu u z=>z) ⟨rfl,rfl⟩) ?_;rintro x c a _ _ ⟨rfl,rfl⟩;show wpS_bind<|wpS_get ?_;rw[qb<|by rw[L];show zj 1];show wpS_pure ⟨rfl,rfl⟩;rintro c a ⟨rfl,rfl⟩;show wpS_pure<|h _ g d1 S C Y
end
noncomputable abbrev NI(X:Cx)(qual:ρ)(scope:Scope)(L f:ε)(cv:ξ):Env:=envX qual scope L f cv<|clOf X.env.cells scope.names
noncomputable def UH(X:Cx)(N:δ ρ)(qual:ρ)(scope:Scope)(f:ε)(cv:ξ)(A:ϕ)(s:ζ)(H:Hp):Cx:={X with A:=A.deeper<|NI X qual scope s.heap.objs.size f cv,N:=N,dY:=s,xm:=H,env:=NI X qual scope s.heap.objs.size f cv,outer:=X.stack,stack:=NI X qual scope s.heap.objs.size f cv::X.stack,ex:=[],fn:=λz=>false,calm:=true,pn:=[],xe:=λz z=>False}
noncomputable abbrev Bl(X:Cx)(qual:ρ)(params:Arguments)(body:Δ)(scope:Scope)(pm cv nh:ξ):Obj:={cls:=.type "function",data:=.func<|kla_fn "<lambda>" qual params body scope (clOf X.env.cells scope.names) pm cv nh}
section
variable{X:Cx}{qc:δ (ε×Obj)}{σ:St}{H:Hp}{s:ζ}{N:δ ρ}{src:δ (θ π)}{scope:Scope}{params:Arguments}{body:Δ}{qual p:ρ}{pm cv nh u:ξ}{f:ε}{A:ϕ}{v:V}{te:TE}{Q:VK}
def NJ(I:Inv X qc σ H s)(S:bx X N src scope)(J:N[0]?=some p)(hp:scope.names.lookup p=ϑ .local)(h0:src[0]?=some none)(G:A.frames=ϑ X.stack)(E:A.handled=ϐ)(r:RelV v u) (t:h₁.Ns s.heap.objs.size λx=>[(p,u)].reverse.lookup x) (a:∀b o,s.heap.get? b=ϑ o->h₁.get? b=ϑ o): Inv (UH X N qual scope f cv A s H) [] ((pick σ src).set 0<|some v) H {s with heap:=h₁,toks:=tk}:=by
 have d:∀x c,(clOf X.env.cells scope.names).lookup x=ϑ c->X.env.cells.lookup x=ϑ c:=tj X.env.cells scope.names [] (by intro x c h;simp at h);have g:∀b:ε,b∉(UH X N qual scope f cv A s H).ex:=λb z=>absurd (show b∈([]:δ ε) from z) `d;have Cv:∀x,scope.names.lookup x=ϑ .free->∃c,(clOf X.env.cells scope.names).lookup x=ϑ c:=λx hl=>by have hm:=yp hl;let⟨c,m⟩:=I.ok.has x<|S.Cv _ hm rfl;show{c,ko X.env.cells scope.names [] x c (by intro x c h;simp at h) hm m}
 show{{I.ok.mod,S.kind,rfl,rfl,zj _,λx y c h1 h2=>I.ok.inj x y c (d _ _ h1)<|d _ _ h2,λx hk=>?_,λx c h=>(nomatch h),λZ=>E,Around.frames_deeper G,.inr ⟨rfl,rfl⟩,λb z=>absurd z<|g b,I.bs,zH I.ok.GS I.sz,λb Z Z=>g b,λb z=>absurd z<|g b,I.stack,I.rK},rfl,I.bare,Un.kept a,{_,t,λi x w e1 e2 e3=>?_},λx c e=>?_,I.aK.fresh<|zj _,λx c e=>I.eP x c<|d x c e,λq hq=>absurd (show q∈([]:δ (ε×Obj)) from hq)<|`d,I.aK.kept a,?_};have hk:scope.names.lookup x=ϑ .cell\/scope.names.lookup x=ϑ .free:=hk;rcases hk with hk|hk;show absurd rfl<|S.iA _<|yp hk;show Cv x hk;have e1:N[i]?=some x:=e1;by_cases hi:i=0;subst hi;rw[J]at e1;cases e1;have hl:0<(pick σ src).length:=by unfold pick;rw[zd];show(zf.mp h0).1
 rw[yz hl]at e2;cases e2;show{u,r,.inl {hp,by simp[zW]}};rw[yt<|Ne.symm hi]at e2;unfold pick at e2;rw[zm]at e2;cases es:src[i]? with|none=>(rw[es]at e2;cases e2)|some o=>rw[es]at e2;cases o with|none=>(cases e2)|some j=>have e3:(σ[j]?).join=ϑ w:=zS e2;have e4:σ[j]?=some (some w):=(by cases q:σ[j]? with|none=>(rw[q]at e3;cases e3)|some z=>rw[q]at e3;show congrArg some e3);let⟨B,n,F⟩:=S.src i j x es e1;let⟨L,_,hl⟩:=I.loc;let⟨K,C,l⟩:=hl j x w B e4 F;have hm:=yp n;have hk:=S.Cv _ hm rfl;rcases l with⟨k,_⟩|⟨_,c,m,⟨o,ho,hd⟩⟩;rcases hk with hk|hk<;>(rw[k]at hk;cases hk);show{K,C,.inr {.inr n,c,ko X.env.cells scope.names [] x c (by intro x c h;simp at h) hm m,o,a _ _ ho,hd}}
 let⟨w,o,ho,hd⟩:=I.cell x c<|d x c e;show{w,o,a _ _ ho,hd};change((pick σ src).set 0<|some v).length=N.length;unfold pick;rw[List.length_set,zd,S.len]
def Ko(I:Inv X qc σ H s)(S:bx X N src scope)(g:N[0]?=some p)(hp:scope.names.lookup p=ϑ .local)(h0:src[0]?=some none)(d:A.frames=ϑ X.stack)(C:A.handled=ϐ)(j:A.depth<recursionLimit)(r:RelV v u) (ho:s.heap.get? f=ϑ (Bl X qual params body scope pm cv nh)) (i:s.heap.CodeRec cv qual) (t:scope.isCoroutine=ϰ) (m:scope.isGenerator=ϰ) (hb:bindArgs (kla_fn "<lambda>" qual params body scope (clOf X.env.cells scope.names) pm cv nh) {[u],[]}=pure [(p,u)]) (y:PE (UH X N qual scope f cv A s H) body te) (h:te ((pick σ src).set 0<|some v) H Q): codeAny `m A (.call (.ref f) {[u],[]}) (λq s'=>∃w,q=.ok (.ret w)/\CE X.stack X.prog X.w H s Q w s') s:=by show PySem.W.kla_callFunE j ho rfl t m rfl i ?_;change wpAny _ _ (bindArgs (kla_fn "<lambda>" qual params body scope (clOf X.env.cells scope.names) pm cv nh) {[u],[]}) _ _ _;rw[hb];show zr<|wpAny_newFunctionEnv S.iA (λx hx=>?_) (λl n c=>{I.nolimit.fresh _ c,?_}) S.kind;rw[zE.mp hx];show hp;have a:∀b o,s.heap.get? b=ϑ o->l.get? b=ϑ o:=λb o e=>c.extBut b o (zD<|zA e)<|za _ e;change codeAny _ _ (.expr body<|NI X qual scope s.heap.objs.size f cv) _ _;show PySem.W.kla_codeExpr<|yx (y [] _ _ H Q (NJ I S g hp h0 d C r n a) h) (by rintro w s' ⟨x,H',J,B,q⟩;show⟨w,rfl,x,H',J.os,J.bare,J.base,J.aK,B,q⟩) λk k z=>z.elim
end
@[reducible] def intK:KeyKind where
 α:=ν
 blt a b:=ω<|a<b
 irrefl a:=`d
 trans a b c h1 h2:=by simp only[zT]at *;lia
 negTrans a b c h:=by simp only[zT]at *;lia
 total a b h1 h2:=by simp only[decide_eq_false_iff_not]at *;lia
 keyOf v:=match v with|.int x _=>some x|_=>none
 dflt:=0
def Kq:intK.OneLt:=by intro prog w A E s x y a b Q ha hb h;cases x<;>simp only[intK,reduceCtorEq,Option.some.injEq]at ha;cases y<;>simp only[intK,reduceCtorEq,Option.some.injEq]at hb;cases ha;cases hb;show oneLt_int h
structure Zt(κ:KeyKind)(b:χ)(key:π->κ.α)(n:π)(g:π->π):η where
 lt:∀k,k<n->g k<n
 inj:∀i j,i<n->j<n->g i=g j->i=j
 ord:∀i j,i<j->j<n->(if b=ϱ then κ.klt (key<|g j) (key<|g i) else κ.klt (key<|g i) (key<|g j))\/(key (g i)=key (g j)/\g i<g j)
noncomputable def jF(κ:KeyKind)(us:δ ξ)(j:π):κ.α:=(κ.keyOf<|us.getD j .none).getD κ.dflt
def Kr{us vs:δ ξ}(hl:us.length=vs.length){j:π}(a:j<vs.length):(us.toArray.zip vs.toArray)[j]?=some (us.getD j .none,vs.getD j .none):=by have e:(us.zip vs)[j]?=some (us.getD j .none,vs.getD j .none):=List.getElem?_zip_eq_some.mpr {by change us[j]?=some (us.getD j .none);rw[zL,zg<|`b];rfl,by change vs[j]?=some (vs.getD j .none);rw[zL,zg a];rfl};rw[<-Array.getElem?_toList,ksk_zip,List.toList_toArray];show e
def xN{κ:KeyKind}{us vs:δ ξ}(hl:us.length=vs.length){j:π}(a:j<vs.length):KK κ (us.toArray.zip vs.toArray) j=jF κ us j:=by unfold KK jF;rw[Kr hl a]
def Bn{l m:δ ξ}{n:π}(h1:l.length=n)(h2:m.length=n)(h:∀k,k<n->l[k]?=m[k]?):l=m:=by apply List.ext_getElem?;intro k;by_cases hk:k<n;show h k hk;rw[List.getElem?_eq_none<|`b,List.getElem?_eq_none<|`b]
section
variable{prog:Ψ}{w:Ω}{A:ϕ}{E:ξ->ζ->η}{s:ζ}{a kS:ε}{b:χ}{us vs:δ ξ}{e e1:π}{P:PySem.Fin->ζ->η}{κ:KeyKind}
def FE{st:SortSt}{keys:Array ξ}(hk:s.heap.get? kS=ϑ (seqObj "list" keys e))(ha:s.heap.get? a=ϑ (seqObj "list" #[] e1))(l:kS≠a)(hz:keys.size<64)(j:(arrOf st).size<64)(n:failedOf st=ϐ) (h:∀h' c,(∀b o,b≠a->b≠kS->s.heap.get? b=ϑ o->h'.get? b=ϑ o)->h'.get? a=ϑ (seqObj "list" (if b then ((arrOf st).map (·.2)).reverse else (arrOf st).map (·.2)) c)->P (.done<|.ret .none) {s with heap:=h'}): wpAny `n A (ksk_tail a b e1 (.ref kS) st) P E s:=by
 have s1:=yJ s.heap kS<|Obj.mapSeq λz=>(#[]:Array ξ);have d:(s.heap.update kS<|Obj.mapSeq λz=>(#[]:Array ξ)).get? a=ϑ (seqObj "list" #[] e1):=(s1.2 a l.symm).trans ha;have g:∀o:Array ξ,o=(if b then ((arrOf st).map (·.2)).reverse else (arrOf st).map (·.2))->o.size<64:=by rintro o rfl;cases b with|false=>rw[qa ze,Array.size_map];show j|true=>rw[qb rfl,Array.size_reverse,Array.size_map];show j
 generalize ho:(if b then ((arrOf st).map (·.2)).reverse else (arrOf st).map (·.2))=out at h g;have g:=g out rfl;have s2:=yJ (s.heap.update kS<|Obj.mapSeq λz=>(#[]:Array ξ)) a<|Obj.mapSeq λz=>out;obtain⟨i,m⟩:∃i,((s.heap.update kS<|Obj.mapSeq λz=>(#[]:Array ξ)).update a<|Obj.mapSeq λz=>out).get? a=ϑ (seqObj "list" out i):={_,get?_update_seq d λz=>out};unfold ksk_tail;try dsimp only
 show zb<|listUpdate_at hk rfl ?_ (by rw[yg];lia)<|yh _;show zb<|wpAny_letGo ?_;show zb<|seqEpoch_at d rfl ?_;rw[ho];show zb<|listUpdate_at d rfl ?_ (yh _)<|zH (yU g) (by rw[yg];lia);rw[n];simp only[bne_self_eq_false,Bool.false_eq_true,if_false];show zr<|h _ i (λb o h1 h2 q=>(s2.2 b h1).trans<|(s1.2 b h2).trans q) m
def Ks{xs:Array Keyed}{g:π->π}(hl:us.length=vs.length)(m:xs.size=vs.length) (G:Gh (if b=ϱ then (us.toArray.zip vs.toArray).reverse else us.toArray.zip vs.toArray) g xs) (U:DX κ (if b=ϱ then (us.toArray.zip vs.toArray).reverse else us.toArray.zip vs.toArray) g vs.length): ∃g',Zt κ b (jF κ us) vs.length g'/\(if b then (xs.map (·.2)).reverse else xs.map (·.2)).toList=(List.range vs.length).map λk=>vs.getD (g' k) .none:=by
 have a:(us.toArray.zip vs.toArray).size=vs.length:=by rw[Array.size_zip,zx,zx,hl,Nat.min_self]
 have h:∀k,k<vs.length->(us.toArray.zip vs.toArray)[k]?=some (us.getD k .none,vs.getD k .none):=λk hk=>Kr hl hk;cases b with|false=>rw[qa ze]at G U;show{g,{λk hk=>by have:=G.lt k (by rw[a];show hk);rwa [a]at this,λi j hi d=>G.inj i j (by rw[a];show hi)<|by rw[a];show d,λi j o d=>?_},?_};have h1:=G.lt i (by rw[a];lia);have h2:=G.lt j (by rw[a];lia);rw[a]at h1 h2;have:=U i j o d;unfold Log at this;rw[xN hl h1,xN hl h2]at this;rw[qa ze];show this;rw[qa ze];show Bn (n:=vs.length) (by rw[yy,Array.size_map,m]) `d λk hk=>?_;have h1:=G.lt k (by rw[a];lia);rw[a]at h1;rw[Array.getElem?_toList,Array.getElem?_map,G.at_ k<|by rw[a];show hk,h _ h1,zm,List.getElem?_range hk];rfl|true=>rw[qb rfl]at G U;have l:(us.toArray.zip vs.toArray).reverse.size=vs.length:=(by rw[Array.size_reverse,a]);have lt:∀k,k<vs.length->g k<vs.length:=λk hk=>(by have:=G.lt k (by rw[l];show hk);rwa [l]at this);have c:∀k,k<vs.length->(us.toArray.zip vs.toArray).reverse[k]?=(us.toArray.zip vs.toArray)[vs.length-1-k]?:=λk hk=>(by rw[Array.getElem?_reverse<|by rw[a];show hk,a]);show{λk=>vs.length-1-g (vs.length-1-k),{λk hk=>by have:=lt (vs.length-1-k) `b;lia,λi j hi d e=>?_,λi j o d=>?_},?_};have h1:=lt (vs.length-1-i) `b;have h2:=lt (vs.length-1-j) `b;have:=G.inj (vs.length-1-i) (vs.length-1-j) (by rw[l];lia) (by rw[l];lia) `b;lia;have h1:=lt (vs.length-1-i) `b;have h2:=lt (vs.length-1-j) `b;have:=U (vs.length-1-j) (vs.length-1-i) `b `b;unfold Log at this;have e1:KK κ (us.toArray.zip vs.toArray).reverse (g<|vs.length-1-i)=jF κ us (vs.length-1-g (vs.length-1-i)):=(KK_congr<|c _ h1).trans<|xN hl `b;have e2:KK κ (us.toArray.zip vs.toArray).reverse (g<|vs.length-1-j)=jF κ us (vs.length-1-g (vs.length-1-j)):=(KK_congr<|c _ h2).trans<|xN hl `b;rw[e1,e2]at this;rw[qb rfl];rcases this with z|⟨p,r⟩;show .inl z;show .inr {p.symm,`b};rw[qb rfl];show Bn (n:=vs.length) (by rw[yy,Array.size_reverse,Array.size_map,m]) `d λk hk=>?_;have h1:=lt (vs.length-1-k) `b;rw[Array.getElem?_toList,Array.getElem?_reverse<|by rw[Array.size_map,m];show hk,Array.size_map,m,Array.getElem?_map,G.at_ _<|by rw[l];lia,c _ h1,h _<|`b,zm,List.getElem?_range hk];rfl
def R5(K:κ.OneLt)(hk:s.heap.get? kS=ϑ (seqObj "list" us.toArray e))(ha:s.heap.get? a=ϑ (seqObj "list" #[] e1))(B:kS≠a)(hl:us.length=vs.length)(O:vs.length<64)(h0:∀u∈us,∃x,κ.keyOf u=ϑ x) (m:∀pM pN rest,us=pM::pN::rest->keyKind' (pM::pN::rest).toArray=pure oneType') (h:∀h' c g out,(∀b o,b≠a->b≠kS->s.heap.get? b=ϑ o->h'.get? b=ϑ o)->h'.get? a=ϑ (seqObj "list" out c)->Zt κ b (jF κ us) vs.length g->out.toList=(List.range vs.length).map (λk=>vs.getD (g k) .none)->P (.done<|.ret .none) {s with heap:=h'}): wpAny `n A (ksk_end a b vs.toArray e1 (.ref kS) us.toArray) P E s:=by
 have H:(us.toArray.zip vs.toArray).size=vs.length:=by rw[Array.size_zip,zx,zx,hl,Nat.min_self]
 have step:∀t:Sem PySem.Fin,wpAny `n A t P E s->wpAny `n A (if b=ϱ then (do let _ <-rule "list.sort.reverse";t) else t) P E s:=by intro t C;split;show zb<|y7 C;show C
 have d:(if b=ϱ then (us.toArray.zip vs.toArray).reverse else us.toArray.zip vs.toArray).size=vs.length:=by cases b with|false=>show H|true=>rw[qb rfl,Array.size_reverse,H]
 have keys:KeysOf κ (if b=ϱ then (us.toArray.zip vs.toArray).reverse else us.toArray.zip vs.toArray):=λp hp=>by have hp:p∈us.zip vs:=(by have e2:(us.toArray.zip vs.toArray).toList=us.zip vs:=(by rw[ksk_zip]);cases b with|false=>rw[qa ze,e2]at hp;show hp|true=>rw[qb rfl,Array.toList_reverse,e2]at hp;show List.mem_reverse.mp hp);let⟨x,y⟩:=p;show h0 _ (List.of_mem_zip hp).1
 unfold ksk_end;try dsimp only
 show step _ ?_;by_cases h2:vs.toArray.size<2;{rw[qb h2,qb h2];show zb<|zr ?_;rw[StateT.run_pure];show zb<|zr ?_;(try dsimp only);rw[zx]at h2;show FE (st:=SortSt.mk' general' (if b=ϱ then (us.toArray.zip vs.toArray).reverse else us.toArray.zip vs.toArray) #[] 7 none) hk ha B (by rw[zx];lia) (by change(if b=ϱ then (us.toArray.zip vs.toArray).reverse else us.toArray.zip vs.toArray).size<64;lia) rfl λh' c k1 k2=>?_;let⟨g,v,r⟩:=Ks (κ:=κ) (b:=b) (xs:=if b=ϱ then (us.toArray.zip vs.toArray).reverse else us.toArray.zip vs.toArray) (g:=λk=>k) hl d {λq q=>rfl,λq hk=>hk,λq q q q e=>e} (λi j R S=>by lia);show h h' c g _ k1 k2 v r};{rw[qa h2,qa h2];rw[zx]at h2;obtain⟨pM,pN,rest,F⟩:∃pM pN rest,us=pM::pN::rest:=(by match us,hl with|[],hl=>simp at hl;lia|[_],hl=>simp at hl;lia|pM::pN::rest,_=>show⟨pM,pN,rest,rfl⟩);have N:keyKind' us.toArray=pure oneType':=(by rw[F];show m _ _ _ F);rw[N];show zb<|zr ?_;show zb<|yx (RZ (κ:=κ) K (a₀:=if b=ϱ then (us.toArray.zip vs.toArray).reverse else us.toArray.zip vs.toArray) (st:=SortSt.mk' oneType' (if b=ϱ then (us.toArray.zip vs.toArray).reverse else us.toArray.zip vs.toArray) #[] 7 none) (Q:=λq l=>failedOf l=ϐ/\(arrOf l).size=vs.length/\∃g,Gh (if b=ϱ then (us.toArray.zip vs.toArray).reverse else us.toArray.zip vs.toArray) g (arrOf l)/\DX κ (if b=ϱ then (us.toArray.zip vs.toArray).reverse else us.toArray.zip vs.toArray) g vs.length) keys {Array.Perm.refl _,rfl,rfl,rfl} rfl `b `b λl g J M L z=>{J,M.trans d,g,L,by rw[d]at z;show z}) ?_ λq q e=>e;rintro⟨⟨⟩,l⟩ s' ⟨rfl,hf,n,g,G,U⟩;(try dsimp only);have n:(arrOf l).size=vs.length:=n;show FE hk ha B (by rw[zx];lia) `b hf λh' c k1 k2=>?_;let⟨I,v,r⟩:=Ks (κ:=κ) hl n G U;show h h' c I _ k1 k2 v r}
end
structure Pk(X:Cx)(qc:δ (ε×Obj))(b:ε):η where
 loc:b≠X.env.locals
 fs:b∉X.fs
 cell:∀x c,X.env.cells.lookup x=ϑ c->c≠b
 pin:∀p∈X.pn++qc,p.1≠b
 new:X.dY.heap.objs.size<=b
section
variable{X:Cx}{qc:δ (ε×Obj)}{σ:St}{H:Hp}{s:ζ}
theorem Inv.Zu(I:Inv X qc σ H s)(h:s.heap.objs.size<=b):Pk X qc b:={yw<|zu I.lt h,I.U7 h,λx c e=>by let⟨v,q⟩:=I.cell x c e;show zD<|zu q.lt h,λp hp=>zD<|zu (zA (I.pin p hp).1) h,zH I.sz h}
def Inv.NM(I:Inv X qc σ H s)(kp:∀b o,b≠a->b≠k->s.heap.get? b=ϑ o->h'.get? b=ϑ o)(ha:H a=ϐ)(hk:H k=ϐ)(g:Pk X qc a)(h:Pk X qc k):Inv X qc σ H {s with heap:=h',toks:=t'}:=by have i:∀b u,H b=ϑ u->b≠a/\b≠k:=λb u e=>{λz=>(by rw[z,ha]at e;cases e),λz=>(by rw[z,hk]at e;cases e)};show I.step (g':=s.gens) (d':=s.drawn) (ch:=[a,k]) (λb hb=>?_) (λb o x x d e x=>kp b o (λz=>d<|by simp[z]) (λz=>d<|by simp[z]) e) (λb o x x d e x=>{o.slots,kp b o (λz=>d<|by simp[z]) (λz=>d<|by simp[z]) e}) (λx x x x n=>n) (λb o d e=>{o,kp b o (λz=>d<|by simp[z]) (λz=>d<|by simp[z]) e}) (λx x e=>e) (λx x x e=>e) (λb ps e=>{#[],by rw[e];simp}) (λm hm=>?_) (λb u e=>?_) I.bare;simp only[zl,zO,or_false]at hb;rcases hb with rfl|rfl;show{.inr g.new,g.loc,g.cell,g.pin};show{.inr h.new,h.loc,h.cell,h.pin};let⟨o,es,ep,ho,r⟩:=hm;show{o,es,ep,kp _ o (Ne.symm g.loc) (Ne.symm h.loc) ho,r};show(I.aK b u e).nr (λc v d q=>?_) (λx q=>q) λx x q=>q;rcases d with z|z;rw[z]at q⊢;show kp b v (i b u e).1 (i b u e).2 q;show kp c v (i c _ z).1 (i c _ z).2 q
def Inv.Xw(I:Inv X qc σ H s)(ha:H a=ϐ)(A:Pk X qc a)(new:bj X.prog X.w (upd H a o) s.heap a o):Inv X qc σ (upd H a o) s:=by show I.step (h':=s.heap) (g':=s.gens) (d':=s.drawn) (t':=s.toks) (ch:=[a]) (λb hb=>?_) (λb o x x d e x=>e) (λb o x x d e x=>⟨o.slots,e⟩) (λb u d e n=>?_) (λb o d e=>⟨o,e⟩) (λb xs e=>?_) (λb u v e=>?_) (λb ps e=>?_) (λm hm=>hm) (λb u e=>?_) I.bare;rw[zE.mp hb];show{.inr A.new,A.loc,A.cell,A.pin};rw[ax λz=>d<|by simp[z]];show n;rw[ax<|aA e ha];show e;rw[ax<|aA e ha];show e;show{#[],by rw[ax<|aA e ha,e];simp};by_cases hb:b=a;subst hb;rw[aD]at e;cases e;show new;rw[ax hb]at e;show(I.aK b u e).nr (λc v x q=>q) (λc q=>by rw[ax<|aA q ha];show q) λc xs q=>by rw[ax<|aA q ha];show q
end
def Kt(X:Cx)(qc:δ<|ε×Obj)(σ:St)(A:ϕ)(f:ε)(xs:δ V)(W:π->δ V->Hp->η):Prop:=∀i x u ks s' H' more,Inv X (qc++more) σ H' s'->W i ks H'->xs[i]?=some x->RelV x u->codeAny `m A (.call (.ref f) {[u],[]}) (λq C3=>∃w,q=.ok (.ret w)/\CE X.stack X.prog X.w H' s' (λk a=>W (i+1) (ks++[k]) a) w C3) s'
structure Pl(κ:KeyKind)(us:δ ξ):η where
 all:∀u∈us,∃x,κ.keyOf u=ϑ x
 kind:∀pM pN rest,us=pM::pN::rest->keyKind' (pM::pN::rest).toArray=pure oneType'
section
variable{X:Cx}{qc:δ (ε×Obj)}{σ:St}{H:Hp}{s:ζ}{A:ϕ}{E:ξ->ζ->η}{xs:δ V}{vs:δ ξ}{f:ε}{b:χ}{κ:KeyKind}{W:π->δ V->Hp->η}
def HK{P:PySem.Fin->ζ->η}(hO:κ.OneLt)(I:Inv X qc σ H s)(ha:s.heap.get? a=ϑ (seqObj "list" #[] e1))(hk:s.heap.get? kS=ϑ (seqObj "list" #[] 0))(R3:kS≠a)(na:H a=ϐ)(nk:H kS=ϐ)(R:Pk X qc a)(C:Pk X qc kS) (hv:Vals xs vs) (IY:vs.length<64) (T:Kt X qc σ A f xs W) (w0:W 0 [] H) (G:∀ks us H',W vs.length ks H'->Vals ks us->ks.length=vs.length->Pl κ us) (h:∀s' H' ks us c g out,Inv X qc σ H' s'->H' a=ϐ->s'.heap.get? a=ϑ (seqObj "list" out c)->W vs.length ks H'->Vals ks us->ks.length=vs.length->Zt κ b (jF κ us) vs.length g->out.toList=(List.range vs.length).map (λk=>vs.getD (g k) .none)->P (.done<|.ret .none) s'): wpAny `m A (ksk_rest a (.ref f) b vs.toArray e1<|.ref kS) P E s:=by
 have Y:∀(k:Array ξ) (n:π) (v:θ ξ),(seqObj "list" k n).data≠.cell v:=λr r r z=>nomatch z;unfold ksk_rest;show zb<|y7 ?_;rw[List.forIn_toArray];show zb<|ksk_fold (λi s'=>∃ks d e H',Inv X qc σ H' s'/\W i ks H'/\Vals ks d.toList/\ks.length=i/\H' a=ϐ/\H' kS=ϐ/\s'.heap.get? a=ϑ (seqObj "list" #[] e1)/\s'.heap.get? kS=ϑ (seqObj "list" d e)) vs 0 s {[],#[],0,H,I,w0,.nil,rfl,na,nk,ha,hk} ?_ ?_;rintro j x s' hx ⟨ks,d,e,H',l,L,J,K,N,B,F,M⟩;simp only[Nat.zero_add]at K L⊢;have hj:j<vs.length:=(zf.mp hx).1;have hl:xs.length=vs.length:=hv.length;obtain⟨y,U⟩:∃y,xs[j]?=some y:={_,zg<|`b};let⟨u,hu,ru⟩:=hv.get U;rw[hx]at hu;cases hu;have Z:Inv X (qc++[(a,seqObj "list" #[] e1),(kS,seqObj "list" d e)]) σ H' s':=by show{l.ok,l.os,l.bare,l.base,l.loc,l.cell,l.free,l.eP,λp hp=>?_,l.aK,l.len};rcases zP.mp hp with hp|hp;show l.pin p<|yj _ hp;rcases zP.mp hp with hp|hp;show l.pin p<|zJ _ hp;simp only[zl,zO,or_false]at hp;rcases hp with rfl|rfl;show{F,N,R.loc,R.fs,Y _ _};show{M,B,C.loc,C.fs,Y _ _}
 have hz:d.size=j:=by have h1:ks.length=d.toList.length:=J.length;have h2:d.toList.length=d.size:=yy;lia
 show zb<|wpAny_attempt<|wpAny_call<|y4 (T j y x ks s' H' _ Z L U ru) λr s2 hq=>?_;let⟨w,rfl,ce⟩:=hq;let⟨k,H2,m,rk,w2⟩:=Z.after ce;dsimp only;have S:=m.pin (a,seqObj "list" #[] e1)<|zJ _<|zJ _ `d;have O:=m.pin (kS,seqObj "list" d e)<|zJ _<|zJ _ `d;have I3:Inv X qc σ H2 s2:={m.ok,m.os,m.bare,m.base,m.loc,m.cell,m.free,m.eP,λp hp=>m.pin p<|by rcases zP.mp hp with z|z;show yj _ z;show zJ _<|yj _ z,m.aK,m.len};have s1:=yJ s2.heap kS (Obj.mapSeq (·.push w));obtain⟨Q,MP⟩:∃Q,(s2.heap.update kS (Obj.mapSeq (·.push w))).get? kS=ϑ (seqObj "list" (d.push w) Q):={_,get?_update_seq O.1 (·.push w)};show zb<|listUpdate_at O.1 rfl ?_ (by rw[yg];lia)<|zH (Nat.le_of_eq<|Array.size_push ..) (by rw[yg];lia);show zr {rfl,ks++[k],d.push w,Q,H2,I3.turned (t':=s2.toks) (it:=kS) (λb o hb q=>(s1.2 b hb).trans q) O.2.1 C.loc (.inr C.new) C.cell C.pin,w2,?_,by simp[K],S.2.1,O.2.1,(s1.2 a R3.symm).trans S.1,MP};rw[show(d.push w).toList=d.toList++[w] by simp];show J.append<|.cons rk .nil;rintro s' ⟨ks,d,e,H',l,L,J,K,N,B,F,M⟩;simp only[Nat.zero_add]at K L;show zb<|listItems_at M rfl ?_;have eA:d=d.toList.toArray:=`d
 have t:=G ks d.toList H' L J K;have hl:d.toList.length=vs.length:=by have h1:ks.length=d.toList.length:=J.length;lia
 rw[eA]at M;change wpAny _ _ (ksk_end a b vs.toArray e1 (.ref kS) d) _ _ _;rw[eA];show R5 (κ:=κ) hO M F R3 hl IY t.all t.kind λh' c g out k1 k2 k3 k4=>?_;show h _ H' ks d.toList c g out (l.NM (t':=s'.toks) k1 N B R C) N k2 L J K k3 k4
def wF(O:κ.OneLt)(I:Inv X qc σ H s)(hl:jf X.K H l xs)(v:xs.length<64)(Zw:argsOk "sorted" {[.ref l],kw})(Y:∀x,argsOk "list.sort" {[.ref x],kw})(S:∀x,Builtin.«list.sort» {[.ref x],kw}=ksk_tree x (.ref f) b) (T:Kt X qc σ A.in1.in1 f xs W) (Z:W 0 [] H) (G:∀ks us H',W xs.length ks H'->Vals ks us->ks.length=xs.length->Pl κ us) (h:∀H' ks us g D,W xs.length ks H'->Vals ks us->ks.length=xs.length->Zt κ b (jF κ us) xs.length g->H' D=ϐ->Q (.ref D) (upd H' D<|.lst<|(List.range xs.length).map λk=>xs.getD (g k) .ay)): wpAny `m A (call (.builtin "sorted") [.ref l] kw) (EP X qc σ Q) E s:=by
 let⟨vs,hv,M,_⟩:=I.list hl;have F:xs.length=vs.length:=hv.length;rw[F]at v G h;show call_function_entry_kw kind_sorted plain_sorted entry_sorted Zw ?_;unfold Builtin.«sorted»;show zb (m:=checkCount "sorted" 1 1 _)<|zr ?_;show zb<|collect_list M.isList ?_ (by rw[yg];lia);show zb<|wpAny_newList ?_ (by rw[yg];lia);have e:((s.heap.push<|seqObj "list" #[] 0).update s.heap.objs.size (Obj.mapSeq (·++vs.toArray))).objs.size=s.heap.objs.size+1:=by rw[Heap.size_update,size_push']
 have i:(((s.heap.push<|seqObj "list" #[] 0).update s.heap.objs.size (Obj.mapSeq (·++vs.toArray))).push<|seqObj "list" vs.toArray 0).get? (s.heap.objs.size+1)=ϑ (seqObj "list" vs.toArray 0):=by rw[<-e];show zo _ rfl
 have keep:∀b o,s.heap.get? b=ϑ o->(((s.heap.push<|seqObj "list" #[] 0).update s.heap.objs.size (Obj.mapSeq (·++vs.toArray))).push<|seqObj "list" vs.toArray 0).get? b=ϑ o:=λb o q=>by have p:b<s.heap.objs.size:=zA q;rw[Heap.get?_push_ne _ _ _<|by rw[e];show zD<|Nat.lt_succ_of_lt p,Heap.get?_update_ne _ _ _ _<|zD p,Heap.get?_push_ne _ _ _<|zD p];show q
 change wpAny _ _ _ _ _ {s with heap:=((s.heap.push<|seqObj "list" #[] 0).update s.heap.objs.size (Obj.mapSeq (·++vs.toArray))).push<|seqObj "list" vs.toArray 0};rw[e];generalize hg:((s.heap.push<|seqObj "list" #[] 0).update s.heap.objs.size (Obj.mapSeq (·++vs.toArray))).push (seqObj "list" vs.toArray 0)=h1 at i keep⊢;have L:Inv X qc σ H {s with heap:=h1}:=I.kept (t':=s.toks) keep;have d:Pk X qc (s.heap.objs.size+1):=I.Zu<|y9 _;have t:H (s.heap.objs.size+1)=ϐ:=I.aK.fresh<|y9 _;generalize s.heap.objs.size+1=a at i d t⊢;show zb<|yQ<|wpAny_call_entry_kw slot_list_sort {_,i,rfl} entry_list_sort ?_<|Y _;change wpAny `m A.in1.in1 (Builtin.«list.sort» {[.ref a],kw}) _ _ _;rw[S a];have s1:=yJ h1 a<|Obj.mapSeq λV=>(#[]:Array ξ);obtain⟨e1,j⟩:∃e1,(h1.update a<|Obj.mapSeq λV=>(#[]:Array ξ)).get? a=ϑ (seqObj "list" #[] e1):={_,get?_update_seq i λV=>#[]};have n:Inv X qc σ H {s with heap:=h1.update a<|Obj.mapSeq λV=>(#[]:Array ξ)}:=Inv.turned (s:={s with heap:=h1}) (h':=h1.update a<|Obj.mapSeq λV=>(#[]:Array ξ)) (t':=s.toks) (it:=a) L (λb o hb q=>(s1.2 b hb).trans q) t d.loc (.inr d.new) d.cell d.pin;unfold ksk_tree;show zb<|listItems_at i rfl ?_;show zb<|listUpdate_at i rfl ?_ (by rw[zx,yg];lia)<|yh _;show zb<|seqEpoch_at j rfl ?_;show zb<|wpAny_newTuple ?_ (by change vs.length<=_;rw[yg];lia);show zb<|wpAny_newList ?_<|yh _;show yQ ?_;generalize h1.update a (Obj.mapSeq λV=>(#[]:Array ξ))=h2 at j n⊢;have k3:∀b u,h2.get? b=ϑ u->((h2.push<|seqObj "tuple" vs.toArray 0).push<|seqObj "list" #[] 0).get? b=ϑ u:=λb u q=>za _<|za _ q;have N:Inv X qc σ H {s with heap:=(h2.push<|seqObj "tuple" vs.toArray 0).push<|seqObj "list" #[] 0}:=n.kept (t':=s.toks) k3;have r:h2.objs.size<=(h2.push<|seqObj "tuple" vs.toArray 0).objs.size:=by rw[size_push'];show y9 _
 show HK (s:={s with heap:=(h2.push<|seqObj "tuple" vs.toArray 0).push<|seqObj "list" #[] 0}) (kS:=(h2.push<|seqObj "tuple" vs.toArray 0).objs.size) O N (k3 _ _ j) (zo _ rfl) (yw<|zu (zA j) r) t (n.aK.fresh r) d (n.Zu r) hv v T Z G λs' H' ks us c g out J C o1 w1 R l1 z q2=>{.none,rfl,?_};show zr !{.ref a,_,J.Xw (o:=.lst<|(List.range vs.length).map λk=>xs.getD (g k) .ay) C d {?_,out.toList,c,?_,?_},rfl,h H' ks us g a w1 R l1 z C};rw[zd,List.length_range,yg];lia;rw[q2];have:∀(ns:δ π),(∀k∈ns,g k<vs.length)->Vals (ns.map λk=>xs.getD (g k) .ay) (ns.map λk=>vs.getD (g k) .none):=λns=>by induction ns with|nil=>show λV=>.nil|cons k ns P=>intro hk;have Xx:=hk k zw;obtain⟨y,B⟩:∃y,xs[g k]?=some y:={_,zg<|`b};let⟨u,hu,ru⟩:=hv.get B;show .cons ?_<|P λk U=>hk k<|zh _ U;change RelV (xs.getD (g k) .ay) (vs.getD (g k) .none);rw[zL,B,zL,hu];show ru
 show this _ λk hk=>z.lt k<|zY.mp hk;rw[o1]
end
def Bm(mg:ρ->θ ξ)(base:Γ):Prop:=∃bm o,mg "__builtins__"= some (.ref bm)/\bm≠builtinsNs/\base.get? bm=ϑ o/\o.cls=.type "module"/\o.dict=ϑ builtinsNs/\o.data=.plain
structure Mkr(K:Φ)(mg:ρ->θ ξ)(base:Γ)(c P:ε):η where
 hd:codeHdIn K c P=ϱ
 bm:Bm mg base
set_option tactic.hygienic true in
def DZ{pos p2:Pos}{c cv:ξ}(l:δ ξ)(h:TriplesOk l)(e:codeAmong pos (l++[rawInt p2.line,rawInt p2.col,c])=ϑ cv):codeAmong pos l=ϑ cv\/cv=c:=by fun_induction TriplesOk l with|case1=>(simp only[List.nil_append,rawInt,codeAmong]at e;split at e;cases e;show .inr rfl;cases e)|case2 a t b u x rest d=>simp only[List.cons_append,codeAmong]at e⊢;split at e;rename_i hc;rw[qb hc];show .inl e;rename_i hc;rw[qa hc];show d h e|case3 l h1 h2=>show h.elim
section
variable{X:Cx}{qc:δ (ε×Obj)}{σ:St}{H:Hp}{s:ζ}
def Inv.tab{h':Γ}{tk:π}{P c:ε}{ps l:Array ξ}{oc fo:Obj}(I:Inv X qc σ H s)(j:H P=ϑ (.rJ ps))(hx:Heap.ExtBut P s.heap h')(h1:s.heap.objs.size<=c)(h2:c<h'.objs.size)(r:h'.get? c=ϑ oc)(hp:h'.get? P=ϑ (tabObj<|ps++l)): Inv X qc σ (upd (upd H P<|.rJ<|ps++l) c<|.l9 oc<|.own 0) {s with heap:=h'.push fo,toks:=tk}:=by
 have m:c≠P:=λz=>absurd (zu (I.aK.lt j)<|z ▸ h1)<|yG _;have h:H c=ϐ:=I.aK.fresh h1;have a:∀b,b≠P->b≠c->upd (upd H P<|.rJ<|ps++l) c (.l9 oc<|.own 0) b=H b:=λb t w=>by rw[ax w,ax t]
 have i:∀b o,H b=ϑ o->(∀q,o≠.rJ q)->b≠P:=λb o e z q=>by rw[q,j]at e;cases e;show z _ rfl
 have g:∀b,H b=ϐ->b≠P:=λb e q=>by rw[q,j]at e;cases e
 have lt:∀b o,s.heap.get? b=ϑ o->b≠c:=λb o e=>zD<|zu (zA e) h1;show I.un (h':=h'.push fo) {λb o e n x x=>za _<|hx b o (g b n) e,λb o e n x x=>{o.slots,za _<|hx b o (g b n) e},λb o e n x=>by rw[a b (g b n)<|lt b o e];show n,λb o e x=>?_,λb xs e=>by rw[a b (i b _ e λx=>nofun)<|aA e h];show e,λb o u e=>by rw[a b (i b _ e λx=>nofun)<|aA e h];show e,λb q e=>?_} λb u e=>?_;by_cases hb:b=P;rw[hb];show{_,za _ hp};show{o,za _<|hx b o hb e};by_cases hb:b=P;subst hb;rw[j]at e;cases e;show{l,by rw[ax<|Ne.symm m,aD]};show{#[],by rw[a b hb<|aA e h,e];simp};by_cases p:b=c;subst p;rw[aD]at e;cases e;show{za _ r,_,za _ r};rw[ax p]at e;by_cases hb:b=P;subst hb;rw[aD]at e;cases e;show za _ hp;rw[ax hb]at e;show(I.aK b u e).nr (λd v hd q=>?_) (λd q=>by rw[a d (i d _ q λx=>nofun)<|aA q h];show q) λd xs q=>by rw[a d (i d _ q λx=>nofun)<|aA q h];show q
 rcases hd with rfl|hd;show za _<|hx d v hb q;show za _<|hx d v (i d _ hd λx=>nofun) q
def Inv.FF(I:Inv X qc σ H s)(ho:s.heap.get? f=ϑ o)(hn:H f=ϐ)(A:Pk X qc f)(d:∀v,o.data≠.cell v):Inv X (qc++[(f,o)]) σ H s:=by show{I.ok,I.os,I.bare,I.base,I.loc,I.cell,I.free,I.eP,λp hp=>?_,I.aK,I.len};rcases zP.mp hp with hp|hp;show I.pin p<|yj _ hp;rcases zP.mp hp with hp|hp;show I.pin p<|zJ _ hp;rw[zE.mp hp];show⟨ho,hn,A.loc,A.fs,d⟩
structure Xy(X:Cx)(qc:δ (ε×Obj))(σ:St)(H H':Hp)(P:ε)(q:ρ)(params:Arguments)(body:Δ)(scope:Scope)(u:ξ)(s':ζ)(f:ε)(pm cv nh:ξ):η where
 u:u=.ref f
 inv:Inv X (qc++[(f,Bl X q params body scope pm cv nh)]) σ H' s'
 code:∃c o vs t,cv=.ref c/\H' c=ϑ (.l9 o<|.own 0)/\o.data=.fields vs/\vs[1]?=some (.str q t)
 same:∀b,H' b=H b\/(b=P/\∃ps,H' b=ϑ (.rJ ps)/\Ft H' q ps)\/(H b=ϐ/\∃o,H' b=ϑ (.l9 o<|.own 0))
def Bo{M:Model}{A:ϕ}{E:ξ->ζ->η}{N:δ ρ}{src:δ<|θ π}{scope:Scope}{params:Arguments}{body:Δ}{pos:Pos}{c P:ε}{q:ρ}{ps:Array ξ}{Q:ξ->ζ->η}(I:Inv X qc σ H s)(S:bx X N src scope)(F:X.env.code=.ref c)(mk:Mkr X.K X.mg X.base c P) (i:H P=ϑ (.rJ ps)) (ok:Ft H q ps) (hq:X.env.qual ++ "<lambda>"= q) (Ku:defaultsOf params X.env=([],[])) (h:∀u s' H' f pm cv nh,Xy X qc σ H H' P q params body scope u s' f pm cv nh->Q u s'):wpAny M A (eval (.Lambda params body scope pos) X.env) Q E s:=by
 have L:closureFor scope X.env=pure (clOf X.env.cells scope.names):=iz λy hy hf=>I.ok.has y.1<|S.Cv y hy hf;have j:s.heap.get? P=ϑ (tabObj ps):=I.aK P _ i;have hg:s.heap.Ns mainGlobals X.mg:=I.mod.glob.keeps I.bk;have O:=codeHd_of_K I.lS mk.hd;let⟨bm,B,b1,b2,b3,C,b5,U⟩:=mk.bm;have m:s.heap.get? bm=ϑ B:=I.bk _ _ b3;have w:mainGlobals≠P:=λz=>by let⟨o,es,ep,e,d,_⟩:=id hg;rw[z,j]at e;cases e;cases d
 have n:bm≠mainGlobals:=λz=>by let⟨o,es,ep,e,d,_⟩:=id hg;rw[<-z,m]at e;cases e;rw[U]at d;cases d
 have p:bm≠P:=λz=>by rw[z,j]at m;cases m;cases C
 have x:s.heap.BuiltinsAt X.mg P:=⟨bm,B,b1,b2,n,p,m,C,b5,U⟩;have a0:H P≠none:=by rw[i];nofun
 show PySem.W.kla_eval Ku ?_;rw[hq];cases hf:codeAmong pos ps.toList with|none=>(show PySem.W.kla_makeFunction L I.ok.glob hg F O j ok.1 hf w x λg nh h' tk hx h1 h2 hr hp=>?_;let⟨c2,oc,vs,t,e2,YZ,hd,hv⟩:=hr;cases e2;have J:=I.tab (tk:=tk) (fo:=Bl X q params body scope ((X.mg "__name__").getD .none) (.ref g) nh) i hx h1 h2 YZ hp;have Z:g≠P:=λz=>absurd (zu (I.aK.lt i)<|z ▸ h1)<|yG _;have G:H g=ϐ:=I.aK.fresh h1;have fresh:∀b,h'.objs.size<=b->upd (upd H P<|.rJ<|ps++#[rawInt pos.line,rawInt pos.col,.ref g]) g (.l9 oc<|.own 0) b=ϐ:=λb hb=>(by have R:s.heap.objs.size<=b:=zH (zH h1<|yU h2) hb;rw[ax<|yw<|zu h2 hb,ax<|yw<|zu (I.aK.lt i) R];show I.aK.fresh R);have a:s.heap.objs.size<=h'.objs.size:=zH h1<|yU h2;show h _ _ _ h'.objs.size _ _ _ {rfl,J.FF (zo _ rfl) (fresh _<|zj _) (I.Zu a) (λv z=>nomatch z),⟨g,oc,vs,t,rfl,aD,hd,hv⟩,λb=>?_};by_cases r:b=g;subst r;show .inr<|.inr ⟨G,oc,aD⟩;by_cases hb:b=P;subst hb;show .inr<|.inl {rfl,_,by rw[ax r,aD],?_,λp2 cv e=>?_};rw[Array.toList_append];show TriplesOk_snoc _ _ _ _ ok.1;rw[Array.toList_append]at e;rcases DZ _ ok.1 e with e|e;let⟨d,o,ws,t2,Y,l,z3⟩:=ok.2 p2 cv e;show{d,o,ws,t2,Y,by rw[ax<|aA l G,ax λz=>by rw[z,i]at l;cases l];show l,z3};show⟨g,oc,vs,t,e,aD,hd,hv⟩;show .inl<|by rw[ax r,ax hb])|some cv=>show PySem.W.kla_makeFunctionHit L I.ok.glob hg F O j ok.1 hf x λnh h' tk hk a=>?_;have J:Inv X qc σ H {s with heap:=h'.push<|Bl X q params body scope ((X.mg "__name__").getD .none) cv nh,toks:=tk}:=I.kept λb u e=>za _<|hk b u e;show h _ _ _ h'.objs.size _ _ _ {rfl,J.FF (zo _ rfl) (I.aK.fresh a) (I.Zu a) (λv z=>nomatch z),ok.2 pos cv hf,λb=>.inl rfl}
end
def Xz:D->D->η|.int a,.int b=>a<b|.str a,.str b=>a.cps.toList<b.cps.toList|_,_=>False
def Bp(ks:δ D):Prop:=(∃zs:δ ρ,ks=zs.map D.str)\/∃ns:δ ν,ks=ns.map D.int
structure R7(b:χ)(key:π->D)(n:π)(g:π->π):η where
 lt:∀k,k<n->g k<n
 inj:∀i j,i<n->j<n->g i=g j->i=j
 ord:∀i j,i<j->j<n->(if b=ϱ then Xz (key<|g j) (key<|g i) else Xz (key<|g i) (key<|g j))\/(key (g i)=key (g j)/\g i<g j)
def Bq(b:χ)(P:ε)(q:ρ)(src:δ<|θ π)(te:TD)(σ:SD)(R:KD)(d:D)(S1:av):Prop:=∃(l:ε)(xs:δ D)(f:D->D),d=.ref l/\S1 l=ϑ (.lst xs)/\xs.length<64/\S1 P=ϑ (.tab q)/\Bp (xs.map f)/\(∀x,x∈xs->∀S',Sub S1 S'->∀Qk:KD,(∀S2,Sub S' S2->Qk (f x) S2)->te ((qD σ src).set 0<|some x) S' Qk Zf)/\∀g S2 p,R7 b (λj=>f<|xs.getD j .ay) xs.length g->Sub S1 S2->S2 p=ϐ->R (.ref p) (S2.set p<|.lst<|(List.range xs.length).map λk=>xs.getD (g k) .ay)
def Pm(b:χ)(P:ε)(q:ρ)(src:δ<|θ π)(tl te:TD):TD:=λσ S R Z=>tl σ S (λd S1=>Bq b P q src te σ R d S1) Z
def Kv(F:D->av->η):δ D->av->η|[d],S=>F d S|_,_=>False
def FG{F:D->av->η}{ds:δ D}{S:av}(h:Kv F ds S):∃d,ds=[d]/\F d S:=by match ds,h with|[d],h=>show⟨d,rfl,h⟩
theorem tU:∀{ss:δ ν}{a:δ ξ},Vals (ss.map V.int) a->IntsAre a ss|[],_,.nil=>.nil|z::ss,_,.cons r t=>by let⟨tk,rfl⟩:=r;show .cons z tk<|tU t
theorem tV:∀{us:δ ξ}{zs:δ ρ},StrsAre us zs->∀j,j<zs.length->jF strKind us j=(zs.getD j "").cps.toList|_,_,.cons z t h,0,_=>rfl|_,_,.cons z t h,j+1,hj=>by have:=tV h j (by simpa using hj);unfold jF at this⊢;rw[List.getD_cons_succ,List.getD_cons_succ];show this
theorem tW:∀{us:δ ξ}{zs:δ ν},IntsAre us zs->∀j,j<zs.length->jF intK us j=zs.getD j 0|_,_,.cons z t h,0,_=>rfl|_,_,.cons z t h,j+1,hj=>by have:=tW h j (by simpa using hj);unfold jF at this⊢;rw[List.getD_cons_succ,List.getD_cons_succ];show this
def Kw(h:StrsAre us zs):∀u∈us,∃x,strKind.keyOf u=ϑ x:=by induction h with|nil=>(intro u hu;cases hu)|cons z t h a=>intro u hu;rcases zl.mp hu with rfl|hu;show{_,rfl};show a u hu
def Kx(h:IntsAre us zs):∀u∈us,∃x,intK.keyOf u=ϑ x:=by induction h with|nil=>(intro u hu;cases hu)|cons z t h a=>intro u hu;rcases zl.mp hu with rfl|hu;show{_,rfl};show a u hu
def Ky{xs:δ D}{f:D->D}{j:π}(a:j<xs.length):(xs.map f)[j]?=some (f<|xs.getD j .ay):=by rw[zm,zL,zg a];rfl
theorem xO{K:Φ}{H:Hp}{ds:δ D}{xs:δ V}(h:RvAll K H ds xs)(g:π->π):∀(ns:δ π),(∀k∈ns,g k<ds.length)->RvAll K H (ns.map λk=>ds.getD (g k) .ay) (ns.map λk=>xs.getD (g k) .ay)|[],_=>bL|k::ns,hk=>by have Xx:=hk k zw;let⟨v,e,r⟩:=h.get<|zg Xx;show aZ ?_<|xO h g ns λk a=>hk k<|zh _ a;change Rv K H (ds.getD (g k) .ay) (xs.getD (g k) .ay);rw[zL,zg Xx,zL,e];show r
section
variable{K:Φ}{Y:Cx}{qc:δ (ε×Obj)}{τ:St}{H H2:Hp}{s:ζ}{N:δ ρ}{src:δ (θ π)}{scope:Scope}{params:Arguments}{body:Δ}{q p:ρ}{pm cv nh:ξ}{f l:ε}{te:TD}{b:χ}{kw:δ (ρ×ξ)}{k:π}
def Br{σ:SD}{S1:av}{xs:δ D}{a:D->D}{Q:VK}{R:KD}{E:ξ->ζ->η}(I:Inv Y (qc++[(f,Bl Y q params body scope pm cv nh)]) τ H s)(hK:Y.K=K)(XB:Y.calm=ϱ)(hr:cj k Y.A)(qF:∃c o vs t,cv=.ref c/\H c=ϑ (.l9 o<|.own 0)/\o.data=.fields vs/\vs[1]?=some (.str q t)) (CS:bx Y N src scope) (NK:N[0]?=some p) (hp:scope.names.lookup p=ϑ .local) (h0:src[0]?=some none) (NL:scope.isCoroutine=ϰ) (DY:scope.isGenerator=ϰ) (hb:∀cl pm cv nh u,bindArgs (kla_fn "<lambda>" q params body scope cl pm cv nh) {[u],[]}=pure [(p,u)]) (he:∀cv s H,DE K (UH Y N q scope f cv Y.A.in1.in1 s H) body te) (aB:gZ K H σ τ) (hS:Rs K S1 H) (hl:S1 l=ϑ (.lst xs)) (IY:xs.length<64) (kd:Bp<|xs.map a) (step:∀x,x∈xs->∀S',Sub S1 S'->∀Qk:KD,(∀d,Sub S' d->Qk (a x) d)->te ((qD σ src).set 0<|some x) S' Qk Zf) (hR:Cn K H R Q) (G:∀g d p,R7 b (λj=>a<|xs.getD j .ay) xs.length g->Sub S1 d->d p=ϐ->R (.ref p) (d.set p<|.lst<|(List.range xs.length).map λk=>xs.getD (g k) .ay)) (Zw:argsOk "sorted" {[.ref l],kw}) (Zx:∀x,argsOk "list.sort" {[.ref x],kw}) (ht:∀x,Builtin.«list.sort» {[.ref x],kw}=ksk_tree x (.ref f) b): wpAny (model Y.prog Y.w) Y.A (call (.builtin "sorted") [.ref l] kw) (EP Y qc τ Q) E s:=by
 subst hK;let⟨vs,hv,P⟩:=hS.lst hl;have O:vs.length=xs.length:=P.len;let⟨c,oc,ws,tk,Z,hc,vd,a0⟩:=qF;have drop:∀{u:ξ}{s':ζ},EP Y (qc++[(f,Bl Y q params body scope pm cv nh)]) τ Q u s'->EP Y qc τ Q u s':=λ⟨v,H',J,r,q⟩=>{v,H',{J.ok,J.os,J.bare,J.base,J.loc,J.cell,J.free,J.eP,λp hp=>J.pin p<|by rcases zP.mp hp with z|z;show yj _ z;show zJ _<|yj _ z,J.aK,J.len},r,q};have T:Kt Y (qc++[(f,Bl Y q params body scope pm cv nh)]) τ Y.A.in1.in1 f vs λi ks H'=>∃S',Sub S1 S'/\Rs Y.K S' H'/\Kp Y.K H H'/\RvAll Y.K H' ((xs.take i).map a) ks:=by rintro i x u ks s' H' more F ⟨S',sb,rs,kp,m⟩ hx ru;have hi:i<xs.length:=(by have:=(zf.mp hx).1;lia);let⟨v,e1,r1⟩:=P.get<|zg hi;rw[hx]at e1;cases e1;have po:=(F.pin (f,Bl Y q params body scope pm cv nh)<|zJ _<|yj _<|zJ _<|`d).1;have a1:s'.heap.CodeRec cv q:={c,oc,ws,tk,Z,(F.aK c _<|kp.f _ _ _ hc).1,vd,a0};show Ko (A:=Y.A.in1.in1) F CS NK hp h0 F.ok.frames (F.ok.hd XB) (by have:=hr.dp;change Y.A.depth<_;lia) ru po a1 NL DY (hb _ _ _ _ _) ((he cv s' H').of<|.none _ rfl) ?_;show{_,S',λkk d=>kk=a xs[i]/\Sub S' d,Zf,((aB.ts kp).pick src).set 0<|Rv.ts kp _ r1,rs,step _ (List.getElem_mem hi) S' sb _ λd h2=>⟨rfl,h2⟩,λkk d v2 H2 ⟨e2,Rf⟩ UM XD Ux=>?_,.f};subst e2;show{d,sb.trans Rf,XD,kp.trans Ux,?_};rw[show xs.take (i+1)=xs.take i++[xs[i]] by rw[List.take_add_one,zg hi];rfl,zQ];show(RvAll.ts Ux _ m).app<|aZ UM bL
 have w0:∃S',Sub S1 S'/\Rs Y.K S' H/\Kp Y.K H H/\RvAll Y.K H ((xs.take 0).map a) []:={S1,.refl _,hS,.refl _,by rw[List.take_zero];show bL};have OS:jf Y.K H l vs:=.of hv;rcases kd with⟨zs,B⟩|⟨zs,B⟩;have X:zs.length=xs.length:=by have:=congrArg List.length B;rw[zd,zd]at this;show this.symm
 have L:∀j,j<xs.length->a (xs.getD j .ay)=.str (zs.getD j ""):=λj n=>by have e1:=Ky (f:=a) n;rw[B,zm,zg<|`b]at e1;rw[zL (l:=zs),zg<|`b];show(zS e1).symm
 have C:∀ks us H',(∃S',Sub S1 S'/\Rs Y.K S' H'/\Kp Y.K H H'/\RvAll Y.K H' ((xs.take vs.length).map a) ks)->Vals ks us->StrsAre us zs:=λks us H' ⟨S',_,_,_,m⟩ hu=>by rw[O,yO,B]at m;rw[m.strs]at hu;show tR hu
 show yx (wF (κ:=strKind) (Q:=Q) (b:=b) strKind_oneLt I OS `b Zw Zx ht T w0 (λks us H' h y l1=>{Kw<|C ks us H' h y,λpM pN rest e=>keyKind_strs<|by rw[<-e];show C ks us H' h y}) λH' ks us g D h y l1 sr hD=>?_) (λu s' z=>drop z) λW W z=>z;have M:=C ks us H' h y;let⟨S',sb,rs,kp,m⟩:=h;rw[O]at sr⊢;show(hR.kp kp).new rs hD (λhp=>G g S' D {sr.lt,sr.inj,λi j kf n=>?_} sb hp)<|xO (RvAll.ts kp _ P) g _ λk hk=>sr.lt k<|zY.mp hk;have h1:=sr.lt i `b;have h2:=sr.lt j n;have:=sr.ord i j kf n;rw[tV M _<|`b,tV M _<|`b]at this;rw[L _ h1,L _ h2];rcases this with z|⟨S,U⟩;left;cases b with|false=>rw[qa ze]at z⊢;change(zs.getD (g i) "").cps.toList<(zs.getD (g j) "").cps.toList;show zI z|true=>rw[qb rfl]at z⊢;change(zs.getD (g j) "").cps.toList<(zs.getD (g i) "").cps.toList;show zI z
 show .inr {by rw[abS S],U};have X:zs.length=xs.length:=by have:=congrArg List.length B;rw[zd,zd]at this;show this.symm
 have L:∀j,j<xs.length->a (xs.getD j .ay)=.int (zs.getD j 0):=λj n=>by have e1:=Ky (f:=a) n;rw[B,zm,zg<|`b]at e1;rw[zL (l:=zs),zg<|`b];show(zS e1).symm
 have C:∀ks us H',(∃S',Sub S1 S'/\Rs Y.K S' H'/\Kp Y.K H H'/\RvAll Y.K H' ((xs.take vs.length).map a) ks)->Vals ks us->IntsAre us zs:=λks us H' ⟨S',_,_,_,m⟩ hu=>by rw[O,yO,B]at m;rw[m.ints]at hu;show tU hu
 show yx (wF (κ:=intK) (Q:=Q) (b:=b) Kq I OS `b Zw Zx ht T w0 (λks us H' h y l1=>{Kx<|C ks us H' h y,λpM pN rest e=>keyKind_ints<|by rw[<-e];show C ks us H' h y}) λH' ks us g D h y l1 sr hD=>?_) (λu s' z=>drop z) λW W z=>z;have M:=C ks us H' h y;let⟨S',sb,rs,kp,m⟩:=h;rw[O]at sr⊢;show(hR.kp kp).new rs hD (λhp=>G g S' D {sr.lt,sr.inj,λi j kf n=>?_} sb hp)<|xO (RvAll.ts kp _ P) g _ λk hk=>sr.lt k<|zY.mp hk;have h1:=sr.lt i `b;have h2:=sr.lt j n;have:=sr.ord i j kf n;rw[tW M _<|`b,tW M _<|`b]at this;rw[L _ h1,L _ h2];rcases this with z|⟨S,U⟩;left;cases b with|false=>rw[qa ze]at z⊢;change zs.getD (g i) 0<zs.getD (g j) 0;show zI z|true=>rw[qb rfl]at z⊢;change zs.getD (g j) 0<zs.getD (g i) 0;show zI z
 show .inr {by rw[S],U}
end
section
variable{K:Φ}{X:Cx}{N:δ ρ}{src:δ (θ π)}{scope:Scope}{params:Arguments}{e body:Δ}{q p x:ρ}{np pos lp kq kq2 cp:Pos}{ci:π}{tl te:TD}{k:π}{c P:ε}
theorem Xy.kp{qc:δ<|ε×Obj}{τ:St}{H H':Hp}{u:ξ}{s':ζ}{f:ε}{pm cv nh:ξ}{Y:Cx}(L:Xy Y qc τ H H' P q params body scope u s' f pm cv nh){ps:Array ξ}(a:H P=ϑ (.rJ ps)):Kp K H H':=.of λb o e=>by rcases L.same b with z|⟨z,_⟩|⟨z,_⟩;show .inl (by rw[z];show e);rw[z,a]at e;cases e;show .inr {λx=>nofun,λx x=>nofun};rw[z]at e;cases e
theorem Xy.rs{qc:δ<|ε×Obj}{τ:St}{H H':Hp}{u:ξ}{s':ζ}{f:ε}{pm cv nh:ξ}{Y:Cx}{S:av}(L:Xy Y qc τ H H' P q params body scope u s' f pm cv nh)(a:Rs K S H)(c:S P=ϑ (.tab q)):Rs K S H':=λb x hb=>by let⟨ps,g,_⟩:=a P _ c;have kp:Kp K H H':=L.kp g;rcases L.same b with z|⟨rfl,h,d,i⟩|⟨z,_⟩;show(a b x hb).keep (λo e=>by rw[z];show e) kp;rw[c]at hb;cases hb;show⟨h,d,i⟩;let⟨o,e,_⟩:=(a b x hb).has;rw[z]at e;cases e
def XF(J:X.env.code=.ref c)(mk:Mkr K X.mg X.base c P)(hr:cj k X.A)(a:bx X N src scope)(hl:DE K X e tl)(he:∀f cv s H,DE K (UH X N q scope f cv X.A.in1.in1 s H) body te)(hm:X.mg x=ϐ)(hv:bootBuiltins x=ϑ (.builtin "sorted")) (hq:ψ (X.env.qual ++ "<lambda>"= q) qQJ) (NK:ψ (N[0]?=some p) qQJ) (hp:ψ (scope.names.lookup p=ϑ .local) qQJ) (h0:ψ (src[0]?=some none) qQJ) (C:ψ (scope.isCoroutine=ϰ) qQJ) (DY:ψ (scope.isGenerator=ϰ) qQJ) (hb:ψ (∀cl pm cv nh u,bindArgs (kla_fn "<lambda>" q params body scope cl pm cv nh) {[u],[]}=pure [(p,u)]) qJ3) (Ku:ψ (defaultsOf params X.env=([],[])) qQJ) (hg:ψ (Gl X x) qQJ) (hn:ψ (x≠"__name__") qQZ) (jh:ψ ((x==("__debug__": ρ))=ϰ) qQZ) (g:ψ (backTo pos (starEach [e] X.env)=`j::backTo pos (starEach [] X.env)) qQJ) (o:ψ ((backTo pos<|starEach [e] X.env).any (·.1)=ϰ) qQJ) (G:ψ (isPlain e=ϱ) qQJ) (E:ψ (X.K=K) qQJ) (hC:ψ (X.calm=ϱ) qQJ): DE K X (.Call (.Name x np) [e] [{some "key",.Lambda params body scope lp,kq}] pos) (Pm false P q src tl te):=by subst E;show⟨λy=>?_⟩;rintro qc s τ H Q I ⟨σ,S,R,Z,n,M,t,hR,F⟩;show wpAny_Call_Name_kw<|fT I hg hm hv ?_ hn jh;show callWith_kw (bB (((ac hl an G).of y) pos qc s τ H (λvs H1=>∃ds S1,Kv (Bq false P q src te σ R) ds S1/\RvAll X.K H1 ds vs/\Rs X.K S1 H1/\Kp X.K H H1) I {σ,S,Kv<|Bq false P q src te σ R,Z,n,M,t,λds S1 vs H1 r i rs k1=>⟨ds,S1,r,i,rs,k1⟩,F}) λus s1 ⟨vs,H1,I1,z,ds,S1,r,i,rs,k1⟩=>?_) g o;let⟨d,rfl,l,xs,fD,rfl,U,B,j,kd,step,h⟩:=FG r;let⟨v,a0,rfl,Y,O⟩:=i.cons;cases O.nil;cases Y.ref;let⟨u,rfl,ru⟩:=vals1 z;cases ru;let⟨ps,m,aK⟩:=rs P _ j;show kws_cons<|Bo I1 ⟨a.kind,a.iA,a.loc,a.Cv,a.len,a.src⟩ J mk m aK hq Ku λw s2 H2 f pm cv nh L=>?_;show kws_nil ?_;cases L.u;have k2:Kp X.K H1 H2:=L.kp m;show Br L.inv rfl hC hr L.code ⟨a.kind,a.iA,a.loc,a.Cv,a.len,a.src⟩ NK hp h0 C DY hb (he f) ((n.ts k1).ts k2) (L.rs rs j) U B kd step (hR.kp<|k1.trans k2) h (ksk_s1 _ _) (λx=>ksk_l1 _ _) λx=>ksk_t1 _ _
def Pn(O:X.env.code=.ref c)(mk:Mkr K X.mg X.base c P)(hr:cj k X.A)(a:bx X N src scope)(hl:DE K X e tl)(he:∀f cv s H,DE K (UH X N q scope f cv X.A.in1.in1 s H) body te)(hm:X.mg x=ϐ)(hv:bootBuiltins x=ϑ (.builtin "sorted")) (hq:ψ (X.env.qual ++ "<lambda>"= q) qQJ) (NK:ψ (N[0]?=some p) qQJ) (hp:ψ (scope.names.lookup p=ϑ .local) qQJ) (h0:ψ (src[0]?=some none) qQJ) (G:ψ (scope.isCoroutine=ϰ) qQJ) (DY:ψ (scope.isGenerator=ϰ) qQJ) (hb:ψ (∀cl pm cv nh u,bindArgs (kla_fn "<lambda>" q params body scope cl pm cv nh) {[u],[]}=pure [(p,u)]) qJ3) (Ku:ψ (defaultsOf params X.env=([],[])) qQJ) (hg:ψ (Gl X x) qQJ) (hn:ψ (x≠"__name__") qQZ) (jh:ψ ((x==("__debug__": ρ))=ϰ) qQZ) (g:ψ (backTo pos (starEach [e] X.env)=`j::backTo pos (starEach [] X.env)) qQJ) (o:ψ ((backTo pos<|starEach [e] X.env).any (·.1)=ϰ) qQJ) (M:ψ (isPlain e=ϱ) qQJ) (C:ψ (X.K=K) qQJ) (hC:ψ (X.calm=ϱ) qQJ): DE K X (.Call (.Name x np) [e] [{some "key",.Lambda params body scope lp,kq},{some "reverse",.Constant (.bool true) ci cp,kq2}] pos) (Pm true P q src tl te):=by subst C;show⟨λy=>?_⟩;rintro qc s τ H Q I ⟨σ,S,R,Z,n,U,t,hR,F⟩;show wpAny_Call_Name_kw<|fT I hg hm hv ?_ hn jh;show callWith_kw (bB (((ac hl an M).of y) pos qc s τ H (λvs H1=>∃ds S1,Kv (Bq true P q src te σ R) ds S1/\RvAll X.K H1 ds vs/\Rs X.K S1 H1/\Kp X.K H H1) I {σ,S,Kv<|Bq true P q src te σ R,Z,n,U,t,λds S1 vs H1 r i rs k1=>⟨ds,S1,r,i,rs,k1⟩,F}) λus s1 ⟨vs,H1,I1,z,ds,S1,r,i,rs,k1⟩=>?_) g o;let⟨d,rfl,l,xs,fD,rfl,el,B,j,kd,step,h⟩:=FG r;let⟨v,a0,rfl,XG,Y⟩:=i.cons;cases Y.nil;cases XG.ref;let⟨u,rfl,ru⟩:=vals1 z;cases ru;let⟨ps,m,aK⟩:=rs P _ j;show kws_cons<|Bo I1 ⟨a.kind,a.iA,a.loc,a.Cv,a.len,a.src⟩ O mk m aK hq Ku λw s2 H2 f pm cv nh L=>?_;show kws_cons<|bB (ON (X:=y.cx) _ s2 τ H2 (λv H'=>v=.bl true/\H'=H2) L.inv ⟨rfl,rfl⟩) λw2 s3 ⟨v2,J,E,r3,e3,e4⟩=>?_;subst e3 e4;obtain rfl:w2=Value.bool true:=r3;show kws_nil ?_;cases L.u;have k2:Kp X.K H1 J:=L.kp m;show Br E rfl hC hr L.code ⟨a.kind,a.iA,a.loc,a.Cv,a.len,a.src⟩ NK hp h0 G DY hb (he f) ((n.ts k1).ts k2) (L.rs rs j) el B kd step (hR.kp<|k1.trans k2) h (ksk_s2 _ _ _) (λx=>ksk_l2 _ _ _) λx=>ksk_t2 _ _ _
end
section
variable{P:Ψ}{w:Ω}{K:Φ}{mg:ρ->θ ξ}{base:Γ}
def xK.okC{x qual:ρ}{st:Stmt}{f:ε}{fd:FuncData}{N ps:δ ρ}{k:π}{sp:lH}(F:xK K x qual st f fd)(S:g8 N ps<|ar st)(len:∀ds S R Z,sp ds S R Z->ds.length=ps.length) (j:∀(iL:ξ)(A:ϕ)(outer:δ Env)(s:ζ)(H:Hp)(E:XK)(ds:δ D)(S:av)(R:KD)(Z:KX),iL=fd.code->cj k (A.deeper<|envOfC qual (ar st) s.heap.objs.size f iL)->sp ds S R Z->∃t,Bg K (lT (gb P w mg) P w K mg base N qual (ar st) f iL A outer s H E) true (bK st) t/\t {nx:=λu S'=>Fo S'<|R .ay,rt:=λd S'=>Fo S'<|R d} (kE N ds) S λu C S'=>Fo S'<|Z C):bU P w K mg base (gb P w mg) (k+1) f fd ps (rV K sp):=by
 let⟨oc,od,dV,kV,doc,pm,an,iL,ct,QN,rfl,lk,p⟩:=F.ex;have B:ps.length<=N.length:=by have:=congrArg List.length S.pre;rw[yq]at this;lia
 show OV lk p S (by rintro vs H Q E ⟨ds,S',R,Z,v,_,h,_⟩;show by rw[v.len];show len _ _ _ _ h) λA outer s H vs Q E hr ⟨ds,S',R,Z,v,o,h,i,m⟩=>?_;let⟨t,n,q⟩:=j iL A outer s H E ds S' R Z rfl hr h;have L:dS (lT (gb P w mg) P w K mg base N qual (ar st) f iL A outer s H E) E:=wg;let y:Ev (lT (gb P w mg) P w K mg base N qual (ar st) f iL A outer s H E) true:={_,(lT (gb P w mg) P w K mg base N qual (ar st) f iL A outer s H E).xe,λu=>E,{λp2 τ H1 s1 e s' I h=>OZ L p2 τ H1 s1 e s' I h,λ_ p2 τ H1 s1 h' a cls args I hx l=>qz L I hx l,λu=>PassesOwn.leaving}};show{L2.Tl K (λu=>E) t,n.of y,kE N ds,S',_,λu C S'=>Fo S'<|Z C,?_,o,q,{by rintro σ S1 τ H1 ⟨g,sb,r⟩ a b c;show(i.kp c).now (b.sub sb) r kB,by rintro d S1 v H1 ⟨g,sb,r⟩ a b c;show i _ _ _ _ r a (b.sub sb) c,λu u u u z=>z.elim,λu u u u z=>z.elim},by rintro σ τ C S1 H1 ⟨g,sb,r⟩ a b c;show m C g H1 r (b.sub sb) c};unfold kE start;show(tO v).app ?_;rw[v.len];show tN _ _<|by rw[yk]
end
structure Bs(ts:δ ε)(H:Hp):η where
 all:∀b,H b=ϐ\/(∃o xs,H b=ϑ (.l9 o<|.lst xs))\/(b∈ts/\H b=ϑ (.rJ #[]))
 tab:∀b∈ts,H b=ϑ (.rJ #[])
def HL{P:Ψ}{w:Ω}{K:Φ}{mg mb:ρ->θ ξ}{CX:CZ}{k:π}{fa a:ε}{fd:FuncData}{x:ρ}{sp:Sp}{c:ζ}{vs:δ ξ}{ns:δ ν}{ts:δ ε} (KX:K.In c.heap) (S:c.heap.Ns mainGlobals mg) (hb:c.heap.Ns builtinsNs mb) (J:∀x:ρ,x≠"__name__"->mb x=bootBuiltins x) (L:c.heap.NoLimit) (I:Bm mg c.heap) (hg:c.gens=#[]) (p:∀b∈ts,c.heap.get? b=ϑ (tabObj #[])) (hC:∀b∈ts,isCodeTable c.heap b) (hN:∀b∈ts,K.lookup b=ϐ) (ha:c.heap.get? a=ϑ {cls:=.type "list",data:=.seq vs.toArray}) (hi:IntsAre vs ns) (hl:ns.length<=Ϙ) (hr:cj k callerA) (F:∀base:Γ,Bm mg base->K.In base->base.Ns mainGlobals mg->bU P w K mg base CX k fa fd [x] sp) (Z:∀(s:ζ) (u:ξ),BindsTo s fd {[u],[]} [(x,u)]) (Uk:∀H:Hp,Bs ts H->jf K H a (ns.map V.int)->sp [.ref a] H (λv f=>v=.bl true) λf f f=>False) (G:∀H e s',CX [] H c (λf f f=>False) e s'->False): codeAny (model P w) callerA (.call (.ref fa) {[.ref a],[]}) (λr s'=>r=.ok (.ret<|.bool true)/\OldK c.heap s'.heap/\s'.os=c.os/\AllBare s'.gens) c:=by
 have X:=wc hi;have M:=hi.length;have R:a∉ts:=λz=>by rw[p a z]at ha;cases ha
 have i:∀H:Hp,Bs ts H->jf K H a (ns.map V.int)->lQ P w H c.heap->(∀b,H b≠none->b=a\/b∈ts)->(H a≠none->K.lookup a=ϐ)->codeAny (model P w) callerA (.call (.ref fa) {[.ref a],[]}) (λr s'=>r=.ok (.ret<|.bool true)/\OldK c.heap s'.heap/\s'.os=c.os/\AllBare s'.gens) c:=by intro H O hS aK hA hK;have B:∀{b:ε}{o:Obj},c.heap.get? b=ϑ o->H b=ϐ->(vm c.heap H).get? b=ϑ o:=λe n=>Jc e n;have MO:∀{b:ε}{o:Obj}{es:Array DictEntry}{ep:π},c.heap.get? b=ϑ o->o.data=.dict es ep->H b=ϐ:=λ{b o es ep} e d=>(by cases q:H b with|none=>rfl|some u=>rcases hA b (by rw[q];simp) with e'|e';subst e';rw[ha]at e;cases e;have d':Data.seq vs.toArray _=Data.dict es ep:=d;cases d';rw[p b e']at e;cases e;cases d);have A:∀{b:ε}{m:ρ->θ ξ},c.heap.Ns b m->(vm c.heap H).Ns b m:=λ{b m} ⟨o,es,ep,e,d,r⟩=>{o,es,ep,B e<|MO e d,d,r};have t:K.In (vm c.heap H):=λb o e=>B (KX b o e) (by cases q:H b with|none=>rfl|some u=>rcases hA b (by rw[q];simp) with e'|e';subst e';rw[hK<|by rw[q];simp]at e;cases e;rw[hN b e']at e;cases e);have hM:Mod K mg (vm c.heap H):={t,A S,{mb,A hb,J},by let⟨mc,h1,h2⟩:=L;show{mc,A h1,h2}};have e0:AR P w K mg (vm c.heap H) callerA [] c H:={rfl,hM,λb o e=>Mv e,Nat.le_of_eq<|GR _ _,trivial,λb hb=>absurd (show b∈([]:δ ε) from hb)<|`d,aK,.of_eq hg};have E:Bm mg (vm c.heap H):=(by let⟨bm,C,b1,b2,b3,Q,b5,Y⟩:=I;show{bm,C,b1,b2,B b3 ?_,Q,b5,Y};cases q:H bm with|none=>rfl|some u=>rcases hA bm (by rw[q];simp) with e'|e';rw[e',ha]at b3;cases b3;cases Y;rw[p bm e']at b3;cases b3;cases Q);show y4 ((F _ E t<|A S).run callerA [] c H {[.ref a],[]} [.ref a] [.ref a] _ _ hr e0 (Z c<|.ref a) (.cons rfl .nil)<|Uk H O hS) λr s' h=>?_;cases r with|error e=>show(G H e s' h).elim|ok fl=>cases fl with|next=>show False.elim h|brk=>show False.elim h|cont=>show False.elim h|ret u=>let⟨v,H',os,bare,un,U,r',q⟩:=h;have q':v=.bl true:=q;subst q';obtain rfl:u=Value.bool true:=r';show{rfl,{λb o e=>?_,λb o e=>un.there b o e<|`d},os,bare};rcases O.all b with z|⟨C,xs,z⟩|⟨N,z⟩;show .inl<|un.keep b o e z (by intro z;show absurd (show b∈([]:δ ε) from z)<|`d) `d;have j:=un.gu b C _ z;let⟨e1,_⟩:=aK b _ z;let⟨e2,_⟩:=U b _ j;rw[e]at e1;cases e1;show .inl e2;let⟨more,j⟩:=un.gv b _ z;have e2:=p b N;rw[e]at e2;cases e2;show .inr<|.inl {hC b N,rfl,#[],more,rfl,by have:=U b _ j;show this}
 have y:∀(H:Hp),(∀b,b∈ts->H b=ϑ (.rJ #[]))->∀b u,b∈ts->H b=ϑ u->bj P w H c.heap b u:=λH h b u hb e=>by rw[h b hb]at e;cases e;show p b hb
 cases hk:K.lookup a with|some o=>(have e:=KX a o hk;rw[ha]at e;cases e;show i (λb=>if b∈ts then some (.rJ #[]) else none) {λb=>?_,λb hb=>qb hb} (.inr {_,vs.toArray,_,hk,rfl,rfl,rfl,by rw[zx,M];show hl,by simpa using X}) (λb u z=>?_) (λb z=>?_) λz=>absurd (qa R) z;by_cases hb:b∈ts;show .inr<|.inr {hb,qb hb};show .inl<|qa hb;by_cases hb:b∈ts;show y _ (λb hb=>qb hb) b u hb z;have l:=(qa hb).symm.trans z;cases l;by_cases hb:b∈ts;show .inr hb;show absurd (qa hb) z)|none=>show i (λb=>if b=a then some (.l9 {cls:=.type "list",data:=.seq vs.toArray}<|.lst<|ns.map V.int) else if b∈ts then some (.rJ #[]) else none) {λb=>?_,λb hb=>?_} (.inl<|.inr {{cls:=.type "list",data:=.seq vs.toArray},qb rfl}) (λb u z=>?_) (λb z=>?_) λf=>hk;by_cases hb:b=a;show .inr<|.inl {_,_,qb hb};by_cases g:b∈ts;show .inr<|.inr {g,(qa hb).trans<|qb g};show .inl<|(qa hb).trans<|qa g;have:b≠a:=λz=>R<|z ▸ hb;show(qa this).trans<|qb hb;by_cases hb:b=a;have l:=(qb hb).symm.trans z;cases l;subst hb;show{ha,by rw[zd];show hl,vs,_,X,ha};have l:=(qa hb).symm.trans z;by_cases g:b∈ts;have j:=(qb g).symm.trans l;cases j;show p b g;have j:=(qa g).symm.trans l;cases j;by_cases hb:b=a;show .inl hb;by_cases g:b∈ts;show .inr g;show absurd ((qa hb).trans<|qa g) z
theorem FI:∀{K:Φ},b∉K.map (·.1)->K.lookup b=ϐ|[],_=>rfl| (a,o)::K,h=>by rw[zK,zl,not_or]at h;rw[zW,show(b==a)=ϰ from beq_false_of_ne h.1];show FI h.2
theorem NO{K:Params->Φ}{a:δ ε}{e:∀P,a=(K P).map (·.1)}{ts:δ ε}{w:Ω}{h:Γ}(_:(PySem.W.kmHook K a e ts).says w h)(d:∀b∈ts,b∉a):∀b∈ts,(K w.params).lookup b=ϐ:=λb hb=>FI<|by rw[<-e];show d b hb
def Kz{l:PySem.W.OpenLaw}{n k:π}{q:Ψ}{loose:δ ρ}{C:(ρ->θ ξ)->Γ->η}{p:Ω->Γ->η}{d:DefRec}{K:Params->Φ}{CX:CZ}{x:ρ}{ts:δ ε} (hn:l.most=ϑ n) (I:n<=Ϙ) (r:d.params.defaults=[]) (hr:cj k callerA) (J:∀(w:Ω)(h:Γ),p w h->(K w.params).In h) (A:∀(w:Ω)(h:Γ),p w h->∀b∈ts,h.get? b=ϑ (tabObj #[])) (hN:∀(w:Ω)(h:Γ),p w h->∀b∈ts,(K w.params).lookup b=ϐ) (F:∀(w:Ω)(mg:ρ->θ ξ)(fa:ε)(h:Γ),(K w.params).In h->h.Ns mainGlobals mg->mg d.name=ϑ (.ref fa)->∃(fd:FuncData)(sp:Sp),(∀b∈ts,∃c,codeHdIn (K w.params) c b=ϱ)/\(∀(s:ζ)(u:ξ),BindsTo s fd {[u],[]} [(x,u)])/\(∀base:Γ,Bm mg base->(K w.params).In base->base.Ns mainGlobals mg->bU l.prog w (K w.params) mg base CX k fa fd [x] sp)/\∀(H:Hp)(a:ε)(ns:δ ν),ns.length<=n->Bs ts H->jf (K w.params) H a (ns.map V.int)->sp [.ref a] H (λv Z=>v=.bl true) λZ Z Z=>False) (t:∀(H:Hp)(s:ζ)(e:ξ)(s':ζ),CX [] H s (λZ Z Z=>False) e s'->False): PySem.W.WalkO q loose C p l.row.toRowW d [] (λf vs=>PySem.call f vs):=by show Att.AZ hn r λw dY B mg mb fa o pm cd doc a vs ns G Y ho hd R Q y j i hg=>?_;have KX:=J w _ Y;let⟨fd,sp,L,hb,E,O⟩:=F w mg fa _ KX G.T.g Q;have m:=A w _ Y;show HL KX G.T.g G.T.b G.T.builtins G.T.nolimit G.T.bmain hg m (λb z=>by let⟨c,N⟩:=L b z;show((codeHd_of_K KX N).tab<|m b z).isCodeTable) (hN w _ Y) y j (zH i I) hr E hb (λH M P=>O H a ns i M P) λH e s'=>t H B e s'
namespace Rt
def own:Manifest.owners.lookup (String.ofList ['d','e','s','r','e','v','e','r'].reverse)=ϑ Manifest.sig_reversed:=by kernel_rfl
theorem nL:Slot "reversed" "__next__" "reversed.__next__":=.of (owner:="reversed") (n:="__next__") (by rw[typeLookup_type,builtinLookup_eq_fast];kernel_rfl) `c `c `c (by first|show .inl `c|show .inr `c)<|by rw[isSubtype_type];kernel_rfl
theorem FJ:entryFor table "reversed.__next__"= some Builtin.«reversed.__next__»:=entryFor_of_tree<|by kernel_rfl
def FK(a:ξ):argsOk "reversed.__next__" {[a],[]}:=by unfold argsOk;rw[signature?_of (id:="reversed.__next__") (n:=['_','_','t','x','e','n','_','_']) (o:=['d','e','s','r','e','v','e','r']) (by kernel_rfl) own];kernel_rfl
theorem FL:Slot "reversed" "__iter__" "reversed.__iter__":=.of (owner:="reversed") (n:="__iter__") (by rw[typeLookup_type,builtinLookup_eq_fast];kernel_rfl) `c `c `c (by first|show .inl `c|show .inr `c)<|by rw[isSubtype_type];kernel_rfl
def NP(a:ξ):argsOk "reversed.__iter__" {[a],[]}:=by unfold argsOk;rw[signature?_of (id:="reversed.__iter__") (n:=['_','_','r','e','t','i','_','_']) (o:=['d','e','s','r','e','v','e','r']) (by kernel_rfl) own];kernel_rfl
theorem NQ:entryFor table "reversed.__iter__"= some Builtin.«dict_keyiterator.__iter__»:=entryFor_alias (id':="dict_keyiterator.__iter__") (by kernel_rfl) (by first|rfl|decide +kernel|(unfold String.splitOn;simp +decide [String.splitOnAux])) `c<|by kernel_rfl
theorem NR:Slot "reversed" "__init__" "object.__init__":=.of (owner:="object") (n:="__init__") (by rw[typeLookup_type,builtinLookup_eq_fast];kernel_rfl) `c `c `c (by first|show .inl `c|show .inr `c)<|by rw[isSubtype_type];kernel_rfl
theorem called:TypeCalled "reversed" "reversed.__new__" "object.__init__":={`c,`c,{_,_,F.mro_reversed},F.made_reversed,`c,by rw[isSubtype_type];kernel_rfl,NR}
def R9:typeLookup (.type "tuple") "__reversed__"= pure none:=by rw[typeLookup_type,builtinLookup_eq_fast];kernel_rfl
def FN:typeLookup (.type "tuple") "__getitem__"= pure (some<|.builtin "tuple.__getitem__"):=by rw[typeLookup_type,builtinLookup_eq_fast];kernel_rfl
def NS:isSubtype (.type "tuple") (.type "dict")=pure false:=by rw[isSubtype_type];kernel_rfl
end Rt
noncomputable def Bt(l:ε)(i:ν):Obj:={cls:=.type "reversed",data:=.fields #[.ref l,rawInt i]}
def tX(h:Γ)(a l:ε)(i:ν):Prop:=∃o,h.get? a=ϑ o/\o.cls=.type "reversed"/\o.data=.fields #[.ref l,rawInt i]
section
variable{prog:Ψ}{w:Ω}{A:ϕ}{E:ξ->ζ->η}{s:ζ}
def tX.typeIs(x:tX s.heap a l i):s.TypeIs (.ref a) "reversed":=by let⟨o,ho,c,_⟩:=x;show⟨o,ho,c⟩
def tX.keep(x:tX h a l i)(e:∀o,h.get? a=ϑ o->h'.get? a=ϑ o):tX h' a l i:=by let⟨o,ho,r⟩:=x;show{o,e _ ho,r}
def R_(hl:IsTup s.heap l items)(hz:items.size<=Ϙ)(h:Q₁ (.ref s.heap.objs.size) {s with heap:=s.heap.push<|Bt l<|(items.size:ν)-1,toks:=s.toks+1+1}): codeAny `n A (.call (.builtin "reversed.__new__") {[.type "reversed",.ref l],[]}) (wants Q₁ E) s:=by
 show codeAny_of_tree ?_;change wpAny _ A.in1 (do checkBuiltinCall "reversed.__new__" {[.type "reversed",.ref l],[]};again (.builtin "reversed.__new__" {[.type "reversed",.ref l],[]})) _ _ s;show zb<|xb (F.newCall_reversed_1 _)<|zr {plainId_quiet F.plain_reversed_new _,yT F.entry_reversed_new ?_};rw[Around.under_plainId F.plain_reversed_new _];unfold Builtin.«reversed.__new__»;show zb<|xb (newClass_reversed _) ?_;show zb<|xb (a:=()) (by first|rfl|kernel_rfl)<|zb<|xb (a:=()) (by first|rfl|kernel_rfl) ?_;show zb<|wpAny_specialOf hl.typeIs Rt.R9 ?_;show zb<|zb<|wpAny_isInstance hl.typeIs Rt.NS<|zb<|wpAny_specialOf hl.typeIs Rt.FN ?_;change wpAny _ _ (if (["tuple.__getitem__","str.__getitem__","bytes.__getitem__","bytearray.__getitem__","memoryview.__getitem__","numpy.ndarray.__getitem__","sqlite3.Row.__getitem__"]:δ String).contains "tuple.__getitem__"= true then pure true else _) _ _ _;rw[qb<|`c];show zr ?_
 change wpAny _ _ (do
     let c <-call (Value.builtin "len") [Value.ref l]
     let __x <-asInt? c
     match __x with
      |some n=>do
       let c <-Builtin.SmallTypes.newRecord (Value.type "reversed") [Value.ref l,rawInt (n-1)]
       ret c
      |x=>unsupported "internal:reversed.__new__") _ _ _
 show zb<|len_tuple hl (by rw[yg]at hz;lia) ?_;show zb<|xb (a:=some ((items.size:π):ν)) rfl ?_;show zb (m:=newObj (.type "reversed")<|.fields #[.ref l,rawInt<|((items.size:π):ν)-1])<|ym<|zr h
def NT(hl:IsTup s.heap l items)(hz:items.size<=Ϙ)(h:Q (.ref s.heap.objs.size) {s with heap:=s.heap.push<|Bt l<|(items.size:ν)-1,toks:=s.toks+1+1}): wpAny `n A (call (.type "reversed") [.ref l]) Q E s:=by show callType_codes Rt.called (F.typeCall_reversed_1 _) F.entry_object_init (Q₁:=λobj a=>a.TypeIs obj "reversed"/\Q obj a) (R_ hl hz {{_,zo _ rfl,rfl},h}) λobj a c=>?_;show{c.1,F.args_object_init_2 obj _,object_init_meets Rt.called.init.lookup Rt.called.made `a prog w A.in1 _ a ⟨c.1,rfl,c.2⟩}
def sqx(h:k<n):seqIndex? ((k:π):ν) n=ϑ k:=by have e:(if ((k:π):ν)<0 then ((k:π):ν)+(n:ν) else ((k:π):ν))=((k:π):ν):=qa `b;unfold seqIndex?;dsimp only;rw[e,qb<|by simp;lia];rfl
def NU{it l:ε}{i:π}{items:Array ξ}{x:ξ}{Q:θ ξ->ζ->η}(c:tX s.heap it l (i:ν))(hl:IsTup s.heap l items)(hz:items.size<=Ϙ)(hx:items[i]?=some x) (d:∀h' tk,tX h' it l ((i:ν)-1)->Heap.SameBut it s.heap h'->Q (some x) {s with heap:=h',toks:=tk}):wpAny `n A (pyNext<|.ref it) Q E s:=by let⟨o,ho,e,hd⟩:=id c;have hi:i<items.size:=(Array.getElem?_eq_some_iff.mp hx).1;unfold pyNext;show zb<|wpAny_attempt<|wpAny_callSpecial?_slot (name:=Str.ofString "__next__") c.typeIs Rt.nL<|yN Rt.nL c.typeIs Rt.FJ ?_<|Rt.FK _;unfold Builtin.«reversed.__next__»;show zb<|xb (a:=(Value.ref it,[])) rfl<|zb<|yb ho hd (x:=.ref l) rfl<|zb<|yb ho hd (x:=rawInt (i:ν)) rfl ?_;change wpAny _ _ (if (i:ν)<0 then _ else _) _ _ s;rw[qa<|`b];change wpAny _ _ (specialOf (.ref l) "__getitem__" >>=_) _ _ s;show zb<|wpAny_specialOf hl.typeIs Rt.FN ?_;change wpAny _ _ (mkInt (i:ν) >>=_) _ _ s;show zb<|wpAny_mkInt ?_;show zb<|wpAny_attempt<|getItem_tuple (j:=i) hl `b (by rw[yg]at hz;lia) (sqx hi) hx ?_;show zb<|yb ho hd (x:=rawInt (i:ν)) rfl ?_;change wpAny _ _ (setField (.ref it) 1 (rawInt<|(i:ν)-1) >>=λz=>ret x) _ _ _;show zb<|y3 ho hd `d<|zr {x,rfl,zr<|d _ _ ?_<|yJ ..};show{_,yC _ ho<|Obj.isFreed_of_fields<|yF hd _,(Obj.cls_mapFields ..).trans e,by rw[yF hd];simp}
def Sa(g:A.handled=ϐ)(c:tX s.heap it l (-1))(i:∀h',Heap.ExtBut it s.heap h'->Q none {s with heap:=h'}):wpAny `n A (pyNext<|.ref it) Q E s:=by
 let⟨o,ho,n,hd⟩:=id c;unfold pyNext;show zb<|wpAny_attempt<|wpAny_callSpecial?_slot (name:=Str.ofString "__next__") c.typeIs Rt.nL<|yN Rt.nL c.typeIs Rt.FJ ?_<|Rt.FK _;unfold Builtin.«reversed.__next__»;show zb<|xb (a:=(Value.ref it,[])) rfl<|zb<|yb ho hd (x:=.ref l) rfl<|zb<|yb ho hd (x:=rawInt (-1)) rfl ?_;change wpAny _ _ (if (-1:ν)<0 then _ else _) _ _ s;rw[qb<|`a];show zb<|y7 ?_;have d:=yF hd (·.setIfInBounds 1 (rawInt (-1)));have h:=yC (Obj.mapFields (·.setIfInBounds 1 (rawInt (-1)))) ho<|Obj.isFreed_of_fields d;show zb (m:=setField (.ref it) 1 (rawInt (-1)) >>=λz=>setField (.ref it) 0 .none)<|zb<|y3 ho hd `d<|y3 h d `d ?_;have j:Heap.ExtBut it s.heap ((s.heap.update it (Obj.mapFields (·.setIfInBounds 1 (rawInt (-1))))).update it (Obj.mapFields (·.setIfInBounds 0 Value.none))):=λb u hb e=>by rw[yA _ _<|Ne.symm hb,yA _ _<|Ne.symm hb];show e
 show zb ?_;change wpAny _ _ (newExc (.type "StopIteration") [] >>=_) _ _ _;show zb ?_;simp only[newExc,newTuple];show zb<|ym ?_ (by size_fits);show zb (m:=firstArgMember _ _)<|xb (a:=Value.none) (by first|rfl|(simp only[firstArgMember];rfl)) ?_;show ym ?_ (by size_fits);simp only[raiseNew];show zb<|wpAny_handled ?_;first|rw[show A.in1.handled=ϐ from g]|rw[g]
 show zb<|zr<|wpAny_throw ?_;show zb<|wpAny_isInstance (T:="StopIteration") (b:=true) {_,zo _ rfl,rfl} isSubtype_stop ?_;show zr<|i _<|(j.push _).push _
def FO(a:tX s.heap it l i)(h:Q (.ref it) s):wpAny `n A (pyIter<|.ref it) Q E s:=by show wpAny_pyIter_slot a.typeIs Rt.FL<|yN Rt.FL a.typeIs Rt.NQ ?_<|Rt.NP _;change wpAny _ _ (ret<|.ref it) _ _ s;show zr !{"reversed",_,a.typeIs,Rt.nL.lookup,h}
end
end L2
namespace L2
open PySem PySem.Spec PyProof.Rows
def XJ(K:Φ)(a:ε)(n:π):It:={λi H=>∃xs x,iy K H a xs/\xs.length=n/\i<n/\xs[n-1-i]?=some x,λi H x H'=>H'=H/\∀xs,iy K H a xs->xs.length=n->xs[n-1-i]?=some x,λi z=>n<=i}
theorem NV{P:Ψ}{w:Ω}{K:Φ}{tg:Δ}(a it:ε)(n:π):Turn P w K tg (XJ K a n) [it] it (λi h=>i<=n/\tX h it a ((n:ν)-1-(i:ν))) where
 mem:=`d
 obj:=λi h st b hb=>by
  have e:b=it:=by simpa using hb
  subst e
  let⟨_,o,e,c,d⟩:=st
  show{o,e,λv z=>by rw[d]at z;cases z}
 keep:=λi h h' st k=>{st.1,st.2.keep λo e=>k it `d o e}
 item:=by
  intro X hP hw hK hc i qc s σ H E I hf st hg
  subst hP hw hK
  let⟨xs,x,hq,hn,hi,hx⟩:=hg
  let⟨az,rv,p,hz⟩:=I.tuple hq
  let⟨u,hu,ru⟩:=rv.get hx
  let⟨f0,f1,f2,f3,f4,f5⟩:=hf it<|`d
  have e:(n:ν)-1-(i:ν)=((n-1-i:π):ν):=`b
  have hit:=st.2
  rw[e]at hit
  show NU hit p (by rw[zx,<-rv.length];show hz) (x:=u) (by simpa using hu) λh' tk fR sb=>?_
  have I1:Inv X qc σ H {s with heap:=h',toks:=tk}:=I.turned (t':=tk) (λb o hb e=>(sb.2 b hb).trans e) f0 f1 f3 f4 f5
  let⟨o,e1,c,d⟩:=id fR
  show{u,rfl,vZ (s:={s with heap:=h',toks:=tk}) e1 c d `a {x,H,I1,ru,{rfl,λys hy y=>by rw[I.pB hy hq];show hx},{hi,?_},λb hb=>(hf b hb).1}}
  have e2:(n:ν)-1-((i+1:π):ν)=((n-1-i:π):ν)-1:=`b
  rw[e2];show fR
 done:=by
  intro X hP hw hK hc i qc s σ H E I hf st hg
  subst hP hw hK
  let⟨f0,f1,f2,f3,f4,f5⟩:=hf it<|`d
  have hg:n<=i:=hg
  have e:(n:ν)-1-(i:ν) = -1:=by have:=st.1;lia
  have hit:=st.2
  rw[e]at hit
  show Sa (I.ok.hd hc) hit λh' eb=>{rfl,I.turned (t':=s.toks) (λb o hb e=>eb b o hb e) f0 f1 f3 f4 f5}
 self:=λy y y y y st h=>FO st.2 h
def iRt(K:Φ)(ta:TA):TI:=λσ H R=>ta σ H λvs H1=>∃a xs,vs=[.ref a]/\iy K H1 a xs/\R (XJ K a xs.length) H1
def XM{X:Cx}{tg a:Δ}{ta:TA}{p pos:Pos}(hg:Gl X "reversed")(hm:X.mg "reversed"= none)(ha:PA X [a] ta)(n:starEach [a] X.env=[(false,eval a X.env)]):PI X tg (.Call (.Name "reversed" p) [a] [] pos) (iRt X.K ta):=by
 intro qc s σ H R I h;show Call_<|fT I hg hm boot_reversed<|yn (bB (ha pos qc s σ H _ I h) λus s1 ⟨vs,H1,c,i,m⟩=>?_) n rfl;let⟨l,xs,e,q,r⟩:=m;subst e;let⟨u,rfl,v⟩:=vals1 i;cases v;let⟨d,t,j,hz⟩:=c.tuple q;have hn:d.toArray.size=xs.length:=by rw[zx,t.length]
 show NT j (by rw[hn];show hz) ?_;rw[hn];have st:tX (s1.heap.push<|Bt l<|(xs.length:ν)-1) s1.heap.objs.size l ((xs.length:ν)-1-((0:π):ν)):={_,zo _ rfl,rfl,by change Data.fields _=Data.fields _;simp};have g:Inv X qc σ H1 {s1 with heap:=s1.heap.push<|Bt l<|(xs.length:ν)-1,toks:=s1.toks+1+1}:=c.kept (t':=s1.toks+1+1) λb o e=>za _ e;show FO (s:={s1 with heap:=s1.heap.push<|Bt l<|(xs.length:ν)-1,toks:=s1.toks+1+1}) st {_,_,_,_,H1,rfl,g,NV l s1.heap.objs.size xs.length,{yh _,st},λb hb=>?_,r};have hb:b=s1.heap.objs.size:=by simpa using hb
 subst hb;show c.pC (zj _)<|c.aK.fresh<|zj _
section
variable{K:Φ}{X:Cx}{tg:Δ}
def ab3(t:iJ):xJ:=λσ S R Z=>t σ S (λds S1=>∃es,ds=[.tup es]/\R {es.reverse,λz=>True} S1) Z
def irt{t:iJ}(hm:X.mg "reversed"= none)(ha:DA K X [a] t)(hg:ψ (Gl X "reversed") qQJ)(l:ψ (starEach [a] X.env=[(false,eval a X.env)]) qQJ)(m:ψ (X.K=K) qQJ):DI K X tg (.Call (.Name "reversed" p) [a] [] pos) (ab3 t):=by subst m;show⟨λy=>(XM (X:=y.cx) hg hm (ha.of y) l).mono <| by rintro τ H R ⟨σ,S,RI,Z,w,s,q,x,n⟩;show{σ,S,_,Z,w,s,q,by rintro ds S1 vs H1 ⟨es,e,j⟩ o s1 k1;subst e;let⟨v,rfl,r⟩:=o.one;let⟨a,xs,rfl,hq,t⟩:=r.tup;show{a,xs,rfl,.inl<|.of hq,x _ S1 _ H1 j (λi z H2 k2 s2 B=>?_) s1 k1};have c:iy X.K H2 a xs:=.inl<|.of<|k2.t _ _ hq;have g:=RvAll.ts k2 _ t;have hl:xs.length=es.length:=t.len;show{λd hd=>?_,λh=>by rw[yK]at h;change xs.length<=i;lia};have hi:i<es.length:=(by have:=(zf.mp hd).1;rwa [yK]at this);rw[List.getElem?_reverse hi]at hd;let⟨v,e1,r⟩:=g.get hd;rw[hl];show{⟨xs,v,c,hl,hi,e1⟩,λA H' ⟨e2,e3⟩=>?_};subst e2;have:=e3 xs c hl;rw[e1]at this;cases this;show{r,.refl _,s2},n}⟩
end
section
variable{K:Φ}{X:Cx}{pos:Pos}
def Se(tc:lW)(tb:jX):jX:=λDe σ S Z=>∃P:π->SD->av->η,(∃m,P m σ S)/\∀m σ S,P m σ S->tc σ S (λb S1=>if b=ϱ then tb {De with nx:=λak S'=>∃m',m'<m/\P m' ak S',ct:=λak S'=>∃m',m'<m/\P m' ak S',bk:=De.nx} σ S1 Z else De.nx σ S1) (Z σ)
theorem swh(z:DT K X c tc)(hb:Bg K X true body tb):DS K X true (.While c body [] pos) (Se tc tb):=
 ⟨λy=>(Jl (X:=y.cx) (y.ok.loop rfl) (z.of y)<|hb.of y).mono <| by rintro D τ H ⟨σ,S,De,Z,G,B,⟨P,⟨m,E⟩,a⟩,r,s⟩;show
  ⟨λm C H'=>∃σ S,gZ K H' σ C/\Rs K S H'/\P m σ S/\Kp K H H',⟨m,σ,S,G,B,E,.refl _⟩,by rintro m J H1 ⟨d,S1,g,s1,t,k1⟩;show⟨d,S1,_,Z d,g,s1,a m d S1 t,λb F H2 e s2 k2=>by
   cases b with
   |true =>
    rw[qb rfl]at e⊢
    show{λτ3 h=>∃σ S,gZ K h σ τ3/\Rs K S h/\(∃i,i<m/\P i σ S)/\Kp K H h,by rintro τ3 h ⟨I,A,x,w,⟨i,hm,p3⟩,k3⟩;show⟨i,hm,I,A,x,w,p3,k3⟩,?_}
    have kk:=k1.trans k2
    show{d,F,_,Z,g.ts k2,s2,e,{λo S5 τ5 v l j n p=>{o,S5,j,n,l,kk.trans p},r.rt.kp kk,r.nx.kp kk,λo S5 τ5 v l j n p=>{o,S5,j,n,l,kk.trans p}},s.kp kk}
   |false =>
    rw[qa ze]at e⊢
    show r.nx _ _ _ _ e (g.ts k2) s2<|k1.trans k2,(s.kp k1).at g⟩⟩⟩
def ab5(i:π)(te:TD):jX:=λDe σ S Z=>∃a:ν,σ[i]?=some (some<|.int a)/\te σ S (λd S1=>∃b:ν,d=.int b/\De.nx (σ.set i<|some<|.int<|a+b) S1) (Z σ)
theorem sau(hN:X.N.Nodup)(j:DE K X e te)(hi:ψ (X.N[i]?=some x) qQJ)(hx:ψ (Loc X.env.scope x) qJQ)(hf:ψ (X.fn x=ϱ\/X.env.scope.names.lookup x=ϑ .local) qJQ): DS K X b (.AugAssign (.Name x pos') .Add e pos) (ab5 i te):=⟨λy=>(Qu (X:=y.cx) hN hi hx (j.of y) Qv hf).mono <| by rintro D τ H ⟨σ,S,De,Z,g,h,⟨a,ha,t⟩,m,l⟩;let⟨v,e1,r⟩:=g.get ha;show{v,e1,σ,S,_,Z σ,g,h,t,by rintro d S1 u H1 ⟨c,e2,n⟩ o s1 k1;subst e2;show{a,c,r.int,o.int,m.nx _ _ _ _ n ((g.ts k1).set i<|aS _) s1 k1},l.at g}⟩
noncomputable def vD:V->D|.int i=>.int i|.str z=>.str z|.bl b=>.bl b|_=>.ay
noncomputable def KA:V->χ|.int _=>true|.str _=>true|_=>false
def XN(kvs:δ<|ρ×V)(ty:TD):TD:=λσ S R Z=>ty σ S (λy S1=>∃z,y=.str z/\R ((kvs.lookup z).elim .ay vD) S1) Z
theorem mgk{w:Ω}{ad:ε}{kvs:δ<|ρ×V}{o e:Δ}{apos aV:Pos}{ty:TD}(d:Mf w K ad kvs)(hf:(kvs.all λp=>KA p.2)=ϱ)(ho:∀Y:Cx,Y.env=X.env->Y.mg=X.mg->PE Y o (tC<|.ref ad))(l:DE K X e ty)(hw:ψ (X.w=w) qQJ)(j:ψ (X.K=K) qQJ)(m:ψ (M1 X o "get" apos e aV) qQ4): DE K X (.Call (.Attribute o "get" apos) [e] [] aV) (XN kvs ty):=⟨λy=>(JW (X:=y.cx) hw j (ho y.cx rfl rfl) (l.of y) ⟨m.base,m.IP,m.line,m.trees⟩).mono <| by rintro τ H Q ⟨σ,S,R,Z,c,a,q,g,h⟩;show⟨ad,kvs,rfl,d,σ,S,_,Z,c,a,q,by
 rintro s S1 v H1 ⟨z,e1,r⟩ n s1 k1;subst e1;show{z,n.str,g _ _ _ _ r ?_ s1 k1};have fl:∀v,kvs.lookup z=ϑ v->KA v=ϱ:=λv hv=>by have:=yp hv;show yr.mp hf _ this
 cases q:kvs.lookup z with|none=>show kB|some v=>have:=fl v q;cases v with|int i=>show aS i|str i=>show jj i|_=>(cases this),h⟩⟩
def XO:R2:=λx y H Q=>∃a z n,x=.ref a/\y=.int n/\H a=ϑ (.lst [z])/\0<=n/\n<=1000/\∀p,H p=ϐ->Q (.ref p) (upd H p<|.lst<|List.replicate n.toNat z)
def NW:gX X (binaryOp .Mult) XO:=by intro qc s σ H x y v u Q I g d h;let⟨a,z,n,rfl,rfl,ha,h1,h2,q⟩:=h;cases g;let⟨c,rfl⟩:=d;let⟨j,l,k,e,hl,ho⟩:=I.Ha ha;let⟨w,rfl,i⟩:=e.one;show wpAny_binaryOp_repeat_ref (T:="list") (U:="int") `a {_,ho,rfl} (λs'=>typeIs_int s' n c) noFill_list_mul F.fills_int_mul F.slot_int_rmul repeat_list F.slot_int_index.lookup<|y8 F.slot_int_rmul (typeIs_int s n c) F.entry_int_rmul (F.args_int_rmul_2 _ _) (int___rmul___int_list n c a [w].toArray k) {ho,rfl,{_,ho,rfl},?_};show y8 F.slot_list_mul {_,ho,rfl} F.entry_list_mul (F.args_list_mul_2 _ _) (AutoListH.list___mul___list_int_3 a [w].toArray k n c (by simp[Builtin.List.listFitsIndex];lia) (by simp;lia)<|by simp[Builtin.List.listTooLong,sizeLine];lia) {ho,?_};rw[qa<|`d,show(#[]:Array ξ)=([]:δ ξ).toArray from rfl,show[w].toArray=#[w] from rfl,xE,List.nil_append];show{.ref s.heap.objs.size,_,I.laid (t':=s.toks) (λt t q=>za _ q) (zj _) ?_,rfl,q _ I.fresh};show(show bj X.prog X.w _ _ _ (.lst<|List.replicate n.toNat z) from{by rw[yk];show Wj<|`b,_,_,tM i _,zo _ rfl})
end
section
variable{K:Φ}
def XQ:vB:=λx y S R=>∃a d n,x=.ref a/\y=.int n/\S a=ϑ (.lst [d])/\0<=n/\n<=1000/\∀p,S p=ϐ->R (.ref p) (S.set p<|.lst<|List.replicate n.toNat d)
def Sf:pK K (binaryOp .Mult) XQ:=by rintro X r hu qc s σ H x y v u Q I o g ⟨d,e,S,R,j,i,c,⟨a,d0,n,e1,e2,e3,h1,h2,h⟩,m⟩;subst e1 e2;let⟨zs,e4,t⟩:=c.lst e3;let⟨z,rfl,l⟩:=t.one;show NW qc s σ H _ _ v u Q I o g {a,z,n,j.ref,i.int,e4,h1,h2,λp hp=>m.new c hp (h p)<|DV l _}
end
theorem gK(hm:X.mg x=ϑ (.ref a))(hg:ψ (Gl X x) qQJ)(hd:ψ ((x==("__debug__": ρ))=ϰ) qQZ):∀Y:Cx,Y.env=X.env->Y.mg=X.mg->PE Y (.Name x pos) (tC<|.ref a):=λY e1 e2=>E7 (X:=Y) (u:=.ref a) (show Y.env.kindOf x=_ by rw[e1];show hg) (by rw[e2];show hm) rfl hd
structure Fb(K:Φ)(x q:ρ)(st:Stmt)(ps:δ ρ)(f:ε)(d:FuncData):η where
 F:xK K x q st f d
 b:Binds K d ps []
structure Po(K:Φ)(mg:ρ->θ ξ)(x:ρ)(st:Stmt)(ps:δ ρ)(f:ε)(d:FuncData):η extends Fb K x x st ps f d where
 k:keepIn K (.ref f)=ϱ
 m:mg x=ϑ (.ref f)
structure Pp(K:Φ)(c:ε)(x q:ρ)(st:Stmt)(ps:δ ρ)(f:ε)(d:FuncData):η extends Fb K x q st ps f d where
 e:Meth K c x f
abbrev Ok(P:Ψ)(w:Ω)(base:Γ){K:Φ}{mg:ρ->θ ξ}{x:ρ}{st:Stmt}{ps:δ ρ}{f:ε}{d:FuncData}(_:Po K mg x st ps f d)(k:π)(sp:lH):Prop:=bU P w K mg base (gb P w mg) k f d ps<|rV K sp
abbrev pP(P:Ψ)(w:Ω)(mg:ρ->θ ξ)(base:Γ){K:Φ}{c:ε}{x q:ρ}{st:Stmt}{ps:δ ρ}{f:ε}{d:FuncData}(_:Pp K c x q st ps f d)(k:π)(sp:lH):Prop:=bU P w K mg base (gb P w mg) k f d ps<|rV K sp
theorem fsc{N P:δ ρ}{sc:Scope}(a:ψ (sc.kind=.function/\sc.isCoroutine=ϰ/\sc.isGenerator=ϰ/\N.take P.length=P) qQ4)(b:ψ (N.Nodup/\(∀x∈P,sc.names.lookup x=ϑ .local\/sc.names.lookup x=ϑ .cell)/\∀y∈sc.names,y.2≠.free) qQ8):g8 N P sc:=⟨a.1,a.2.1,a.2.2.1,b.1,a.2.2.2,b.2.1,b.2.2⟩
section
variable{R:η}{K:Φ}{h:Γ}{mg:ρ->θ ξ}{od an:θ ε}{sl:Array (θ ξ)}{oc dV kV dc pm cd ct:ξ}{f da:ε}{Sh:θ ε}{dn:π}{Si:Array (θ ξ)}{c:ε}{tk:Tok}{d:FuncData}
theorem fn1(X:K.In h)(G:h.Ns mainGlobals mg)(x:ρ)(st:Stmt)(ps:δ ρ)(a:nsIn K mainGlobals x=ϑ (some<|.ref f))(l:K.lookup f=ϑ {oc,od,.func<|fnOf x x (b9 st) (bK st) (ar st) dV kV dc pm an cd ct,sl}) (e:codeIn K cd x=ϱ) (k:keepIn K (.ref f)=ϱ) (b:∀us:δ ξ,us.length=ps.length->bindArgs (fnOf x x (b9 st) (bK st) (ar st) dV kV dc pm an cd ct) {us,[]}=pure (ps.zip us)) (g:∀d,Po K mg x st ps f d->R):R:=g _ {{{_,_,_,_,_,_,_,_,_,_,rfl,l,e},.all b},k,mg_of X G a}
theorem fnl(X:K.In h)(G:h.Ns mainGlobals mg)(x:ρ)(st:Stmt)(ps:δ ρ)(a:nsIn K mainGlobals x=ϑ (some<|.ref f))(l:K.lookup f=ϑ {oc,od,.func<|fnOf x x (b9 st) (bK st) (ar st) dV kV dc pm an cd ct,sl}) (e:codeIn K cd x=ϱ) (k:keepIn K (.ref f)=ϱ) (b:∀us:δ ξ,us.length=ps.length->bindArgs (fnOf x x (b9 st) (bK st) (ar st) dV kV dc pm an cd ct) {us,[]}=pure (ps.zip us)) (g:∀d,d.code=cd->(∀(s:ζ)(us:δ ξ),us.length=ps.length->BindsTo s d {us,[]} (ps.zip us))->Po K mg x st ps f d->R):R:=g _ rfl (λs us h=>.of_eq<|b us h) {{{_,_,_,_,_,_,_,_,_,_,rfl,l,e},.all b},k,mg_of X G a}
theorem NX(C:rN K c)(x q:ρ)(st:Stmt)(ps:δ ρ)(a:findIn K (.ref c) x=ϑ (some<|.ref f))(i:isFn K (.ref f)=ϱ)(l:K.lookup f=ϑ {oc,od,.func<|fnOf x q (b9 st) (bK st) (ar st) dV kV dc pm an cd ct,sl}) (e:codeIn K cd q=ϱ) (k:keepIn K (.ref f)=ϱ) (b:∀us:δ ξ,us.length=ps.length->bindArgs (fnOf x q (b9 st) (bK st) (ar st) dV kV dc pm an cd ct) {us,[]}=pure (ps.zip us)) (g:∀d,Pp K c x q st ps f d->R):R:=g _ {{{_,_,_,_,_,_,_,_,_,_,rfl,l,e},.all b},a,i,k}
theorem fmd(C:rN K c)(x q:ρ)(st:Stmt)(ps:δ ρ)(a:findIn K (.ref c) x=ϑ (some<|.ref f))(i:isFn K (.ref f)=ϱ)(l:K.lookup f=ϑ {oc,od,.func<|fnOf x q (b9 st) (bK st) (ar st) (.ref da) kV dc pm an cd ct,sl}) (t:K.lookup da=ϑ {.type "tuple",Sh,.seq #[.none] dn,Si}) (e:codeIn K cd q=ϱ) (k:keepIn K (.ref f)=ϱ) (b:∀(s:ζ) (us:δ ξ),s.heap.get? da=ϑ {.type "tuple",Sh,.seq #[.none] dn,Si}->us.length=ps.length->BindsTo s (fnOf x q (b9 st) (bK st) (ar st) (.ref da) kV dc pm an cd ct) {us,[]} (ps.zip us)) (b2:∀(s:ζ) (us:δ ξ),s.heap.get? da=ϑ {.type "tuple",Sh,.seq #[.none] dn,Si}->us.length+1=ps.length->BindsTo s (fnOf x q (b9 st) (bK st) (ar st) (.ref da) kV dc pm an cd ct) {us,[]} (ps.zip<|us++[.none])) (g:∀d,Pp K c x q st ps f d->Binds K d ps [.none]->R):R:=g _ {{{_,_,_,_,_,_,_,_,_,_,rfl,l,e},λs us h hl=>by rw[yR]at hl⊢;show b s us (h _ _ t) hl},a,i,k} λs us h hl=>b2 s us (h _ _ t)<|by simpa using hl
theorem Bu(X:K.In h)(G:h.Ns mainGlobals mg)(x:ρ)(a:nsIn K mainGlobals x=ϑ none)(g:mg x=ϐ->R):R:=g<|PySem.W.mg_none_of X G a
theorem Pq(X:K.In h)(G:h.Ns mainGlobals mg)(x:ρ)(i:ν)(a:nsIn K mainGlobals x=ϑ (some<|.int i tk))(g:mg x=ϑ (.int i tk)->R):R:=g<|mg_of X G a
theorem XR(X:K.In h)(G:h.Ns mainGlobals mg)(x:ρ)(a:nsIn K mainGlobals x=ϑ (some<|.ref c))(l:K.lookup c=ϑ o)(g:mg x=ϑ (.ref c)->K.lookup c=ϑ o->R):R:=g (mg_of X G a) l
theorem Pr(X:K.In h)(G:h.Ns mainGlobals mg)(x:ρ)(a:nsIn K mainGlobals x=ϑ (some<|.ref c))(e:excIn K c L2.rn "ValueError.__new__"= true)(g:mg x=ϑ (.ref c)->excIn K c L2.rn "ValueError.__new__"= true->R):R:=g (mg_of X G a) e
theorem gvc(X:K.In h)(G:h.Ns mainGlobals mg)(x:ρ)(a:nsIn K mainGlobals x=ϑ (some<|.ref c))(pg:plainGet K c Str.empty=ϱ)(hd:hasDictIn K c=ϱ)(po:plainOver K c=ϱ)(sa:findIn K (.ref c) "__setattr__"= some (some<|.builtin "object.__setattr__"))(ms:makesIn K c=ϱ)(d:keepIn K (.ref c)=ϱ) (g:mg x=ϑ (.ref c)->rN K c->makesIn K c=ϱ->keepIn K (.ref c)=ϱ->R):R:=g (mg_of X G a) ⟨pg,hd,po,sa⟩ ms d
theorem Sj(C:rN K c)(x:ρ)(a:findIn K (.ref c) x=ϑ none)(g:findIn K (.ref c) x=ϑ none->R):R:=g a
def Sk{P:ε}(l:K.lookup c=ϑ o)(e:codeHdIn [(c,o)] c P=ϱ):codeHdIn K c P=ϱ:=by unfold codeHdIn at e⊢;rw[l];rw[show([(c,o)]:Φ).lookup c=ϑ o by simp]at e;show e
theorem gvm{P:ε}(X:K.In h)(e:d.code=.ref c)(o:K.lookup c=ϑ {oC,od,.fields vC,sl})(q:vC[11]?=some (.ref P))(a:codeHdIn [(c,{oC,od,.fields vC,sl})] c P=ϱ)(g:codeHdIn K c P=ϱ->R):R:=g<|Sk o a
end
section
variable{Q:δ ξ->η}
def ZA(h:Q [])(us:δ ξ)(e:us.length=0):Q us:=by cases us with|nil=>show h|cons a us=>cases e
def HM(h:∀a us,us.length=n->Q (a::us))(us:δ ξ)(e:us.length=n+1):Q us:=by cases us with|nil=>(cases e)|cons a us=>show h a us<|Nat.succ.inj e
theorem UN(h:∀a,Q [a]):∀us:δ ξ,us.length=1->Q us:=HM λa=>ZA<|h a
theorem ln2(h:∀a b,Q [a,b]):∀us:δ ξ,us.length=2->Q us:=HM λa=>UN<|h a
theorem UO(h:∀a b c,Q [a,b,c]):∀us:δ ξ,us.length=3->Q us:=HM λa=>ln2<|h a
theorem ZC(h:∀a b c d,Q [a,b,c,d]):∀us:δ ξ,us.length=4->Q us:=HM λa=>UO<|h a
theorem ZD(h:∀a b c d e,Q [a,b,c,d,e]):∀us:δ ξ,us.length=5->Q us:=HM λa=>ZC<|h a
theorem ln6(h:∀a b c d e f,Q [a,b,c,d,e,f]):∀us:δ ξ,us.length=6->Q us:=HM λa=>ZD<|h a
theorem ab9(h:∀a,Q [a])(us:δ ξ)(e:us.length+1=2):Q us:=UN h us<|Nat.succ.inj e
theorem ab_(h:∀a b,Q [a,b])(us:δ ξ)(e:us.length+1=3):Q us:=ln2 h us<|Nat.succ.inj e
end
section
variable{R:η}{K:Φ}{h:Γ}{mg:ρ->θ ξ}{X Y:ρ}{c d:ε}
theorem wG(_:K.In h)(_:mg X=ϑ (.ref c))(_:mg Y=ϑ (.ref d))(b:χ)(e:kitOne K (.ref c) (.ref d)=ϑ b)(g:kitOne K (.ref c) (.ref d)=ϑ b->R):R:=g e
theorem Pt(_:K.In h)(_:mg X=ϑ (.ref c))(_:mg Y=ϑ (.ref d))(e:mroIn K c (.ref d)=ϑ true)(g:mroIn K c (.ref d)=ϑ true->R):R:=g e
theorem ZE(_:K.In h)(_:mg X=ϑ (.ref c))(e1:findIn K (.ref c) "__getattribute__"= some (some<|.builtin "BaseException.__getattribute__"))(e2:findIn K (.ref c) "__getattr__"= some none)(e3:findIn K (.ref c) "__class__"= some (some<|.builtin "object.__class__"))(g:XA K c->R):R:=g ⟨e1,e2,e3⟩
end
section
variable{K:Φ}{X:Cx}{x:ρ}{st:Stmt}{ps:δ ρ}{f:ε}{fd:FuncData}{sp:lH}{e:Δ}{es:δ Δ}{p pos:Pos}
theorem bA{t:iJ}(T:Po K X.mg x st ps f fd)(F:bU X.prog X.w K X.mg X.base (gb X.prog X.w X.mg) k f fd ps<|rV K sp)(hr:cj k' X.A)(ha:DA K X (e::es) t)(a:ψ (k<=k') qJK) (hg:ψ (Gl X x) qQJ) (c:ψ ((x==("__debug__": ρ))=ϰ) qQZ) (h:ψ (starEach (e::es) X.env=`j::starEach es X.env) qQJ) (d:ψ ((backTo pos<|starEach es X.env).any (·.1)=ϰ) qQJ) (g:ψ (X.K=K) qQJ): DE K X (.Call (.Name x p) (e::es) [] pos) (Ka sp [] t):=cf (F.mono a) hr T.m T.k T.b d0 ha hg c h d g
end
theorem cj.u(r:cj k A):A.units+64<cLine:=r.units
end L2
namespace L2
open PySem PySem.Spec PyProof.Rows PySem.SeqAt
def isStrOf(z:ρ):ξ->χ|.str y _=>y==z|_=>false
end L2
namespace L2
open PySem PySem.Spec PyProof.Rows
section
variable{K:Φ}
def sz9{n:π}(h:n<=100000):n<=sizeLine:=by rw[yg];lia
def RvAll.thr(h:RvAll K H [a,b,c] vs):∃x y z,vs=[x,y,z]/\Rv K H a x/\Rv K H b y/\Rv K H c z:=by let⟨x,i,rfl,h1,h⟩:=h.cons;let⟨y,g,rfl,h2,h⟩:=h.cons;let⟨z,d,rfl,e,h⟩:=h.cons;rw[h.nil];show⟨x,y,z,rfl,h1,h2,e⟩
noncomputable def kF:δ D->δ D->δ D->δ D|x::xs,y::ys,z::zs=>.tup [x,y,z]::kF xs ys zs|_,_,_=>[]
theorem pQ:∀{xs ys zs:δ D},xs.length=ys.length->xs.length=zs.length->(kF xs ys zs).length=xs.length|[],_,_,_,_=>by rw[kF.eq_def]|x::xs,y::ys,z::zs,h,k=>congrArg Nat.succ<|pQ (Nat.succ.inj h)<|Nat.succ.inj k
theorem pR:∀{xs ys zs:δ D}{i:π}{d:D},(kF xs ys zs)[i]?=some d->∃x y z,xs[i]?=some x/\ys[i]?=some y/\zs[i]?=some z/\d=.tup [x,y,z]|x::xs,y::ys,z::zs,0,d,h=>{x,y,z,rfl,rfl,rfl,(zS h).symm}|x::xs,y::ys,z::zs,i+1,d,h=>pR (i:=i) h|[],_,_,i,d,h=>by rw[kF.eq_def]at h;simp at h|_::_,[],_,i,d,h=>by rw[kF.eq_def]at h;simp at h|_::_,_::_,[],i,d,h=>by rw[kF.eq_def]at h;simp at h
def Sm(t:iJ):xJ:=λσ S R Z=>t σ S (λds S1=>∃xs ys zs,ds=[.tup xs,.tup ys,.tup zs]/\xs.length=ys.length/\xs.length=zs.length/\R {kF xs ys zs,λz=>True} S1) Z
end
mutual
inductive Dr (S:av):D->PyData->η
 |ay:Dr S .ay .none
 |bl (b:χ):Dr S (.bl b) (.bool b)
 |int (i:ν):Dr S (.int i) (.int i)
 |str (z:ρ):Dr S (.str z) (.str z)
 |tup {ds:δ D}{ps:δ PyData} : XS S ds ps->Dr S (.tup ds) (.tuple ps)
 |ref {a:ε}{ds:δ D}{ps:δ PyData} : S a=ϑ (.lst ds)->XS S ds ps->Dr S (.ref a) (.list ps)
inductive XS (S:av):δ D->δ PyData->η
 |nil:XS S [] []
 |cons {d:D}{ds:δ D}{p:PyData}{ps:δ PyData} : Dr S d p->XS S ds ps->XS S (d::ds) (p::ps)
end
def mK:Stmt->ρ|.FunctionDef n _ _ _ _ _ _ _ _ _=>n|_=>Str.empty
def vG(s:Stmt):δ Str:=(b9 s).args.map λa=>a.arg
def HN(K:Φ)(mg:ρ->θ ξ)(top:π->Stmt)(f:π->ε)(d:π->FuncData)(l:δ π):Prop:=∀i∈l,Po K mg (mK<|top i) (top i) (vG<|top i) (f i)<|d i
def D0(K:Φ)(c:ε)(q:ρ)(cl:Stmt)(f:π->ε)(d:π->FuncData)(l:δ π):Prop:=∀i∈l,Pp K c (mK<|inClass cl i) (q++mK (inClass cl i)) (inClass cl i) (vG<|inClass cl i) (f i)<|d i
section
variable{K:Φ}{h:Γ}{mg:ρ->θ ξ}{od an:θ ε}{sl:Array (θ ξ)}{oc dV kV dc pm cd ct:ξ}{x:ε}{top:π->Stmt}{l:δ π}{c:ε}{q:ρ}{cl:Stmt}
def af(X:K.In h)(G:h.Ns mainGlobals mg)(i:π)(m:i∉l)(a:nsIn K mainGlobals (mK<|top i)=ϑ (some<|.ref x))(o:K.lookup x=ϑ {oc,od,.func<|fnOf (mK<|top i) (mK<|top i) (b9<|top i) (bK<|top i) (ar<|top i) dV kV dc pm an cd ct,sl}) (e:codeIn K cd (mK<|top i)=ϱ) (k:keepIn K (.ref x)=ϱ) (b:∀us:δ ξ,us.length=(vG<|top i).length->bindArgs (fnOf (mK<|top i) (mK<|top i) (b9<|top i) (bK<|top i) (ar<|top i) dV kV dc pm an cd ct) {us,[]}=pure ((vG<|top i).zip us)) (g:∃f d,HN K mg top f d l):∃f d,HN K mg top f d (i::l):=by show fn1 X G _ _ _ a o e k b λd0 F=>?_;let⟨f,d,A⟩:=g;show{λj=>if j=i then x else f j,λj=>if j=i then d0 else d j,λj c=>?_};by_cases z:j=i;subst z;dsimp only;rw[qb rfl,qb rfl];show F;dsimp only;rw[qa z,qa z];show A j<|(zl.mp c).resolve_left z
theorem af0:∃f d,HN K mg top f d []:={λz=>0,λz=>fnOf Str.empty Str.empty (b9<|.Pass {0,0,0,0}) [] (ar<|.Pass {0,0,0,0}) .none .none .none .none none .none .none,λz h=>nomatch h}
def afx{R:η}(_:K.In h)(_:h.Ns mainGlobals mg)(g:∃f d,HN K mg top f d l)(r:∀f d,HN K mg top f d l->R):R:=by let⟨f,d,A⟩:=g;show r f d A
def amx{R:η}(_:rN K c)(g:∃f d,D0 K c q cl f d l)(r:∀f d,D0 K c q cl f d l->R):R:=by let⟨f,d,A⟩:=g;show r f d A
def am(C:rN K c)(i:π)(m:i∉l)(a:findIn K (.ref c) (mK<|inClass cl i)=ϑ (some<|.ref x))(w:isFn K (.ref x)=ϱ)(o:K.lookup x=ϑ {oc,od,.func<|fnOf (mK<|inClass cl i) (q++mK (inClass cl i)) (b9<|inClass cl i) (bK<|inClass cl i) (ar<|inClass cl i) dV kV dc pm an cd ct,sl}) (e:codeIn K cd (q++mK (inClass cl i))=ϱ) (k:keepIn K (.ref x)=ϱ) (b:∀us:δ ξ,us.length=(vG<|inClass cl i).length->bindArgs (fnOf (mK<|inClass cl i) (q++mK (inClass cl i)) (b9<|inClass cl i) (bK<|inClass cl i) (ar<|inClass cl i) dV kV dc pm an cd ct) {us,[]}=pure ((vG<|inClass cl i).zip us)) (g:∃f d,D0 K c q cl f d l):∃f d,D0 K c q cl f d (i::l):=by show NX C _ _ _ _ a w o e k b λd0 F=>?_;let⟨f,d,A⟩:=g;show{λj=>if j=i then x else f j,λj=>if j=i then d0 else d j,λj h=>?_};by_cases z:j=i;subst z;dsimp only;rw[qb rfl,qb rfl];show F;dsimp only;rw[qa z,qa z];show A j<|(zl.mp h).resolve_left z
theorem am0:∃f d,D0 K c q cl f d []:={λz=>0,λz=>fnOf Str.empty Str.empty (b9<|.Pass {0,0,0,0}) [] (ar<|.Pass {0,0,0,0}) .none .none .none .none none .none .none,λz h=>nomatch h}
end
section
variable{K:Φ}{X:Cx}{x q:ρ}{st:Stmt}{ps:δ ρ}{C f:ε}{fd:FuncData}{sp:lH}{o e:Δ}{es:δ Δ}{apos pos:Pos}{k k':π}
theorem o_{t:iJ}(j:DE K X o ta)(c:rN K C)(T:Pp K C x q st ps f fd)(F:bU X.prog X.w K X.mg X.base (gb X.prog X.w X.mg) k f fd ps<|rV K sp)(hr:cj k' X.A)(ha:DA K X (e::es) t)(a:ψ (k<=k') qJK)
  (d:ψ (starEach (e::es) X.env=`j::starEach es X.env) qQJ) (g:ψ ((backTo pos<|starEach es X.env).any (·.1)=ϰ) qQJ)
  (h:ψ (eval (.Call (.Attribute o x apos) (e::es) [] pos) X.env=(do
   let ov <-eval o X.env
   standAt apos.atName
   let (f,first) <-holding [ov] (getMethod ov x pl)
   callWith pos f first (backTo pos<|starEach (e::es) X.env) (backToKw pos<|keywordEach [] X.env))) qQJ) (i:ψ (X.K=K) qQJ):
  DE K X (.Call (.Attribute o x apos) (e::es) [] pos) (Fv C x sp [] ta t):=Zd j c T.e (F.mono a) hr T.b d0 ha d g h i
theorem xQ(g:DE K X o ta)(c:rN K C)(T:Pp K C x q st ps f fd)(F:bU X.prog X.w K X.mg X.base (gb X.prog X.w X.mg) k f fd ps<|rV K sp)(hr:cj k' X.A)(a:ψ (k<=k') qJK)
  (h:ψ (eval (.Call (.Attribute o x apos) [] [] pos) X.env=(do
   let ov <-eval o X.env
   standAt apos.atName
   let (f,first) <-holding [ov] (getMethod ov x pl)
   callWith pos f first (backTo pos<|starEach [] X.env) (backToKw pos<|keywordEach [] X.env))) qQJ) (d:ψ (X.K=K) qQJ):
  DE K X (.Call (.Attribute o x apos) [] [] pos) (Fv C x sp [] ta JZ):=abw g c T.e (F.mono a) hr T.b d0 h d
end
section
variable{K:Φ}{X:Cx}
def XT:D->θ ν->θ ν->av->KD->Prop:=λx lo hi S R=>match x with|.ref a=>∃ds,S a=ϑ (.lst ds)/\∀p,S p=ϐ->R (.ref p) (S.set p<|.lst<|ck ds lo hi)|.lV ds=>∀p,S p=ϐ->R (.ref p) (S.set p<|.lst<|ck ds lo hi)|_=>False
def XU(w:X.K=K):Ul X (λx lo hi H Q=>∃d S R,Rv K H d x/\Rs K S H/\XT d lo hi S R/\Cn K H R Q):=by rintro qc s σ H x v l n lo hi sl Q I o i j r ⟨d,S,R,g,c,h,m⟩;subst w;cases d with|ref a=>(let⟨ds,e,h⟩:=h;let⟨xs,e1,t⟩:=c.lst e;show rP qc s σ H _ v l n lo hi sl Q I o i j r {a,xs,g.ref,.of e1,λp hp=>m.new c hp (h p)<|t.cut lo hi})|lV ds=>(let⟨a,xs,rfl,q,t⟩:=g.lV;show rP qc s σ H _ v l n lo hi sl Q I o i j r {a,xs,rfl,q.sq,λp hp=>m.new c hp (h p)<|t.cut lo hi})|_=>show h.elim
def aca(te:TD)(tl th:O7):TD:=λσ S R Z=>te σ S (λx S1=>tl σ S1 (λl c=>th σ c (λu a=>XT x l u a R) Z) Z) Z
theorem NY{e:Δ}{lo hi:θ Δ}{te:TD}{tl th:O7}{p2 pos:Pos}(m:DE K X e te)(hl:DO K X lo tl)(hu:DO K X hi th)(j:ψ (X.K=K) qQJ):DE K X (.Subscript e (.Slice lo hi none p2) pos) (aca te tl th):=
 ⟨λy=>(AV (X:=y.cx) (XU j) (m.of y) (hl.of y)<|hu.of y).mono <| by rintro τ H Q ⟨σ,S,R,Z,c,p,q,s,a⟩;show
  ⟨σ,S,_,Z,c,p,q,λd S1 x H1 i o s1 k1=>⟨σ,S1,_,Z,c.ts k1,s1,i,λl r H2 g s2 k2=>⟨σ,r,_,Z,c.ts<|k1.trans k2,s2,g,λu n v t h k3=>⟨d,n,R,Rv.ts (k2.trans k3) _ o,h,t,s.kp<|(k1.trans k2).trans k3⟩,a.kp<|k1.trans k2⟩,a.kp k1⟩,a⟩⟩
def acb:vB:=λx y S R=>match x,y with|.int i,.int j=>R (.int<|i+j) S|.str a,.str b=>a.length+b.length<=Ϙ/\R (.str<|a++b) S|.ref a,.ref b=>∃xs ys,S a=ϑ (.lst xs)/\S b=ϑ (.lst ys)/\xs.length+ys.length<=Ϙ/\∀p,S p=ϐ->R (.ref p) (S.set p<|.lst<|xs++ys)|_,_=>False
def du:pK K (binaryOp .Add) acb:=by rintro X o hu qc s σ H x y v u Q I l c ⟨d,e,S,R,i,g,a,h,j⟩;subst o;cases d<;>cases e<;>first|show False.elim h|show Jn qc s σ H x y v u Q I l c {_,_,i.int,g.int,j.now a h<|aS _}|show sR qc s σ H x y v u Q I l c {_,_,i.str,g.str,h.1,j.now a h.2<|jj _}|skip;let⟨xs,ys,e1,e2,hl,q⟩:=h;let⟨vs,h1,n⟩:=a.lst e1;let⟨ws,h2,m⟩:=a.lst e2;show Jx qc s σ H x y v u Q I l c {_,_,vs,ws,i.ref,g.ref,h1,h2,by rw[n.len,m.len];show hl,λp hp=>j.new a hp (q p)<|n.app m}
end
structure W(sp:lH)(ds:δ D)(S:av)(R:KD)(Z:KX):η where
 of:sp ds S R Z
section
variable{K:Φ}{X:Cx}
def dTc(t:lW):lW:=λσ S R Z=>∃P:χ->av->η,t σ S P Z/\∀b S',P b S'->R b S'
theorem acd{t:lW}(h:DT K X e t):DT K X e (dTc t):=⟨λy=>(h.of y).mono <| by rintro τ H Q ⟨σ,S,R,Z,d,c,⟨P,q,a⟩,g,i⟩;show{σ,S,P,Z,d,c,q,λb S1 H1 p s k=>g b S1 H1 (a b S1 p) s k,i}⟩
end
def XW(s:Stmt):δ Str:=((ar s).names.filter λp=>p.2==.local||p.2==.cell).map (·.1)
theorem cR(s:Stmt)(a:ψ ((ar s).kind=.function/\(ar s).isCoroutine=ϰ/\(ar s).isGenerator=ϰ/\(XW s).take (vG s).length=vG s) qQ4)(b:ψ ((XW s).Nodup/\(∀x∈vG s,(ar s).names.lookup x=ϑ .local\/(ar s).names.lookup x=ϑ .cell)/\∀y∈(ar s).names,y.2≠.free) qQ8):g8 (XW s) (vG s) (ar s):=fsc a b
section
variable{P:Ψ}{w:Ω}{K:Φ}{mg:ρ->θ ξ}{base:Γ}{x qual:ρ}{st:Stmt}{f:ε}{fd:FuncData}{N ps:δ ρ}{k:π}{sp:lH}
theorem xK.cy(F:xK K x qual st f fd)(S:g8 N ps<|ar st) (a:∀(iL:ξ)(A:ϕ)(outer:δ Env)(s:ζ)(H:Hp)(E:XK)(ds:δ D)(S:av)(R:KD)(Z:KX),cj k (A.deeper<|PyProof.Rows.envOfC qual (ar st) s.heap.objs.size f iL)->sp ds S R Z->∃t,Bg K (lT (gb P w mg) P w K mg base N qual (ar st) f iL A outer s H E) true (bK st) t/\t {nx:=λz S'=>Fo S'<|R .ay,rt:=λd S'=>Fo S'<|R d} (kE N ds) S λz C S'=>Fo S'<|Z C) (len:∀ds S R Z,sp ds S R Z->ds.length=ps.length:=by intro _ _ _ _ h;first|(cases h;subst_vars;rfl)|(repeat first|(let⟨e,_⟩:=h;rw[e];rfl)|let⟨_,h⟩:=h)):bU P w K mg base (gb P w mg) (k+1) f fd ps (rV K sp):=F.ok S len a
end
structure aem(X:Cx)(N:δ ρ)(src:δ (θ π))(scope:Scope):η where
 kind:scope.kind=.function
 nd:(scope.names.map Prod.fst).Nodup
 loc:∀y∈scope.names,y.2=.local->scope.names.lookup y.1=ϑ .local
 Cv:∀y∈scope.names,y.2=.free->X.env.kindOf y.1=ϑ .cell\/X.env.kindOf y.1=ϑ .free
 len:src.length=N.length
 src:∀(i j:π)(x:ρ),src[i]?=some (some j)->N[i]?=some x->X.N[j]?=some x/\scope.names.lookup x=ϑ .free/\P_ X.env.scope x
section
variable{K:Φ}
def ace:δ D->av->KD->Prop:=λds S R=>∃(a:ε)(ns:δ ν),ds=[.ref a]/\S a=ϑ (.lst<|ns.map D.int)/\R (.int ns.sum) S
def XX:jE K (.builtin "sum") ace:=by rintro X i l qc s σ H xs us Q I j ⟨ds,S,R,r,c,⟨a,ns,e,h1,h⟩,g⟩;subst i e;let⟨v,rfl,d⟩:=r.one;cases d.ref;let⟨zs,e1,t⟩:=c.lst h1;rw[t.ints]at e1;show Hu rfl l qc s σ H _ us Q I j {a,ns,rfl,.of e1,g.now c h<|aS _}
def acf(i j:π)(ta:iJ):jX:=λDe σ S Z=>ta σ S (λds S1=>∃v w,ds=[v,w]/\De.nx ((σ.set i<|some v).set j<|some w) S1)<|Z σ
theorem acg(hN:X.N.Nodup)(ha:DA K X [a,b] ta)(hi:ψ (X.N[i]?=some x) qQJ)(o:ψ (X.N[j]?=some y) qQJ)(h:ψ (i≠j) qQZ) (hx:ψ (X.env.scope.names.lookup x=ϑ .local) qQJ) (t:ψ (X.env.scope.names.lookup y=ϑ .local) qQJ) (hw:ψ (swappedStores [.Tuple [.Name x px,.Name y py] kt pt] (.Tuple [a,b] k2 pt2) X.env=pure (some [x,y])) qQJ) (l:ψ (swapsWithSole [.Tuple [.Name x px,.Name y py] kt pt] (.Tuple [a,b] k2 pt2) pos.line X.env=pure false) qQJ) (n:ψ (X.calm=ϱ) qQJ):DS K X bb (.Assign [.Tuple [.Name x px,.Name y py] kt pt] (.Tuple [a,b] k2 pt2) pos) (acf i j ta):=⟨λz=>(Qt (X:=z.cx) n hN hi o h hx t (ha.of z) hw l).mono <| by rintro D τ H ⟨σ,S,De,Z,c,s,q,A,m⟩;show{σ,S,_,_,c,s,q,by rintro ds S1 vs H1 ⟨v,w,e,r⟩ p s1 k1;subst e;let⟨a,b,rfl,g,d⟩:=p.two;show{a,b,rfl,A.nx _ _ _ _ r (((c.ts k1).set i g).set j d) s1 k1},m.at c}⟩
end
section
variable{K:Φ}{X:Cx}{pos p:Pos}{e:Δ}
structure agR(P:Ψ)(w:Ω)(K:Φ)(mg:ρ->θ ξ)(base:Γ)(k:π)(f:ε)(sp:Sp):η where
 ex:∃fd ps,bU P w K mg base (gb P w mg) k f fd ps sp/\Binds K fd ps []
 kp:keepIn K (.ref f)=ϱ
inductive CvR {ι:Type} (i:π) (fa:ι->ε) (σ:SD) (p:ι->η):η
 |mk (o:ι) (e:σ[i]?=some (some<|.ref<|fa o)) (r:p o)
structure DPs(K:Φ)(X:Cx)(pos:Pos)(keys:δ (θ Δ))(values:δ Δ)(l:δ (ρ×TD)):η where
 of:∀{b:χ}(y:Ev X b),PPs y.cx pos keys values<|l.map λkt=>(T K y.E<|dC<|.str kt.1,T K y.E kt.2)
end
section
variable{K:Φ}{X:Cx}{b:χ}{N:δ ρ}{src:δ (θ π)}{scope:Scope}{iter elt:Δ}{ifs:δ Δ}{pos p:Pos}{ti:xJ}{tc:lW}{te:TD}{a:ρ}
theorem pd(s:Stmt)(a:ψ (X.env.scope=ar s) qQJ)(hN:ψ (X.N=XW s) qQJ)(h:ψ (chkC (ar s) (XW s) N src scope=ϱ) qQ8):bx X N src scope:=V5 _ _ a hN h
structure C1(X:Cx)(N:δ ρ)(src:δ (θ π))(scope:Scope)(a:ρ):η where
 nd:N.Nodup
 h0:N[0]?=some a
 hr:src[0]?=some none
 hx:∀C s H ex pn,Loc (g9 X N scope C s H ex pn).env.scope a/\(g9 X N scope C s H ex pn).env.scope.names.lookup a=ϑ .local
theorem AH(S:bx X N src scope)(d:DI K X (.Name a p) iter ti)(hi:∀{C s H ex pn},UD K (g9 X N scope C s H ex pn) ifs tc)(g:∀{C s H ex pn},DE K (g9 X N scope C s H ex pn) elt te)(c:ψ (C1 X N src scope a) qJ5)(hf:ψ (∀x,foldedSetIterable iter X.env x=pure x) qQ0)(e:ψ (X.calm=ϱ) qQJ): DE K X (.ListComp elt [{.Name a p,iter,ifs,0}] scope pos) (wu ti src (UC 0) tc te):=Xe S d (cg1 c.nd c.h0 c.hx) (Fl c.hr) Fx (λz z z z z=>hi) (λz z z z z=>g) hf e
theorem Bv(i:π)(hd:X.N.Nodup)(S:bx X N src scope)(d:DI K X (.Name a p) iter ti)(hi:∀{C s H ex pn},UD K (g9 X N scope C s H ex pn) ifs tc)(l:∀{C s H ex pn},DE K (g9 X N scope C s H ex pn) elt te)(c:ψ (C1 X N src scope a) qJ5)(j:ψ (X.N[i]?=some x) qQJ)(h:ψ (X.env.scope.names.lookup x=ϑ .local) qQJ) (g:ψ (swapsWith (.ListComp elt [{.Name a p,iter,ifs,0}] scope pos) (some<|.Name x pos') Hk.line X.env=pure true) qQJ) (hf:ψ (∀x,foldedSetIterable iter X.env x=pure x) qQ0) (e:ψ (X.calm=ϱ) qQJ): DS K X b (.Assign [.Name x pos'] (.ListComp elt [{.Name a p,iter,ifs,0}] scope pos) Hk) (RL i<|wu ti src (UC 0) tc te):=stc hd S d (cg1 c.nd c.h0 c.hx) (Fl c.hr) Fx (λz z z z z=>hi) (λz z z z z=>l) j h g hf e
end
def nj{p:χ}{A B:η}(q:B)(h:ψ (p=ϰ) qQ8):if p=ϱ then A else B:=by rw[h,qa ze];show q
def ph{p:χ}{A B:η}(q:A)(h:ψ (p=ϱ) qQ8):if p=ϱ then A else B:=by rw[h,qb rfl];show q
noncomputable def ctO(l:δ<|θ π):Nat:=l.countP Option.isSome
structure Lay(m n:π)(ow:Array (θ π)):η where
 sz:ow.size=m+1
 ct:ctO ow.toList=n
 lt:∀x,some x∈ow.toList->x<n
section
variable{KT:Type}[DecidableEq KT]
structure Tb(t:SetTable)(n:π):η where
 m:t.mask=7\/t.mask=31\/t.mask=127\/t.mask=511
 d:t.dummies=#[]
 p:t.place.size=n
 f:n*5<t.mask*3
end
noncomputable def wdO(P:Ψ)(w:Ω)(a:ε)(kvs:δ<|Key×V)(ep:π):HO:=.ext λh=>kvs.length<=Ϙ/\(a==sysModules)=ϰ/\∃vs,KV kvs vs/\h.DictAt (aJ P w) a vs ep
structure Wd(P:Ψ)(w:Ω)(o:HO)(a:ε)(ks:δ Key):η where
 of:∃kvs ep,o=wdO P w a kvs ep/\kvs.map (·.1)=ks
def D1{K:Φ}{X:Cx}{b:χ}{st:Stmt} : DS K X b st (λz z z z=>False):=by show⟨λy=>?_⟩;rintro qc s τ H D I ⟨_,_,_,_,_,_,h,_⟩;show h.elim
def XY(K:Φ)(C0:ε)(tb:TX)(ts:TS):TS:=λD σ H=>tb (λak cls z H'=>∃C,cls=.ref C/\mroIn K C (.ref C0)=ϑ true/\∀a,H' a=ϐ->ts D ak (upd H' a<|nH a<|.ref C)) D σ H
section
variable{X:Cx}{x:ρ}{C0:ε}{body kz:δ Stmt}{tG:Stmt}{np tH pos:Pos}{tb:TX}{ts:TS}
def NZ(j:X.stack=X.env::X.outer)(fr:X.env.frame=ϑ X.env.locals)(P:Gl X x)(hm:X.mg x=ϑ (.ref C0))(c0:XC X.K C0) (hb:Rn X body tb) (O:∀a,Cu (X.gx a) (tG::kz) ts) (L:ψ ((x==("__debug__": ρ))=ϰ) qQZ): PS X (.Try body [.ExceptHandler (some<|.Name x np) none (tG::kz) tH] [] [] pos) (XY X.K C0 tb ts):=by intro qc s σ H D I h;show wpAny_Try_except<|yx (hb qc s σ H D _ I h) (λf s1 q=>?_) λe s1 q=>?_;{cases f with|next=>(let⟨ak,H',E,q⟩:=q;show xn qc s1 ak H' D E q)|ret v=>show q|brk=>show q|cont=>show q};{let⟨ak,H1,s2,n,a,cls,a0,B,H',rfl,os,bare,F,C,rfl,S,hq⟩:=q;have R:X.A.frames=ϑ (X.env::X.outer):=(by rw[I.ok.frames,j]);have fl:Heap.FlyingW B (X.env::X.outer) a (.ref C) a0 s1.heap:=(by rw[<-j];show F.fl);show wpAny_looks_onW R fr fl λh4 JP U=>?_;show wpAny_landsW JP λo p Z=>?_;have i:rm X.prog X.w (λk=>some<|.ref C) X.stack H1 H' s2.heap a (.ref C) a0 B o:=F.loose.on (by rw[j];show p) (U.trans Z)<|.inr rfl;have l:Inv X qc ak (upd H' a<|nH a<|.ref C) {s1 with heap:=o}:=n.AO (ch:=[]) os i.Y9 i.Nc bare λb z=>absurd z `d;show wpAny_handleBy_cons (codeAny_handlers_test<|je (l.gx a) P hm ?_ L) (by intro q;cases q);let⟨oe,vs,M,Q,hd,_⟩:=i.fl.first;let⟨bm0,J⟩:=c0.at l.lS;show qA (looks_mroIn l.lS S) J M Q ?_;show codeAny_handlers_suite ?_;show lands_againW p λt G Y=>?_;have r:rm X.prog X.w (λk=>some<|.ref C) X.stack H1 H' s2.heap a (.ref C) a0 B t:=i.on (by rw[j];show G) Y<|.inr rfl;have y:Inv X qc ak (upd H' a<|nH a<|.ref C) {s1 with heap:=t}:=n.AO (ch:=[]) os r.Y9 r.Nc bare λb z=>absurd z `d;show yx (O a qc _ _ _ _ (y.gx a)<|hq a F.hn) (λf s8 c=>?_) λk k z=>False.elim z;cases f with|next=>(let⟨m,d,g,c⟩:=c;show{_,d,g.kx I.ok,c})|brk=>(let⟨m,d,g,c⟩:=c;show{_,d,g.kx I.ok,c})|cont=>(let⟨m,d,g,c⟩:=c;show{_,d,g.kx I.ok,c})|ret u=>let⟨v,m,d,g,N,c⟩:=c;show{v,_,d,g.kx I.ok,N,c}}
end
def XZ(K:Φ)(C0:ε)(tb ts:jX):jX:=λDe σ S _=>tb De σ S λak C S'=>mroIn K C (.ref C0)=ϑ true/\∀a,S' a=ϐ->ts De ak (S'.set a<|.exc C) λz=>Zf
section
variable{K:Φ}{X:Cx}{b:χ}{x:ρ}{C0:ε}{body kz:δ Stmt}{tG:Stmt}{np tH pos:Pos}
def Pu{tb ts:jX}(hm:X.mg x=ϑ (.ref C0))(c0:XC K C0)(hb:Bg K X false body tb)(A:∀a,Bg K (X.gx a) false (tG::kz) ts) (F:ψ (Gl X x) qQJ) (r:ψ ((x==("__debug__": ρ))=ϰ) qQZ) (I:ψ (X.stack=X.env::X.outer) qQJ) (fr:ψ (X.env.frame=ϑ X.env.locals) qQJ) (B:ψ (X.K=K) qQJ): DS K X b (.Try body [.ExceptHandler (some<|.Name x np) none (tG::kz) tH] [] [] pos) (XZ K C0 tb ts):=by subst B;show⟨λy=>(NZ (X:=y.cx) (ts:=Tl X.K (λu=>E0) ts) I fr F hm c0 (Kf (X:=y.cx) (K:=X.K) (t:=tb) ⟨λz=>hb.of ⟨z.pn,z.xe,z.E,z.ok⟩⟩) (λa=>(A a).of {y.pn,λu u=>False,λu=>E0,{λp2 τ H s e s' _ ⟨_,_,_,_,_,_,_,_,_,z⟩=>z.elim,λe=>(by cases e),λe=>(by cases e)}}) r).mono λD τ H ⟨σ,S,De,Z,J,G,q,j,N⟩=>?_⟩;show{σ,S,De,_,J,G,q,j,λL M C S1 H1 ⟨p,v⟩ w s1 k1=>{C,rfl,p,λa ha=>?_}};have kn:Kp X.K H1 (upd H1 a<|nH a<|.ref C):=.new ha;have kk:=k1.trans kn;show{_,_,De,λu=>Zf,w.ts kn,s1.new (c:=.exc C) ha aD,v a<|s1.fresh ha,{λo m l n g d h i=>j.nx _ _ _ _ g d h<|kk.trans i,j.rt.kp kk,λo m l n g d h i=>j.bk _ _ _ _ g d h<|kk.trans i,λo m l n g d h i=>j.ct _ _ _ _ g d h<|kk.trans i},λu u u u u z=>z.elim}
end
noncomputable def gA(N:π)(v:π->ξ):Array Value:=((List.range N).map v).toArray
structure ZN(n N:π)(l:π->ε)(i:π)(h:Γ):η where
 z:IsZip h (n+N+2) (n+N) (n+N+1) .none
 t:nI h (n+N) (gA N λj=>.ref<|n+j)
 o:∃arr:Array ξ,arr.size=N/\nI h (n+N+1) arr
 it:∀j,j<N->h.IsTupleIter (n+j) (l j) i
def lI:(gA N v).size=N:=by unfold gA;simp
def kG:(gA N v).toList.length=N:=by unfold gA;simp
def N1(h:arr.size=N)(e:∀j,j<N->arr[j]?=some (v j)):arr=gA N v:=by show Array.ext (by rw[h,lI]) λj h1 h2=>?_;have:=e j `b;rw[Array.getElem?_eq_getElem h1]at this;rw[zS this];simp[gA]
section
variable{prog:Ψ}{w:Ω}{A:ϕ}{E:ξ->ζ->η}{s:ζ}{n N:π}{l:π->ε}{i:π}{xs:π->Array ξ}
def HP{v:π->ξ}{Q:ξ->ζ->η}(h1:1<=N)(h3:N<=3)(lt:∀j,j<N->l j<n)(hs:ZN n N l i s.heap)(tu:∀j,j<N->s.heap.IsTuple (l j) (xs j))(ev:∀j,j<N->(xs j)[i]?=some (v j)) (hQ:∀h',IsZip h' (n+N+2) (n+N) (n+N+1) (rawInt s.heap.objs.size)->nI h' (n+N+1) (gA N v)->(∀j,j<N->h'.IsTupleIter (n+j) (l j) (i+1))->nI h' s.heap.objs.size (gA N v)->(∀c o,c≠n+N+2->c≠n+N+1->(∀j,j<N->c≠n+j)->s.heap.get? c=ϑ o->h'.get? c=ϑ o)->Q (.ref s.heap.objs.size) {s with heap:=h'}): wpAny `n A (Builtin.«zip.__next__» {[.ref<|n+N+2],[]}) (λfin s'=>∃v,fin=.done (.ret v)/\Q v s') E s:=by
 let⟨hz,hI,⟨arr,na,hO⟩,I⟩:=hs;change wpAny _ _ (field (.ref<|n+N+2) 2 >>=_) _ _ _;show zb<|yb hz rfl (x:=.bool false) rfl ?_;change wpAny _ _ (field (.ref<|n+N+2) 3 >>=_) _ _ _;show zb<|yb hz rfl (x:=.ref<|n+N) rfl ?_;show zb<|wpAny_seqItems hI rfl ?_;have he:(gA N λj=>Value.ref<|n+j).isEmpty=ϰ:=by rw[Array.isEmpty_eq_false_iff];intro e;have:=congrArg Array.size e;rw[lI]at this;simp at this;lia
 dsimp only;rw[qa<|by rw[he];show ze];show zb ?_;unfold Builtin.SmallTypes.ownedTupleIsFree;show zb<|yb hz rfl (x:=.none) rfl<|zr ?_;simp only[if_true];show zb<|y7 ?_;show zb<|yb hz rfl (x:=.ref<|n+N+1) rfl ?_;show zb<|wpAny_setField_rec hz `d λh0 K X=>?_;replace K:IsZip h0 (n+N+2) (n+N) (n+N+1) .ellipsis:=K;have k0:∀c o,c≠n+N+2->s.heap.get? c=ϑ o->h0.get? c=ϑ o:=λc o d e=>X.extBut _ _ d e;show zb<|wpAny_forIn_list _ (λrest b s'=>∃(k:π)(h':Γ)(h:Array ξ),k<=N/\rest=((gA N λj=>Value.ref<|n+j).toList.zipIdx).drop k/\b=(none,())/\s'={s with heap:=h'}/\nI h' (n+N+1) h/\h.size=N/\(∀j,j<k->h[j]?=some (v j))/\(∀j,j<N->h'.IsTupleIter (n+j) (l j) (if j<k then i+1 else i))/\IsZip h' (n+N+2) (n+N) (n+N+1) .ellipsis/\h'.objs.size=s.heap.objs.size/\(∀c o,c≠n+N+2->c≠n+N+1->(∀j,j<N->c≠n+j)->s.heap.get? c=ϑ o->h'.get? c=ϑ o)) _ ?_ ?_ _ _ ?_;rintro x rest b s' ⟨k,h',h,hk,e1,rfl,rfl,O,ha,hv,J,Z,sz,kp⟩;have g:k<N:=by have:=congrArg List.length e1;rw[zV,yV,List.length_zipIdx,kG]at this;lia
 have e2:((gA N λj=>Value.ref<|n+j).toList.zipIdx).drop k=(Value.ref<|n+k,k)::((gA N λj=>Value.ref<|n+j).toList.zipIdx).drop (k+1):=by rw[zZ<|by rw[List.length_zipIdx,kG];show g];simp[gA]
 rw[e2]at e1;cases e1;have lk:@LT.lt π _ (l k) n:=lt k g;have Y:=J k g;rw[qa<|yG _]at Y;have T0:Heap.IsTuple h' (l k) (xs k):=by let⟨o,H,G⟩:=tu k g;show{o,kp _ _ (by change @Ne π _ _;lia) (by change @Ne π _ _;lia) (λj u=>by change @Ne π _ _;lia) H,G}
 show zb<|wpAny_onRaise ?_;change wpAny _ _ (Builtin.SmallTypes.nextOf (.ref<|n+k) >>=_) _ _ _;show zb<|Dm (s:={s with heap:=h'}) Y T0 (ev k g) λp m0 r=>zr ?_;have O1:nI p (n+N+1) h:=r.extBut _ _ (by change @Ne π _ _;lia) O;show zb<|wpAny_seqItems (s:={s with heap:=p}) O1 rfl ?_;show zb<|Hs (s:={s with heap:=p}) O1 `b λm O2 t=>?_;show zb<|wpAny_letGo<|zr ?_;show{k+1,m,_,g,rfl,rfl,rfl,O2,by rw[Array.size_setIfInBounds];show ha,λj a=>?_,λj a=>?_,t.extBut _ _ (by change @Ne π _ _;lia)<|r.extBut _ _ (by change @Ne π _ _;lia) Z,by rw[t.1,r.1];show sz,λc o d1 B F e=>t.extBut _ _ B<|r.extBut _ _ (F k g)<|kp c o d1 B F e};by_cases z:j=k;subst z;rw[Array.getElem?_setIfInBounds_self_of_lt<|`b];rw[Array.getElem?_setIfInBounds_ne<|Ne.symm z];show hv j `b;by_cases z:j=k;subst z;rw[qb<|Nat.lt_succ_self _];show xB t.extBut (by change @Ne π _ _;lia) m0;have:=J j a;rw[show(if j<k+1 then i+1 else i)=if j<k then i+1 else i by by_cases y:j<k;rw[qb y,qb<|`b];rw[qa y,qa<|`b]];show xB t.extBut (by change @Ne π _ _;lia)<|xB r.extBut (by change @Ne π _ _;lia) this;rintro b s' ⟨k,h',h,hk,e1,rfl,rfl,O,ha,hv,J,Z,sz,kp⟩;have g:k=N:=by have:=congrArg List.length e1;rw[List.length_nil,yV,List.length_zipIdx,kG]at this;lia
 subst g;have ea:=N1 ha hv;subst ea;show zb<|wpAny_seqItems (s:={s with heap:=h'}) O rfl ?_;show zb<|wpAny_newTuple ?_ (hsz:=by rw[kG];show wk h3);have R:n+k+2<h'.objs.size:=zA Z;change wpAny _ _ (Builtin.SmallTypes.ownedTupleHandOut (.ref<|n+k+2) (.ref h'.objs.size) >>=_) _ _ _;show zb ?_;unfold Builtin.SmallTypes.ownedTupleHandOut;have M:IsZip (h'.push {cls:=.type "tuple",data:=.seq<|gA k v}) (n+k+2) (n+k) (n+k+1) .ellipsis:=za _ Z;show zb<|wpAny_setField_rec (s:={s with heap:=h'.push {cls:=.type "tuple",data:=.seq<|gA k v}}) M `d λp L U=>?_;replace L:IsZip p (n+k+2) (n+k) (n+k+1) (rawInt h'.objs.size):=L;show wpAny_setField_rec (s:={s with heap:=p}) L `d λm C S=>?_;replace C:IsZip m (n+k+2) (n+k) (n+k+1) (rawInt h'.objs.size):=C;have up:∀c o,c≠n+k+2->h'.get? c=ϑ o->m.get? c=ϑ o:=λc o d e=>S.extBut _ _ d<|U.extBut _ _ d<|za _ e;have P:nI m h'.objs.size (gA k v):=S.extBut _ _ (yw R)<|U.extBut _ _ (yw R)<|zo _ rfl;rw[sz]at C P;show zr !⟨?_⟩;change Q (.ref h'.objs.size) _;rw[sz];show hQ m C (up _ _ (by change @Ne π _ _;lia) O) (λj a=>?_) P λc o d1 B F e=>up c o d1<|kp c o d1 B F e;have:=J j a;rw[qb a]at this;show O0 (λo e=>up _ o (by change @Ne π _ _;lia) e) this;show{0,h0,arr,yh _,rfl,rfl,rfl,k0 _ _ (by change @Ne π _ _;lia) hO,na,λj a=>absurd a<|Nat.not_lt_zero _,λj a=>?_,K,X.1,λc o d u u e=>k0 c o d e};rw[qa<|Nat.not_lt_zero _];let⟨o,H,G⟩:=I j a;show{o,k0 _ _ (by change @Ne π _ _;lia) H,G}
def KC(h1:1<=N)(G:A.handled=ϐ)(F:ZN n N l i s.heap)(lt:l 0<n)(C:s.heap.IsTuple (l 0)<|xs 0)(I:(xs 0)[i]?=none) (O:∀h' e,(∀c o,c≠n+N+2->c≠n+0->s.heap.get? c=ϑ o->h'.get? c=ϑ o)->(∃o,h'.get? e=ϑ o/\o.cls=.type "StopIteration")->E (.ref e) {s with heap:=h'}): wpAny `n A (Builtin.«zip.__next__» {[.ref<|n+N+2],[]}) Q E s:=by
 let⟨hz,L,⟨arr,R,P⟩,p⟩:=F;change wpAny _ _ (field (.ref<|n+N+2) 2 >>=_) _ _ _;show zb<|yb hz rfl (x:=.bool false) rfl ?_;change wpAny _ _ (field (.ref<|n+N+2) 3 >>=_) _ _ _;show zb<|yb hz rfl (x:=.ref<|n+N) rfl ?_;show zb<|wpAny_seqItems L rfl ?_;have m:(gA N λj=>Value.ref<|n+j).isEmpty=ϰ:=by rw[Array.isEmpty_eq_false_iff];intro e;have:=congrArg Array.size e;rw[lI]at this;simp at this;lia
 dsimp only;rw[qa<|by rw[m];show ze];show zb ?_;unfold Builtin.SmallTypes.ownedTupleIsFree;show zb<|yb hz rfl (x:=.none) rfl<|zr ?_;simp only[if_true];show zb<|y7 ?_;show zb<|yb hz rfl (x:=.ref<|n+N+1) rfl ?_;show zb<|wpAny_setField_rec hz `d λh0 t r=>?_;replace t:IsZip h0 (n+N+2) (n+N) (n+N+1) .ellipsis:=t;have lk:@LT.lt π _ (l 0) n:=lt;have M:Heap.IsTupleIter h0 (n+0) (l 0) i:=by let⟨o,h,g⟩:=p 0 h1;show{o,r.extBut _ _ (by change @Ne π _ _;lia) h,g}
 have H:Heap.IsTuple h0 (l 0) (xs 0):=by let⟨o,h,g⟩:=C;show{o,r.extBut _ _ (by change @Ne π _ _;lia) h,g}
 have e2:(gA N λj=>Value.ref<|n+j).toList.zipIdx=(Value.ref<|n+0,0)::((gA N λj=>Value.ref<|n+j).toList.zipIdx).drop 1:=by have:=zZ (l:=(gA N λj=>Value.ref<|n+j).toList.zipIdx) (i:=0) (by rw[List.length_zipIdx,kG];show h1);rw[List.drop_zero]at this;rw[this];simp[gA]
 rw[e2,List.forIn_cons];show zb<|zb<|zb<|wpAny_onRaise ?_;change wpAny _ _ (Builtin.SmallTypes.nextOf (.ref<|n+0) >>=_) _ _ _;show zb<|tI (s:={s with heap:=h0}) G M H I λh1 e y m=>?_;let⟨K,a,d⟩:=m;have B:IsZip h1 (n+N+2) (n+N) (n+N+1) .ellipsis:=y _ _ (by change @Ne π _ _;lia) t;have J:e≠n+N+2:=λx=>by subst x;rw[B]at a;cases a;simp at d
 show wpAny_setField_rec (s:={s with heap:=h1}) B `d λh2 u z=>O h2 e (λc o v d0 x=>z.extBut _ _ v<|y _ _ d0<|r.extBut _ _ v x) {K,z.extBut _ _ J a,d}
end
noncomputable def So(K:Φ)(N:π)(l:π->ε):It:={λi H=>∃(xs:π->δ V)(x:π->V),∀j,j<N->iy K H (l j) (xs j)/\(xs j)[i]?=some (x j),λi H y H'=>∃T,H T=ϐ/\y=.ref T/\∀(xs:π->δ V)(x:π->V),(∀j,j<N->iy K H (l j) (xs j)/\(xs j)[i]?=some (x j))->H'=upd H T (.tup<|(List.range N).map x),λi H=>∃xs:π->δ V,(∀j,j<N->iy K H (l j) (xs j))/\(xs 0).length<=i}
noncomputable def UQ(n N:π):δ Addr:=(List.range<|N+3).map λj=>n+j
def rY(h:b∈UQ n N):∃j,j<N+3/\b=n+j:=by let⟨j,a,e⟩:=zk.mp h;show{j,zY.mp a,e.symm}
theorem gB(h:j<N+3):(n+j:π)∈UQ n N:=zk.mpr {j,zY.mpr h,rfl}
def D2(h:∀j,j<N->RelV (x j) (u j)):Vals ((List.range N).map x) ((List.range N).map u):=by
 have:∀l:δ π,(∀j∈l,j<N)->Vals (l.map x) (l.map u):=by intro l;induction l with|nil=>show λz=>.nil|cons a l d=>show λhl=>.cons (h a<|hl a zw)<|d λj c=>hl j<|zh _ c
 show this _ λj c=>zY.mp c
theorem wH{P:Ψ}{w:Ω}{K:Φ}{es:δ Δ}{kk:π}{tp:Pos}{n N:π}{l:π->ε}(h1:1<=N)(h3:N<=3)(lt:∀j,j<N->l j<n):Turn P w K (.Tuple es kk tp) (So K N l) (UQ n N) (n+N+2) (ZN n N l) where
 mem:=gB (j:=N+2)<|`b
 obj:=λi h st b hb=>by
  let⟨j,hj,rfl⟩:=rY hb
  by_cases q:j<N
  ·let⟨o,e,c,d⟩:=st.it j q;show{o,e,λv z=>by rw[d]at z;cases z}
  ·let⟨arr,na,hO⟩:=st.o
   have:j=N\/j=N+1\/j=N+2:=`b
   rcases this with rfl|rfl|rfl
   ·show{_,st.t,λv z=>by cases z}
   ·show{_,hO,λv z=>by cases z}
   ·show{_,st.z,λv z=>by cases z}
 keep:=λi h h' st k=>by
  let⟨hz,hI,⟨arr,na,hO⟩,J⟩:=st
  show{k _ (gB (j:=N+2)<|`b) _ hz,k _ (gB (j:=N)<|`b) _ hI,{arr,na,k _ (gB (j:=N+1)<|`b) _ hO},λj hj=>O0 (λo e=>k _ (gB<|`b) o e)<|J j hj}
 item:=by
  intro X hP hw hK hc i qc s σ H E I hf st hg
  subst hP hw hK
  let⟨xs,x,hx⟩:=hg
  have ex:∀j,∃(az:δ ξ)(u:ξ),j<N->Vals (xs j) az/\s.heap.IsTuple (l j) az.toArray/\az[i]?=some u/\RelV (x j) u:=λj=>by
   by_cases q:j<N
   ·let⟨az,rv,p,_⟩:=I.tuple (hx j q).1
    let⟨u,hu,ru⟩:=rv.get (hx j q).2
    show{az,u,λr=>⟨rv,p,hu,ru⟩}
   ·show{[],.none,λh=>absurd h q}
  have fx:=Classical.axiomOfChoice ex
  let⟨az,fx⟩:=fx
  let⟨u,fx⟩:=Classical.axiomOfChoice fx
  have hT:s.TypeIs (.ref<|n+N+2) "zip":={_,st.z,rfl}
  have lz:@LT.lt π _ (n+N+2) s.heap.objs.size:=zA st.z
  unfold pyNext
  show zb<|wpAny_attempt<|wpAny_callSpecial?_slot (name:=Str.ofString "__next__") hT F.slot_zip_next<|yN F.slot_zip_next hT F.entry_zip_next (HP h1 h3 lt st (xs:=λj=>(az j).toArray) (v:=u) (λj hj=>(fx j hj).2.1) (λj hj=>by simpa using (fx j hj).2.2.1) λg1 z1 O1 m1 T1 kp=>zr !⟨?_⟩)<|F.args_zip_next_1 _
  show wpAny_letOwnedTupleGo_zip (s:={s with heap:=g1}) z1 λg2 z2 r2=>?_
  have Ux:∀c o,c∉UQ n N->s.heap.get? c=ϑ o->g2.get? c=ϑ o:=λc o hc e=>r2.extBut _ _ (λz=>hc<|z ▸ gB (j:=N+2) `b)<|kp c o (λz=>hc<|z ▸ gB (j:=N+2) `b) (λz=>hc<|z ▸ gB (j:=N+1) `b) (λj hj z=>hc<|z ▸ gB `b) e
  have T2:nI g2 s.heap.objs.size (gA N u):=r2.extBut _ _ (yw lz) T1
  have I2:Inv X qc σ (upd H s.heap.objs.size<|.tup<|(List.range N).map x) {s with heap:=g2}:=I.Fq (t':=s.toks) (UQ n N) hf Ux (Heap.get?_none_of_le<|zj _) {by rw[zd,List.length_range];show Wj<|zH h3<|`a,_,D2 λj hj=>(fx j hj).2.2.2,{_,T2,rfl,rfl,_,rfl}}
  show{.ref s.heap.objs.size,_,I2,rfl,{_,I.aK.fresh<|zj _,rfl,λys y hy=>?_},{z2,?_,{_,lI,r2.extBut _ _ (by change @Ne π _ _;lia) O1},λj hj=>xB r2.extBut (by change @Ne π _ _;lia)<|m1 j hj},λb hb=>?_}
  ·congr 2
   show zX λj hj=>?_
   have hj:=zY.mp hj
   have:=I.pB (hy j hj).1 (hx j hj).1
   have e:=(hy j hj).2
   rw[this,(hx j hj).2]at e
   show zS e
  ·show r2.extBut _ _ (by change @Ne π _ _;lia) (kp _ _ (by change @Ne π _ _;lia) (by change @Ne π _ _;lia) (λj hj=>by change @Ne π _ _;lia) st.t)
  ·let⟨j,hj,rfl⟩:=rY hb
   rw[ax<|by change @Ne π _ _;lia]
   show(hf _ hb).1
 done:=by
  intro X hP hw hK hc i qc s σ H E I hf st hg
  subst hP hw hK
  let⟨xs,hx,hl⟩:=hg
  let⟨KG,rv0,p0,_⟩:=I.tuple<|hx 0 h1
  have hT:s.TypeIs (.ref<|n+N+2) "zip":={_,st.z,rfl}
  have hl0:=rv0.length
  unfold pyNext
  show zb<|wpAny_attempt<|wpAny_callSpecial?_slot (name:=Str.ofString "__next__") hT F.slot_zip_next<|yN F.slot_zip_next hT F.entry_zip_next (KC h1 (I.ok.hd hc) st (lt 0 h1) (xs:=λr=>KG.toArray) p0 (by simp;lia) λh1 e kp he=>?_)<|F.args_zip_next_1 _
  let⟨o,ho,NL⟩:=he
  show zb<|wpAny_isInstance (T:="StopIteration") (b:=true) ⟨o,ho,NL⟩ isSubtype_stop<|zr {rfl,?_}
  show I.Fp (t':=s.toks) (UQ n N) hf λc o hc e=>kp c o (λz=>hc<|z ▸ gB (j:=N+2) `b) (λz=>hc<|z ▸ gB (j:=0) `b) e
 self:=λA' i s Q E st h=>wpAny_pyIter_zip st.z h
noncomputable def two(a b:ε):π->Addr:=λj=>if j=0 then a else b
noncomputable def Sr(a b c:ε):π->Addr:=λj=>if j=0 then a else if j=1 then b else c
theorem ZF{p:π->η}(h0:p 0)(h1:p 1):∀j,j<2->p j|0,_=>h0|1,_=>h1|j+2,h=>by lia
theorem ZG{p:π->η}(h0:p 0)(h1:p 1)(h2:p 2):∀j,j<3->p j|0,_=>h0|1,_=>h1|2,_=>h2|j+3,h=>by lia
section
variable{X:Cx}{a b c:Δ}{ta:TA}{p pos tp:Pos}{es:δ Δ}{kk:π}
def Ss(hg:Gl X "zip")(hm:X.mg "zip"= none)(ha:PA X [a,b] ta)(o:starEach [a,b] X.env=[(false,eval a X.env),(false,eval b X.env)])(l:starEach [b] X.env=[(false,eval b X.env)]): PI X (.Tuple es kk tp) (.Call (.Name "zip" p) [a,b] [] pos) (λσ H R=>ta σ H λvs H1=>∃c d,vs=[.ref c,.ref d]/\(∃xs,iy X.K H1 c xs)/\(∃xs,iy X.K H1 d xs)/\R (So X.K 2<|two c d) H1):=by intro qc s σ H R I h;show Call_<|fT I hg hm boot_zip<|yn (bB (ha pos qc s σ H _ I h) λus s1 ⟨vs,H1,g,n,t⟩=>?_) (by rw[o,l]) (by rw[l];rfl);let⟨c,d,e,⟨G,z⟩,⟨F,A⟩,q⟩:=t;subst e;let⟨u,v,rfl,r,x⟩:=n.two;cases r;cases x;let⟨C,w,m,_⟩:=g.tuple z;let⟨y,E,i,_⟩:=g.tuple A;show Dz (show s1.heap.IsTuple c C.toArray from m) (show s1.heap.IsTuple d y.toArray from i) λh' zs kp=>?_;have B:ZN s1.heap.objs.size 2 (two c d) 0 h':={zs.1,zs.2.1,zs.2.2.1,ZF zs.2.2.2.1 zs.2.2.2.2};show wpAny_pyIter_zip (s:={s1 with heap:=h'}) zs.1 {_,_,_,_,H1,rfl,g.kept (t':=s1.toks) kp,wH `a `a<|ZF m.lt i.lt,B,λb hb=>?_,q};let⟨j,_,rfl⟩:=rY hb;show g.pC (Nat.le_add_right _ _)<|g.aK.fresh<|Nat.le_add_right _ _
def Sv(hg:Gl X "zip")(hm:X.mg "zip"= none)(ha:PA X [a,b,c] ta)(w:starEach [a,b,c] X.env=[(false,eval a X.env),(false,eval b X.env),(false,eval c X.env)])(n:starEach [b,c] X.env=[(false,eval b X.env),(false,eval c X.env)]): PI X (.Tuple es kk tp) (.Call (.Name "zip" p) [a,b,c] [] pos) (λσ H R=>ta σ H λvs H1=>∃d i l2,vs=[.ref d,.ref i,.ref l2]/\(∃xs,iy X.K H1 d xs)/\(∃xs,iy X.K H1 i xs)/\(∃xs,iy X.K H1 l2 xs)/\R (So X.K 3<|Sr d i l2) H1):=by intro qc s σ H R I h;show Call_<|fT I hg hm boot_zip<|yn (bB (ha pos qc s σ H _ I h) λus s1 ⟨vs,H1,g,t,x⟩=>?_) (by rw[w,n]) (by rw[n];rfl);let⟨d,i,l2,e,⟨P,E⟩,⟨N,G⟩,⟨Q,B⟩,q⟩:=x;subst e;let⟨u,v,z,rfl,r,A,l⟩:=t.three;cases r;cases A;cases l;let⟨L,y,o,_⟩:=g.tuple E;let⟨C,M,m,_⟩:=g.tuple G;let⟨F,O,p2,_⟩:=g.tuple B;show DJ (show s1.heap.IsTuple d L.toArray from o) (show s1.heap.IsTuple i C.toArray from m) (show s1.heap.IsTuple l2 F.toArray from p2) λh' zs kp=>?_;have J:ZN s1.heap.objs.size 3 (Sr d i l2) 0 h':={zs.1,zs.2.1,zs.2.2.1,ZG zs.2.2.2.1 zs.2.2.2.2.1 zs.2.2.2.2.2};show wpAny_pyIter_zip (s:={s1 with heap:=h'}) zs.1 {_,_,_,_,H1,rfl,g.kept (t':=s1.toks) kp,wH `a `a<|ZG o.lt m.lt p2.lt,J,λb hb=>?_,q};let⟨j,_,rfl⟩:=rY hb;show g.pC (Nat.le_add_right _ _)<|g.aK.fresh<|Nat.le_add_right _ _
end
section
variable{K:Φ}{X:Cx}{a c e:Δ}{t:iJ}{p pos tp:Pos}{es:δ Δ}{kk:π}
def izn(hm:X.mg "zip"= none)(ha:DA K X [a,c] t)(hg:ψ (Gl X "zip") qQJ)(L:ψ (starEach [a,c] X.env=[(false,eval a X.env),(false,eval c X.env)]) qQJ)(M:ψ (starEach [c] X.env=[(false,eval c X.env)]) qQJ)(F:ψ (X.K=K) qQJ): DI K X (.Tuple es kk tp) (.Call (.Name "zip" p) [a,c] [] pos) (Xl t):=by subst F;show⟨λy=>(Ss (X:=y.cx) hg hm (ha.of y) L M).mono λτ H R ⟨σ,S,RI,Z,U,J,q,Y,G⟩=>{σ,S,_,Z,U,J,q,λds S1 vs H1 ⟨xs,ys,e,hl,E⟩ N s1 k1=>by subst e;let⟨v,u,rfl,ra,O⟩:=N.two;let⟨a,l,rfl,w,ta⟩:=ra.tup;let⟨b,m,rfl,A,tb⟩:=O.tup;show{a,b,rfl,{l,.of w},{m,.of A},Y _ S1 _ H1 E (λi S2 H2 k2 s2 k=>?_) s1 k1};have n:iy X.K H2 a l:=.of<|k2.t _ _ w;have z:iy X.K H2 b m:=.of<|k2.t _ _ A;have la:l.length=xs.length:=ta.len;let f:π->δ V:=λj=>if j=0 then l else m;show{λd hd=>?_,λh=>{f,ZF n z,by change l.length<=i;unfold jn at h;rw[List.length_zipWith]at h;lia}};unfold jn at hd;let⟨x,y',e1,e2,e3⟩:=List.getElem?_zipWith_eq_some.mp hd;subst e3;let⟨o,B,Q⟩:=(RvAll.ts k2 _ ta).get e1;let⟨r,C,I⟩:=(RvAll.ts k2 _ tb).get e2;let g:π->V:=λj=>if j=0 then o else r;have ok:∀j,j<2->iy X.K H2 (two a b j) (f j)/\(f j)[i]?=some (g j):=ZF ⟨n,B⟩ ⟨z,C⟩;show{⟨f,g,ok⟩,λx' H' ⟨T,s,e4,P⟩=>?_};have:=P f g ok;subst this e4;have kk:Kp X.K H2 (upd H2 T<|.tup [o,r]):=.new s;show{jk aD<|RvAll.ts kk _<|aZ Q<|aZ I bL,kk,s2.grow s},G}⟩
def ack(hm:X.mg "zip"= none)(ha:DA K X [a,c,e] t)(hg:ψ (Gl X "zip") qQJ)(hs:ψ (starEach [a,c,e] X.env=[(false,eval a X.env),(false,eval c X.env),`j]) qQJ)(ve:ψ (starEach [c,e] X.env=[(false,eval c X.env),`j]) qQJ)(O:ψ (X.K=K) qQJ): DI K X (.Tuple es kk tp) (.Call (.Name "zip" p) [a,c,e] [] pos) (Sm t):=by subst O;show⟨λy=>(Sv (X:=y.cx) hg hm (ha.of y) hs ve).mono λτ H R ⟨σ,S,RI,Z,aB,U,q,hR,P⟩=>{σ,S,_,Z,aB,U,q,λds S1 vs H1 ⟨xs,ys,zs,e,hl,C9,N⟩ v1 s1 k1=>by subst e;let⟨v,u,w,rfl,ra,rb,rc⟩:=v1.thr;let⟨a,l,rfl,C,ta⟩:=ra.tup;let⟨b,n,rfl,G,tb⟩:=rb.tup;let⟨c,o,rfl,E,tc⟩:=rc.tup;show{a,b,c,rfl,{l,.of C},{n,.of G},{o,.of E},hR _ S1 _ H1 N (λi S2 H2 k2 s2 k=>?_) s1 k1};have r:iy X.K H2 a l:=.of<|k2.t _ _ C;have F:iy X.K H2 b n:=.of<|k2.t _ _ G;have m:iy X.K H2 c o:=.of<|k2.t _ _ E;have L:l.length=xs.length:=ta.len;let f:π->δ V:=λj=>if j=0 then l else if j=1 then n else o;show{λd hd=>?_,λh=>{f,ZG r F m,by change l.length<=i;rw[L,<-pQ hl C9];show h}};let⟨x,y',z,e1,e2,e3,e4⟩:=pR hd;subst e4;let⟨s,J,g1⟩:=(RvAll.ts k2 _ ta).get e1;let⟨A,M,Q⟩:=(RvAll.ts k2 _ tb).get e2;let⟨I,Y,g3⟩:=(RvAll.ts k2 _ tc).get e3;let g:π->V:=λj=>if j=0 then s else if j=1 then A else I;have ok:∀j,j<3->iy X.K H2 (Sr a b c j) (f j)/\(f j)[i]?=some (g j):=ZG ⟨r,J⟩ ⟨F,M⟩ ⟨m,Y⟩;show{⟨f,g,ok⟩,λx' H' ⟨T,B,e4,e5⟩=>?_};have:=e5 f g ok;subst this e4;have kk:Kp X.K H2 (upd H2 T<|.tup [s,A,I]):=.new B;show{jk aD<|RvAll.ts kk _<|aZ g1<|aZ Q<|aZ g3 bL,kk,s2.grow B},P}⟩
end
end L2
namespace My
open PySem L2
def top(i:π):Stmt:=PySem.Challenge.pw_pageturns_k57_no_events_of_walks.main.body.getD i<|.Pass {0,0,0,0}
abbrev HQ:Stmt:=top 19
abbrev KH:Stmt:=top 20
abbrev HR:Stmt:=top 21
abbrev jG:Stmt:=top 28
abbrev D5:Stmt:=top 30
abbrev xR:Stmt:=top 33
abbrev fF:Stmt:=top 41
abbrev D6:Stmt:=top 43
abbrev vH:Stmt:=top 51
abbrev tY:Stmt:=top 60
abbrev iQ:Stmt:=top 62
abbrev iR:Stmt:=top 63
abbrev gC:Stmt:=top 64
abbrev rq:Stmt:=top 77
abbrev D7:Stmt:=top 87
abbrev wI:Stmt:=top 91
abbrev wJ:Stmt:=top 92
abbrev KJ:Stmt:=top 94
abbrev D8:Stmt:=top 95
abbrev nM:Stmt:=top 96
abbrev bF:Stmt:=top 73
abbrev jq:Stmt:=top 79
structure fj where
 (pS mL Px nN tZ rZ kH kI iS jH bO aG bC aN aQ kJ jr aT aw aU hW aX fY aO:ε)
 (iT gD KL h_ kK:FuncData)
 (nO pT nQ t5 lY Bw lZ nR:Tok)
 ts:δ ε
 (f D9 D_:π->ε)
 (d Sw Sy:π->FuncData)
structure Txt(w:Ω)(K:Φ)(mg:ρ->θ ξ)(t:fj):η where
 fn:HN K mg top t.f t.d [16,17,18,19,20,21,22,23,24,25,28,29,30,31,32,33,34,39,40,41,42,43,44,45,51,52,53,55,56,59,60,61,63,67,68,69,71,74,76,77,78,80,82,83,84,85,86,87,88,89,90,91,92,93,94,95,96,97,98,99]
 fG:D0 K t.aw "Shelf." bF t.D9 t.Sw [0,1,2,3,4,5,6,7,8,13]
 nS:D0 K t.aU "Trail." jq t.D_ t.Sy [0,1,2,3,4]
 gE:Po K mg "sorted_by_keys" (top 62) ["rows","way"] t.pS t.iT
 fz:Po K mg "sorted_by_values" (top 64) ["columns","part","rows"] t.mL t.gD
 law:Po K mg "law" (top 100) ["_law_script"] t.Px t.KL
 c9:Pp K t.aw "worths_at" "Shelf.worths_at" (inClass bF 9) ["self","key","moment"] t.nN t.h_
 dU:Binds K t.h_ ["self","key","moment"] [.none]
 js:Pp K t.aw "all_at" "Shelf.all_at" (inClass bF 10) ["self","moment"] t.tZ t.kK
 HS:Binds K t.kK ["self","moment"] [.none]
 mM:mg "MOST_NAME_SIGNS"= some (.int 8 t.nO)
 nU:mg "MOST_KEY_SIGNS"= some (.int 12 t.pT)
 mO:mg "MOST_WORD_SIGNS"= some (.int 40 t.nQ)
 jI:mg "MOST_COLUMNS"= some (.int 8 t.t5)
 fL:mg "MOST_PARTS_orders"= some (.int 8 t.lY)
 xS:mg "MOST_DEEP"= some (.int 8 t.Bw)
 kL:mg "MOST_PARTS_sieves"= some (.int 200 t.lZ)
 mP:mg "MOST_IN_A_TUPLE"= some (.int 8 t.nR)
 Bx:mg "KINDS"= some (.ref t.rZ)
 By:∀H,Rv K H (.kt [.str "number",.str "word"])<|.ref t.rZ
 xT:mg "OTHER_WAY"= some (.ref t.kH)
 Bz:Mf w K t.kH [("up",.str "down"),("down",.str "up")]
 xU:mg "OTHER_END"= some (.ref t.kI)
 BA:Mf w K t.kI [("first",.str "last"),("last",.str "first")]
 nV:mg "LENGTHS_sieves"= some (.ref t.iS)
 pU:Mf w K t.iS [("every",.int 1),("is",.int 3),("below",.int 3),("above",.int 3),("begins",.int 3),("key",.int 2),("not",.int 2),("and",.int 2),("or",.int 2)]
 iU:mg "LENGTHS_deeds"= some (.ref t.jH)
 jJ:Mf w K t.jH [("put",.int 3),("change",.int 3),("take",.int 2)]
 aR:mg "len"= none
 mf:mg "all"= none
 ah:mg "isinstance"= none
 fH:mg "range"= none
 FP:mg "int"= none
 kM:mg "str"= none
 Sz:mg "bool"= none
 bc:mg "tuple"= none
 pV:mg "list"= none
 SE:mg "dict"= none
 FQ:mg "set"= none
 Py:mg "zip"= none
 gF:mg "sorted"= none
 X2:mg "min"= none
 X3:mg "sum"= none
 qG:mg "enumerate"= none
 t6:mg "reversed"= none
 nW:mg "PageError"= some (.ref t.bO)
 ia:excIn K t.bO L2.rn "ValueError.__new__"= true
 cz:mg "BadColumns"= some (.ref t.aG)
 bM:excIn K t.aG L2.rn "ValueError.__new__"= true
 dO:mg "BadRow"= some (.ref t.bC)
 dZ:excIn K t.bC L2.rn "ValueError.__new__"= true
 bD:mg "BadOrder"= some (.ref t.aN)
 bz:excIn K t.aN L2.rn "ValueError.__new__"= true
 kN:mg "BadSieve"= some (.ref t.aQ)
 gG:excIn K t.aQ L2.rn "ValueError.__new__"= true
 HU:mg "HasKey"= some (.ref t.kJ)
 t9:excIn K t.kJ L2.rn "ValueError.__new__"= true
 KN:mg "NoKey"= some (.ref t.jr)
 xV:excIn K t.jr L2.rn "ValueError.__new__"= true
 eI:mg "BadDeed"= some (.ref t.aT)
 dP:excIn K t.aT L2.rn "ValueError.__new__"= true
 iD:XA K t.aG
 kO:XA K t.aN
 kP:XA K t.aQ
 mQ:XA K t.aT
 cT:mroIn K t.aG (.ref t.bO)=ϑ true
 eJ:mroIn K t.bC (.ref t.bO)=ϑ true
 eE:mroIn K t.bC (.ref t.bC)=ϑ true
 dw:mroIn K t.aN (.ref t.bO)=ϑ true
 dy:mroIn K t.aQ (.ref t.bO)=ϑ true
 eK:mroIn K t.kJ (.ref t.bO)=ϑ true
 e8:mroIn K t.jr (.ref t.bO)=ϑ true
 cF:mroIn K t.aT (.ref t.bO)=ϑ true
 k_BadColumns_BadColumns:kitOne K (.ref t.aG) (.ref t.aG)=ϑ true
 k_BadColumns_BadRow:kitOne K (.ref t.aG) (.ref t.bC)=ϑ false
 k_BadColumns_BadOrder:kitOne K (.ref t.aG) (.ref t.aN)=ϑ false
 k_BadColumns_BadSieve:kitOne K (.ref t.aG) (.ref t.aQ)=ϑ false
 k_BadColumns_BadDeed:kitOne K (.ref t.aG) (.ref t.aT)=ϑ false
 k_BadOrder_BadColumns:kitOne K (.ref t.aN) (.ref t.aG)=ϑ false
 k_BadOrder_BadRow:kitOne K (.ref t.aN) (.ref t.bC)=ϑ false
 k_BadOrder_BadOrder:kitOne K (.ref t.aN) (.ref t.aN)=ϑ true
 k_BadOrder_BadSieve:kitOne K (.ref t.aN) (.ref t.aQ)=ϑ false
 k_BadOrder_BadDeed:kitOne K (.ref t.aN) (.ref t.aT)=ϑ false
 k_BadSieve_BadColumns:kitOne K (.ref t.aQ) (.ref t.aG)=ϑ false
 k_BadSieve_BadRow:kitOne K (.ref t.aQ) (.ref t.bC)=ϑ false
 k_BadSieve_BadOrder:kitOne K (.ref t.aQ) (.ref t.aN)=ϑ false
 k_BadSieve_BadSieve:kitOne K (.ref t.aQ) (.ref t.aQ)=ϑ true
 k_BadSieve_BadDeed:kitOne K (.ref t.aQ) (.ref t.aT)=ϑ false
 k_BadDeed_BadColumns:kitOne K (.ref t.aT) (.ref t.aG)=ϑ false
 k_BadDeed_BadRow:kitOne K (.ref t.aT) (.ref t.bC)=ϑ false
 k_BadDeed_BadOrder:kitOne K (.ref t.aT) (.ref t.aN)=ϑ false
 k_BadDeed_BadSieve:kitOne K (.ref t.aT) (.ref t.aQ)=ϑ false
 k_BadDeed_BadDeed:kitOne K (.ref t.aT) (.ref t.aT)=ϑ true
 BB:mg "Shelf"= some (.ref t.aw)
 aj:rN K t.aw
 BC:Mk K t.aw (t.D9 0)
 cL:findIn K (.ref t.aw) "columns"= some none
 cM:findIn K (.ref t.aw) "deeds"= some none
 bP:findIn K (.ref t.aw) "runs"= some none
 BD:mg "Trail"= some (.ref t.aU)
 aE:rN K t.aU
 BE:Mk K t.aU (t.D_ 0)
 bt:findIn K (.ref t.aU) "shelf"= some none
 cN:findIn K (.ref t.aU) "order"= some none
 e_:findIn K (.ref t.aU) "sieve"= some none
 bG:findIn K (.ref t.aU) "hinder"= some none
 ib:t.iT.code=.ref t.hW
 fb:codeHdIn K t.hW t.aX=ϱ
 nX:t.aX∈t.ts
 fZ:t.gD.code=.ref t.fY
 dW:codeHdIn K t.fY t.aO=ϱ
 l4:t.aO∈t.ts
 np:[t.aX,t.aO].Nodup
 ta:∀b∈t.ts,b=t.aX\/b=t.aO
 bl:∀(s:ζ)(u:ξ),BindsTo s t.KL {[u],[]} [("_law_script",u)]
section
variable{w:Ω}{K:Φ}{mg:ρ->θ ξ}{t:fj}(T:Txt w K mg t)
def Txt.nY:=T.fn 16<|`a
def Txt.iV:=T.fn 17<|`a
def Txt.pW:=T.fn 18<|`a
def Txt.nZ:=T.fn 19<|`a
def Txt.pX:=T.fn 20<|`a
def Txt.xW:=T.fn 21<|`a
def Txt.lJ:=T.fn 22<|`a
def Txt.t_:=T.fn 23<|`a
def Txt.compared:=T.fn 24<|`a
def Txt.eL:=T.fn 25<|`a
def Txt.dk:=T.fn 28<|`a
def Txt.gm:=T.fn 29<|`a
def Txt.gH:=T.fn 30<|`a
def Txt.gI:=T.fn 31<|`a
def Txt.eS:=T.fn 32<|`a
def Txt.jt:=T.fn 33<|`a
def Txt.dA:=T.fn 34<|`a
def Txt.pY:=T.fn 39<|`a
def Txt.xX:=T.fn 40<|`a
def Txt.dD:=T.fn 41<|`a
def Txt.lK:=T.fn 42<|`a
def Txt.n5:=T.fn 43<|`a
def Txt.fV:=T.fn 44<|`a
def Txt.n6:=T.fn 45<|`a
def Txt.ic:=T.fn 51<|`a
def Txt.pZ:=T.fn 52<|`a
def Txt.gJ:=T.fn 53<|`a
def Txt.iE:=T.fn 55<|`a
def Txt.passes:=T.fn 56<|`a
def Txt.gL:=T.fn 59<|`a
def Txt.ju:=T.fn 60<|`a
def Txt.ua:=T.fn 61<|`a
def Txt.gM:=T.fn 63<|`a
def Txt.dE:=T.fn 67<|`a
def Txt.lL:=T.fn 68<|`a
def Txt.r9:=T.fn 69<|`a
def Txt.kQ:=T.fn 71<|`a
def Txt.ie:=T.fn 74<|`a
def Txt.eM:=T.fn 76<|`a
def Txt.fI:=T.fn 77<|`a
def Txt.Ea:=T.fn 78<|`a
def Txt.fJ:=T.fn 80<|`a
def Txt.iW:=T.fn 82<|`a
def Txt.ig:=T.fn 83<|`a
def Txt.p6:=T.fn 84<|`a
def Txt.xY:=T.fn 85<|`a
def Txt.KO:=T.fn 86<|`a
def Txt.ub:=T.fn 87<|`a
def Txt.xZ:=T.fn 88<|`a
def Txt.ud:=T.fn 89<|`a
def Txt.x5:=T.fn 90<|`a
def Txt.n8:=T.fn 91<|`a
def Txt.x6:=T.fn 92<|`a
def Txt.Eb:=T.fn 93<|`a
def Txt.Ec:=T.fn 94<|`a
def Txt.ue:=T.fn 95<|`a
def Txt.mR:=T.fn 96<|`a
def Txt.x8:=T.fn 97<|`a
def Txt.fc:=T.fn 98<|`a
def Txt.mS:=T.fn 99<|`a
def Txt.bW:=T.fG 0<|`a
def Txt.eT:=T.fG 1<|`a
def Txt.cn:=T.fG 2<|`a
def Txt.dF:=T.fG 3<|`a
def Txt.cU:=T.fG 4<|`a
def Txt.cq:=T.fG 5<|`a
def Txt.cW:=T.fG 6<|`a
def Txt.bu:=T.fG 7<|`a
def Txt.gp:=T.fG 8<|`a
def Txt.cX:=T.fG 13<|`a
def Txt.bX:=T.nS 0<|`a
def Txt.dQ:=T.nS 1<|`a
def Txt.fW:=T.nS 2<|`a
def Txt.cY:=T.nS 3<|`a
def Txt.fe:=T.nS 4<|`a
end
def BF:=cR<|top 16
def x9:=cR<|top 17
def x_:=cR<|top 18
def Ed:=cR<|top 19
def HV:=cR<|top 20
def Ee:=cR<|top 21
def uf:=cR<|top 22
def BG:=cR<|top 23
def qH:=cR<|top 24
def fq:=cR<|top 25
def iX:=cR<|top 28
def n_:=cR<|top 29
def BH:=cR<|top 30
def vI:=cR<|top 31
def oa:=cR<|top 32
def vJ:=cR<|top 33
def BI:=cR<|top 34
def HW:=cR<|top 39
def HX:=cR<|top 40
def cO:=cR<|top 41
def ug:=cR<|top 42
def qI:=cR<|top 43
def bY:=cR<|top 44
def qJ:=cR<|top 45
def bZ:=cR<|top 51
def y_:=cR<|top 52
def oh:=cR<|top 53
def fA:=cR<|top 55
def HY:=cR<|top 56
def oi:=cR<|top 59
def jK:=cR<|top 60
def ij:=cR<|top 61
def oj:=cR<|top 62
def dq:=cR<|top 63
def l5:=cR<|top 64
def mh:=cR<|top 67
def uh:=cR<|top 68
def Ef:=cR<|top 69
def cP:=cR<|top 71
def kR:=cR<|top 74
def bq:=cR<|top 76
def p7:=cR<|top 77
def HZ:=cR<|top 78
def p8:=cR<|top 80
def z_:=cR<|top 82
def dG:=cR<|top 83
def dR:=cR<|top 84
def uk:=cR<|top 85
def BJ:=cR<|top 86
def BK:=cR<|top 87
def fB:=cR<|top 88
def qL:=cR<|top 89
def gq:=cR<|top 90
def um:=cR<|top 91
def gN:=cR<|top 92
def iY:=cR<|top 93
def H9:=cR<|top 94
def bQ:=cR<|top 95
def aC:=cR<|top 96
def mT:=cR<|top 97
def aW:=cR<|top 98
def iF:=cR<|top 99
def dH:=cR<|top 100
def ik:=cR<|inClass bF 0
def Ab:=cR<|inClass bF 1
def rA:=cR<|inClass bF 2
def vK:=cR<|inClass bF 3
def jY:=cR<|inClass bF 4
def iZ:=cR<|inClass bF 5
def ft:=cR<|inClass bF 6
def kT:=cR<|inClass bF 7
def Ac:=cR<|inClass bF 8
def gO:=cR<|inClass bF 9
def fX:=cR<|inClass bF 10
def jZ:=cR<|inClass bF 13
def ip:=cR<|inClass jq 0
def cG:=cR<|inClass jq 1
def mU:=cR<|inClass jq 2
def dm:=cR<|inClass jq 3
def om:=cR<|inClass jq 4
theorem sm(h:n<=1000):n<=sizeLine:=yU<|lC h
theorem BL:0<=sizeLine:=sm<|`a
theorem oo:1<=sizeLine:=sm<|`a
theorem eU:2<=sizeLine:=sm<|`a
theorem Ad:3<=sizeLine:=sm<|`a
theorem KP:4<=sizeLine:=sm<|`a
theorem H_:8<=sizeLine:=sm<|`a
theorem X4:12<=sizeLine:=sm<|`a
def Gt(S:av)(d:D):Prop:=(∃k,Mh S d k)/\∀z,d=.str z->z.cps.size<=1000
noncomputable def isLet(c:π):Bool:=ω (97<=c)&&ω (c<=122)
noncomputable def FR(c:π):Bool:=ω (48<=c)&&ω (c<=57)
noncomputable def FT(c:π):Bool:=ω (32<=c)&&ω (c<=126)
noncomputable def kU(z:ρ):Bool:=ω (1<=z.cps.size)&&ω (z.cps.size<=8)&&z.cps.toList.all isLet
noncomputable def j5(z:ρ):Bool:=ω (1<=z.cps.size)&&ω (z.cps.size<=12)&&(z.cps.toList.head?.any isLet)&&z.cps.toList.all λc=>isLet c||FR c
noncomputable def qM(z:ρ):Bool:=ω (z.cps.size<=40)&&z.cps.toList.all FT
noncomputable def ofStr(f:ρ->χ):D->χ|.str z=>f z|_=>false
noncomputable def uo:D->χ|.int _=>true|_=>false
noncomputable def iG(kind:ρ)(d:D):Bool:=ai d||if kind ="number" then uo d else ofStr qM d
def N2(f:D->χ):lH:=λds S R z=>∃d,ds=[d]/\Gt S d/\R (.bl<|f d) S
def KQ(f:π->χ):lH:=λds S R z=>∃c,ds=[.str ⟨#[c]⟩]/\R (.bl<|f c) S
theorem qN:∀{xs ys:δ D}{a b:D},Paired rel xs ys->rel a b->Paired rel (xs++[a]) (ys++[b])|_,_,_,_,.nil,r=>.cons r .nil|_,_,_,_,.cons q t,r=>.cons q<|qN t r
def take_snoc{α:Type}{l:δ α}{i:π}{d:α}(h:l[i]?=some d):l.take (i+1)=l.take i++[d]:=by rw[List.take_add_one,h];rfl
def oq{I:qC}{S1:av}{g:CA}{te:TD}{σ:SD}{src:δ<|θ π}{R:KD}(rel:D->D->η)(aK:I.ok S1)(hz:I.xs.length<=1000) (step:∀d,d∈I.xs->∀Q:KD,(∀v,rel d v->Q v S1)->g d (qD σ src) S1 λjV S3=>te jV S3 Q Zf) (c:∀out,Paired rel I.xs out->∀p,S1 p=ϐ->R (.ref p) (S1.set p<|.lst out)): Fw σ src g wA te R I S1:=by
 show{λi out S=>S=S1/\Paired rel (I.xs.take i) out,{rfl,.nil},λi out S h=>by rw[h.1];show aK,?_,?_};rintro i d out S hd ⟨rfl,hp⟩;have a:=yP hp;rw[yq]at a;show{lC<|`b,?_};have e:(λ(jV:SD)(S3:av)=>wA jV S3 (λb j=>if b=ϱ then te jV j (λv S5=>S5=S/\Paired rel (I.xs.take<|i+1) (out++[v])) Zf else j=S/\Paired rel (I.xs.take<|i+1) out) Zf)=λjV S3=>te jV S3 (λv S5=>S5=S/\Paired rel (I.xs.take<|i+1) (out++[v])) Zf:=by funext jV S3;simp[wA]
 rw[e];show step d (zB hd) _ λv hv=>{rfl,by rw[take_snoc hd];show qN hp hv};rintro out l ⟨rfl,hp⟩;rw[yO]at hp;show c out hp
theorem uq:∀{xs out:δ D},Paired (λd v=>v=f d) xs out->out=xs.map f|_,_,.nil=>rfl|_,_,.cons r t=>by rw[r,uq t];rfl
theorem comp_map(f:D->D)(aK:I.ok S1)(hz:I.xs.length<=1000) (step:∀d,d∈I.xs->∀Q:KD,Q (f d) S1->g d (qD σ src) S1 λjV S3=>te jV S3 Q Zf) (a:∀p,S1 p=ϐ->R (.ref p) (S1.set p<|.lst<|I.xs.map f)): Fw σ src g wA te R I S1:=oq (λd v=>v=f d) aK hz (λd hd Q h=>step d hd Q<|h _ rfl) λout hp p c=>by rw[uq hp];show a p c
def fC{I:qC}{S1:av}{g:CA}{tc:lW}{te:TD}{σ:SD}{src:δ<|θ π}{R:KD}(keep:D->χ)(f:D->D)(aK:I.ok S1)(hz:I.xs.length<=1000) (step:∀d,d∈I.xs->∀(Q:KD)(e:av->η),(keep d=ϱ->Q (f d) S1)->(keep d=ϰ->e S1)->g d (qD σ src) S1 λjV S3=>tc jV S3 (λb S4=>if b=ϱ then te jV S4 Q Zf else e S4) Zf) (c:∀p,S1 p=ϐ->R (.ref p) (S1.set p<|.lst<|(I.xs.filter keep).map f)): Fw σ src g tc te R I S1:=by show{λi out S=>S=S1/\out=((I.xs.take i).filter keep).map f,⟨rfl,rfl⟩,λi out S h=>by rw[h.1];show aK,?_,?_};rintro i d out S hd ⟨rfl,rfl⟩;have a:((I.xs.take i).filter keep).length<=(I.xs.take i).length:=yD _ _;rw[yq]at a;show{by rw[zd];show lC<|`b,?_};show step d (zB hd) _ (λS4=>S4=S/\_=_) (λhk=>{rfl,?_}) λhk=>{rfl,?_};rw[take_snoc hd,List.filter_append,zQ,yW,qb hk];rfl;rw[take_snoc hd,List.filter_append,yW,qa<|by rw[hk];show ze];simp;rintro out j ⟨rfl,rfl⟩;rw[yO];show c
variable{P:Ψ}{w:Ω}{K:Φ}{mg:ρ->θ ξ}{base:Γ}{t:fj}
def qO(T:Txt w K mg t):Ok P w base T.nY 1 (N2 uo):=by
 show T.nY.F.cy BF ?_;obtain⟨d,e,⟨⟨k,hk⟩,hz⟩,q⟩;show{_,(s1<|sr<|pL (cb bE T.ah ag<|ap 0<|ac (lG T.FP xw) an)<|IV<|aa9<|cb bE T.ah ag<|ap 0<|ac (lG T.Sz M8) an),?_};show !{_,_,_,_,rfl,Na,hk,_,rfl,?_};have:(Df k=ϱ/\((uo d=ϱ/\xy k=ϰ)\/(uo d=ϰ/\xy k=ϱ)))\/(Df k=ϰ/\uo d=ϰ):=by cases d with|ay=>(cases hk;show .inr ⟨rfl,rfl⟩)|bl b=>(cases hk;show .inl {rfl,.inr ⟨rfl,rfl⟩})|int b=>(cases hk;show .inl {rfl,.inl ⟨rfl,rfl⟩})|str b=>(cases hk;show .inr ⟨rfl,rfl⟩)|tup b=>(cases hk;show .inr ⟨rfl,rfl⟩)|ref a=>(rcases hk with⟨rfl,_⟩|⟨rfl,_⟩<;>show .inr ⟨rfl,rfl⟩)|_=>show hk.elim
 rcases this with⟨h1,h2⟩|⟨h1,h2⟩;rw[h1];show bw !{_,_,_,_,rfl,JN,hk,_,rfl,?_};rcases h2 with⟨h2,c⟩|⟨h2,c⟩<;>(rw[c];rw[h2]at q;show fo q);rw[h1];rw[h2]at q;show aM<|fo q
def jv(T:Txt w K mg t):Ok P w base T.iV 1 (KQ isLet):=by show T.iV.F.cy x9 ?_;obtain⟨c,e,q⟩;show{_,(s1<|sr<|cc mG mG `u ds (dv 0) ds),?_};show !!⟨?_⟩;have e1:IQ "a" ⟨#[c]⟩=ω (97<=c):=lF 97 c;have e2:IQ ⟨#[c]⟩ "z"= ω (c<=122):=lF c 122;unfold isLet at q;show cI (λh=>?_) λh=>?_;rw[e1.symm.trans h,yf,<-e2]at q;show fo q;rw[e1.symm.trans h,zU]at q;show fo q
def Ae(T:Txt w K mg t):Ok P w base T.pW 1 (KQ FR):=by show T.pW.F.cy x_ ?_;obtain⟨c,e,q⟩;show{_,(s1<|sr<|cc mG mG `u ds (dv 0) ds),?_};show !!⟨?_⟩;have e1:IQ "0" ⟨#[c]⟩=ω (48<=c):=lF 48 c;have e2:IQ ⟨#[c]⟩ "9"= ω (c<=57):=lF c 57;unfold FR at q;show cI (λh=>?_) λh=>?_;rw[e1.symm.trans h,yf,<-e2]at q;show fo q;rw[e1.symm.trans h,zU]at q;show fo q
def Ia(h:d∈gz z):∃c,c∈z.cps.toList/\d=.str ⟨#[c]⟩:=by unfold gz at h;let⟨c,a,e⟩:=zk.mp h;show⟨c,a,e.symm⟩
noncomputable def FU(f:π->χ):D->D|.str z=>.bl (z.cps.toList.head?.any f)|_=>.ay
def Ib:(gz z).map (FU f)=(z.cps.toList.map f).map D.bl:=by unfold gz;rw[zC,zC];rfl
def all_map{α:Type}{l:δ α}{f:α->χ} : (l.map f).all id=l.all f:=by rw[List.all_map];rfl
def p9{z:ρ}{f:π->χ}{g:CA}{te:TD}{σ:SD}{src:δ<|θ π}{S:av}{R:KD}{Z:KX}{i:π}(hv:σ[i]?=some (some<|.str z))(hz:z.cps.size<=1000) (step:∀c,c∈z.cps.toList->∀Q:KD,Q (.bl<|f c) S->g (.str ⟨#[c]⟩) (qD σ src) S λjV S3=>te jV S3 Q Zf) (q:R (.bl<|z.cps.toList.all f) S): Wy WQ (O5 (wu (Pe<|Wu i) src g wA te) JZ) σ S (λd S'=>Fo S'<|R d) Z:=by show{_,hv,z,rfl,?_};show My.comp_map (I:={gz z,λx=>True}) (FU f) trivial (by change(gz z).length<=1000;unfold gz;rw[zd,yy];show hz) (λd hd Q a=>?_) λp hp=>?_;let⟨c,e,rfl⟩:=Ia hd;show step c e Q (by simpa [FU]using a);show{.ref p,z.cps.toList.map f,rfl,?_,S,.new hp,?_};change(S.set p<|.lst<|(gz z).map<|FU f) p=_;rw[aa,Ib];rw[all_map];show q
def ur{S:av}{d:D}{k:Kd}(hk:Mh S d k):(∃z,d=.str z/\Dg k=ϱ)\/(Dg k=ϰ/\∀f,ofStr f d=ϰ):=by cases d with|str b=>(cases hk;show .inl ⟨b,rfl,rfl⟩)|ay=>(cases hk;show .inr {rfl,λx=>rfl})|bl b=>(cases hk;show .inr {rfl,λx=>rfl})|int b=>(cases hk;show .inr {rfl,λx=>rfl})|tup b=>(cases hk;show .inr {rfl,λx=>rfl})|ref a=>(rcases hk with⟨rfl,_⟩|⟨rfl,_⟩<;>show .inr {rfl,λx=>rfl})|_=>show hk.elim
def mV{S:av}{d:D}{k:Kd}(hk:Mh S d k):(∃ds,d=.tup ds/\tD k=ϱ)\/(tD k=ϰ/\∀ds,d≠.tup ds):=by cases d with|tup b=>(cases hk;show .inl ⟨b,rfl,rfl⟩)|ay=>(cases hk;show .inr {rfl,λz=>nofun})|bl b=>(cases hk;show .inr {rfl,λz=>nofun})|int b=>(cases hk;show .inr {rfl,λz=>nofun})|str b=>(cases hk;show .inr {rfl,λz=>nofun})|ref a=>(rcases hk with⟨rfl,_⟩|⟨rfl,_⟩<;>show .inr {rfl,λz=>nofun})|_=>show hk.elim
def mW(T:Txt w K mg t):Ok P w base T.nZ 2 (N2<|ofStr kU):=by
 show T.nZ.F.cy Ed ?_;obtain⟨d,e,⟨⟨k,hk⟩,hz⟩,q⟩;show{_,(sc (si (twd<|twor (bS<|tv<|cb bE T.ah ag<|ap 0<|ac (lG T.kM gw) an)<|tw1<|bS<|tcc mG mG `u di (cb aY T.aR aH<|ap 0 an)<|dg (v:=.int 8) T.mM {_,rfl} λx=>aS _) (s1<|sr db) s0)<|s1<|sr<|cb me T.mf iB<|ac (AH (N:=["sign"]) (src:=[none]) (pd HQ) (RU<|dv 0) vF<|bA T.iV (jv T) hr<|ap 0 an) an),?_};show !{_,_,_,_,rfl,br,hk,_,rfl,?_};rcases ur hk with⟨z,rfl,h0⟩|⟨h0,h1⟩;have hz:=hz z rfl;rw[h0];show aM ?_;show !!⟨{sm hz,?_}⟩;show{_,rfl,?_};have e1:ω ((1:ν)<=(z.length:π))=ω (1<=z.cps.size):=by rw[yX];change(1:ν)<=((z.cps.size:π):ν)↔_;omega
 have e2:ω (((z.length:π):ν)<=8)=ω (z.cps.size<=8):=by rw[yX];change((z.cps.size:π):ν)<=8↔_;omega
 unfold ofStr kU at q;dsimp only at q;show cI (λh2=>?_) λh2=>?_;rw[e1.symm.trans h2,yf]at q;show{_,rfl,?_};show cI (λa=>?_) λa=>?_;rw[e2.symm.trans<|nt a,zU]at q;show fo q;rw[e2.symm.trans<|nf a,yf]at q;show p9 rfl hz (λc h Q g=>!⟨c,rfl,g⟩) q;rw[e1.symm.trans h2,zU,zU]at q;show{_,rfl,?_};show bw<|fo q;rw[h0];rw[h1]at q;show bw<|bw<|fo q
def aF(c:ρ×ρ):D:=.tup [.str c.1,.str c.2]
def Gd(cs:δ<|ρ×ρ):Prop:=cs.length<=8/\(cs.map Prod.fst).Nodup/\∀c∈cs,kU c.1=ϱ/\(c.2 ="number"\/c.2 ="word")
noncomputable def gf(cs:δ<|ρ×ρ):D->χ|.tup ws=>ω (ws.length=cs.length)&&(List.zipWith (λc v=>iG c.2 v) cs ws).all id|_=>false
noncomputable def eV(cs:δ<|ρ×ρ)(k v:D):Bool:=ofStr j5 k&&gf cs v
def CC(S:av)(d:D):Prop:=Gt S d/\∀ws,d=.tup ws->ws.length<=1000/\∀v∈ws,Gt S v
def lM(T:Txt w K mg t):Ok P w base T.pX 2 (N2<|ofStr j5):=by
 show T.pX.F.cy HV ?_;obtain⟨d,e,⟨⟨k,hk⟩,hz⟩,q⟩;show{_,(sc (si (twd<|twor (bS<|tv<|cb bE T.ah ag<|ap 0<|ac (lG T.kM gw) an)<|tw1<|bS<|tcc mG mG `u di (cb aY T.aR aH<|ap 0 an)<|dg (v:=.int 12) T.nU {_,rfl} λx=>aS _) (s1<|sr db) s0)<|sc (si (bS<|tv<|bA T.iV (jv T) hr<|ac (ix `u (dv 0) di) an) (s1<|sr db) s0)<|s1<|sr<|cb me T.mf iB<|ac (AH (N:=["sign"]) (src:=[none]) (pd KH) (RU<|dv 0) vF<|eor (bA T.iV (jv T) hr<|ap 0 an)<|IV<|bA T.pW (Ae T) hr<|ap 0 an) an),?_};show !{_,_,_,_,rfl,br,hk,_,rfl,?_};rcases ur hk with⟨z,rfl,h0⟩|⟨h0,h1⟩;have hz:=hz z rfl;rw[h0];show aM ?_;show !!⟨{sm hz,?_}⟩;show{_,rfl,?_};have e1:ω ((1:ν)<=(z.length:π))=ω (1<=z.cps.size):=by rw[yX];change(1:ν)<=((z.cps.size:π):ν)↔_;omega
 have e2:ω (((z.length:π):ν)<=12)=ω (z.cps.size<=12):=by rw[yX];change((z.cps.size:π):ν)<=12↔_;omega
 unfold ofStr j5 at q;dsimp only at q;show cI (λh2=>?_) λh2=>?_;have a:=e1.symm.trans h2;rw[a,yf]at q;show{_,rfl,?_};show cI (λj=>?_) λj=>?_;rw[e2.symm.trans<|nt j,zU,zU]at q;show fo q;rw[e2.symm.trans<|nf j,yf]at q;let⟨c,r,l⟩:=len_pos (z:=z)<|zI a;have m:z.cps.toList.head?.any isLet=isLet c:=by rw[l];rfl
 rw[m]at q;show !{c,sm hz,Hl l,c,rfl,_,rfl,?_};show cI (λh=>?_) λh=>?_;rw[nt h,zU]at q;show fo q;rw[nf h,yf]at q;show p9 (f:=λc=>isLet c||FR c) rfl hz (λc n Q g=>?_) q;show !{c,rfl,_,rfl,?_};show cI (λi=>?_) λi=>?_;rw[i,Bool.true_or]at g;show g;rw[i,Bool.false_or]at g;show{_,rfl,c,rfl,g};rw[e1.symm.trans h2,zU,zU,zU]at q;show{_,rfl,?_};show bw<|fo q;rw[h0];rw[h1]at q;show bw<|bw<|fo q
def Eg(T:Txt w K mg t):Ok P w base T.xW 2 (N2<|ofStr qM):=by
 show T.xW.F.cy Ee ?_;obtain⟨d,e,⟨⟨k,hk⟩,hz⟩,q⟩;show{_,(sc (si (twd<|twor (bS<|tv<|cb bE T.ah ag<|ap 0<|ac (lG T.kM gw) an)<|tw1<|bJ vE `u (cb aY T.aR aH<|ap 0 an)<|dg (v:=.int 40) T.mO {_,rfl} λx=>aS _) (s1<|sr db) s0)<|s1<|sr<|cb me T.mf iB<|ac (AH (N:=["sign"]) (src:=[none]) (pd HR) (RU<|dv 0) vF<|cc mG mG `u ds (dv 0) ds) an),?_};show !{_,_,_,_,rfl,br,hk,_,rfl,?_};rcases ur hk with⟨z,rfl,h0⟩|⟨h0,h1⟩;have hz:=hz z rfl;rw[h0];show aM ?_;show !!⟨{sm hz,?_}⟩;show{_,rfl,?_};have e2:ω ((40:ν)<((z.length:π):ν))=!decide (z.cps.size<=40):=by rw[yu];simp only[decide_eq_true_iff,yB,decide_eq_false_iff_not];change(40:ν)<((z.cps.size:π):ν)↔_;omega
 unfold ofStr qM at q;dsimp only at q;show cI (λg=>?_) λg=>?_;rw[nt<|e2.symm.trans g,zU]at q;show fo q;rw[nf<|e2.symm.trans g,yf]at q;show p9 (f:=FT) rfl hz (λc i Q a=>?_) q;show !!⟨?_⟩;have e3:IQ " " ⟨#[c]⟩=ω (32<=c):=lF 32 c;have e4:IQ ⟨#[c]⟩ "~"= ω (c<=126):=lF c 126;unfold FT at a;show cI (λh=>?_) λh=>?_;rw[e3.symm.trans h,yf,<-e4]at a;show a;rw[e3.symm.trans h,zU]at a;show a;rw[h0];rw[h1]at q;show bw<|bw<|fo q
inductive uv (ds:δ D) (S:av) (R:KD) (Z:KX):η
 |mk (kind d) (_:ds=[.str kind,d]) (_:Gt S d) (_:R (.bl<|iG kind d) S)
def BM(T:Txt w K mg t):Ok P w base T.t_ 3 uv:=by show T.t_.F.cy BG ?_;obtain⟨kind,d,e,hd,q⟩;show{_,(sc (si (bJ mH `u (dv 1) dn) (s1<|sr db) s0)<|sc (si (bJ cE `u (dv 0) ds) (s1<|sr<|bA T.nY (qO T) hr<|ap 1 an) s0)<|s1<|sr<|bA T.xW (Eg T) hr<|ap 1 an),?_};show !!⟨?_⟩;unfold iG at q;show cI (λh=>?_) λh=>?_;rw[h,Bool.true_or]at q;show fo q;rw[h,Bool.false_or]at q;show !!⟨?_⟩;show cI (λh=>?_) λh=>?_;rw[qb<|zI h]at q;show !{d,rfl,hd,fo q};rw[qa<|z0 h]at q;show !{d,rfl,hd,fo q}
theorem gt_str(h:z.cps.size<=1000):Gt S (.str z):={{.str,rfl},λy e=>by cases e;show h}
def wK(h:kU z=ϱ):z.cps.size<=1000:=by unfold kU at h;simp only[zR,zT]at h;lia
def Ie(h:∀c v,f (.tup [aF c,v])=.bl (iG c.2 v)):(jn (cs.map aF) ws).map f=(List.zipWith (λc v=>iG c.2 v) cs ws).map D.bl:=by unfold jn;induction cs generalizing ws with|nil=>(cases ws<;>rfl)|cons c cs a=>cases ws with|nil=>rfl|cons v ws=>change f (.tup [aF c,v])::(List.zipWith _ (cs.map aF) ws).map f=.bl (iG c.2 v)::_;rw[h,a]
noncomputable def pairF:D->D|.tup [.tup [_,.str k],v]=>.bl (iG k v)|_=>.ay
inductive wL (ds:δ D) (S:av) (R:KD) (Z:KX):η
 |mk (z) (_:ds=[.str z]) (_:(z ="number"\/z ="word")) (_:R (.bl true) S)
def Eh(T:Txt w K mg t):Ok P w base T.lJ 1 wL:=by
 show T.lJ.F.cy uf ?_;obtain⟨z,e,hz,q⟩;show{_,(s1<|sr<|pL (cb bE T.ah ag<|ap 0<|ac (lG T.kM gw) an)<|IV<|cm DP `u (dv 0)<|dg (v:=.ref t.rZ) T.Bx rfl T.By),?_};show !{_,_,_,_,rfl,br,rfl,_,rfl,bw !{rfl,rfl,?_}};have e:IM (mJ<|.str z) ([D.str "number",D.str "word"].map mJ)=ϱ:=by rcases hz with rfl|rfl<;>decide +kernel
 change Fo S (R<|.bl<|if false=ϱ then _ else IM (mJ<|.str z) ([D.str "number",D.str "word"].map mJ));rw[qa ze,e];show fo q
inductive qP (ds:δ D) (S:av) (R:KD) (Z:KX):η
 |mk (c) (_:ds=[aF c]) (_:kU c.1=ϱ) (_:(c.2 ="number"\/c.2 ="word")) (_:R (.bl true) S)
def Af(T:Txt w K mg t):Ok P w base T.gm 3 qP:=by show T.gm.F.cy n_ ?_;obtain⟨c,e,h1,h2,q⟩;show{_,(sc (si (twd<|twor (bS<|tv<|cb bE T.ah ag<|ap 0<|ac (lG T.bc aP) an)<|tw1<|bJ fK `u (cb aY T.aR aH<|ap 0 an) di) (s1<|sr db) s0)<|s1<|sr<|pL (bA T.nZ (mW T) hr<|ac (ix `u (dv 0) di) an)<|IV<|bA T.lJ (Eh T) hr<|ac (ix `u (dv 0) di) an),?_};show !{_,_,_,_,rfl,aq,rfl,_,rfl,?_};show aM !!!⟨aM ?_⟩;show !!!{gt_str<|wK h1,_,rfl,?_};change if kU c.1=ϱ then _ else _;rw[h1];show bw !!!{h2,fo q}
inductive uw (ds:δ D) (S:av) (R:KD) (Z:KX):η
 |mk (cs:δ<|ρ×ρ) (_:ds=[.tup<|cs.map aF]) (_:cs.length<=8) (_:∀p,S p=ϐ->R (.ref p) (S.set p<|.lst<|(cs.map Prod.fst).map D.str))
def kW(T:Txt w K mg t):Ok P w base T.gH 1 uw:=by
 show T.gH.F.cy BH ?_;obtain⟨cs,e,hl,q⟩;show{_,(s1<|sr<|Xe (N:=["name","kind"]) (src:=[none,none]) (pd D5) (HF<|dv 0) (Zl<|show(["name","kind"]:δ ρ).Nodup by trivial) (rQ rfl rfl) rX (λz z z z z=>vF) λz z z z z=>(dv 0)),?_};show !{_,.inl rfl,?_};show comp_map (λd=>match d with|.tup (x::_)=>x|_=>.ay) trivial (by change(cs.map aF).length<=1000;rw[zd];lia) (λd hd Q a=>?_) λp hp=>?_;let⟨c,g,rfl⟩:=zk.mp hd;show !{rfl,_,_,rfl,_,_,rfl,rfl,_,rfl,a};have e:(cs.map aF).map (λd=>match d with|.tup (x::_)=>x|_=>.ay)=(cs.map Prod.fst).map D.str:=by rw[zC,zC];rfl
 change Fo (S.set p<|.lst<|(cs.map aF).map _) (R<|.ref p);rw[e];show fo<|q p hp
inductive jL (ds:δ D) (S:av) (R:KD) (Z:KX):η
 |mk (cs) (_:ds=[.tup<|cs.map aF]) (_:Gd cs) (_:R .ay S)
def p_(T:Txt w K mg t):Ok P w base T.dk 4 jL:=by
 show T.dk.F.cy iX ?_;obtain⟨cs,e,⟨hl,hn,hg⟩,q⟩;show{_,(sc (si (twd<|twor (bS<|tv<|cb bE T.ah ag<|ap 0<|ac (lG T.bc aP) an)<|tw1<|bJ vE `u (cb aY T.aR aH<|ap 0 an)<|dg (v:=.int 8) T.jI {_,rfl} λz=>aS _) (s1<|lX ⟨T.bM⟩ T.cz<|ac ds an) s0)<|sc (si (bS<|tv<|cb me T.mf iB<|ac (AH (N:=["column"]) (src:=[none]) (pd jG) (HF<|dv 0) vF<|bA T.gm (Af T) hr<|ap 0 an) an) (s1<|lX ⟨T.bM⟩ T.cz<|ac ds an) s0)<|s1<|si (bJ fK `u (Zk (bA T.gH (kW T) hr<|ap 0 an) T.aR T.FQ)<|cb aY T.aR aH<|ap 0 an) (s1<|lX ⟨T.bM⟩ T.cz<|ac ds an) s0),?_};show !{_,_,_,_,rfl,aq,rfl,_,rfl,?_};have e1:ω ((8:ν)<((cs.map aF).length:π))=ϰ:=zp (by rw[zd];lia);show aM !!!⟨?_⟩;change if ω ((8:ν)<((cs.map aF).length:π))=ϱ then _ else _;rw[e1];show aM ?_;show !{_,.inl rfl,?_};show comp_map (λz=>.bl true) trivial (by change(cs.map aF).length<=1000;rw[zd];lia) (λd hd Q g=>?_) λp hp=>?_;let⟨c,a,rfl⟩:=zk.mp hd;show !{c,rfl,(hg c a).1,(hg c a).2,g};have e2:(cs.map aF).map (λz=>D.bl true)=(cs.map λz=>true).map D.bl:=by rw[zC,zC];rfl
 have e3:(cs.map λz=>true).all id=ϱ:=by rw[all_map];show yr.mpr λz z=>rfl
 show{.ref p,cs.map λz=>true,rfl,?_,_,rfl,?_};change(S.set p<|.lst<|(cs.map aF).map _) p=_;rw[aa,e2];rw[e3];show aM ?_;show !{cs,rfl,hl,λp2 h=>?_};show{cs.map Prod.fst,aa,by rw[zd];lia,_,rfl,_,rfl,_,rfl,?_};have e4:ω ((((jC<|cs.map Prod.fst).length:π):ν)=(((cs.map aF).length:π):ν))=ϱ:=zy (by rw[(wj _).mpr hn,zd,zd]);change if (if true=ϱ then !decide ((((jC<|cs.map Prod.fst).length:π):ν)=(((cs.map aF).length:π):ν)) else _)=ϱ then _ else _;rw[qb rfl,e4];show aM {S,(Sub.new hp).trans<|.new h,q}
inductive ot (ds:δ D) (S:av) (R:KD) (Z:KX):η
 |mk (cs d) (_:ds=[.tup<|cs.map aF,d]) (_:cs.length<=8) (_:CC S d) (_:R (.bl<|gf cs d) S)
def mi(T:Txt w K mg t):Ok P w base T.jt 4 ot:=by
 show T.jt.F.cy vJ ?_;obtain⟨cs,d,e,hl,⟨⟨⟨k,hk⟩,hz⟩,hw⟩,q⟩;show{_,(sc (si (twd<|twor (bS<|tv<|cb bE T.ah ag<|ap 1<|ac (lG T.bc aP) an)<|tw1<|bJ fK `u (cb aY T.aR aH<|ap 1 an)<|cb aY T.aR aH<|ap 0 an) (s1<|sr db) s0)<|s1<|sr<|cb me T.mf iB<|ac (Xe (N:=["column","value"]) (src:=[none,none]) (pd xR) (izn T.Py<|ap 0<|ap 1 an) (Zl<|show(["column","value"]:δ ρ).Nodup by trivial) (rQ rfl rfl) rX (λz z z z z=>vF) λz z z z z=>(bA T.t_ (BM T) hr<|ac (ix `u (dv 0) di)<|ap 1 an)) an),?_};show !{_,_,_,_,rfl,aq,hk,_,rfl,?_};rcases mV hk with⟨ws,rfl,h0⟩|⟨h0,h1⟩;let⟨j,g⟩:=hw ws rfl;rw[h0];show aM !!!!!⟨?_⟩;have e1:ω (((ws.length:π):ν)=(((cs.map aF).length:π):ν))=ω (ws.length=cs.length):=by rw[yX,zd];lia
 unfold gf at q;dsimp only at q;change if (if true=ϱ then !decide (((ws.length:π):ν)=(((cs.map aF).length:π):ν)) else _)=ϱ then _ else _;rw[qb rfl,e1];show cI (λh=>?_) λh=>?_;rw[nt h,zU]at q;show fo q;have h:=nf h;rw[h,yf]at q;have h:=zI h;show !!{cs.map aF,ws,rfl,by rw[zd];show h.symm,?_};show comp_map pairF trivial (by change(jn (cs.map aF) ws).length<=1000;unfold jn;rw[List.length_zipWith,zd];lia) (λd hd Q l=>?_) λp hp=>?_;unfold jn at hd;let⟨i,m⟩:=List.getElem?_of_mem hd;let⟨x,y,e2,e3,e4⟩:=List.getElem?_zipWith_eq_some.mp m;subst e4;rw[zm]at e2;cases a:cs[i]? with|none=>(rw[a]at e2;cases e2)|some c=>rw[a]at e2;cases e2;show !{rfl,_,_,rfl,_,_,rfl,rfl,_,rfl,_,rfl,_,rfl,c.2,y,rfl,g y<|zB e3,l}
 show{.ref p,List.zipWith (λc v=>iG c.2 v) cs ws,rfl,?_,S,.new hp,q};change(S.set p<|.lst<|(jn (cs.map aF) ws).map pairF) p=_;rw[aa,Ie λz z=>rfl];rw[h0];have e:gf cs d=ϰ:=by cases d with|tup ws=>show absurd rfl (h1 ws)|_=>rfl
 rw[e]at q;show bw<|bw<|fo q
inductive qQ (t:fj) (ds:δ D) (S:av) (R:KD) (Z:KX):η
 |mk (cs k v) (_:ds=[.tup<|cs.map aF,.tup [k,v]]) (_:cs.length<=8) (_:Gt S k) (_:CC S v) (_:(eV cs k v=ϱ->R .ay S)) (_:(eV cs k v=ϰ->Z t.bC S))
def jw(T:Txt w K mg t):Ok P w base T.eS 5 (qQ t):=by show T.eS.F.cy oa ?_;obtain⟨cs,k,v,e,hl,hk,hv,c,a⟩;show{_,(sc (si (twd<|twor (bS<|tv<|cb bE T.ah ag<|ap 1<|ac (lG T.bc aP) an)<|tw1<|bJ fK `u (cb aY T.aR aH<|ap 1 an) di) (s1<|lX ⟨T.dZ⟩ T.dO<|ac ds an) s0)<|sc (si (bS<|tv<|bA T.pX (lM T) hr<|ac (ix `u (dv 1) di) an) (s1<|lX ⟨T.dZ⟩ T.dO<|ac ds an) s0)<|s1<|si (bS<|tv<|bA T.jt (mi T) hr<|ap 0<|ac (ix `u (dv 1) di) an) (s1<|lX ⟨T.dZ⟩ T.dO<|ac ds an) s0),?_};show !{_,_,_,_,rfl,aq,rfl,_,rfl,?_};show aM !!!⟨aM ?_⟩;show !!{k,rfl,hk,_,rfl,?_};unfold eV at c a;show cI (λh=>?_) λh=>?_;rw[nt h,zU]at a;show{sm<|`a,fo<|a rfl};rw[nf h,yf]at c a;show !!!{cs,v,rfl,hl,hv,_,rfl,?_};show cI (λh=>?_) λh=>?_;show{sm<|`a,fo<|a<|nt h};show fo<|c<|nf h
def SG(S:av)(d:D):Prop:=(∃ds,d=.tup ds/\ds.length≠2)\/((∀ds,d≠.tup ds)/\Gt S d)
def SH(t:fj):lH:=λds S z Z=>∃(cs:δ (ρ×ρ))(d:D),ds=[.tup<|cs.map aF,d]/\SG S d/\Z t.bC S
def vL(T:Txt w K mg t):Ok P w base T.eS 5 (SH t):=by show T.eS.F.cy oa ?_;obtain⟨cs,d,e,h,q⟩;show{_,(sc (si (twd<|twor (bS<|tv<|cb bE T.ah ag<|ap 1<|ac (lG T.bc aP) an)<|tw1<|bJ fK `u (cb aY T.aR aH<|ap 1 an) di) (s1<|lX ⟨T.dZ⟩ T.dO<|ac ds an) s0)<|sc (si (bS<|tv<|bA T.pX (lM T) hr<|ac (ix `u (dv 1) di) an) (s1<|lX ⟨T.dZ⟩ T.dO<|ac ds an) s0)<|s1<|si (bS<|tv<|bA T.jt (mi T) hr<|ap 0<|ac (ix `u (dv 1) di) an) (s1<|lX ⟨T.dZ⟩ T.dO<|ac ds an) s0),?_};rcases h with⟨ds,rfl,h⟩|⟨h1,⟨k,hk⟩,_⟩;show !{_,_,_,_,rfl,aq,rfl,_,rfl,aM !!!⟨ph {sm<|`a,fo q}<|by change(!decide (((ds.length:π):ν)=2))=ϱ;rw[zp<|`b];rfl⟩};show !{_,_,_,_,rfl,aq,hk,_,rfl,?_};rcases mV hk with⟨ws,rfl,_⟩|⟨h0,_⟩;show absurd rfl<|h1 ws;rw[h0];show bw<|bw {sm<|`a,fo q}
def KR(F:bU P w K mg base (gb P w mg) k f fd ps<|rV K p)(G:bU P w K mg base (gb P w mg) k f fd ps<|rV K q):bU P w K mg base (gb P w mg) k f fd ps (rV K λds S R Z=>p ds S R Z\/q ds S R Z):=by show{λvs H Q E h=>?_,λA outer s H args us vs Q E hr e hb r h=>?_};obtain⟨ds,S,R,Z,a,b,c|c,d⟩:=h;show F.len vs H Q E ⟨ds,S,R,Z,a,b,c,d⟩;show G.len vs H Q E ⟨ds,S,R,Z,a,b,c,d⟩;obtain⟨ds,S,R,Z,a,b,c|c,d⟩:=h;show F.run A outer s H args us vs Q E hr e hb r ⟨ds,S,R,Z,a,b,c,d⟩;show G.run A outer s H args us vs Q E hr e hb r ⟨ds,S,R,Z,a,b,c,d⟩
def bg(h:n<=100000):n<sizeLine:=by rw[yg];lia
structure Std where
 b:π
 e:θ π
 ws:δ D
def eD:θ π->D|none=>.ay|some n=>.int (n:π)
def kX(s:Std):D:=.tup [.int (s.b:π),eD s.e,.tup s.ws]
noncomputable def UR:δ Std->ν->D|[],_=>.ay|s::r,m=>if (s.b:ν)<=m then (match s.e with|none=>.tup s.ws|some n=>if m<=(n:ν) then .tup s.ws else .ay) else UR r m
noncomputable def wt(l:δ Std)(m:ν):D:=UR l.reverse m
abbrev Ra:=δ<|ρ×ε×δ Std
abbrev r_:=δ<|ρ×δ Std
def i4(ra:Ra):r_:=ra.map λr=>(r.1,r.2.2)
def fg(ra:Ra):δ (Key×D):=ra.map λr=>(Sum.inr r.1,D.ref r.2.1)
noncomputable def lu(rs:r_)(k:ρ):θ (δ Std):=(rs.find? λr=>ω<|r.1=k).map (·.2)
noncomputable def vi(ra:Ra)(k:ρ):θ (ε×δ Std):=(ra.find? λr=>ω<|r.1=k).map (·.2)
noncomputable def vj(ra:Ra)(k:ρ)(s:δ Std):Ra:=ra.map λr=>if r.1=k then (r.1,r.2.1,s) else r
noncomputable def Ei(rs:r_)(k:ρ)(s:δ Std):r_:=if (lu rs k).isSome then rs.map λr=>if r.1=k then (r.1,s) else r else rs++[(k,s)]
def iH(ra:Ra)(k:ρ):lu (i4 ra) k=(vi ra k).map (·.2):=by unfold lu vi i4;induction ra with|nil=>rfl|cons r ra a=>rw[zK,yc,yc];by_cases h:r.1=k;rw[zy h];rfl;rw[zp h];show a
def i5(ra:Ra)(k:ρ):cK (fg ra) (.inr k)=(vi ra k).map λp=>D.ref p.1:=by unfold cK vi fg;induction ra with|nil=>rfl|cons r ra a=>rw[zK,yc,yc];by_cases h:r.1=k;rw[zy h];have:ω ((Sum.inr r.1:Key)=.inr k)=ϱ:=zy (by rw[h]);dsimp only;rw[this];rfl;rw[zp h];have:ω ((Sum.inr r.1:Key)=.inr k)=ϰ:=zp λe=>h<|yY e;dsimp only;rw[this];show a
def eF(h:vi ra k=ϑ (l,s)):(k,l,s)∈ra:=by unfold vi at h;cases q:ra.find? λr=>ω (r.1=k) with|none=>(rw[q]at h;cases h)|some r=>rw[q]at h;have h1:=List.find?_some q;have h2:=List.mem_of_find?_eq_some q;let⟨k',a,s'⟩:=r;have e:k'=k:=zI h1;cases h;rw[<-e];show h2
def ou(h:vi ra k=ϐ):∀r∈ra,r.1≠k:=by unfold vi at h;intro r hr e;have:=List.find?_eq_none.mp (Option.map_eq_none_iff.mp h) r hr;simp[e]at this
theorem lN:∀{l:δ α}{x y:α},(l.map f).Nodup->x∈l->y∈l->f x=f y->x=y|z::l,x,y,nd,hx,hy,e=>by rw[zK]at nd;let⟨n1,n2⟩:=yo.mp nd;rcases zl.mp hx with ex|d;rcases zl.mp hy with a|c;rw[ex,a];show absurd (zk.mpr {y,c,by rw[<-e,ex]}) n1;rcases zl.mp hy with a|c;show absurd (zk.mpr {x,d,by rw[e,a]}) n1;show lN n2 d c e
structure Ej(C:ε)(S:av)(a ld lr:ε)(cs:δ (ρ×ρ))(dl:δ D)(ra:Ra):η where
 ins:S a=ϑ (.ins C [("columns",.tup<|cs.map aF),("deeds",.ref ld),("runs",.ref lr)])
 CD:S ld=ϑ (.lst dl)
 run:S lr=ϑ (.cZ<|fg ra)
 cell:∀r∈ra,S r.2.1=ϑ (.lst<|r.2.2.map kX)
 kn:(ra.map (·.1)).Nodup
 an:(ld::ra.map (·.2.1)).Nodup
 sz:∀r∈ra,r.2.2.length<=dl.length
def fp(a ld lr:ε)(ra:Ra):δ Addr:=a::ld::lr::ra.map (·.2.1)
def c_(C:ε)(S:av)(a:ε)(F:δ ε)(cs:δ<|ρ×ρ)(dl:δ D)(rs:r_):Prop:=∃ld lr ra,Ej C S a ld lr cs dl ra/\F=fp a ld lr ra/\rs=i4 ra
def Ek(F F':δ ε)(S S':av):Prop:=∀b c,b∉F->S b=ϑ c->b∉F'/\S' b=ϑ c
theorem Ek.trans(a:Ek F F1 S S1)(b:Ek F1 F2 S1 S2):Ek F F2 S S2:=λp c h e=>by let⟨h1,e1⟩:=a p c h e;show b p c h1 e1
section
variable{C a ld lr:ε}{S:av}{cs:δ (ρ×ρ)}{dl:δ D}{ra:Ra}
def Ej.El(h:Ej C S a ld lr cs dl ra){l:ε}{ds:δ D}(e:S l=ϑ (.lst ds)):l≠a/\l≠lr:=by constructor;rintro rfl;rw[h.ins]at e;cases e;rintro rfl;rw[h.run]at e;cases e
def Ej.put(h:Ej C S a ld lr cs dl ra)(hk:vi ra k=ϑ (l,s))(o:s'.length<=dl.length):Ej C (S.set l<|.lst<|s'.map kX) a ld lr cs dl (vj ra k s'):=by
 have hm:=eF hk;have hl:=h.cell _ hm;let⟨n,j⟩:=h.El hl;let⟨g,d⟩:=yo.mp h.an;have m:l≠ld:=λe=>g (by rw[<-e];show zk.mpr {_,hm,rfl});have e1:(vj ra k s').map (·.1)=ra.map (·.1):=by unfold vj;rw[zC];show zX λr z=>by dsimp only[Function.comp];split<;>rfl
 have e2:(vj ra k s').map (·.2.1)=ra.map (·.2.1):=by unfold vj;rw[zC];show zX λr z=>by dsimp only[Function.comp];split<;>rfl
 have e3:fg (vj ra k s')=fg ra:=by unfold fg vj;rw[zC];show zX λr z=>by dsimp only[Function.comp];split<;>rfl
 show{by rw[ae n.symm];show h.ins,by rw[ae m.symm];show h.CD,by rw[ae j.symm,e3];show h.run,λr hr=>?_,by rw[e1];show h.kn,by rw[e2];show h.an,λr hr=>?_};unfold vj at hr;let⟨r0,c,e⟩:=zk.mp hr;by_cases q:r0.1=k;rw[qb q]at e;have i:r0=(k,l,s):=lN h.kn c hm q;subst i e;rw[aa];rw[qa q]at e;subst e;have:r0.2.1≠l:=λe=>q (by have:=lN d c hm e;rw[this]);rw[ae this];show h.cell _ c;unfold vj at hr;let⟨r0,c,e⟩:=zk.mp hr;by_cases q:r0.1=k;rw[qb q]at e;subst e;show o;rw[qa q]at e;subst e;show h.sz _ c
def Ej.add(h:Ej C S a ld lr cs dl ra)(hk:vi ra k=ϐ)(hl:S l=ϐ)(n:s.length<=dl.length)(e1:S' l=ϑ (.lst<|s.map kX))(e2:S' lr=ϑ (.cZ<|fg<|ra++[(k,l,s)]))(e3:∀b,b≠l->b≠lr->S' b=S b):Ej C S' a ld lr cs dl (ra++[(k,l,s)]):=by
 have i:a≠l:=fk h.ins hl;have d:ld≠l:=fk h.CD hl;have j:a≠lr:=by rintro rfl;have:=h.run;rw[h.ins]at this;cases this
 have g:ld≠lr:=by rintro rfl;have:=h.run;rw[h.CD]at this;cases this
 show{by rw[e3 _ i j];show h.ins,by rw[e3 _ d g];show h.CD,e2,λr hr=>?_,?_,?_,λr hr=>?_};rcases zP.mp hr with hr|hr;have c:=h.cell r hr;rw[e3 _ (fk c hl) (h.El c).2];show c;rw[zE.mp hr];show e1;rw[zQ];show nF h.kn λm=>by let⟨r,hr,e⟩:=zk.mp m;show ou hk r hr e
 rw[zQ,<-List.cons_append];show nF h.an λm=>?_;rcases zl.mp m with e|m;show d e.symm;let⟨r,hr,e⟩:=zk.mp m;show fk (h.cell r hr) hl e;rcases zP.mp hr with hr|hr;show h.sz r hr;rw[zE.mp hr];show n
def Ej.ox(h:Ej C S a ld lr cs dl ra)(d:D):Ej C (S.set ld<|.lst<|dl++[d]) a ld lr cs (dl++[d]) ra:=by let⟨i,j⟩:=h.El h.CD;let⟨c,g⟩:=yo.mp h.an;show{by rw[ae i.symm];show h.ins,aa,by rw[ae j.symm];show h.run,λr hr=>?_,h.kn,h.an,λr hr=>by rw[zq];show zH (h.sz r hr)<|Nat.le_add_right _ _};rw[ae λe=>c<|by rw[<-e];show zk.mpr ⟨r,hr,rfl⟩];show h.cell r hr
end
inductive Pz (C:ε) (ds:δ D) (S:av) (R:KD) (Z:KX):η
 |mk (a F cs dl rs) (_:ds=[.ref a]) (_:c_ C S a F cs dl rs) (_:R (.int (dl.length:π)) S)
def Ag(T:Txt w K mg t):pP P w mg base T.gp 1 (Pz t.aw):=by show T.gp.F.cy Ac ?_;obtain⟨a,F,cs,dl,rs,e,⟨ld,lr,ra,h,_⟩,q⟩;show{_,(s1<|sr<|cb aY T.aR aH<|ac (fl T.aj T.cM<|dv 0) an),?_};show !{a,_,_,rfl,h.ins,rfl,_,rfl,.inl {dl,h.CD,fo q}}
inductive f9 (t:fj) (ds:δ D) (S:av) (R:KD) (Z:KX):η
 |mk (a F cs dl rs) (_:ds=[.ref a]) (_:c_ t.aw S a F cs dl rs) (_:R (.tup<|cs.map aF) S)
def dI(T:Txt w K mg t):pP P w mg base T.bu 1 (f9 t):=by show T.bu.F.cy kT ?_;obtain⟨a,F,cs,dl,rs,e,⟨ld,lr,ra,h,_⟩,q⟩;show{_,(s1<|sr<|fl T.aj T.cL<|dv 0),?_};show !{a,_,_,rfl,h.ins,rfl,fo q}
noncomputable def vM(n:π):D->θ ν|.ay=>some n|.int i=>(if 0<=i/\i<=(n:ν) then some i else none)|_=>none
inductive FV (C:ε) (ds:δ D) (S:av) (R:KD) (Z:KX):η
 |mk (a F cs dl rs m) (_:ds=[.ref a,m]) (_:c_ C S a F cs dl rs) (_:Gt S m) (_:(∀i,vM dl.length m=ϑ i->R (.int i) S)) (_:vM dl.length m=ϐ->False)
def jM(T:Txt w K mg t):pP P w mg base T.cX 2 (FV t.aw):=by
 show T.cX.F.cy jZ ?_;obtain⟨a,F,cs,dl,rs,m,e,g,hm,l,j⟩;let⟨ld,lr,ra,h,n,o⟩:=id g;show{_,(sc (si (bJ mH `u (dv 1) dn) (s1<|sr<|xQ (dv 0) T.aj T.gp (Ag T) hr) s0)<|sc (si (twd<|twor (bS<|tv<|bA T.nY (qO T) hr<|ap 1 an)<|tw1<|bS<|tcc mG mG `u di (dv 1)<|xQ (dv 0) T.aj T.gp (Ag T) hr) (s1 D1) s0)<|s1<|sr<|dv 1),?_};show !!⟨?_⟩;show cI (λh1=>?_) λh1=>?_;have e:m=.ay:=by cases m<;>first|rfl|cases h1
 subst e;show !{a,_,rfl,h.ins,rfl,a,F,cs,dl,rs,rfl,g,fo<|l _ rfl};show !{m,rfl,hm,_,rfl,?_};show cI (λh2=>?_) λh2=>?_;have h2:=nt h2;have e:vM dl.length m=ϐ:=by cases m with|ay=>(cases h1)|int i=>(cases h2)|_=>rfl
 show bw<|j e;have h2:=nf h2;obtain⟨i,rfl⟩:∃i,m=.int i:=by cases m<;>first|show{_,rfl}|cases h2
 show !!⟨?_⟩;show cI (λd=>?_) λd=>?_;have d:0<=i:=zI d;show !{a,_,rfl,h.ins,rfl,a,F,cs,dl,rs,rfl,g,_,rfl,?_};show cI (λc=>?_) λc=>?_;have c:¬i<=((dl.length:π):ν):=z0<|nt c;show j<|qa λz=>c z.2;have c:i<=((dl.length:π):ν):=zI<|nf c;show{_,rfl,fo<|l i<|qb ⟨d,c⟩};have d:¬0<=i:=z0 d;show{_,rfl,bw<|j<|qa λz=>d z.1}
inductive mj (ds:δ D) (S:av) (R:KD) (Z:KX):η
 |mk (l wM m) (_:ds=[.ref l,.int m]) (_:S l=ϑ (.lst<|wM.map kX)) (_:R (wt wM m) S)
def kY(T:Txt w K mg t):Ok P w base T.ie 1 mj:=by
 show T.ie.F.cy kR ?_;obtain⟨l,wM,m,e,hl,q⟩;show{_,(sc (jd<|tP (irv T.t6<|ap 0 an) (gn (i:=2) kR.nd)<|s1<|si (bJ mG `u (ix `u (dv 2) di)<|dv 1) (s1<|sr<|UA (twd<|twor (bJ mH `u (ix `u (dv 2) di) dn)<|tw1<|bJ mG `u (dv 1)<|ix `u (dv 2) di) (ix `u (dv 2) di) dn) s0)<|s1<|sr dn),?_};show{λak S'=>S'=S/\wt wM m=.ay,?_,?_};show !{_,_,rfl,hl,?_};show{λi ak S'=>(∃o,ak=[some<|.ref l,some<|.int m,o])/\S'=S/\wt wM m=UR (wM.reverse.drop i) m,{⟨none,rfl⟩,rfl,by rw[List.drop_zero];rfl},λi ak S' h=>by rw[h.2.1];show hl,?_,?_};rintro i d ak S' hd ⟨⟨o,rfl⟩,rfl,hw⟩;rw[<-List.map_reverse,zm]at hd;cases e1:wM.reverse[i]? with|none=>(rw[e1]at hd;cases hd)|some sd=>rw[e1]at hd;cases hd;have e2:wM.reverse.drop i=sd::wM.reverse.drop (i+1):=(by let⟨hi,e⟩:=zf.mp e1;rw[zZ hi,e]);let⟨sb,se,a⟩:=sd;rw[e2]at hw;show !!!!⟨?_⟩;unfold UR at hw;show cI (λh=>?_) λh=>?_;rw[qb<|zI h]at hw;show !!!⟨?_⟩;(cases se with|none=>show bw<|bw !!⟨?_⟩;rw[hw]at q;show fo q|some n=>show aM !!!!⟨?_⟩;dsimp only at hw;show cI (λh=>?_) λh=>?_;rw[qb<|zI h]at hw;rw[hw]at q;show !!⟨fo q⟩;rw[qa<|z0 h]at hw;rw[hw]at q;show fo q);rw[qa<|z0 h]at hw;show{{_,rfl},rfl,hw}
 rintro ak S' ⟨_,rfl,hw⟩;show fo {rfl,?_};rw[hw,yK,zd,List.drop_eq_nil_of_le<|by rw[yK];show zj _];rfl;rintro ak S' ⟨rfl,hw⟩;rw[hw]at q;show fo q
noncomputable def AJ(rs:r_)(k:D)(i:ν):D:=match k with|.str z=>(if j5 z=ϱ then wt ((lu rs z).getD []) i else .ay)|_=>.ay
inductive PB (C:ε) (ds:δ D) (S:av) (R:KD) (Z:KX):η
 |mk (a F cs dl rs k m) (_:ds=[.ref a,k,m]) (_:c_ C S a F cs dl rs) (_:Gt S k) (_:Gt S m) (_:(∀i,vM dl.length m=ϑ i->R (AJ rs k i) S)) (_:vM dl.length m=ϐ->False)
def jx(T:Txt w K mg t):pP P w mg base T.c9 3 (PB t.aw):=by
 show T.c9.F.cy gO ?_;obtain⟨a,F,cs,dl,rs,k,m,e,d,hk,hm,j,o⟩;let⟨ld,lr,ra,h,r,g⟩:=id d;show{_,(sc (bT (i:=3) gO.nd<|o_ (dv 0) T.aj T.cX (jM T) hr<|ap 2 an)<|sc (si (bS<|tv<|bA T.pX (lM T) hr<|ap 1 an) (s1<|sr dn) s0)<|s1<|sr<|bA T.ie (kY T) hr<|ac (mg2 `u (fl T.aj T.bP<|dv 0) (dv 1)<|ba an)<|ap 3 an),?_};show !{a,_,rfl,h.ins,rfl,_,rfl,a,F,cs,dl,rs,m,rfl,d,hm,λi hi=>?_,o};have q:=j i hi;show !{k,rfl,hk,_,rfl,?_};show cI (λh1=>?_) λh1=>?_;have e:AJ rs k i=.ay:=by cases k with|str z=>show qa (by rw[show j5 z=ϰ from nt h1];show ze)|_=>rfl
 rw[e]at q;show fo q;have h1:=nf h1;obtain⟨z,rfl⟩:∃z,k=.str z:=by cases k with|str z=>show⟨z,rfl⟩|_=>cases h1
 have e:AJ rs (.str z) i=wt ((lu rs z).getD []) i:=qb h1;rw[e]at q;show !{a,_,_,rfl,h.ins,rfl,lr,_,rfl,h.run,_,rfl,sm<|`a,λp hp=>{fg ra,.inr z,?_,rfl,?_}};rw[ae<|fk h.run hp];show h.run;rw[i5];show{_,rfl,?_};cases e1:vi ra z with|none=>have e2:lu rs z=ϐ:=(by rw[g,iH,e1];rfl);rw[e2]at q;show{p,[],i,rfl,aa,S,.new hp,q}|some n=>let⟨l,wM⟩:=n;have e2:lu rs z=ϑ wM:=(by rw[g,iH,e1];rfl);rw[e2]at q;have c:=h.cell _<|eF e1;show{l,wM,i,rfl,by rw[ae<|fk c hp];show c,S,.new hp,q}
def PC(h:vi ra k=ϑ (l,s)):Ei (i4 ra) k s'=i4 (vj ra k s'):=by unfold Ei;rw[iH,h,qb<|show(Option.map (λx:ε×δ Std=>x.2)<|some (l,s)).isSome=ϱ from rfl];unfold i4 vj;rw[zC,zC];show zX λr z=>by dsimp only[Function.comp];split<;>rfl
def SI(h:vi ra k=ϐ):Ei (i4 ra) k s=i4 (ra++[(k,l,s)]):=by unfold Ei;rw[iH,h,qa<|show ¬(Option.map (λx:ε×δ Std=>x.2) none).isSome=ϱ from ze];unfold i4;rw[zQ];rfl
def SJ(h:vi ra k=ϐ):dput (fg ra) (.inr k) (.ref l)=fg (ra++[(k,l,s)]):=by
 unfold dput;have e:((fg ra).any λa=>ω<|a.1=.inr k)=ϰ:=by rw[List.any_eq_false];intro x hx;unfold fg at hx;let⟨r,hr,rfl⟩:=zk.mp hx;simp only[zT];show λe=>ou h r hr<|yY e
 rw[e,qa ze];unfold fg;rw[zQ];rfl
def KY:fp a ld lr (vj ra k s)=fp a ld lr ra:=by unfold fp vj;rw[zC];congr 3;show zX λr z=>by dsimp only[Function.comp];split<;>rfl
theorem ux(h:l∈F):Ek F F S (S.set l c):=λb x hb e=>{hb,by rw[ae<|show b≠l from λz=>hb<|by rw[z];show h];show e}
theorem KZ(h:r∈ra):r.2.1∈fp a ld lr ra:=zh _<|zh _<|zh _<|zk.mpr ⟨r,h,rfl⟩
inductive FW (C:ε) (ds:δ D) (S:av) (R:KD) (Z:KX):η
 |mk (a F cs dl rs z ws) (_:ds=[.ref a,.str z,.tup ws]) (_:c_ C S a F cs dl rs) (_:((lu rs z).getD []).length<dl.length) (_:dl.length<=9000) (_:rs.length<=9000) (_:∀S' F',c_ C S' a F' cs dl (Ei rs z<|(lu rs z).getD []++[Std.mk dl.length none ws])->Ek F F' S S'->R .ay S')
def BN(T:Txt w K mg t):pP P w mg base T.cq 2 (FW t.aw):=by
 show T.cq.F.cy iZ ?_;rintro _ _ _ _ _ _ _ S R Z hr ⟨a,F,cs,dl,rs,z,ws,e,⟨ld,lr,ra,h,E,H⟩,hl,hd,hn,q⟩;subst e E H;have I:(fg ra).length<=9000:=by unfold i4 at hn;unfold fg;rw[zd]at hn⊢;show hn
 show{_,(s1<|se<|bm zG zM zN bh (ms2 (fl T.aj T.bP<|dv 0) (dv 1)<|ba an)<|ac (aI<|ac (xQ (dv 0) T.aj T.gp (Ag T) hr)<|ac dn<|ap 2 an) an),?_};show !{a,_,_,rfl,h.ins,rfl,lr,fg ra,rfl,h.run,_,rfl,sm<|`a,λp hp=>{fg ra,.inr z,?_,rfl,bg<|`b,λd n=>?_,λhn=>?_}};rw[ae<|fk h.run hp];show h.run;rw[i5]at n;cases e1:vi ra z with|none=>(rw[e1]at n;cases n)|some B=>let⟨l,wM⟩:=B;rw[e1]at n;cases n;have e2:lu (i4 ra) z=ϑ wM:=(by rw[iH,e1];rfl);rw[e2]at q hl;have A:=h.cell _<|eF e1;have C:(S.set p<|.lst []) l=ϑ (.lst<|wM.map kX):=(by rw[ae<|fk A hp];show A);have v:(S.set p<|.lst []) a=ϑ (.ins t.aw [("columns",.tup<|cs.map aF),("deeds",.ref ld),("runs",.ref lr)]):=(by rw[ae<|fk h.ins hp];show h.ins);have x:Ej t.aw (S.set p<|.lst []) a ld lr cs dl ra:={v,by rw[ae<|fk h.CD hp];show h.CD,by rw[ae<|fk h.run hp];show h.run,λr hr=>by rw[ae<|fk (h.cell r hr) hp];show h.cell r hr,h.kn,h.an,h.sz};show{{rfl,_,C},_,rfl,a,_,rfl,v,rfl,a,_,cs,dl,_,rfl,⟨ld,lr,ra,x,rfl,rfl⟩,_,rfl,Ad,?_};have G:wM.length<dl.length:=hl;show{l,wM.map kX,_,rfl,rfl,C,bg<|by rw[zd];lia,S.set l<|.lst<|(wM++[Std.mk dl.length none ws]).map kX,λb c hb=>?_,q _ _ {ld,lr,_,h.put e1<|by rw[zq];change wM.length+1<=_;lia,rfl,PC e1} ?_};by_cases g:b=l;subst g;rw[aa]at hb⊢;rw[zQ]at hb;show hb;rw[ae g]at hb;rw[ae g,ae<|fk hb hp];show hb;rw[KY];show ux<|KZ<|eF e1
 rw[i5]at hn;cases e1:vi ra z with|some B=>(rw[e1]at hn;cases hn)|none=>have e2:lu (i4 ra) z=ϐ:=(by rw[iH,e1];rfl);rw[e2]at q hl;have o:p≠lr:=(fk h.run hp).symm;generalize y:(S.set p<|.lst []).set lr _=S1;have j:S1 p=ϑ (.lst []):=(by rw[<-y,ae o,aa]);have s:S1 lr=ϑ (.cZ<|fg<|ra++[(z,p,[])]):=(by rw[<-y,aa,SJ e1]);have i:∀b,b≠p->b≠lr->S1 b=S b:=λb h1 h2=>(by rw[<-y,ae h2,ae h1]);have x:Ej t.aw S1 a ld lr cs dl (ra++[(z,p,[])]):=h.add e1 hp (yh _) j s i;show{{rfl,_,j},_,rfl,a,_,rfl,x.ins,rfl,a,_,cs,dl,_,rfl,{ld,lr,_,x,rfl,rfl},_,rfl,Ad,?_};show{p,[],_,rfl,rfl,j,bg<|by change 0<=_;lia,S1.set p<|.lst<|[Std.mk dl.length none ws].map kX,.refl _,q _ _ {ld,lr,ra++[(z,p,[Std.mk dl.length none ws])],h.add e1 hp (by change 1<=_;have:0<dl.length:=hl;lia) aa ?_ λb h1 h2=>by rw[ae h1];show i b h1 h2,rfl,SI e1} ?_};rw[ae o.symm,s];unfold fg;rw[zQ,zQ];rfl;intro b c hb e;have h1:b≠p:=fk e hp;have h2:b≠lr:=λz=>hb (by rw[z];show zh _<|zh _ zw);show{λm=>?_,by rw[ae h1,i b h1 h2];show e};unfold fp at m hb;rw[zQ]at m;rcases zl.mp m with m|m;show hb<|m ▸ zw;rcases zl.mp m with m|m;show hb<|m ▸ zh _ zw;rcases zl.mp m with m|m;show h2 m;rcases zP.mp m with m|m;show hb<|zh _<|zh _<|zh _ m;show h1<|zE.mp m
noncomputable def qd(n:π)(l:δ Std):δ Std:=l.dropLast++(l.getLast?.map λs=>Std.mk s.b (some n) s.ws).toList
noncomputable def uy(rs:r_)(z:ρ)(n:π):r_:=Ei rs z<|qd n<|(lu rs z).getD []
noncomputable def BO(rs:r_)(z:ρ)(n:π)(ws:δ D):r_:=Ei rs z<|(lu rs z).getD []++[Std.mk n none ws]
def K0(h:c_ C S a F cs dl rs)(z:ρ):((lu rs z).getD []).length<=dl.length:=by let⟨ld,lr,ra,h,_,rfl⟩:=h;rw[iH];cases e:vi ra z with|none=>show yh _|some c=>show h.sz _<|eF (l:=c.1) (s:=c.2) e
def N3(rs:r_)(z:ρ)(s:δ Std):(Ei rs z s).length<=rs.length+1:=by unfold Ei;split;rw[zd];lia;rw[zq];show zj _
def gk:lu (r::rs) k=if r.1=k then some r.2 else lu rs k:=by unfold lu;rw[yc];by_cases h:r.1=k;rw[zy h,qb h];rfl;rw[zp h,qa h]
def qf:lu (Ei rs z s) k=if k=z then some s else lu rs k:=by
 unfold Ei;by_cases a:(lu rs z).isSome=ϱ;rw[qb a];by_cases hk:k=z;subst hk;rw[qb rfl];induction rs with|nil=>(cases a)|cons r rs c=>rw[zK,gk];by_cases h:r.1=k;rw[qb h,qb h];rw[qa h,qa h];rw[gk,qa h]at a;show c a
 rw[qa hk];clear a;induction rs with|nil=>rfl|cons r rs c=>rw[zK,gk,gk,c];by_cases h:r.1=z;rw[qb h,qa<|show ¬r.1=k from λe=>hk<|e.symm.trans h,qa<|show ¬r.1=k from λe=>hk<|e.symm.trans h];rw[qa h]
 rw[qa a];have hn:lu rs z=ϐ:=by cases e:lu rs z<;>simp_all
 clear a;induction rs with|nil=>rw[List.nil_append,gk];by_cases hk:k=z;rw[qb hk,qb hk.symm];rw[qa hk,qa λe=>hk e.symm]|cons r rs c=>rw[gk]at hn;by_cases h:r.1=z;rw[qb h]at hn;cases hn;rw[qa h]at hn;rw[List.cons_append,gk,gk,c hn];by_cases h2:r.1=k;rw[qb h2,qb h2,qa<|show ¬k=z from λe=>h<|h2.trans e];rw[qa h2,qa h2]
inductive PD (C:ε) (ds:δ D) (S:av) (R:KD) (Z:KX):η
 |mk (a F cs dl rs z) (_:ds=[.ref a,.str z]) (_:c_ C S a F cs dl rs) (_:(∃s,lu rs z=ϑ s/\s≠[])) (_:dl.length<=9000) (_:∀S',c_ C S' a F cs dl (uy rs z dl.length)->Ek F F S S'->R .ay S')
theorem sj(h:l≠[]):∃r s,l=r++[s]:={l.dropLast,l.getLast h,(List.dropLast_concat_getLast h).symm}
def kZ(n:π)(r:δ Std)(s:Std):qd n (r++[s])=r++[Std.mk s.b (some n) s.ws]:=by unfold qd;rw[List.dropLast_concat,List.getLast?_concat];rfl
def K1(T:Txt w K mg t):pP P w mg base T.cW 2 (PD t.aw):=by show T.cW.F.cy ft ?_;rintro _ _ _ _ _ _ _ S R Z hr ⟨a,F,cs,dl,rs,z,e,⟨ld,lr,ra,h,v,B⟩,⟨s0,g,A⟩,hd,q⟩;subst e v B;rw[iH]at g;cases e1:vi ra z with|none=>(rw[e1]at g;cases g)|some y=>let⟨l,wM⟩:=y;rw[e1]at g;cases g;let⟨r,sd,rfl⟩:=sj A;have c:=h.sz _<|eF e1;dsimp only at c;rw[zq]at c;have c:r.length+1<=dl.length:=c;have j:=h.cell _<|eF e1;dsimp only at j;have o:cK (fg ra) (.inr z)=ϑ (.ref l):=(by rw[i5,e1];rfl);show{_,(sc (bT (i:=2) ft.nd<|bm0 zG PySem.F.slot_list_pop PySem.F.type_list_pop WJ<|ix `u (fl T.aj T.bP<|dv 0)<|dv 1)<|s1<|se<|bm zG zM zN bh (ix `u (fl T.aj T.bP<|dv 0)<|dv 1)<|ac (aI<|ac (ix `u (dv 2) di)<|ac (xQ (dv 0) T.aj T.gp (Ag T) hr)<|ac (ix `u (dv 2) di) an) an),?_};show !{a,_,_,rfl,h.ins,rfl,_,rfl,fg ra,_,h.run,o,{rfl,_,j},l,_,kX sd,rfl,rfl,j,?_,?_};rw[zQ,zq];change(r.map kX++[kX sd])[(r.map kX).length+1-1]?=_;simp;have e2:((r++[sd]).map kX).dropLast=r.map kX:=(by rw[zQ];show List.dropLast_concat);rw[e2];have h1:Ej t.aw (S.set l<|.lst<|r.map kX) a ld lr cs dl (vj ra z r):=h.put e1 `b;generalize p:S.set l _=S1 at h1;have d:vi (vj ra z r) z=ϑ (l,r):=(by have hm:(z,l,r)∈vj ra z r:=(by unfold vj;show zk.mpr {_,eF e1,qb rfl});cases e3:vi (vj ra z r) z with|none=>show absurd rfl (ou e3 _ hm)|some x=>show congrArg some<|congrArg Prod.snd<|lN (f:=λr:ρ×ε×δ Std=>r.1) h1.kn (eF (l:=x.1) (s:=x.2) e3) hm rfl);have m:cK (fg<|vj ra z r) (.inr z)=ϑ (.ref l):=(by rw[i5,d];rfl);have n:=h1.cell _<|eF d;show !{a,_,_,rfl,h1.ins,rfl,_,rfl,_,_,h1.run,m,{rfl,_,n},_,rfl,_,rfl,_,rfl,a,_,rfl,h1.ins,rfl,a,_,cs,dl,_,rfl,{ld,lr,_,h1,rfl,rfl},_,rfl,_,rfl,Ad,l,_,_,rfl,rfl,n,bg<|by rw[zd];change r.length<=_;lia,?_};have h2:=h1.put (s':=r++[Std.mk sd.b (some dl.length) sd.ws]) d (by rw[zq];show c);have e4:uy (i4 ra) z dl.length=i4 (vj (vj ra z r) z<|r++[Std.mk sd.b (some dl.length) sd.ws]):=(by unfold uy;rw[iH,e1];change Ei (i4 ra) z (qd dl.length<|r++[sd])=_;rw[kZ,PC e1];unfold i4 vj;rw[zC,zC,zC];show zX λx k=>by dsimp only[Function.comp];by_cases hx:x.1=z<;>simp[hx]);show{_,?_,q _ {ld,lr,_,h2,by rw[KY,KY],e4} ?_};change Sub (S1.set l<|.lst<|(r++[_]).map kX) (S1.set l<|.lst<|r.map kX++[_]);rw[zQ];show .refl _;rw[<-p,bR];show ux<|KZ<|eF e1
def FX(h:ofStr j5 d=ϱ):∃z,d=.str z/\j5 z=ϱ:=by cases d with|str z=>show⟨z,rfl,h⟩|_=>cases h
def FY(h:eV cs k v=ϱ):∃z ws,k=.str z/\v=.tup ws/\j5 z=ϱ:=by unfold eV at h;rw[zR]at h;let⟨z,rfl,hz⟩:=FX h.1;cases v with|tup ws=>show⟨z,ws,rfl,rfl,hz⟩|_=>show absurd h.2 ze
theorem eN:Gt S .ay:={{.ay,rfl},λz=>nofun}
def PF(h:ai (wt l m)=ϰ):l≠[]:=by rintro rfl;cases h
theorem so(hz:j5 z=ϱ)(i:ν):AJ rs (.str z) i=wt ((lu rs z).getD []) i:=qb hz
inductive fM (t:fj) (ds:δ D) (S:av) (R:KD) (Z:KX):η
 |mk (a F cs dl rs k) (_:ds=[.ref a,k]) (_:c_ t.aw S a F cs dl rs) (_:Gt S k) (_:(ai (AJ rs k dl.length)=ϰ->R .ay S)) (_:(ai (AJ rs k dl.length)=ϱ->Z t.jr S))
def jN(T:Txt w K mg t):pP P w mg base T.cU 4 (fM t):=by show T.cU.F.cy jY ?_;obtain⟨a,F,cs,dl,rs,k,e,c,hk,g,d⟩;let⟨ld,lr,ra,h,_⟩:=id c;show{_,(s1<|si (bJ mH `u (Zd (dv 0) T.aj T.c9.e ((jx T).mono<|`a) hr T.dU d1<|ap 1 an) dn) (s1<|lX ⟨T.xV⟩ T.KN<|ac ds an) s0),?_};show !{a,_,rfl,h.ins,rfl,_,rfl,a,F,cs,dl,rs,k,.ay,rfl,c,hk,eN,λi hi=>?_,λhn=>by cases hn};cases hi;show{_,rfl,?_};show cI (λh1=>?_) λh1=>?_;show{oo,fo<|d h1};show fo<|g h1
inductive k7 (t:fj) (ds:δ D) (S:av) (R:KD) (Z:KX):η
 |mk (a F cs dl rs k v) (_:ds=[.ref a,k,v]) (_:c_ t.aw S a F cs dl rs) (_:cs.length<=8) (_:Gt S k) (_:CC S v) (_:dl.length<=8000) (_:rs.length<=8000) (_:(eV cs k v=ϰ->Z t.bC S)) (_:(eV cs k v=ϱ->ai (AJ rs k dl.length)=ϰ->Z t.kJ S)) (_:(∀z ws,k=.str z->v=.tup ws->eV cs k v=ϱ->ai (AJ rs k dl.length)=ϱ->∀S' F',c_ t.aw S' a F' cs (dl++[.tup [.str "put",k,v]]) (BO rs z (dl.length+1) ws)->Ek F F' S S'->R .ay S'))
def K2(T:Txt w K mg t):pP P w mg base T.eT 6 (k7 t):=by show T.eT.F.cy Ab ?_;obtain⟨a,F,cs,dl,rs,k,v,e,d,r,hk,hv,hd,hn,o,s,p⟩;let⟨ld,lr,ra,h,g,y⟩:=id d;show{_,(sc (se<|bA T.eS (jw T) hr<|ac (fl T.aj T.cL<|dv 0)<|ac (aI<|ap 1<|ap 2 an) an)<|sc (si (bJ iC `u (Zd (dv 0) T.aj T.c9.e ((jx T).mono<|`a) hr T.dU d1<|ap 1 an) dn) (s1<|lX ⟨T.t9⟩ T.HU<|ac ds an) s0)<|sc (se<|bm zG zM zN bh (fl T.aj T.cM<|dv 0)<|ac (aI<|ac ds<|ap 1<|ap 2 an) an)<|s1<|se<|o_ (dv 0) T.aj T.cq (BN T) hr<|ap 1<|ap 2 an),?_};show !{a,_,_,rfl,h.ins,rfl,_,rfl,_,rfl,eU,cs,k,v,rfl,r,hk,hv,λc=>?_,λx=>fo<|o x};show !{a,_,rfl,h.ins,rfl,_,rfl,a,F,cs,dl,rs,k,.ay,rfl,d,hk,eN,λi hi=>?_,λhn=>by cases hn};cases hi;show{_,rfl,?_};show cI (λh1=>?_) λh1=>?_;show{oo,fo<|s c<|nt h1};let⟨z,ws,rfl,rfl,hz⟩:=FY c;show !{a,_,_,rfl,h.ins,rfl,{rfl,_,h.CD},_,rfl,_,rfl,Ad,ld,dl,_,rfl,rfl,h.CD,bg<|`b,?_};have l:=h.ox<|.tup [.str "put",.str z,.tup ws];have m:c_ t.aw (S.set ld<|.lst<|dl++[.tup [.str "put",.str z,.tup ws]]) a F cs (dl++[.tup [.str "put",.str z,.tup ws]]) rs:=⟨ld,lr,ra,l,g,y⟩;have hl:=K0 d z;show !{a,_,rfl,l.ins,rfl,_,rfl,_,rfl,a,F,cs,_,rs,z,ws,rfl,m,by rw[zq];show Nat.lt_succ_of_le hl,by rw[zq];change dl.length+1<=_;lia,`b,λS' F' j n=>fo<|p z ws rfl rfl c (nf h1) S' F' ?_ ?_};have:(dl++[D.tup [.str "put",.str z,.tup ws]]).length=dl.length+1:=zq;rw[this]at j;show j;show Ek.trans (ux ?_) n;rw[g];show zh _ zw
inductive gQ (t:fj) (ds:δ D) (S:av) (R:KD) (Z:KX):η
 |mk (a F cs dl rs k v) (_:ds=[.ref a,k,v]) (_:c_ t.aw S a F cs dl rs) (_:cs.length<=8) (_:Gt S k) (_:CC S v) (_:dl.length<=8000) (_:rs.length<=8000) (_:(eV cs k v=ϰ->Z t.bC S)) (_:(eV cs k v=ϱ->ai (AJ rs k dl.length)=ϱ->Z t.jr S)) (_:(∀z ws,k=.str z->v=.tup ws->eV cs k v=ϱ->ai (AJ rs k dl.length)=ϰ->∀S' F',c_ t.aw S' a F' cs (dl++[.tup [.str "change",k,v]]) (BO (uy rs z dl.length) z (dl.length+1) ws)->Ek F F' S S'->R .ay S'))
def wN(T:Txt w K mg t):pP P w mg base T.cn 6 (gQ t):=by
 show T.cn.F.cy rA ?_;obtain⟨a,F,cs,dl,rs,k,v,e,i,B,hk,hv,hd,hn,y,G,A⟩;let⟨ld,lr,ra,h,J,L⟩:=id i;show{_,(sc (se<|bA T.eS (jw T) hr<|ac (fl T.aj T.cL<|dv 0)<|ac (aI<|ap 1<|ap 2 an) an)<|sc (se<|o_ (dv 0) T.aj T.cU (jN T) hr<|ap 1 an)<|sc (se<|o_ (dv 0) T.aj T.cW (K1 T) hr<|ap 1 an)<|sc (se<|bm zG zM zN bh (fl T.aj T.cM<|dv 0)<|ac (aI<|ac ds<|ap 1<|ap 2 an) an)<|s1<|se<|o_ (dv 0) T.aj T.cq (BN T) hr<|ap 1<|ap 2 an),?_};show !{a,_,_,rfl,h.ins,rfl,_,rfl,_,rfl,eU,cs,k,v,rfl,B,hk,hv,λg=>?_,λH=>fo<|y H};show !{a,_,rfl,h.ins,rfl,_,rfl,a,F,cs,dl,rs,k,rfl,i,hk,λh1=>?_,λh1=>fo<|G g h1};let⟨z,ws,rfl,rfl,hz⟩:=FY g;have E:∃s,lu rs z=ϑ s/\s≠[]:=by rw[so hz]at h1;have:=PF h1;cases e:lu rs z with|none=>rw[e]at this;show absurd rfl this|some s=>rw[e]at this;show⟨s,rfl,this⟩
 show !{a,_,rfl,h.ins,rfl,_,rfl,a,F,cs,dl,rs,z,rfl,i,E,`b,λS1 n m=>?_};let⟨l,j,d,c,p,C⟩:=id n;show !{a,_,_,rfl,c.ins,rfl,{rfl,_,c.CD},_,rfl,_,rfl,Ad,l,dl,_,rfl,rfl,c.CD,bg<|`b,?_};have h2:=c.ox<|.tup [.str "change",.str z,.tup ws];have r:c_ t.aw (S1.set l<|.lst<|dl++[.tup [.str "change",.str z,.tup ws]]) a F cs (dl++[.tup [.str "change",.str z,.tup ws]]) (uy rs z dl.length):=⟨l,j,d,h2,p,C⟩;have hl:=K0 n z;have I:(uy rs z dl.length).length<=rs.length+1:=N3 _ _ _;show !{a,_,rfl,h2.ins,rfl,_,rfl,_,rfl,a,F,cs,_,_,z,ws,rfl,r,by rw[zq];show Nat.lt_succ_of_le hl,by rw[zq];change dl.length+1<=_;lia,`b,λS' F' o x=>fo<|A z ws rfl rfl g h1 S' F' ?_ ?_};have:(dl++[D.tup [.str "change",.str z,.tup ws]]).length=dl.length+1:=zq;rw[this]at o;show o;show m.trans<|Ek.trans (ux ?_) x;rw[p];show zh _ zw
inductive jy (t:fj) (ds:δ D) (S:av) (R:KD) (Z:KX):η
 |mk (a F cs dl rs k) (_:ds=[.ref a,k]) (_:c_ t.aw S a F cs dl rs) (_:Gt S k) (_:dl.length<=8000) (_:(ofStr j5 k=ϰ->Z t.bC S)) (_:(ofStr j5 k=ϱ->ai (AJ rs k dl.length)=ϱ->Z t.jr S)) (_:(∀z,k=.str z->j5 z=ϱ->ai (AJ rs k dl.length)=ϰ->∀S',c_ t.aw S' a F cs (dl++[.tup [.str "take",k]]) (uy rs z dl.length)->Ek F F S S'->R .ay S'))
def FZ(T:Txt w K mg t):pP P w mg base T.dF 6 (jy t):=by
 show T.dF.F.cy vK ?_;obtain⟨a,F,cs,dl,rs,k,e,g,hk,hd,o,x,p⟩;let⟨ld,lr,ra,h,y,A⟩:=id g;show{_,(sc (si (bS<|tv<|bA T.pX (lM T) hr<|ap 1 an) (s1<|lX ⟨T.dZ⟩ T.dO<|ac ds an) s0)<|sc (se<|o_ (dv 0) T.aj T.cU (jN T) hr<|ap 1 an)<|sc (se<|o_ (dv 0) T.aj T.cW (K1 T) hr<|ap 1 an)<|s1<|se<|bm zG zM zN bh (fl T.aj T.cM<|dv 0)<|ac (aI<|ac ds<|ap 1 an) an),?_};show !{k,rfl,hk,_,rfl,?_};show cI (λh0=>?_) λh0=>?_;show{oo,fo<|o<|nt h0};have h0:=nf h0;show !{a,_,rfl,h.ins,rfl,_,rfl,a,F,cs,dl,rs,k,rfl,g,hk,λh1=>?_,λh1=>fo<|x h0 h1};let⟨z,rfl,hz⟩:=FX h0;have v:∃s,lu rs z=ϑ s/\s≠[]:=by rw[so hz]at h1;have:=PF h1;cases e:lu rs z with|none=>rw[e]at this;show absurd rfl this|some s=>rw[e]at this;show⟨s,rfl,this⟩
 show !{a,_,rfl,h.ins,rfl,_,rfl,a,F,cs,dl,rs,z,rfl,g,v,`b,λS1 n j=>?_};let⟨m,i,d,c,l,r⟩:=id n;show !{a,_,_,rfl,c.ins,rfl,{rfl,_,c.CD},_,rfl,eU,m,dl,_,rfl,rfl,c.CD,bg<|`b,?_};show fo<|p z rfl hz h1 _ {m,i,d,c.ox _,l,r}<|j.trans<|ux ?_;rw[l];show zh _ zw
inductive i6 (t:fj) (ds:δ D) (S:av) (R:KD) (Z:KX):η
 |mk (a cs) (_:ds=[.ref a,.tup<|cs.map aF]) (_:Gd cs) (_:S a=ϑ (.ins t.aw [])) (_:∀S' F,c_ t.aw S' a F cs [] []->Ek [a] F S S'->R .ay S')
def F7(T:Txt w K mg t):pP P w mg base T.bW 5 (i6 t):=by
 show T.bW.F.cy ik ?_;obtain⟨a,cs,e,hg,ha,q⟩;show{_,(sc (se<|bA T.dk (p_ T) hr<|ap 1 an)<|sc (sf T.aj T.cL (dv 0)<|dv 1)<|sc (sf T.aj T.cM (dv 0)<|ba an)<|s1<|sf T.aj T.bP (dv 0) Hy),?_};show !{cs,rfl,hg,_,rfl,_,rfl,a,[],rfl,ha,(show 0<1000 by decide),?_};show{BL,λld g=>!{a,[("columns",.tup<|cs.map aF)],rfl,?_,(show 1<1000 by decide),λlr d=>!{a,[("columns",.tup<|cs.map aF),("deeds",.ref ld)],rfl,?_,(show 2<1000 by decide),?_}}};have j:a≠ld:=by rintro rfl;rw[aa]at g;cases g
 rw[ae j,aa];rfl;have j:a≠lr:=by rintro rfl;rw[aa]at d;cases d
 rw[ae j,aa];rfl;have h:a≠ld:=by rintro rfl;rw[aa]at g;cases g
 have i:a≠lr:=by rintro rfl;rw[aa]at d;cases d
 have l:ld≠lr:=by rintro rfl;rw[ae h.symm,aa]at d;cases d
 rw[ae h.symm]at g;rw[ae i.symm,ae l.symm,ae i.symm]at d;show fo<|q _ (fp a ld lr []) {ld,lr,[],{aa,?_,?_,λr hr=>(nomatch hr),List.nodup_nil,`d,λr hr=>(nomatch hr)},rfl,rfl} λb c hb e=>?_;rw[ae h.symm,ae l,ae h.symm,aa];rw[ae i.symm,aa];rfl;have b1:b≠a:=λz=>hb (by rw[z];show zw);have b2:b≠ld:=fk e g;have b3:b≠lr:=fk e d;show{λm=>?_,by rw[ae b1,ae b3,ae b1,ae b2,ae b1];show e};unfold fp at m;simp only[List.map_nil,zl,zO,or_false]at m;rcases m with m|m|m;show b1 m;show b2 m;show b3 m
noncomputable def Ah(rs:r_)(i:ν)(z:ρ):D:=.tup [.str z,wt ((lu rs z).getD []) i]
noncomputable def mX(rs:r_)(i:ν)(ss:δ ρ):δ D:=(ss.filter λz=>!ai (wt ((lu rs z).getD []) i)).map<|Ah rs i
noncomputable def Ai:D->χ|.tup [_,x]=>!ai x|_=>false
def BP(ss:δ ρ):((ss.map<|Ah rs i).filter Ai).map id=mX rs i ss:=by unfold mX;rw[List.map_id,List.filter_map];rfl
inductive PH (C:ε) (ds:δ D) (S:av) (R:KD) (Z:KX):η
 |mk (a F cs dl rs m) (_:ds=[.ref a,m]) (_:c_ C S a F cs dl rs) (_:rs.length<64) (_:Gt S m) (_:(∀i ss,vM dl.length m=ϑ i->ss.Perm (rs.map (·.1))->PyProof.Rows.sortedS ss=ϱ->∀p,S p=ϐ->R (.ref p) (S.set p<|.lst<|mX rs i ss))) (_:vM dl.length m=ϐ->False)
def Ig(T:Txt w K mg t):pP P w mg base T.js 3 (PH t.aw):=by
 show T.js.F.cy fX ?_;obtain⟨a,F,cs,dl,rs,m,e,I,hn,hm,q1,q2⟩;let⟨ld,lr,ra,h,hF,n⟩:=id I;have U:(fg ra).map (·.1)=(rs.map (·.1)).map Sum.inr:=by rw[n];unfold fg i4;rw[zC,zC,zC];rfl
 have Y:(fg ra).length<64:=by rw[n]at hn;unfold i4 at hn;unfold fg;rw[zd]at hn⊢;show hn
 show{_,(sc (bT (i:=2) fX.nd<|o_ (dv 0) T.aj T.cX (jM T) hr<|ap 1 an)<|sc (Bv (N:=["key","then","self"]) (src:=[none,some 2,some 0]) 3 fX.nd (pd<|inClass bF 10) (il<|cb tQ T.gF fw<|ac (fl T.aj T.bP<|dv 0) an) vF<|aI<|ap 0<|ac (bA T.ie (kY T) hr<|ac (ix `u (fl T.aj T.bP<|dv 2)<|dv 0)<|ap 1 an) an)<|s1<|sr<|AH (N:=["row"]) (src:=[none]) (pd<|inClass bF 10) (il<|dv 3) (if1<|bJ iC `u (ix `u (dv 0) di) dn)<|dv 0),?_};show !{a,_,rfl,h.ins,rfl,_,rfl,a,F,cs,dl,rs,m,rfl,I,hm,λi hi=>?_,q2};show !{a,_,_,rfl,h.ins,rfl,lr,fg ra,rs.map (·.1),rfl,h.run,U,Y,λss hp hs p g=>?_};have H:ss.length<64:=by rw[hp.length_eq,zd];show hn
 show{_,aa,?_};show comp_map (λd=>match d with|.str z=>Ah rs i z|_=>.ay) aa (by change(ss.map D.str).length<=1000;rw[zd];omega) (λd hd Q j=>?_) λp2 J=>?_;let⟨z,hz,rfl⟩:=zk.mp hd;have o:z∈rs.map (·.1):=hp.mem_iff.mp hz;let⟨r,E,e⟩:=zk.mp o;rw[n]at E;unfold i4 at E;let⟨r0,C,rfl⟩:=zk.mp E;have e1:vi ra z=ϑ r0.2:=by cases e3:vi ra z with|none=>show absurd e (ou e3 _ C)|some x=>show congrArg some<|congrArg Prod.snd<|lN (f:=λr:ρ×ε×δ Std=>r.1) h.kn (eF (l:=x.1) (s:=x.2) e3) C e.symm
 have M:cK (fg ra) (.inr z)=ϑ (.ref r0.2.1):=by rw[i5,e1];rfl
 have G:=h.cell _ C;have eq:(lu rs z).getD []=r0.2.2:=by rw[n,iH,e1];rfl
 have j:Q (.tup [.str z,wt ((lu rs z).getD []) i]) (S.set p<|.lst<|ss.map D.str):=j;rw[eq]at j;have v:(S.set p<|.lst<|ss.map D.str) a=_:=(ae<|fk h.ins g).trans h.ins;have Em:(S.set p<|.lst<|ss.map D.str) lr=_:=(ae<|fk h.run g).trans h.run;have Z:(S.set p<|.lst<|ss.map D.str) r0.2.1=_:=(ae<|fk G g).trans G;show !!{a,_,_,rfl,v,rfl,_,rfl,fg ra,_,Em,M,_,rfl,_,_,i,rfl,Z,eU,j};have L:(ss.map D.str).map (λd=>match d with|.str z=>Ah rs i z|_=>.ay)=ss.map (Ah rs i):=by rw[zC];rfl
 show !{ss.map<|Ah rs i,by change((S.set p _).set p2<|.lst<|(ss.map D.str).map _) p2=_;rw[aa,L],?_};show fC Ai id (by change((S.set p _).set p2<|.lst<|(ss.map D.str).map _) p2=_;rw[aa,L]) (by change(ss.map<|Ah rs i).length<=1000;rw[zd];omega) (λd hd Q Q' j O=>?_) λp3 R=>?_;let⟨z,hz,rfl⟩:=zk.mp hd;show !!!⟨?_⟩;show cI (λh=>!⟨j h⟩) λh=>O h;have y:S p3=ϐ:=by cases e:S p3 with|none=>rfl|some c=>show absurd R<|by rw[ae (fk e<|by have:(S.set p<|.lst<|ss.map D.str) p2=ϐ:=J;cases e':S p2 with|none=>rfl|some X=>rw[ae<|fk e' g,e']at this;cases this),ae<|fk e g,e];show nofun
 show{S.set p3<|.lst<|mX rs i ss,λb c hb=>?_,q1 i ss hi hp hs p3 y};change((((S.set p<|.lst<|ss.map D.str).set p2 _).set p3<|.lst<|((ss.map<|Ah rs i).filter Ai).map id)) b=ϑ c;rw[BP];by_cases B:b=p3;subst B;rw[aa]at hb⊢;show hb;rw[ae B]at hb;have A:S p2=ϐ:=by cases e':S p2 with|none=>rfl|some X=>have:(S.set p<|.lst<|ss.map D.str) p2=ϐ:=J;rw[ae<|fk e' g,e']at this;cases this
 rw[ae B,ae<|fk hb A,ae<|fk hb g];show hb
def vk{p:χ}{A B:η}(h:p=ϰ)(q:B):if p=ϱ then A else B:=by rw[h];show aM q
def ify{p:χ}{A B:η}(h:p=ϱ)(q:A):if p=ϱ then A else B:=by rw[h];show bw q
def eG{L:δ D}{S:av}{p:ε}{n:ν}{R:KD}(h0:0<=n)(h1:n<(L.length:ν))(hp:S p=ϐ)(q:∀d,d∈L->R d S):AtL p n (S.set p<|.lst L) λd S'=>Fo S' (R d):=by let⟨v,e1,e2⟩:=rR (l:=L) h0 h1;show{L,v,aa,e1,S,.new hp,q v<|zB e2}
def gR{xs:δ ν}{i:ν}{P:ν->η}(h0:0<=i)(h1:i<((xs.map D.int).length:ν))(h:∀x∈xs,P x):∃x,iM (xs.map D.int) i=ϑ (.int x)/\P x:=by let⟨d,e1,e2⟩:=rR (l:=xs.map D.int) h0 h1;let⟨x,hx,rfl⟩:=zk.mp<|zB e2;show{x,e1,h x hx}
inductive qS (ds:δ D) (S:av) (R:KD) (Z:KX):η
 |mk (ns:δ ν) (k:π) (_:ds=[.lV<|ns.map D.int,.int k]) (_:∀c:ν,R (.int c) S)
def mY(T:Txt w K mg t):Ok P w base T.iW 1 qS:=by
 show T.iW.F.cy z_ ?_;obtain⟨ns,k,e,q⟩;show{_,(sc (si (bJ xH `u (dv 1)<|cb aY T.aR aH<|ap 0 an) (s1<|sr<|ix `u (dv 0)<|dv 1) s0)<|s1<|sr di),?_};show !!!!⟨?_⟩;show cI (λh=>?_) λh=>?_;have h:(k:ν)<(((ns.map D.int).length:π):ν):=zI h;have hk:k<ns.length:=by rw[zd]at h;lia
 show !!{.int ns[k],dN<|by rw[zm];simp[hk],fo<|q _};show fo<|q 0
inductive Dv (S:av) (c:ν) (n:π) (lf:ε) (ak:SD) (S':av):η
 |mk (r:ν) (xs:δ ν) (_:ak=[some<|.int c,some<|.int (n:π),some<|.ref lf,some<|.int r,none,none]) (_:S'=S.set lf (.lst<|xs.map D.int)) (_:xs.length<=n) (_:∀x∈xs,0<=x):Dv S c n lf ak S'
inductive Dw (S:av) (c:ν) (n:π) (lf:ε) (m:π) (ak:SD) (S':av):η
 |mk (r:ν) (xs:δ ν) (_:ak=[some<|.int c,some<|.int (n:π),some<|.ref lf,some<|.int r,none,none]) (_:S'=S.set lf (.lst<|xs.map D.int)) (_:xs.length+m=n) (_:∀x∈xs,0<=x):Dw S c n lf m ak S'
inductive Dx (S:av) (c:ν) (n:π) (lf:ε) (r:ν) (ak:SD) (S':av):η
 |mk (o4 o5:θ D) (xs:δ ν) (_:ak=[some<|.int c,some<|.int (n:π),some<|.ref lf,some<|.int r,o4,o5]) (_:S'=S.set lf (.lst<|xs.map D.int)) (_:n<=xs.length) (_:xs.length<=40) (_:∀x∈xs,0<=x):Dx S c n lf r ak S'
inductive Dy (S:av) (c:ν) (n:π) (lf:ε) (r:ν) (xl i:π) (ak:SD) (S':av):η
 |mk (nu:ν) (o5:θ D) (xs:δ ν) (_:ak=[some<|.int c,some<|.int (n:π),some<|.ref lf,some<|.int r,some<|.int nu,o5]) (_:0<=nu) (_:nu<1000000000000048280) (_:S'=S.set lf (.lst<|xs.map D.int)) (_:xs.length=xl+(i-3)) (_:∀x∈xs,0<=x):Dy S c n lf r xl i ak S'
inductive wO (ds:δ D) (S:av) (R:KD) (Z:KX):η
 |mk (c:ν) (n:π) (_:ds=[.int c,.int (n:π)]) (_:n<=20) (_:∀(xs:δ ν) p,xs.length=n->(∀x∈xs,0<=x)->S p=ϐ->R (.ref p) (S.set p<|.lst<|xs.map D.int))
def i7(T:Txt w K mg t):Ok P w base T.ig 1 wO:=by
 show T.ig.F.cy dG ?_;obtain⟨c,n,e,hn,q⟩;show{_,(sc (bT (i:=2) dG.nd<|ba an)<|sc (bT (i:=3) dG.nd di)<|sc (jd<|si (bJ abk `u (dv 0)<|bo nJ `u di di) (s1<|bT (i:=3) dG.nd<|bo O6 `u (dv 0)<|bo nJ `u di di) s0)<|sc (jd<|swh (twd<|twand (bJ vE `u (dv 3) di)<|tw1<|bJ xH `u (cb aY T.aR aH<|ap 2 an)<|dv 1)<|sc (se<|bm zG zM zN bh (dv 2)<|ac (bo c8 `u (dv 3)<|bo nJ `u di di) an)<|s1<|bT (i:=3) dG.nd<|bo gy `u (dv 3)<|bo nJ `u di di)<|sc (bT (i:=4) dG.nd<|bo du `u (bo c8 `u (dv 0)<|bo du `u (bo nJ `u di di) di) di)<|sc (jd<|tP (NB T.fH<|ac (bo du `u (dv 1) di) an) (gn (i:=5) dG.nd)<|sc (bT (i:=4) dG.nd<|bo c8 `u (bo du `u (bo du `u (bo wm `u (dv 4)<|dv 4)<|bo wm `u di<|dv 4)<|dv 5)<|bo du `u (bo nJ `u di di) di)<|s1<|si (bJ vE `u (dv 5) di) (s1<|se<|bm zG zM zN bh (dv 2)<|ac (bo c8 `u (bo wm `u (dv 4)<|bo du `u (bo gy `u (dv 4) di) di)<|bo du `u (bo nJ `u di di) di) an) s0)<|s1<|sr<|NY (dv 2) o0<|o1<|dv 1),?_};show{BL,λlf A=>?_};show{λak S'=>∃r:ν,ak=[some<|.int c,some<|.int (n:π),some<|.ref lf,some<|.int r,none,none]/\S'=S.set lf (.lst []),?_,?_};show{_,rfl,{`a,`a,`a},_,rfl,cI (λh=>?_) λh=>fo {0,rfl,rfl}};show{_,rfl,{`a,`a,`a},fo !⟨rfl⟩};rintro ak S' ⟨r,rfl,rfl⟩;show{Dv S c n lf,?_,?_};show{Dw S c n lf,{n,r,[],rfl,rfl,Nat.zero_add _,λk h=>(nomatch h)},?_};rintro m ak S' ⟨r,xs,rfl,rfl,hl,hx⟩;have g:(S.set lf<|.lst<|xs.map D.int) lf=ϑ (.lst<|xs.map D.int):=aa;show !!⟨cI (λh1=>!!⟨.inl {_,g,_,rfl,_,rfl,cI (λh2=>?_) λh2=>?_}⟩) λh1=>aM<|fo {r,xs,rfl,rfl,`b,hx}⟩;have h2:(((xs.map D.int).length:π):ν)<((n:π):ν):=zI h2;rw[zd]at h2;show{_,rfl,{rfl,_,g},_,rfl,{`a,`a,`a},`a,lf,_,_,rfl,rfl,g,bg<|by rw[zd];lia,?_};show{_,rfl,{`a,`a,`a},{`a,`c},m-1,`b,_,xs++[r%10^(15:ν).toNat],rfl,?_,by rw[zq];change xs.length+1+_=_;lia,λx o=>?_};rw[bR,zQ];rfl;rcases zP.mp o with h|h;show hx x h;rw[zE.mp h];show yd _ `a;show fo {r,xs,rfl,rfl,`b,hx};rintro ak S' ⟨r,xs,rfl,rfl,hl,hx⟩;have y:∀z:ν,0<=z%1000000000000000009/\z%1000000000000000009<1000000000000000009:=λz=>{yd z<|`a,ya z<|`a};have s:((10:ν)^(18:ν).toNat+9)=1000000000000000009:=`a
 show{_,rfl,{`a,`a,`a},`a,?_};show{Dx S c n lf r,?_,?_};show !{((n:π):ν)+3,rfl,`b,`b,?_};show{Dy S c n lf r xs.length,?_,λk k k k=>trivial,?_,?_};have:=y c;rw[s];show{_,none,xs,rfl,`b,`b,rfl,rfl,hx};rintro i d ak S' hd ⟨nu,o5,ys,rfl,G,H,rfl,v,j⟩;have hd:(fU 0 (((n:π):ν)+3).toNat)[i]?=some d:=hd;let⟨hi,rfl⟩:=eZ hd;show !!{.inl {`b,`b},_,rfl,.inl {`a,`a},_,rfl,{`a,`a,`a},`a,?_};rw[s];have b1:=y<|nu*nu+48271*nu+(0+(i:π));generalize (nu*nu+48271*nu+(0+(i:π)))%1000000000000000009=a at b1⊢;have g:(S.set lf<|.lst<|ys.map D.int) lf=ϑ (.lst<|ys.map D.int):=aa;show !!⟨cI (λh=>?_) λh=>?_⟩;have h:(2:ν)<0+((i:π):ν):=zI h;show{_,rfl,{rfl,_,g},_,rfl,_,rfl,{`a,`c},.inl {`b,`b},{`a,`a,`a},`a,lf,_,_,rfl,rfl,g,bg<|by rw[zd];lia,?_};show{a,_,ys++[a*(a/1009+69621)%(10^(18:ν).toNat+9)],rfl,`b,`b,?_,by rw[zq];change ys.length+1=_;lia,λx o=>?_};rw[bR,zQ];rfl;rcases zP.mp o with h|h;show j x h;rw[zE.mp h];show yd _ `a;have h:¬(2:ν)<0+((i:π):ν):=z0 h;show{a,_,ys,rfl,`b,`b,rfl,`b,j};rintro ak S' ⟨nu,o5,ys,rfl,_,_,rfl,v,j⟩;rw[show({fU 0 (((n:π):ν)+3).toNat,λk=>True}:qC).xs.length=(((n:π):ν)+3).toNat from eY]at v;show fo {_,_,ys,rfl,rfl,`b,`b,j};rintro ak S' ⟨o4,o5,ys,rfl,rfl,C,E,j⟩;show !!!{_,aa,λp hp=>?_};have B:S p=ϐ:=by rw[ae<|show p≠lf by rintro rfl;rw[aa]at hp;cases hp]at hp;show hp
 have e:ck (ys.map D.int) none (some ((n:π):ν))=(ys.take n).map D.int:=by unfold ck;rw[HT.sIx_nat,HT.sIx_none,zd,Nat.min_eq_left C,List.drop_zero,Nat.sub_zero,List.map_take]
 rw[e];show{_,λb x hb=>?_,q (ys.take n) p (by rw[yq];lia) (λx o=>j x<|List.mem_of_mem_take o) B};by_cases l:b=p;subst l;rw[aa]at hb⊢;show hb;rw[ae l]at hb⊢;show(Sub.new A) _ _ hb
noncomputable abbrev KW:δ Str:=["a","ab","b","abc","z","a1","b22","aa","m","m0","ba","zzzzzzzzz"]
noncomputable abbrev KU:δ Str:=["","0","b7","zz","9"]
noncomputable abbrev KS:δ Str:=KW.flatMap λa=>KU.map λb=>a++b
theorem uA:∀z∈KS,j5 z=ϱ/\z.cps.size<=12/\PyData.strOk z=ϱ:=`c
theorem X7:∀a∈KW,∀b∈KU,a.length+b.length<=1000:=`c
noncomputable abbrev BQ:δ Str:=["key","a","ab","at","up","mark","b","price"]
theorem K4:∀z∈BQ,kU z=ϱ/\PyData.strOk z=ϱ:=`c
noncomputable abbrev WDS:δ Str:=["","a","ab","b","a b","B","~","=b"]
theorem SO:∀z∈WDS,qM z=ϱ:=`c
noncomputable def b8:D->χ|.ay=>true|.int _=>true|.str z=>ω (z.cps.size<=40)&&PyData.strOk z|_=>false
def iq(h:b8 d=ϱ):d=.ay\/(∃i,d=.int i)\/∃z,d=.str z:=by cases d<;>first|show .inl rfl|show .inr (.inl {_,rfl})|show .inr (.inr {_,rfl})|cases h
def Vg(kind:ρ)(d:D):Prop:=iG kind d=ϱ/\b8 d=ϱ
def N4(h:qM z=ϱ):b8 (.str z)=ϱ:=by unfold qM at h;rw[zR,yr]at h;change(ω (z.cps.size<=40)&&PyData.strOk z)=ϱ;rw[h.1,yf];unfold PyData.strOk;rw[<-Array.all_toList,yr];intro c a;have:=h.2 c a;unfold FT at this;simp only[zR,zT]at this⊢;lia
theorem SQ{k:ρ}(h:k ="number")(i:ν):Vg k (.int i):={by rw[h];rfl,rfl}
theorem SR{k:ρ}(h:¬k ="number")(hz:qM z=ϱ):Vg k (.str z):={by unfold iG;rw[qa h];show hz,N4 hz}
theorem SS(k:ρ):Vg k .ay:=⟨rfl,rfl⟩
inductive wQ (ds:δ D) (S:av) (R:KD) (Z:KX):η
 |mk (k:ρ) (x:ν) (_:ds=[.str k,.int x]) (_:∀d,Vg k d->R d S)
def K5(T:Txt w K mg t):Ok P w base T.xY 1 wQ:=by show T.xY.F.cy uk ?_;obtain⟨k,x,e,q⟩;show{_,(sc (si (bJ cE `u (bo c8 `u (dv 1) di) di) (s1<|sr dn) s0)<|sc (si (bJ cE `u (dv 0) ds) (sc (bT (i:=2) uk.nd<|bo wm `u (bo c8 `u (bo gy `u (dv 1) di)<|bo nJ `u di di)<|bo nJ `u di di)<|s1<|sr<|Fz<|ix `u (ba<|ac di<|ac di<|ac di<|ac di<|ac (Hz di)<|ac (Hz di)<|ap 2<|ac (bo O6 `u di<|dv 2) an)<|bo c8 `u (bo gy `u (dv 1) di) di) s0)<|s1<|sr<|Fz<|ix `u (ba<|ac ds<|ac ds<|ac ds<|ac ds<|ac ds<|ac ds<|ac ds<|ac ds an)<|bo c8 `u (bo gy `u (dv 1) di) di),?_};show !{`a,_,rfl,cI (λy=>fo<|q _<|SS k) λy=>!!⟨?_⟩};have c:0<=x/5%8:=yd _ `a;have g:x/5%8<8:=ya _ `a;show cI (λh=>?_) λh=>?_;have h:k ="number":=zI h;have g0:0<=x/40%10^(15:ν).toNat:=yd _ `a;have j:x/40%10^(15:ν).toNat<10^(15:ν).toNat:=ya _ `a;show{_,rfl,{`a,`c},{`a,`a,`a},`a,{`a,`a,`a},.inl {Int.lt_of_lt_of_le `a g0,Int.lt_trans j<|`a},?_};generalize x/40%10^(15:ν).toNat*10^(44:ν).toNat=a;show !!!!{H_,λp hp=>!⟨{`a,`c},`a,eG c g hp λd hd=>?_⟩};have hd:d∈[D.int 0,.int 1,.int 2,.int 10,.int (-1),.int (-2),.int a,.int<|0-a]:=hd;simp only[zl,zO,or_false]at hd;rcases hd with rfl|rfl|rfl|rfl|rfl|rfl|rfl|rfl<;>show fo (q _<|SQ h _);show{H_,λp hp=>!⟨{`a,`c},`a,eG c g hp λd hd=>?_⟩};have hd:d∈WDS.map D.str:=hd;let⟨z,hz,rfl⟩:=zk.mp hd;show fo<|q _<|SR (z0 h)<|SO z hz
inductive F9 (ds:δ D) (S:av) (R:KD) (Z:KX):η
 |mk (x:ν) (_:ds=[.int x]) (_:∀z∈KS,R (.str z) S)
def SU(T:Txt w K mg t):Ok P w base T.KO 1 F9:=by
 show T.KO.F.cy BJ ?_;obtain⟨x,e,q⟩;show{_,(sc (bT (i:=1) BJ.nd<|Fz<|ix `u (ba<|ac ds<|ac ds<|ac ds<|ac ds<|ac ds<|ac ds<|ac ds<|ac ds<|ac ds<|ac ds<|ac ds<|ac ds an)<|bo c8 `u (dv 0) di)<|s1<|sr<|bo du `u (dv 1)<|Fz<|ix `u (ba<|ac ds<|ac ds<|ac ds<|ac ds<|ac ds<|ac ds<|ac ds<|ac ds an)<|bo c8 `u (bo gy `u (dv 0) di) di),?_};show{X4,λp hp=>!{`a,eG (yd _<|`a) (ya _<|`a) hp λd hd=>?_}};have hd:d∈KW.map D.str:=hd;let⟨a,ha,rfl⟩:=zk.mp hd;show !{H_,λp hp=>!⟨{`a,`c},`a,eG (yd _<|`a) (ya _<|`a) hp λd hd=>?_⟩};obtain⟨b,hb,rfl⟩:∃b∈KU,d=.str b:=by have hd:d∈[D.str "",.str "",.str "",.str "",.str "0",.str "b7",.str "zz",.str "9"]:=hd;simp only[zl,zO,or_false]at hd;rcases hd with h|h|h|h|h|h|h|h<;>show{_,`d,h}
 show{sm<|X7 a ha b hb,fo<|q _<|List.mem_flatMap.mpr {a,ha,zk.mpr ⟨b,hb,rfl⟩}}
def fN{α β:Type}{rel:α->β->η}{l:δ α}{m:δ β}(h:Paired rel l m):∀{i:π}{b:β},m[i]?=some b->∃a,l[i]?=some a/\rel a b:=by induction h with|nil=>intro i a h;simp at h|cons r t c=>intro i a h;cases i with|zero=>(rw[List.getElem?_cons_zero]at h⊢;cases h;show{_,rfl,r})|succ i=>rw[List.getElem?_cons_succ]at h⊢;show c h
theorem wR{α β:Type}{rel:α->β->η} : ∀{l:δ α}{m:δ β},m.length=l.length->(∀(i:π) a b,l[i]?=some a->m[i]?=some b->rel a b)->Paired rel l m|[],[],_,_=>.nil|a::l,b::m,h,k=>.cons (k 0 a b rfl rfl)<|wR (by simpa using h) λi x y e1 e2=>k (i+1) x y (by rw[List.getElem?_cons_succ];show e1)<|by rw[List.getElem?_cons_succ];show e2
def Wg(cs:δ<|ρ×ρ)(ws:δ D):Prop:=Paired (λ(c:ρ×ρ) v=>Vg c.2 v) cs ws
noncomputable def uB(tr j:π):Str:=BQ.getD ((tr+3*j)%8) ""
theorem K6:∀tr<8,∀i<9,((List.range i).map<|uB tr).Nodup:=`c
def SV(tr j:π):uB tr j∈BQ:=by have:(tr+3*j)%8<8:=Nat.mod_lt _ `a;unfold uB;rw[zL,zg<|show(tr+3*j)%8<BQ.length from this];show List.getElem_mem _
def SW(tr j:π):uB (tr%8) j=uB tr j:=by unfold uB;rw[show(tr%8+3*j)%8=(tr+3*j)%8 by lia]
def Cg(cs:δ<|ρ×ρ):Prop:=Gd cs/\∀c∈cs,c.1∈BQ
inductive Nw (S:av) (c:ν) (lx ln lf:ε) (m tr:π) (x0:ν) (i:π) (ak:SD) (S':av):η
 |mk (cs:δ<|ρ×ρ) (y2:ν) (o6:θ D) (_:ak=[some<|.int c,some<|.ref lx,some<|.ref ln,some<|.int (m:π),some<|.ref lf,o6]) (_:cs.map Prod.fst=(List.range i).map (uB tr)) (_:(∀c∈cs,c.2 ="number"\/c.2 ="word")) (_:S' lx=ϑ (.lst<|[x0,((tr:π):ν),y2].map D.int)) (_:S' ln=ϑ (.lst<|BQ.map D.str)) (_:S' lf=ϑ (.lst<|cs.map aF)) (_:Sub S S'):Nw S c lx ln lf m tr x0 i ak S'
inductive qU (ds:δ D) (S:av) (R:KD) (Z:KX):η
 |mk (c:ν) (_:ds=[.int c]) (_:∀cs,Cg cs->R (.tup<|cs.map aF) S)
def En(T:Txt w K mg t):Ok P w base T.p6 2 qU:=by
 show T.p6.F.cy dR ?_;obtain⟨c,e,q⟩;show{_,(sc (bT (i:=1) dR.nd<|bA T.ig (i7 T) hr<|ap 0<|ac di an)<|sc (bT (i:=2) dR.nd<|ba<|ac ds<|ac ds<|ac ds<|ac ds<|ac ds<|ac ds<|ac ds<|ac ds an)<|sc (bT (i:=3) dR.nd<|Fz<|ix `u (ba<|ac di<|ac di<|ac di<|ac di<|ac di<|ac di<|ac di<|ac di an)<|bo c8 `u (ix `u (dv 1) di) di)<|sc (bT (i:=4) dR.nd<|ba an)<|sc (jd<|tP (NB T.fH<|ap 3 an) (gn (i:=5) dR.nd)<|sc (se<|bm zG zM zN bh (dv 4)<|ac (aI<|ac (ix `u (dv 2)<|bo c8 `u (bo du `u (ix `u (dv 1) di)<|bo wm `u di<|dv 5) di)<|ac (Fz<|ix `u (ba<|ac ds<|ac ds an)<|bo c8 `u (ix `u (dv 1) di) di) an) an)<|s1<|sls (dv 1) di<|bo gy `u (ix `u (dv 1) di) di)<|s1<|sr<|ct jm T.bc aP<|ap 4 an),?_};show !{c,3,rfl,`a,λxs lx U hx Q=>?_};obtain⟨x0,C,l,rfl⟩:∃x0 C l,xs=[x0,C,l]:=by match xs,U with|[a,b,c],_=>show⟨a,b,c,rfl⟩
 let⟨tr,rfl⟩:=Int.eq_ofNat_of_zero_le<|hx C `d;show{H_,λln M=>?_};have s:((S.set lx<|.lst<|[x0,((tr:π):ν),l].map D.int).set ln<|.lst<|BQ.map D.str) lx=ϑ (.lst<|[x0,((tr:π):ν),l].map D.int):=(ae<|fk aa M).trans aa;have L:((S.set lx<|.lst<|[x0,((tr:π):ν),l].map D.int).set ln<|.lst<|BQ.map D.str) ln=ϑ (.lst<|BQ.map D.str):=aa;have s1:=(Sub.new (c:=.lst<|[x0,((tr:π):ν),l].map D.int) Q).trans<|.new (c:=.lst<|BQ.map D.str) M;have I:lx≠ln:=fk aa M;rw[show[D.str "key",.str "a",.str "ab",.str "at",.str "up",.str "mark",.str "b",.str "price"]=BQ.map D.str from rfl];generalize (S.set lx<|.lst<|[x0,((tr:π):ν),l].map D.int).set ln (.lst<|BQ.map D.str)=S1 at s L s1⊢;show{H_,λp hp=>!{_,_,(Sub.new hp) _ _ s,rfl,`a,eG (yd _<|`a) (ya _<|`a) hp λd hd=>?_}};obtain⟨m,rfl,hm⟩:∃m:π,d=.int m/\m<=8:=by have hd:d∈[D.int 1,.int 2,.int 3,.int 0,.int 2,.int 1,.int 8,.int 3]:=hd;simp only[zl,zO,or_false]at hd;rcases hd with h|h|h|h|h|h|h|h;show{1,h,`a};show{2,h,`a};show{3,h,`a};show{0,h,`a};show{2,h,`a};show{1,h,`a};show{8,h,`a};show{3,h,`a}
 show{BL,λlf A=>?_};have Y:S1 lx≠none:=by rw[s];nofun
 have n:lx≠lf:=fk s A;have y:ln≠lf:=fk L A;have sz:=s1.trans<|Sub.new (c:=.lst []) A;have Z:S lf=ϐ:=by cases e:S lf with|none=>rfl|some z=>have:=s1 _ _ e;rw[A]at this;cases this
 show{λak S'=>∃(cs:δ (ρ×ρ))(o6:θ D),ak=[some<|.int c,some<|.ref lx,some<|.ref ln,some<|.int (m:π),some<|.ref lf,o6]/\Cg cs/\S' lf=ϑ (.lst<|cs.map aF)/\Sub S S',?_,?_};show !{((m:π):ν),rfl,`b,`b,?_};show{Nw S c lx ln lf m tr x0,{[],l,none,rfl,rfl,λp h=>(nomatch h),(ae n).trans s,(ae y).trans L,aa,sz},λp p p p=>trivial,?_,?_};rintro i d ak S' hd ⟨cs,y2,o6,rfl,hn,hk,B,hN,o,v⟩;have hd:(fU 0 ((m:π):ν).toNat)[i]?=some d:=hd;let⟨hi,rfl⟩:=eZ hd;have X:cs.length=i:=by have:=congrArg List.length hn;simpa using this
 have H:iM (BQ.map D.str) ((((tr:π):ν)+3*(0+((i:π):ν)))%8)=ϑ (.str<|uB tr i):=by rw[show(((tr:π):ν)+3*(0+((i:π):ν)))%8=(((tr+3*i)%8:π):ν) by lia];have R:(tr+3*i)%8<8:=Nat.mod_lt _ `a;show dN ?_;rw[zm];unfold uB;rw[zL,zg<|show(tr+3*i)%8<BQ.length from R];rfl
 show{_,rfl,{rfl,_,o},_,rfl,_,rfl,_,_,B,rfl,_,rfl,.inl {`a,`a},`a,_,_,hN,H,eU,λp hp=>!{_,_,(Sub.new hp) _ _ B,rfl,`a,eG (yd _<|`a) (ya _<|`a) hp λd hd=>?_}};obtain⟨r,rfl,E⟩:∃r:ρ,d=.str r/\(r ="number"\/r ="word"):=by have hd:d∈[D.str "number",.str "word"]:=hd;simp only[zl,zO,or_false]at hd;rcases hd with h|h;show{_,h,.inl rfl};show{_,h,.inr rfl}
 show{eU,lf,_,_,rfl,rfl,o,bg<|by rw[zd];lia,?_};have N:(S'.set lf<|.lst<|cs.map aF++[.tup [.str<|uB tr i,.str r]]) lx=ϑ (.lst<|[x0,((tr:π):ν),y2].map D.int):=(ae n).trans B;show !{_,_,N,rfl,{`a,`c},_,rfl,lx,_,2,2,rfl,rfl,N,rfl,?_};show{cs++[(uB tr i,r)],y2/2,_,rfl,?_,?_,aa,(ae I.symm).trans<|(ae y).trans hN,?_,λb x hb=>?_};rw[zQ,hn,List.range_succ,zQ];rfl;intro c g;rcases zP.mp g with h|h;show hk c h;rw[zE.mp h];show E;rw[ae n.symm,aa,zQ];rfl;have J:b≠lx:=fk hb Q;rw[ae J,ae<|fk hb Z];show v b x hb;rintro ak S' ⟨cs,y2,o6,rfl,hn,hk,B,hN,o,v⟩;rw[show({fU 0 ((m:π):ν).toNat,λp=>True}:qC).xs.length=((m:π):ν).toNat from eY,show((m:π):ν).toNat=m by lia]at hn;have X:cs.length=m:=by have:=congrArg List.length hn;simpa using this
 have O:∀c∈cs,c.1∈BQ:=λc g=>by have:c.1∈cs.map Prod.fst:=zk.mpr ⟨c,g,rfl⟩;rw[hn]at this;let⟨j,_,e⟩:=zk.mp this;rw[<-e];show SV tr j
 have G:(cs.map Prod.fst).Nodup:=by rw[hn,zX λj p=>(SW tr j).symm];show K6 (tr%8) (Nat.mod_lt _<|`a) m<|`b
 show fo {cs,_,rfl,{{`b,G,λc g=>{(K4 _<|O c g).1,hk c g}},O},o,v};rintro ak S' ⟨cs,o6,rfl,g,o,v⟩;show !{_,_,rfl,.inl o,S,v,q cs g}
inductive uC (ds:δ D) (S:av) (R:KD) (Z:KX):η
 |mk (cs:δ<|ρ×ρ) (l:ε) (xs:δ ν) (_:ds=[.tup<|cs.map aF,.ref l]) (_:Gd cs) (_:S l=ϑ (.lst<|xs.map D.int)) (_:cs.length<=xs.length) (_:∀ws,Wg cs ws->R (.tup ws) S)
def Ij(T:Txt w K mg t):Ok P w base T.ub 2 uC:=by
 show T.ub.F.cy BK ?_;obtain⟨cs,l,xs,e,hg,hl,A,q⟩;have y:=hg.1;show{_,(s1<|sr<|ct jm T.bc aP<|ac (AH (N:=["_law_k","_law_xs","_law_columns_here"]) (src:=[none,some 1,some 0]) (pd D7) (NB T.fH<|ac (cb aY T.aR aH<|ap 0 an) an) vF<|bA T.xY (K5 T) hr<|ac (ix `u (ix `u (dv 2)<|dv 0) di)<|ac (ix `u (dv 1)<|dv 0) an) an),?_};show !!!{by rw[zd];lia,by rw[zd];lia,?_};rw[zd];show oq (λd v=>∃(j:π)(c:ρ×ρ),d=.int (0+(j:π))/\cs[j]?=some c/\Vg c.2 v) trivial (by change(fU 0 _).length<=_;rw[eY];lia) (λd hd Q s=>?_) λout hp p r=>?_;let⟨j,h⟩:=List.getElem?_of_mem hd;have h:(fU 0 ((cs.length:π):ν).toNat)[j]?=some d:=h;let⟨o,rfl⟩:=eZ h;have i:j<cs.length:=`b
 have a:=zg i;generalize cs[j]=c at a;have ex:(xs.map D.int)[j]?=some (.int<|xs[j]' `b):=by rw[zm,zg<|show j<xs.length by lia];rfl
 generalize xs[j]'_=x at ex;have m:(0:ν)+((j:π):ν)=((j:π):ν):=Int.zero_add _;show !!{aF c,by rw[m];show dN<|by rw[zm,a];rfl,_,rfl,_,rfl,_,rfl,_,_,hl,by rw[m];show dN ex,c.2,x,rfl,λv hv=>s v ⟨j,c,rfl,a,hv⟩};have hw:Wg cs out:=by have g:=yP hp;rw[show({fU 0 ((cs.length:π):ν).toNat,λk=>True}:qC).xs=fU 0 ((cs.length:π):ν).toNat from rfl,eY]at g;show wR `b λj c v a ev=>?_;let⟨d,hd,n,z,e1,e2,hv⟩:=fN hp ev;have hd:(fU 0 ((cs.length:π):ν).toNat)[j]?=some d:=hd;let⟨_,e3⟩:=eZ hd;rw[e3]at e1;have e1:(0:ν)+((j:π):ν)=0+((n:π):ν):=D.int.inj e1;obtain rfl:j=n:=`b;rw[a]at e2;cases e2;show hv
 show{_,out,rfl,.inl aa,S,.new r,q out hw}
abbrev Kn:=δ<|ρ×δ D
noncomputable def fh(kn:Kn):δ (Key×D):=kn.map λr=>(Sum.inr r.1,D.tup r.2)
noncomputable def fS(kn:Kn)(z:ρ):θ (δ D):=(kn.find? λr=>ω<|r.1=z).map (·.2)
structure KI(cs:δ (ρ×ρ))(kn:Kn):η where
 nd:(kn.map (·.1)).Nodup
 ok:∀r∈kn,r.1∈KS/\Wg cs r.2
def cu:fS (r::kn) k=if r.1=k then some r.2 else fS kn k:=by unfold fS;rw[yc];by_cases h:r.1=k;rw[zy h,qb h];rfl;rw[zp h,qa h]
def k_(kn:Kn)(k:ρ):cK (fh kn) (.inr k)=(fS kn k).map D.tup:=by induction kn with|nil=>rfl|cons r kn a=>rw[cu];unfold cK fh at *;rw[zK,yc];by_cases h:r.1=k;have:ω ((Sum.inr r.1:Key)=.inr k)=ϱ:=zy (by rw[h]);dsimp only;rw[this,qb h];rfl;have:ω ((Sum.inr r.1:Key)=.inr k)=ϰ:=zp λe=>h<|yY e;dsimp only;rw[this,qa h];show a
def ir(h:fS kn k=ϑ ws):(k,ws)∈kn:=by induction kn with|nil=>(cases h)|cons r kn a=>rw[cu]at h;by_cases hk:r.1=k;rw[qb hk]at h;cases h;rw[<-hk];show zw;rw[qa hk]at h;show zh _<|a h
def jz(h:k∈kn.map (·.1)):∃ws,fS kn k=ϑ ws:=by induction kn with|nil=>(cases h)|cons r kn a=>rw[cu];by_cases hk:r.1=k;show{r.2,qb hk};rw[qa hk];rw[zK]at h;rcases zl.mp h with e|h;show absurd e.symm hk;show a h
theorem sub_len[DecidableEq α]:∀{l m:δ α},l.Nodup->(∀x∈l,x∈m)->l.length<=m.length|[],m,_,_=>yh _|a::l,m,nd,h=>by let⟨n1,n2⟩:=yo.mp nd;have h1:=sub_len (m:=m.erase a) n2 λx hx=>(List.mem_erase_of_ne λe=>n1<|by rw[<-e];show hx).mpr<|h x<|zh _ hx;have h2:=List.length_erase_of_mem<|h a zw;have c:0<m.length:=List.length_pos_of_mem<|h a zw;rw[zV];omega
def KI.len(h:KI cs kn):kn.length<=60:=by
 have:=sub_len h.nd (m:=KS) λx hx=>by let⟨r,hr,rfl⟩:=zk.mp hx;show(h.ok r hr).1
 rw[zd]at this;show zH this<|`c
noncomputable def j6(kn:Kn)(z:ρ)(ws:δ D):Kn:=if (fS kn z).isSome then kn.map λr=>if r.1=z then (r.1,ws) else r else kn++[(z,ws)]
noncomputable def rB(kn:Kn)(z:ρ):Kn:=kn.filter λr=>ω<|r.1≠z
def Aj(kn:Kn)(z:ρ)(ws:δ D):dput (fh kn) (.inr z) (.tup ws)=fh (j6 kn z ws):=by
 unfold dput j6;have e:((fh kn).any λa=>ω<|a.1=.inr z)=(fS kn z).isSome:=by induction kn with|nil=>rfl|cons r kn c=>unfold fh at *;rw[zK,yZ,c,cu];by_cases h:r.1=z;rw[qb h,zy<|by rw[h],Bool.true_or];rfl;rw[qa h,zp λe=>h<|yY e,Bool.false_or]
 rw[e];split;unfold fh;rw[zC,zC];show zX λr x=>?_;dsimp only[Function.comp];by_cases h:r.1=z;rw[qb h,qb<|by rw[h]];rw[qa h,qa λe=>h<|yY e];unfold fh;rw[zQ];rfl
def K9(kn:Kn)(z:ρ):Bc (fh kn) (.inr z)=fh (rB kn z):=by unfold Bc rB fh;rw[List.filter_map];congr 1;show List.filter_congr λr x=>?_;dsimp only[Function.comp];rw[yX];show{λh e=>h<|by rw[e],λh e=>h<|yY e}
def N5:fS (j6 kn z ws) k=if k=z then some ws else fS kn k:=by
 unfold j6;by_cases a:(fS kn z).isSome=ϱ;rw[qb a];by_cases hk:k=z;subst hk;rw[qb rfl];induction kn with|nil=>(cases a)|cons r rs c=>rw[zK,cu];by_cases h:r.1=k;rw[qb h,qb h];rw[qa h,qa h];rw[cu,qa h]at a;show c a
 rw[qa hk];clear a;induction kn with|nil=>rfl|cons r rs c=>rw[zK,cu,cu,c];by_cases h:r.1=z;rw[qb h,qa<|show ¬r.1=k from λe=>hk<|e.symm.trans h,qa<|show ¬r.1=k from λe=>hk<|e.symm.trans h];rw[qa h]
 rw[qa a];have hn:fS kn z=ϐ:=by cases e:fS kn z<;>simp_all
 clear a;induction kn with|nil=>rw[List.nil_append,cu];by_cases hk:k=z;rw[qb hk,qb hk.symm];rw[qa hk,qa λe=>hk e.symm]|cons r rs c=>rw[cu]at hn;by_cases h:r.1=z;rw[qb h]at hn;cases hn;rw[qa h]at hn;rw[List.cons_append,cu,cu,c hn];by_cases h2:r.1=k;rw[qb h2,qb h2,qa<|show ¬k=z from λe=>h<|h2.trans e];rw[qa h2,qa h2]
def N6:fS (rB kn z) k=if k=z then none else fS kn k:=by unfold rB;induction kn with|nil=>(split<;>rfl)|cons r kn a=>rw[yW,cu];by_cases h:r.1=z;rw[qa<|by simp[h],a];by_cases hk:k=z;rw[qb hk,qb hk];rw[qa hk,qa hk,qa<|show ¬r.1=k from λe=>hk<|e.symm.trans h];rw[qb<|by simp[h],cu,a];by_cases hk:k=z;rw[qb hk,qb hk,qa<|show ¬r.1=k from λe=>h<|e.trans hk];rw[qa hk,qa hk]
set_option tactic.hygienic true in
def KI.put(h:KI cs kn)(hz:z∈KS)(hw:Wg cs ws):KI cs (j6 kn z ws):=by
 unfold j6;split;show{?_,λr hr=>?_};have:(kn.map λr=>if r.1=z then (r.1,ws) else r).map (·.1)=kn.map (·.1):=by rw[zC];show zX λr x=>by dsimp only[Function.comp];split<;>rfl
 rw[this];show h.nd;let⟨r0,a,e⟩:=zk.mp hr;by_cases q:r0.1=z;rw[qb q]at e;subst e;show{(h.ok r0 a).1,hw};rw[qa q]at e;subst e;show h.ok r0 a;rename_i hs;show{?_,λr hr=>?_};rw[zQ];show nF h.nd λm=>hs ?_;let⟨c,e⟩:=jz m;change(fS kn z).isSome=ϱ;rw[show fS kn z=ϑ c from e];rfl;rcases zP.mp hr with hr|hr;show h.ok r hr;rw[zE.mp hr];show⟨hz,hw⟩
theorem KI.del(h:KI cs kn)(z:ρ):KI cs (rB kn z):={(List.Sublist.map _ yL).nodup h.nd,λr hr=>h.ok r (yi.mp hr).1}
def GD(ks:δ ρ)(cs:δ<|ρ×ρ)(kn:Kn)(d:D):Prop:=(∃z ws,z∈ks/\Wg cs ws/\fS kn z=ϐ/\d=.tup [.str "put",.str z,.tup ws])\/(∃z ws,z∈KS/\Wg cs ws/\(fS kn z).isSome=ϱ/\d=.tup [.str "change",.str z,.tup ws])\/∃z,z∈KS/\(fS kn z).isSome=ϱ/\d=.tup [.str "take",.str z]
def Ly(S:av)(n:π)(d:D):Prop:=∃p,Dp S d p/\p.canLay0=ϱ/\p.depth<=n
theorem Ly.all:∀{ds:δ D},(∀d∈ds,Ly S n d)->∃ps:δ PyData,DpAll S ds ps/\PyData.canLayAll0 ps=ϱ/\PyData.depthAll ps<=n/\ps.length=ds.length|[],_=>{[],by simp only[DpAll],rfl,yh _,rfl}|d::ds,h=>by let⟨p,h1,h2,h3⟩:=h d zw;let⟨ps,k1,k2,k3,k4⟩:=Ly.all λx hx=>h x<|zh _ hx;show{p::ps,by simp only[DpAll];show⟨p,ps,rfl,h1,k1⟩,by simp only[PyData.canLayAll0,h2,k2,Bool.and_self],by simp only[PyData.depthAll];lia,by rw[zV,zV,k4]}
def Ly.tup{S:av}{n:π}{ds:δ D}(h:∀d∈ds,Ly S n d):Ly S (n+1) (.tup ds):=by let⟨ps,k1,k2,k3,_⟩:=Ly.all h;show{.tuple ps,by simp only[Dp];show⟨ps,rfl,k1⟩,by simp only[PyData.canLay0];show k2,by simp only[PyData.depth];lia}
theorem Ly.str(h:PyData.strOk z=ϱ):Ly S 0 (.str z):={.str z,by simp only[Dp],by simp only[PyData.canLay0];show h,by simp only[PyData.depth];lia}
def Ly.le(h:Ly S n d)(l:n<=m):Ly S m d:=by let⟨p,a,b,c⟩:=h;show{p,a,b,zH c l}
theorem Ly.ay:Ly S 0 .ay:={.none,by simp only[Dp],by simp only[PyData.canLay0],by simp only[PyData.depth];lia}
def Ly.plain(h:b8 d=ϱ):Ly S 0 d:=by cases d with|ay=>show Ly.ay|int i=>show{.int i,by simp only[Dp],by simp only[PyData.canLay0],by simp only[PyData.depth];lia}|str z=>have h:(ω (z.cps.size<=40)&&PyData.strOk z)=ϱ:=h;rw[zR]at h;show Ly.str h.2|_=>cases h
def Ly.dl(h:Ly S n d):∃p,Dl S d p/\p.canLay0=ϱ/\p.depth<=n:=by let⟨p,a,b,c⟩:=h;show{p,?_,b,c};cases d with|ref x=>simp only[Dp]at a|_=>show a
def Ly.lst{S:av}{n:π}{a:ε}{ds:δ D}(e:S a=ϑ (.lst ds))(h:∀d∈ds,Ly S n d):∃p,Dl S (.ref a) p/\p.canLay0=ϱ/\p.depth<=n+1/\∀b,S b=ϑ (.lst ds)->Dl S (.ref b) p:=by let⟨ps,k1,k2,k3,_⟩:=Ly.all h;show{.list ps,⟨ds,ps,e,rfl,k1⟩,by simp only[PyData.canLay0];show k2,by simp only[PyData.depth];lia,λb hb=>⟨ds,ps,hb,rfl,k1⟩}
def eq_self(h:Ly S 64 d)(q:R (.bl<|!neg) S):IW neg d d S R:=by
 let⟨p,a,b,c⟩:=h.dl;have e:(if neg then !PyData.eqv p p else PyData.eqv p p)=!neg:=by rw[SeqAt.eqv_refl p b];cases neg<;>rfl
 have g:∃p q,Dl S d p/\Dl S d q/\p.canLay0=ϱ/\q.canLay0=ϱ/\(p.depth<=64\/q.depth<=64)/\R (.bl<|if neg then !PyData.eqv p q else PyData.eqv p q) S:={p,p,a,a,b,b,.inl c,by rw[e];show q};cases d with|int i=>(change R (.bl<|if neg then !decide (i=i) else ω (i=i)) S;rw[zy rfl];cases neg<;>show q)|str i=>(change R (.bl<|if neg then !decide (i=i) else ω (i=i)) S;rw[zy rfl];cases neg<;>show q)|_=>show g
def K_{S:av}{a b:ε}{ds:δ D}{R:KD}{c:χ}(e1:S a=ϑ (.lst ds))(e2:S b=ϑ (.lst ds))(h:∀d∈ds,Ly S 60 d)(q:R (.bl<|!c) S):IW c (.ref a) (.ref b) S R:=by
 let⟨p,k1,k2,k3,k4⟩:=Ly.lst e1 h;have e:(if c then !PyData.eqv p p else PyData.eqv p p)=!c:=by rw[SeqAt.eqv_refl p k2];cases c<;>rfl
 show{p,p,k1,k4 b e2,k2,k2,.inl<|`b,by rw[e];show q}
def La(ps:δ PyData):PyData.eqv (.list ps) (.list [])=ps.isEmpty:=by cases ps<;>simp[PyData.eqv,PyData.eqvAll]
def Lb(ps:δ PyData):PyData.eqv (.tuple ps) (.tuple [])=ps.isEmpty:=by cases ps<;>simp[PyData.eqv,PyData.eqvAll]
def Wg.all(h:Wg cs ws):∀d∈ws,b8 d=ϱ:=by unfold Wg at h;induction h with|nil=>show λz h=>(nomatch h)|cons r t a=>intro d hd;rcases zl.mp hd with e|hd;rw[e];show r.2;show a d hd
theorem Wg.ly{cs:δ<|ρ×ρ}{ws:δ D}(h:Wg cs ws){S:av} : Ly S 1 (.tup ws):=Ly.tup λd hd=>Ly.plain<|h.all d hd
def Mo(sp:lH):lH:=λds S R Z=>∃R0 Z0,sp ds S R0 Z0/\(∀d S',R0 d S'->R d S')/\∀C S',Z0 C S'->Z C S'
theorem Ik{P:Ψ}{w:Ω}{K:Φ}{mg:ρ->θ ξ}{base:Γ}{k:π}{f:ε}{fd:FuncData}{ps:δ ρ}{sp:lH}(F:bU P w K mg base (gb P w mg) k f fd ps<|rV K sp):bU P w K mg base (gb P w mg) k f fd ps (rV K<|Mo sp):=F.imp<|by rintro vs H Q E ⟨ds,S,R,Z,v,a,⟨c,i,h,h1,h2⟩,e,g⟩;show{ds,S,c,i,v,a,h,λd S' u H' r=>e d S' u H'<|h1 _ _ r,λC S' H' z=>g C S' H'<|h2 _ _ z}
abbrev Ld:=k7
abbrev uD:=gQ
abbrev Eo:=jy
def KnD(kn:Kn)(d:D)(eO:Kn):Prop:=(∃(n:ρ) (z:ρ) (ws:δ D),(n ="put"\/n ="change")/\d=.tup [.str n,.str z,.tup ws]/\eO=j6 kn z ws)\/∃z,(fS kn z).isSome=ϱ/\d=.tup [.str "take",.str z]/\eO=rB kn z
inductive Ep (t:fj) (ds:δ D) (S:av) (R:KD) (Z:KX):η
 |mk (a fs) (_:S a=ϑ (.ins t.aw fs)) (_:fs.map Prod.fst=(["columns","deeds","runs"]:δ ρ)) (_:((∃k v,ds=[.ref a,.tup [.str "put",k,v]]/\Ld t [.ref a,k,v] S R Z)\/(∃k v,ds=[.ref a,.tup [.str "change",k,v]]/\uD t [.ref a,k,v] S R Z)\/∃k,ds=[.ref a,.tup [.str "take",k]]/\Eo t [.ref a,k] S R Z))
theorem lk0:∀{fs:δ (ρ×D)},m∉fs.map Prod.fst->fs.lookup m=ϐ|[],_=>rfl| (a,b)::fs,h=>by rw[zK,zl]at h;rw[zW,show(m==a)=ϰ from beq_false_of_ne λe=>h<|.inl e];show lk0 λq=>h<|.inr q
theorem lk3{fs:δ<|ρ×D}(h:fs.map Prod.fst=(["columns","deeds","runs"]:δ ρ)){m:ρ}(hm:m∉(["columns","deeds","runs"]:δ ρ)):fs.lookup m=ϐ:=lk0<|by rw[h];show hm
def Dd3(d:D):Prop:=(∃k v,d=.tup [.str "put",k,v])\/(∃k v,d=.tup [.str "change",k,v])\/∃k,d=.tup [.str "take",k]
inductive oy (ds:δ D) (S:av) (R:KD) (Z:KX):η
 |mk (d) (_:ds=[d]) (_:Dd3 d) (_:R .ay S)
def iI(T:Txt w K mg t):Ok P w base T.dE 1 oy:=by show T.dE.F.cy mh ?_;obtain⟨d,e,hd,q⟩;show{_,(sc (si (twd<|twor (bS<|tv<|cb bE T.ah ag<|ap 0<|ac (lG T.bc aP) an)<|twor (bJ cE `u (cb aY T.aR aH<|ap 0 an) di)<|tw1<|bS<|tv<|cb bE T.ah ag<|ac (ix `u (dv 0) di)<|ac (lG T.kM gw) an) (s1<|lX ⟨T.dP⟩ T.eI<|ac ds an) s0)<|s1<|si (bJ fK `u (mgk T.jJ `a (gK T.iU)<|ix `u (dv 0) di)<|cb aY T.aR aH<|ap 0 an) (s1<|lX ⟨T.dP⟩ T.eI<|ac ds an) s0),?_};rcases hd with⟨k,v,rfl⟩|⟨k,v,rfl⟩|⟨k,rfl⟩;show !{_,_,_,_,rfl,aq,rfl,_,rfl,aM !!!⟨vk rfl !!{_,_,_,_,rfl,br,rfl,_,rfl,aM !!!!!!⟨vk rfl<|fo q⟩}⟩};show !{_,_,_,_,rfl,aq,rfl,_,rfl,aM !!!⟨vk rfl !!{_,_,_,_,rfl,br,rfl,_,rfl,aM !!!!!!⟨vk rfl<|fo q⟩}⟩};show !{_,_,_,_,rfl,aq,rfl,_,rfl,aM !!!⟨vk rfl !!{_,_,_,_,rfl,br,rfl,_,rfl,aM !!!!!!⟨vk rfl<|fo q⟩}⟩}
def PJ(t:fj):lH:=λds S R Z=>Ep t ds S (λz=>R .ay) Z
def N7(T:Txt w K mg t):Ok P w base T.lL 7 (PJ t):=by have g:pP P w mg base T.eT 6 (Mo<|Ld t):=Ik<|K2 T;have c:pP P w mg base T.cn 6 (Mo<|uD t):=Ik<|wN T;have i:pP P w mg base T.dF 6 (Mo<|Eo t):=Ik<|FZ T;show T.lL.F.ok uh (by rintro ds S R Z ⟨_,_,_,_,h⟩;rcases h with⟨_,_,e,_⟩|⟨_,_,e,_⟩|⟨_,e,_⟩<;>rw[e]<;>rfl) ?_;rintro iL A outer s H E ds S R Z hr ⟨a,fs,ha,hf,h⟩;rcases h with⟨k,v,e,h⟩|⟨k,v,e,h⟩|⟨k,e,h⟩;subst e;show{_,(sc (se<|bA T.dE (iI T) hr<|ap 1 an)<|s1<|si (bJ cE `u (ix `u (dv 1) di) ds) (s1<|se<|o_ (dv 0) T.aj T.eT g hr<|ac (ix `u (dv 1) di)<|ac (ix `u (dv 1) di) an)<|s1<|si (bJ cE `u (ix `u (dv 1) di) ds) (s1<|se<|o_ (dv 0) T.aj T.cn c hr<|ac (ix `u (dv 1) di)<|ac (ix `u (dv 1) di) an)<|s1<|se<|o_ (dv 0) T.aj T.dF i hr<|ac (ix `u (dv 1) di) an),?_};show !!{.inl ⟨k,v,rfl⟩,?_};show !!!⟨?_⟩;show cI (λx=>?_) λh=>absurd h `a;show !{a,_,rfl,ha,lk3 hf<|`a,_,rfl,_,rfl,_,rfl,_,rfl,λx=>R .ay,Z,h,λd S' r=>fo r,λC S' z=>fo z};subst e;show{_,(sc (se<|bA T.dE (iI T) hr<|ap 1 an)<|s1<|si (bJ cE `u (ix `u (dv 1) di) ds) (s1<|se<|o_ (dv 0) T.aj T.eT g hr<|ac (ix `u (dv 1) di)<|ac (ix `u (dv 1) di) an)<|s1<|si (bJ cE `u (ix `u (dv 1) di) ds) (s1<|se<|o_ (dv 0) T.aj T.cn c hr<|ac (ix `u (dv 1) di)<|ac (ix `u (dv 1) di) an)<|s1<|se<|o_ (dv 0) T.aj T.dF i hr<|ac (ix `u (dv 1) di) an),?_};show !!{.inr<|.inl ⟨k,v,rfl⟩,?_};show !!!⟨?_⟩;show cI (λh=>absurd h<|`a) λx=>?_;show !!!⟨?_⟩;show cI (λx=>?_) λh=>absurd h `a;show !{a,_,rfl,ha,lk3 hf<|`a,_,rfl,_,rfl,_,rfl,_,rfl,λx=>R .ay,Z,h,λd S' r=>fo r,λC S' z=>fo z};subst e;show{_,(sc (se<|bA T.dE (iI T) hr<|ap 1 an)<|s1<|si (bJ cE `u (ix `u (dv 1) di) ds) (s1<|se<|o_ (dv 0) T.aj T.eT g hr<|ac (ix `u (dv 1) di)<|ac (ix `u (dv 1) di) an)<|s1<|si (bJ cE `u (ix `u (dv 1) di) ds) (s1<|se<|o_ (dv 0) T.aj T.cn c hr<|ac (ix `u (dv 1) di)<|ac (ix `u (dv 1) di) an)<|s1<|se<|o_ (dv 0) T.aj T.dF i hr<|ac (ix `u (dv 1) di) an),?_};show !!{.inr<|.inr ⟨k,rfl⟩,?_};show !!!⟨?_⟩;show cI (λh=>absurd h<|`a) λx=>?_;show !!!⟨?_⟩;show cI (λh=>absurd h<|`a) λx=>?_;show !{a,_,rfl,ha,lk3 hf<|`a,_,rfl,_,rfl,λx=>R .ay,Z,h,λd S' r=>fo r,λC S' z=>fo z}
inductive I_ (S:av):D->η|kind {d:D} (h:∀ds,d≠.tup ds) (g:Gt S d):I_ S d|nil:I_ S (.tup [])|fst {x:D}{ds:δ D} (h:∀z,x≠.str z) (g:Gt S x):I_ S (.tup<|x::ds)|word {z:ρ}{ds:δ D} (h:z≠"put"/\z≠"change"/\z≠"take"):I_ S (.tup<|.str z::ds)|len {z:ρ}{ds:δ D} (h:(z ="put"\/z ="change")/\ds.length≠2\/z ="take"/\ds.length≠1):I_ S (.tup<|.str z::ds)
theorem Er(ds:δ D):ω (((ds.length+1:π):ν)=0)=ϰ:=zp<|`b
def Hl(x:D)(ws:δ D):iM (x::ws) 0=ϑ x:=by unfold iM C4;rw[qb<|Int.le_refl 0];change(if (0:ν)<(((x::ws).length:π):ν) then some (0:ν).toNat else none).bind _=_;rw[qb<|by rw[zV];lia];rfl
theorem F_(q:R (.bl true) S):IW true .ay (.int i) S R:={.none,.int i,by simp only[Dl,Dp],by simp only[Dl,Dp],by simp only[PyData.canLay0],by simp only[PyData.canLay0],.inl<|by simp only[PyData.depth];lia,q}
def X9(t:fj):lH:=λds S z Z=>∃d,ds=[d]/\I_ S d/\Z t.aT S
def uE(T:Txt w K mg t):Ok P w base T.dE 1 (X9 t):=by show T.dE.F.cy mh ?_;obtain⟨d,e,h,q⟩;show{_,(sc (si (twd<|twor (bS<|tv<|cb bE T.ah ag<|ap 0<|ac (lG T.bc aP) an)<|twor (bJ cE `u (cb aY T.aR aH<|ap 0 an) di)<|tw1<|bS<|tv<|cb bE T.ah ag<|ac (ix `u (dv 0) di)<|ac (lG T.kM gw) an) (s1<|lX ⟨T.dP⟩ T.eI<|ac ds an) s0)<|s1<|si (bJ fK `u (mgk T.jJ `a (gK T.iU)<|ix `u (dv 0) di)<|cb aY T.aR aH<|ap 0 an) (s1<|lX ⟨T.dP⟩ T.eI<|ac ds an) s0),?_};cases h with|kind h g=>(let⟨⟨k,hk⟩,_⟩:=g;show !{_,_,_,_,rfl,aq,hk,_,rfl,?_};rcases mV hk with⟨ws,rfl,_⟩|⟨h0,_⟩;show absurd rfl<|h ws;rw[h0];show bw<|bw {sm<|`a,fo q})|nil=>show (!{_,_,_,_,rfl,aq,rfl,_,rfl,aM !!!⟨ph<|bw {sm<|`a,fo q}⟩})|@fst x ds h g=>(let⟨⟨k,hk⟩,_⟩:=g;show !{_,_,_,_,rfl,aq,rfl,_,rfl,aM !!!⟨vk (Er ds) !{_,Hl _ _,_,_,_,_,rfl,br,hk,_,rfl,?_}⟩};rw[(ur hk).elim (by rintro⟨z,e,_⟩;show absurd e<|h z) And.left];show bw {sm<|`a,fo q})|@word z ds h=>show !{_,_,_,_,rfl,aq,rfl,_,rfl,aM !!!⟨vk (Er ds) !{_,Hl _ _,_,_,_,_,rfl,br,rfl,_,rfl,aM ?_}⟩};show !{_,Hl _ _,_,rfl,_,rfl,?_};have f:∀{a:ρ},z≠a->(z==a)=ϰ:=λh=>beq_false_of_ne h;rw[zW,f h.1,zW,f h.2.1,zW,f h.2.2];show{_,rfl,?_};dsimp only[J3,Option.elim,List.lookup];show F_ ?_;show{_,rfl,bw {sm<|`a,fo q}}|@len z ds h=>show !{_,_,_,_,rfl,aq,rfl,_,rfl,aM !!!⟨vk (Er ds) !{_,Hl _ _,_,_,_,_,rfl,br,rfl,_,rfl,aM ?_}⟩};rcases h with⟨rfl|rfl,h⟩|⟨rfl,h⟩;show !{_,Hl _ _,_,rfl,_,rfl,_,rfl,_,rfl,ph {sm<|`a,fo q}<|by change(!decide ((3:ν)=((ds.length+1:π):ν)))=ϱ;rw[zp<|`b];rfl};show !{_,Hl _ _,_,rfl,_,rfl,_,rfl,_,rfl,ph {sm<|`a,fo q}<|by change(!decide ((3:ν)=((ds.length+1:π):ν)))=ϱ;rw[zp<|`b];rfl};show !{_,Hl _ _,_,rfl,_,rfl,_,rfl,_,rfl,ph {sm<|`a,fo q}<|by change(!decide ((2:ν)=((ds.length+1:π):ν)))=ϱ;rw[zp<|`b];rfl}
def PK(t:fj):lH:=λds S z Z=>∃a d,ds=[a,d]/\I_ S d/\Z t.aT S
def Le(T:Txt w K mg t):Ok P w base T.lL 7 (PK t):=by have g:pP P w mg base T.eT 6 (Mo<|Ld t):=Ik<|K2 T;have c:pP P w mg base T.cn 6 (Mo<|uD t):=Ik<|wN T;have i:pP P w mg base T.dF 6 (Mo<|Eo t):=Ik<|FZ T;show T.lL.F.cy uh ?_;obtain⟨a,d,e,h,q⟩;show{_,(sc (se<|bA T.dE (uE T) hr<|ap 1 an)<|s1<|si (bJ cE `u (ix `u (dv 1) di) ds) (s1<|se<|o_ (dv 0) T.aj T.eT g hr<|ac (ix `u (dv 1) di)<|ac (ix `u (dv 1) di) an)<|s1<|si (bJ cE `u (ix `u (dv 1) di) ds) (s1<|se<|o_ (dv 0) T.aj T.cn c hr<|ac (ix `u (dv 1) di)<|ac (ix `u (dv 1) di) an)<|s1<|se<|o_ (dv 0) T.aj T.dF i hr<|ac (ix `u (dv 1) di) an),_,rfl,d,rfl,h,fo q}
noncomputable def p3(p:ρ×ρ×ρ):D:=.tup [.str p.1,.str p.2.1,.str p.2.2]
noncomputable def oz(z:ρ):Bool:=ω (z ="up")||ω (z ="down")
noncomputable def Lf(z:ρ):Bool:=ω (z ="first")||ω (z ="last")
def PL(z a b:ρ)(x y:V):(([(a,x),(b,y)]:δ (ρ×V)).lookup z).isSome=(ω (z=a)||ω (z=b)):=by rw[zW,zW];by_cases h:z=a;rw[show(z==a)=ϱ by simp[h],zy h];rfl;rw[show(z==a)=ϰ by simp[h],zp h];by_cases h2:z=b;rw[show(z==b)=ϱ by simp[h2],zy h2];rfl;rw[show(z==b)=ϰ by simp[h2],zp h2];rfl
noncomputable def iu(cs:δ<|ρ×ρ)(p:ρ×ρ×ρ):Bool:=ω (p.1∈cs.map Prod.fst)&&(oz p.2.1&&Lf p.2.2)
noncomputable def BR(cs:δ<|ρ×ρ)(ps:δ<|ρ×ρ×ρ)(wy:ρ):Bool:=ω (ps.length<=8)&&(ps.all (iu cs)&&(ω ((ps.map Prod.fst).Nodup)&&oz wy))
def Al(l:δ<|ρ×D)(z:ρ)(h:cK (tT l) (.inr z)=ϑ d):∃p∈l,p.1=z/\d=p.2:=by
 have all:∀(l:δ (ρ×D))(c:δ (Key×D)),cK (l.foldl (λc p=>dput c (.inr p.1) p.2) c) (.inr z)=ϑ d->(∃p∈l,p.1=z/\d=p.2)\/cK c (.inr z)=ϑ d:=by intro l;induction l with|nil=>intro c h;show .inr h|cons p l a=>intro c h;rcases a _ h with⟨q,hq,e⟩|h;show .inl {q,zh _ hq,e};rw[Bj]at h;by_cases e:(.inr z:Key)=.inr p.1;rw[qb e]at h;show .inl {p,zw,(yY e).symm,(zS h).symm};rw[qa e]at h;show .inr h
 rcases all l [] h with h|h;show h;cases h
def Pok(p:ρ×ρ×ρ):Prop:=p.1.cps.size<=1000/\p.2.1.cps.size<=1000/\p.2.2.cps.size<=1000
inductive BS (ds:δ D) (S:av) (R:KD) (Z:KX):η
 |mk (z) (_:ds=[.str z]) (_:R (.bl<|oz z) S)
def lO(T:Txt w K mg t):Ok P w base T.pY 1 BS:=by show T.pY.F.cy HW ?_;obtain⟨z,e,q⟩;show{_,(s1<|sr<|pL (cb bE T.ah ag<|ap 0<|ac (lG T.kM gw) an)<|IV<|cmk T.Bz (dv 0)<|dg (v:=.ref t.kH) T.xT rfl λx=>eX _),?_};show !{_,_,_,_,rfl,br,rfl,_,rfl,bw !{z,rfl,rfl,?_}};rw[PL];show fo q
inductive BU (ds:δ D) (S:av) (R:KD) (Z:KX):η
 |mk (z) (_:ds=[.str z]) (_:R (.bl<|Lf z) S)
def wU(T:Txt w K mg t):Ok P w base T.xX 1 BU:=by show T.xX.F.cy HX ?_;obtain⟨z,e,q⟩;show{_,(s1<|sr<|pL (cb bE T.ah ag<|ap 0<|ac (lG T.kM gw) an)<|IV<|cmk T.BA (dv 0)<|dg (v:=.ref t.kI) T.xU rfl λx=>eX _),?_};show !{_,_,_,_,rfl,br,rfl,_,rfl,bw !{z,rfl,rfl,?_}};rw[PL];show fo q
inductive oA (ds:δ D) (S:av) (R:KD) (Z:KX):η
 |mk (cs z) (_:ds=[.tup<|cs.map aF,.str z]) (_:Gd cs) (_:z.cps.size<=1000) (_:(∀k,(z,k)∈cs->R (.str k) S)) (_:(z∉cs.map Prod.fst->R .ay S))
def mm(T:Txt w K mg t):Ok P w base T.gI 3 oA:=by
 show T.gI.F.cy vI ?_;obtain⟨cs,z,e,hg,hz,j,g⟩;show{_,(sc (si (bS<|tv<|bA T.nZ (mW T) hr<|ap 1 an) (s1<|sr dn) s0)<|s1<|sr<|mg1 `u (ct RW T.SE M_<|ap 0 an)<|dv 1),?_};show !{.str z,rfl,gt_str hz,_,rfl,?_};show cI (λh=>?_) λh=>?_;have h:kU z=ϰ:=nt h;show fo<|g λm=>?_;let⟨c,a,rfl⟩:=zk.mp m;rw[(hg.2.2 c a).1]at h;cases h;have l:cs.map aF=(cs.map λc=>(c.1,D.str c.2)).map Kj:=by rw[zC];rfl
 show !{(cs.map λc=>(c.1,D.str c.2)),by rw[l],λp hp=>{p,_,rfl,aa,_,rfl,_,.inr z,aa,rfl,S,.new hp,?_}};have h1:=HG (cs.map λc=>(c.1,D.str c.2)) z;cases i:cK (tT<|cs.map λc=>(c.1,D.str c.2)) (.inr z) with|none=>(rw[i]at h1;show g λm=>?_;let⟨c,a,e⟩:=zk.mp m;have:(cs.map λc=>(c.1,D.str c.2)).any (λp=>ω<|p.1=z)=ϱ:=List.any_eq_true.mpr {_,zk.mpr ⟨c,a,rfl⟩,zy e};rw[this]at h1;cases h1)|some d=>let⟨p,hp,e1,rfl⟩:=Al _ _ i;let⟨c,a,rfl⟩:=zk.mp hp;have e1:c.1=z:=e1;show j c.2<|by rw[<-e1];show a
inductive wV (ds:δ D) (S:av) (R:KD) (Z:KX):η
 |mk (cs p) (_:ds=[.tup<|cs.map aF,p3 p]) (_:Gd cs) (_:Pok p) (_:R (.bl<|iu cs p) S)
def Es(T:Txt w K mg t):Ok P w base T.lK 4 wV:=by
 have a:Ok P w base T.gI 3 (λds S R x=>∃cs z,ds=[.tup<|cs.map aF,.str z]/\Gd cs/\z.cps.size<=1000/\∀d,ai d=!decide (z∈cs.map Prod.fst)->R d S):=(mm T).Xf <| by rintro ds S R Z ⟨cs,z,e,hg,hz,q⟩;show{cs,z,e,hg,hz,λk hk=>q _<|by rw[zy<|zk.mpr {_,hk,rfl}];rfl,λhn=>q _<|by rw[zp hn];rfl}
 show T.lK.F.cy ug ?_;obtain⟨cs,p,e,hg,hp,q⟩;show{_,(sc (si (twd<|twor (bS<|tv<|cb bE T.ah ag<|ap 1<|ac (lG T.bc aP) an)<|tw1<|bJ fK `u (cb aY T.aR aH<|ap 1 an) di) (s1<|sr db) s0)<|s1<|sr<|pL (cm iC `u (bA T.gI a hr<|ap 0<|ac (ix `u (dv 1) di) an) dn)<|pL (bA T.pY (lO T) hr<|ac (ix `u (dv 1) di) an)<|IV<|bA T.xX (wU T) hr<|ac (ix `u (dv 1) di) an),?_};show !{_,_,_,_,rfl,aq,rfl,_,rfl,aM !!!⟨aM ?_⟩};show !!!{cs,p.1,rfl,hg,hp.1,λd hd=>!⟨?_⟩};unfold iu at q;show cI (λh=>?_) λh=>?_;have h:(!ai d)=ϱ:=h;rw[hd,Bool.not_not]at h;rw[h,yf]at q;show !!{p.2.1,rfl,_,rfl,?_};show cI (λh2=>?_) λh2=>?_;rw[h2,yf]at q;show !!{p.2.2,rfl,fo q};rw[h2,zU]at q;show fo q;have h:(!ai d)=ϰ:=h;rw[hd,Bool.not_not]at h;rw[h,zU]at q;show fo q
inductive mn (t:fj) (ds:δ D) (S:av) (R:KD) (Z:KX):η
 |mk (cs ps wy) (_:ds=[.tup<|cs.map aF,.tup [.tup<|ps.map p3,.str wy]]) (_:Gd cs) (_:(∀p∈ps,Pok p)) (_:(BR cs ps wy=ϱ->R .ay S)) (_:(BR cs ps wy=ϰ->Z t.aN S))
def lg(T:Txt w K mg t):Ok P w base T.dD 5 (mn t):=by
 show T.dD.F.cy cO ?_;obtain⟨cs,ps,wy,e,hg,hp,j,g⟩;have l:(ps.map p3).length=ps.length:=zd _;show{_,(sc (si (twd<|twor (bS<|tv<|cb bE T.ah ag<|ap 1<|ac (lG T.bc aP) an)<|tw1<|bJ fK `u (cb aY T.aR aH<|ap 1 an) di) (s1<|lX ⟨T.bz⟩ T.bD<|ac ds an) s0)<|sc (bT (i:=2) cO.nd<|ix `u (dv 1) di)<|sc (si (twd<|twor (bS<|tv<|cb bE T.ah ag<|ap 2<|ac (lG T.bc aP) an)<|tw1<|bJ vE `u (cb aY T.aR aH<|ap 2 an)<|dg (v:=.int 8) T.fL {_,rfl} λq=>aS _) (s1<|lX ⟨T.bz⟩ T.bD<|ac ds an) s0)<|sc (si (bS<|tv<|cb me T.mf iB<|ac (AH (N:=["part","columns"]) (src:=[none,some 0]) (pd fF) (HF<|dv 2) vF<|bA T.lK (Es T) hr<|ap 1<|ap 0 an) an) (s1<|lX ⟨T.bz⟩ T.bD<|ac ds an) s0)<|sc (Bv (N:=["part"]) (src:=[none]) 3 cO.nd (pd fF) (HF<|dv 2) vF<|ix `u (dv 0) di)<|sc (si (bJ fK `u (Zk (dv 3) T.aR T.FQ)<|cb aY T.aR aH<|ap 3 an) (s1<|lX ⟨T.bz⟩ T.bD<|ac ds an) s0)<|s1<|si (bS<|tv<|bA T.pY (lO T) hr<|ac (ix `u (dv 1) di) an) (s1<|lX ⟨T.bz⟩ T.bD<|ac ds an) s0),?_};show !{_,_,_,_,rfl,aq,rfl,_,rfl,aM !!!⟨aM ?_⟩};show !!!{_,_,_,_,rfl,aq,rfl,_,rfl,aM !!!⟨?_⟩};show cI (λh=>?_) λh=>?_;have h:(8:ν)<(((ps.map p3).length:π):ν):=zI h;rw[l]at h;show{oo,fo<|g<|by unfold BR;rw[zp<|by omega];rfl};have h:¬(8:ν)<(((ps.map p3).length:π):ν):=z0 h;rw[l]at h;have E:ps.length<=8:=by omega
 unfold BR at j g;rw[zy E,yf]at j g;show !{_,.inl rfl,?_};show oq (λd v=>∃p,d=p3 p/\v=.bl (iu cs p)) trivial (by change(ps.map p3).length<=_;omega) (λd hd Q n=>?_) λout ho p o=>?_;let⟨p,s,rfl⟩:=zk.mp hd;show !!{cs,p,rfl,hg,hp p s,n _ ⟨p,rfl,rfl⟩};have C:out=(ps.map<|iu cs).map D.bl:=by have:∀{ps:δ (ρ×ρ×ρ)}{out:δ D},Paired (λd v=>∃p,d=p3 p/\v=.bl (iu cs p)) (ps.map p3) out->out=(ps.map<|iu cs).map D.bl:=(by intro ps;induction ps with|nil=>(intro out h;cases h;rfl)|cons x ps A=>intro out h;cases h with|cons r t=>let⟨p,e1,e2⟩:=r;have:x=p:=(by let⟨a,b,c⟩:=x;let⟨y,z,G⟩:=p;unfold p3 at e1;injection e1 with e1;injection e1 with h1 e1;injection e1 with h2 e1;injection e1 with h3 _;injection h1 with h1;injection h2 with h2;injection h3 with h3;rw[show a=y from h1,show b=z from h2,show c=G from h3]);rw[e2,A t,<-this];rfl);show this ho
 subst C;show{.ref p,ps.map<|iu cs,rfl,aa,_,rfl,?_};rw[show(ps.map<|iu cs).all id=ps.all (iu cs) from all_map];show cI (λha=>?_) λha=>?_;have ha:=nt ha;show{oo,S,.new o,g<|by rw[ha];rfl};have ha:=nf ha;rw[ha,yf]at j g;show !{_,.inl rfl,?_};show comp_map (λd=>match d with|.tup (x::_)=>x|_=>.ay) trivial (by change(ps.map p3).length<=_;omega) (λd hd Q n=>?_) λp2 B=>?_;let⟨p,s,rfl⟩:=zk.mp hd;show !!⟨n⟩;have e3:(ps.map p3).map (λd=>match d with|.tup (x::_)=>x|_=>.ay)=(ps.map Prod.fst).map D.str:=by rw[zC,zC];rfl
 rw[show({ps.map p3,λq=>True}:qC).xs=ps.map p3 from rfl,e3];have sb:Sub S ((S.set p<|.lst<|(ps.map<|iu cs).map D.bl).set p2<|.lst<|(ps.map Prod.fst).map D.str):=(Sub.new o).trans<|.new B;have m:((S.set p<|.lst<|(ps.map<|iu cs).map D.bl).set p2<|.lst<|(ps.map Prod.fst).map D.str) p2=ϑ (.lst<|(ps.map Prod.fst).map D.str):=aa;generalize (S.set p<|.lst<|(ps.map<|iu cs).map D.bl).set p2 (.lst<|(ps.map Prod.fst).map D.str)=H at sb m⊢;show !{ps.map Prod.fst,m,by rw[zd];omega,_,rfl,_,rfl,.inl {_,m,_,rfl,?_}};have e4:ω ((((jC<|ps.map Prod.fst).length:π):ν)=((((ps.map Prod.fst).map D.str).length:π):ν))=ω ((ps.map Prod.fst).Nodup):=by rw[yX,<-wj,zd];omega
 show cI (λhn=>?_) λhn=>?_;have hn:(!decide ((((jC<|ps.map Prod.fst).length:π):ν)=((((ps.map Prod.fst).map D.str).length:π):ν)))=ϱ:=hn;rw[e4]at hn;show{oo,S,sb,g<|by rw[nt hn];rfl};have hn:(!decide ((((jC<|ps.map Prod.fst).length:π):ν)=((((ps.map Prod.fst).map D.str).length:π):ν)))=ϰ:=hn;rw[e4]at hn;rw[nf hn,yf]at j g;show !!{wy,rfl,_,rfl,?_};show cI (λhw=>?_) λhw=>?_;show{oo,S,sb,g<|nt hw};show{S,sb,j<|nf hw}
def Sg(_:δ<|ρ×ρ)(_:π)(d:D):Prop:=d=.tup [.str "every"]
def Sq(cs:δ<|ρ×ρ)(d:D):Prop:=Sg cs 7 d/\True
inductive SY:D->η|ev:SY (.tup [.str "every"])|no (e:D):SY (.tup [.str "not",e])|an {es:δ D} (h:es.length<=8):SY (.tup [.str "and",.tup es])
def NF(S:av)(d:D):Prop:=d=.tup []\/d=.tup [.str "any"]\/((∀ds,d≠.tup ds)/\Gt S d)
noncomputable def wW:D->δ D|.tup [.str o,e]=>if o ="not" then[e] else (match e with|.tup ds=>ds|_=>[])|_=>[]
def kd_sub(h:Sub S S')(hk:Mh S d k):Mh S' d k:=by cases d with|ref a=>(rcases hk with⟨e,ds,q⟩|⟨e,ds,q⟩;show .inl {e,ds,h _ _ q};show .inr {e,ds,h _ _ q})|_=>show hk
theorem Gt.sub(h:Sub S S')(g:Gt S d):Gt S' d:={by let⟨k,hk⟩:=g.1;show{k,kd_sub h hk},g.2}
theorem CC.sub(h:Sub S S')(g:CC S d):CC S' d:={g.1.sub h,λws e=>{(g.2 ws e).1,λv hv=>((g.2 ws e).2 v hv).sub h}}
inductive i8 (ds:δ D) (S:av) (R:KD) (Z:KX):η
 |mk (es) (_:ds=[.tup es]) (_:es.length<=8) (_:R (.bl true) S)
def BV(T:Txt w K mg t):Ok P w base T.gJ 1 i8:=by show T.gJ.F.cy oh ?_;obtain⟨es,e,hl,q⟩;show{_,(s1<|sr<|pL (cb bE T.ah ag<|ap 0<|ac (lG T.bc aP) an)<|IV<|cm mG `u (cb aY T.aR aH<|ap 0 an)<|dg (v:=.int 8) T.mP {_,rfl} λz=>aS _),?_};show !{_,_,_,_,rfl,aq,rfl,_,rfl,bw !!⟨?_⟩};have e1:ω (((es.length:π):ν)<=8)=ϱ:=zy `b;change Fo S (R<|.bl<|ω<|((es.length:π):ν)<=8);rw[e1];show fo q
def any_none:List.lookup ("any": ρ) [("every",V.int 1),("is",V.int 3),("below",V.int 3),("above",V.int 3),("begins",V.int 3),("key",V.int 2),("not",V.int 2),("and",V.int 2),("or",V.int 2)]=ϐ:=by rfl
inductive qW (ds:δ D) (S:av) (R:KD) (Z:KX):η
 |mk (cs:δ<|ρ×ρ) (d b) (_:ds=[.tup<|cs.map aF,d]) (_:(SY d/\b=ϱ)\/(NF S d/\b=ϰ)) (_:R (.bl b) S)
def Ao(T:Txt w K mg t):Ok P w base T.pZ 5 qW:=by
 show T.pZ.F.cy y_ ?_;obtain⟨cs,d,b,e,h,q⟩;show{_,(sc (si (twd<|twor (bS<|tv<|cb bE T.ah ag<|ap 1<|ac (lG T.bc aP) an)<|twor (bJ cE `u (cb aY T.aR aH<|ap 1 an) di)<|tw1<|bS<|tv<|cb bE T.ah ag<|ac (ix `u (dv 1) di)<|ac (lG T.kM gw) an) (s1<|sr db) s0)<|sc (si (bJ fK `u (mgk T.pU `a (gK T.nV)<|ix `u (dv 1) di)<|cb aY T.aR aH<|ap 1 an) (s1<|sr db) s0)<|sc (si (bJ DP `u (ix `u (dv 1) di)<|aI<|ac ds<|ac ds<|ac ds<|ac ds an) (s1 D1) s0)<|sc (si (bJ cE `u (ix `u (dv 1) di) ds) (s1 D1) s0)<|sc (si (bJ DP `u (ix `u (dv 1) di)<|aI<|ac ds<|ac ds an) (s1<|sr<|bA T.gJ (BV T) hr<|ac (ix `u (dv 1) di) an) s0)<|s1<|sr db),?_};rcases h with⟨h,rfl⟩|⟨h,rfl⟩;cases h with|ev=>show !{_,_,_,_,rfl,aq,rfl,_,rfl,aM !!!⟨vk rfl !!{_,_,_,_,rfl,br,rfl,_,rfl,aM ?_}⟩};show !!!!!!⟨vk rfl ?_⟩;show (!!{KP,rfl,rfl,_,rfl,nj !!!⟨nj !!{eU,rfl,rfl,_,rfl,nj<|fo q}⟩})|no e=>show !{_,_,_,_,rfl,aq,rfl,_,rfl,aM !!!⟨vk rfl !!{_,_,_,_,rfl,br,rfl,_,rfl,aM ?_}⟩};show !!!!!!⟨vk rfl ?_⟩;show (!!{KP,rfl,rfl,_,rfl,nj !!!⟨nj !!{eU,rfl,rfl,_,rfl,nj<|fo q}⟩})|an a=>show !{_,_,_,_,rfl,aq,rfl,_,rfl,aM !!!⟨vk rfl !!{_,_,_,_,rfl,br,rfl,_,rfl,aM ?_}⟩};show !!!!!!⟨vk rfl ?_⟩;show !!{KP,rfl,rfl,_,rfl,nj !!!⟨nj !!{eU,rfl,rfl,_,rfl,ph !!!{a,fo q}}⟩}
 rcases h with rfl|rfl|⟨h1,⟨k,hk⟩,_⟩;show !{_,_,_,_,rfl,aq,rfl,_,rfl,aM !!!⟨ph<|bw<|fo q⟩};show !{_,_,_,_,rfl,aq,rfl,_,rfl,aM !!!⟨vk rfl !!{_,_,_,_,rfl,br,rfl,_,rfl,aM ?_}⟩};show !!!!⟨?_⟩;rw[any_none];show{_,rfl,?_};dsimp only[J3,Option.elim];show F_ ?_;show{_,rfl,bw<|fo q};show !{_,_,_,_,rfl,aq,hk,_,rfl,?_};rcases mV hk with⟨ws,rfl,_⟩|⟨h0,_⟩;show absurd rfl<|h1 ws;rw[h0];show bw<|bw<|fo q
inductive jP (ds:δ D) (S:av) (R:KD) (Z:KX):η
 |mk (l es) (_:ds=[.ref l]) (_:S l=ϑ (.lst es)) (_:(es.flatMap wW).length<=900) (_:(∀e∈es,SY e)) (_:∀p,S p=ϐ->R (.ref p) (S.set p<|.lst<|es.flatMap wW))
def qg(T:Txt w K mg t):Ok P w base T.iE 1 jP:=by
 show T.iE.F.cy fA ?_;obtain⟨l,es,e,hl,r,s,q⟩;show{_,(sc (bT (i:=1) fA.nd<|ba an)<|sc (jd<|tP (il<|dv 0) (gn (i:=2) fA.nd)<|sc (jd<|si (bJ cE `u (ix `u (dv 2) di) ds) (s1<|se<|bm zG zM zN bh (dv 1)<|ac (ix `u (dv 2) di) an) s0)<|s1<|si (bJ DP `u (ix `u (dv 2) di)<|aI<|ac ds<|ac ds an) (s1<|se<|bm zG PySem.F.slot_list_extend PySem.F.type_list_extend HH (dv 1)<|ac (ix `u (dv 2) di) an) s0)<|s1<|sr<|dv 1),?_};show{BL,λf hf=>?_};have p:l≠f:=fk hl hf;show{λak S'=>∃o,ak=[some<|.ref l,some<|.ref f,o]/\S'=S.set f (.lst<|es.flatMap wW),?_,?_};show !{es,(ae p).trans hl,?_};show{λi ak S'=>∃o,ak=[some<|.ref l,some<|.ref f,o]/\S'=S.set f (.lst<|(es.take i).flatMap wW),⟨none,rfl,rfl⟩,?_,?_,?_};rintro i ak S' ⟨o,rfl,rfl⟩;show(ae p).trans hl;rintro i e ak S' m ⟨o,rfl,rfl⟩;have m:es[i]?=some e:=m;have n:=s e<|zB m;have j:(es.take<|i+1).flatMap wW=(es.take i).flatMap wW++wW e:=by rw[List.take_add_one,m,List.flatMap_append];simp
 have a:((es.take i).flatMap wW).length+(wW e).length<=900:=by rw[<-zq,<-j];show zH ?_ r;(conv=>rhs;rw[<-List.take_append_drop (i+1) es,List.flatMap_append,zq]);show Nat.le_add_right _ _
 generalize (es.take i).flatMap wW=fs at j a⊢;have g:(S.set f<|.lst fs) f=ϑ (.lst fs):=aa;have keep:wW e=[]->∃o,[some<|D.ref l,some<|D.ref f,some e]=[some<|.ref l,some<|.ref f,o]/\S.set f (.lst fs)=S.set f (.lst<|(es.take<|i+1).flatMap wW):=λh=>!⟨by rw[j,h,yR]⟩;have more:∀ds,wW e=ds->∃o,[some<|D.ref l,some<|D.ref f,some e]=[some<|.ref l,some<|.ref f,o]/\(S.set f<|.lst fs).set f (.lst<|fs++ds)=S.set f (.lst<|(es.take<|i+1).flatMap wW):=λds h=>!⟨by rw[j,h,bR]⟩;cases n with|ev=>(show{λc d=>c=_/\d=S.set f (.lst fs),!!!⟨nj<|fo ⟨rfl,rfl⟩⟩,?_};rintro _ _ ⟨rfl,rfl⟩;show !!{eU,rfl,rfl,_,rfl,nj<|keep rfl})|no e'=>(show{λc d=>c=_/\d=(S.set f<|.lst fs).set f (.lst<|fs++[e']),!!!⟨ph !⟨{rfl,_,g},_,rfl,_,rfl,f,_,_,rfl,rfl,g,bg<|by have a:fs.length+1<=900:=a;omega,fo ⟨rfl,rfl⟩⟩⟩,?_};rintro _ _ ⟨rfl,rfl⟩;show !!{eU,rfl,rfl,_,rfl,nj<|more _ rfl})|@an ds v=>show{λc d=>c=_/\d=S.set f (.lst fs),!!!⟨nj<|fo ⟨rfl,rfl⟩⟩,?_};rintro _ _ ⟨rfl,rfl⟩;have a:fs.length+ds.length<=900:=a;show !!{eU,rfl,rfl,_,rfl,ph !⟨{rfl,_,g},_,rfl,_,rfl,f,_,_,rfl,rfl,g,sm<|by omega,more _ rfl⟩}
 rintro ak S' ⟨o,rfl,rfl⟩;show fo {o,rfl,?_};rw[show({es,λS=>S l=ϑ (.lst es)}:qC).xs=es from rfl,yO];rintro ak S' ⟨o,rfl,rfl⟩;show{_,rfl,fo<|q f hf}
inductive Lv (S:av):π->π->δ D->χ->η|nil {n p} : Lv S n p [] true|Et {n p es} (h:es≠[]) (h1:n=8\/200<p+es.length):Lv S n p es false|nf {n p d} (h1:n<8) (h2:p+1<=200) (h:NF S d):Lv S n p [d] false|go {n p es b} (h:es≠[]) (h1:n<8) (h2:p+es.length<=200) (_:∀e∈es,SY e) (_:(es.flatMap wW).length<=900) (_:Lv S (n+1) (p+es.length) (es.flatMap wW) b):Lv S n p es b
theorem NF.sub(h:NF S d)(s:Sub S S'):NF S' d:=h.imp id λh=>h.imp id λh=>{h.1,h.2.sub s}
def Lv.sub(s:Sub S S')(h:Lv S n p es b):Lv S' n p es b:=by induction h with|nil=>show .nil|Et h h1=>show .Et h h1|nf h1 h2 h=>show .nf h1 h2 (h.sub s)|go h h1 h2 c a _ d=>show .go h h1 h2 c a d
inductive mq (t:fj) (ds:δ D) (S:av) (R:KD) (Z:KX):η
 |mk (cs:δ<|ρ×ρ) (d b) (_:ds=[.tup<|cs.map aF,d]) (_:Lv S 0 0 [d] b) (_:b=ϱ->R .ay S) (_:b=ϰ->Z t.aQ S)
def lh(T:Txt w K mg t):Ok P w base T.ic 6 (mq t):=by show T.ic.F.cy bZ ?_;obtain⟨cs,d,b,e,hd,q,r⟩;show{_,(sc (bT (i:=2) bZ.nd<|ba<|ap 1 an)<|sc (bT (i:=3) bZ.nd di)<|sc (bT (i:=4) bZ.nd di)<|s1<|swh (bJ vE `u (cb aY T.aR aH<|ap 2 an) di)<|sc (sau (i:=3) bZ.nd di)<|sc (sau (i:=4) bZ.nd<|cb aY T.aR aH<|ap 2 an)<|sc (si (twd<|twor (bJ vE `u (dv 3)<|dg (v:=.int 8) T.xS {_,rfl} λk=>aS _)<|tw1<|bJ vE `u (dv 4)<|dg (v:=.int 200) T.kL {_,rfl} λk=>aS _) (s1<|lX ⟨T.gG⟩ T.kN<|ac ds an) s0)<|sc (si (bS<|tv<|cb me T.mf iB<|ac (AH (N:=["thing","columns"]) (src:=[none,some 0]) (pd vH) (il<|dv 2) vF<|bA T.pZ (Ao T) hr<|ap 1<|ap 0 an) an) (s1<|lX ⟨T.gG⟩ T.kN<|ac ds an) s0)<|s1<|bT (i:=2) bZ.nd<|bA T.iE (qg T) hr<|ap 2 an),?_};show !{oo,λz j=>?_};show{λm ak S'=>∃(l:ε)(es:δ D)(dp p:π),ak=[some<|.tup<|cs.map aF,some d,some<|.ref l,some<|.int dp,some<|.int p]/\S' l=ϑ (.lst es)/\Sub S S'/\Lv S' dp p es b/\dp+m=8,{8,z,[d],0,0,rfl,aa,Sub.new j,hd.sub<|Sub.new j,rfl},?_};rintro m ak S' ⟨l,es,dp,p,rfl,hl,sb,hv,B⟩;show !!⟨.inl {_,hl,_,rfl,?_}⟩;cases hv with|nil=>show aM {S,sb,q rfl}|Et h h1=>have tH:0<es.length:=List.length_pos_iff.mpr h;show ph (!!!!!⟨.inl {_,hl,_,rfl,?_}⟩)<|zy `b;show !!⟨cI (λk=>{oo,S,sb,r rfl}) λe=>?_⟩;have e:¬((8:ν)<((dp:π):ν)+1):=z0 e;show (!!⟨ph {oo,S,sb,r rfl}<|zy<|`b⟩)|@nf _ _ d' h1 h2 h=>show ph (!!!!!⟨.inl {_,hl,_,rfl,?_}⟩)<|zy (show(0:ν)<((1:π):ν) by lia);show !!⟨vk (zp<|`b) !!⟨vk (zp<|show ¬(200:ν)<(p:ν)+((1:π):ν) by lia) ?_⟩⟩;show !{[d'],hl,?_};show comp_map (λk=>.bl false) hl (show 1<=1000 by decide) (λe n Q o=>?_) λa g=>?_;rw[zE.mp n];show !!{cs,_,false,rfl,.inr ⟨h,rfl⟩,o};show{.ref a,[false],rfl,aa,_,rfl,bw {oo,S,sb.trans<|.new g,r rfl}}|go h h1 h2 s x A=>have tH:0<es.length:=List.length_pos_iff.mpr h;show ph (!!!!!⟨.inl {_,hl,_,rfl,?_}⟩)<|zy `b;show !!⟨vk (zp<|`b) !!⟨vk (zp<|`b) ?_⟩⟩;show !{es,hl,?_};show comp_map (λk=>.bl true) hl (by change es.length<=1000;lia) (λe n Q o=>?_) λa g=>?_;show !!{cs,_,true,rfl,.inl {s e n,rfl},o};have e2:es.map (λk=>D.bl true)=(es.map λk=>true).map D.bl:=(by rw[zC];rfl);have e3:(es.map λk=>true).all id=ϱ:=(by rw[all_map];show yr.mpr λk k=>rfl);show{.ref a,es.map λk=>true,rfl,?_,_,rfl,?_};change(S'.set a<|.lst<|es.map _) a=_;rw[aa,e2];rw[e3];show aM ?_;have s1:=sb.trans<|.new (c:=.lst<|es.map λk=>D.bl true) g;have y:(S'.set a<|.lst<|es.map λk=>D.bl true) l=ϑ (.lst es):=(ae<|fk hl g).trans hl;show !{l,es,rfl,y,x,s,λp2 C=>?_};have s2:=(Sub.new (c:=.lst<|es.map λk=>D.bl true) g).trans<|Sub.new (c:=.lst<|es.flatMap wW) C;show{m-1,`b,p2,es.flatMap wW,dp+1,p+es.length,?_,aa,sb.trans s2,A.sub s2,`b};change[_,_,_,some<|D.int<|((dp:π):ν)+1,some<|D.int<|((p:π):ν)+((es.length:π):ν)]=_;rw[show(((dp:π):ν)+1)=((dp+1:π):ν) by lia,show(((p:π):ν)+((es.length:π):ν))=((p+es.length:π):ν) by lia]
noncomputable def Ml(cs:δ<|ρ×ρ)(z:ρ):Nat:=(cs.map Prod.fst).idxOf z
noncomputable def au(cs:δ<|ρ×ρ)(ws:δ D)(z:ρ):D:=(ws[Ml cs z]?).getD .ay
noncomputable def ao(r:ρ×δ D):D:=.tup [.str r.1,.tup r.2]
def Eu{α β:Type}{rel:α->β->η}{l:δ α}{m:δ β}(h:Paired rel l m):∀{i:π}{a:α},l[i]?=some a->∃b,m[i]?=some b/\rel a b:=by induction h with|nil=>intro i a h;simp at h|cons r t c=>intro i a h;cases i with|zero=>(rw[List.getElem?_cons_zero]at h⊢;cases h;show{_,rfl,r})|succ i=>rw[List.getElem?_cons_succ]at h⊢;show c h
def Ap(hg:Gd cs)(h:c∈cs):cs[Ml cs c.1]?=some c/\(cs.map Prod.fst)[Ml cs c.1]?=some c.1:=by
 have hm:c.1∈cs.map Prod.fst:=zk.mpr ⟨c,h,rfl⟩;have hi:(cs.map Prod.fst).idxOf c.1<(cs.map Prod.fst).length:=List.idxOf_lt_length_of_mem hm;have e1:(cs.map Prod.fst)[(cs.map Prod.fst).idxOf c.1]?=some c.1:=by rw[zg hi,List.getElem_idxOf]
 show{?_,e1};let⟨j,d⟩:=List.getElem?_of_mem h;have a:(cs.map Prod.fst)[j]?=some c.1:=by rw[zm,d];rfl
 let⟨b1,e⟩:=zf.mp e1;let⟨b2,g⟩:=zf.mp a;have:=(List.getElem_inj hg.2.1 (h₀:=b1) (h₁:=b2)).mp<|e.trans g.symm;unfold Ml;rw[this];show d
def su{cs:δ<|ρ×ρ}(hg:Gd cs){ws:δ D}(hw:Wg cs ws){c:ρ×ρ}(h:c∈cs):ws[Ml cs c.1]?=some (au cs ws c.1)/\Vg c.2 (au cs ws c.1):=by let⟨v,e,r⟩:=Eu hw (Ap hg h).1;unfold au;rw[e];show⟨rfl,r⟩
noncomputable def mr:D->D->χ|.ay,.ay=>true|.int i,.int j=>ω (i=j)|.str i,.str j=>ω (i=j)|_,_=>false
def a_(ha:b8 a=ϱ)(hb:b8 b=ϱ):mr a b=ϱ↔a=b:=by rcases iq ha with rfl|⟨i,rfl⟩|⟨i,rfl⟩<;>rcases iq hb with rfl|⟨j,rfl⟩|⟨j,rfl⟩<;>simp[mr]
def uG(ha:b8 a=ϱ)(hb:b8 b=ϱ)(q:R (.bl<|if neg then !mr a b else mr a b) S):IW neg a b S R:=by
 let⟨p,g,p2,p3⟩:=Ly.plain (S:=S) ha;let⟨r,h,l,m⟩:=Ly.plain (S:=S) hb;have c:PyData.eqv p r=mr a b->R (.bl<|if neg then !PyData.eqv p r else PyData.eqv p r) S:=λe=>by rw[e];show q
 have d:p.depth<=64:=`b
 rcases iq ha with rfl|⟨i,rfl⟩|⟨i,rfl⟩<;>rcases iq hb with rfl|⟨j,rfl⟩|⟨j,rfl⟩<;>first|show q|show{p,r,g,h,p2,l,.inl d,c<|by simp only[Dp]at g h;subst g h;rfl}
noncomputable def vN:D->D->χ|.int i,.int j=>ω (i<j)|.str i,.str j=>oZ i j|_,_=>false
noncomputable def f_(_:δ<|ρ×ρ)(_:ρ×δ D)(_:π)(_:D):Bool:=true
def Ex{k:ρ}(ha:Vg k a)(hb:Vg k b)(g:a≠.ay)(d:b≠.ay):(∃i j,a=.int i/\b=.int j)\/∃i j,a=.str i/\b=.str j:=by
 let⟨c,h⟩:=ha;let⟨b1,b2⟩:=hb;have no:∀{i:ν}{z:ρ},iG k (.int i)=ϱ->iG k (.str z)=ϱ->False:=λh1 h2=>by unfold iG at h1 h2;simp only[ai,Bool.false_or]at h1 h2;by_cases e:k ="number";rw[qb e]at h2;cases h2;rw[qa e]at h1;cases h1
 rcases iq h with rfl|⟨i,rfl⟩|⟨i,rfl⟩<;>rcases iq b2 with rfl|⟨j,rfl⟩|⟨j,rfl⟩<;>first|show absurd rfl g|show absurd rfl d|show .inl ⟨i,j,rfl,rfl⟩|show .inr ⟨i,j,rfl,rfl⟩|show(no c b1).elim|show(no b1 c).elim
def cw(h:ai a=ϰ):a≠.ay:=by rintro rfl;cases h
inductive mZ (ds:δ D) (S:av) (R:KD) (Z:KX):η
 |mk (cs r c) (_:ds=[.tup<|cs.map aF,ao r,.str c.1]) (_:Gd cs) (_:Wg cs r.2) (_:c∈cs) (_:R (au cs r.2 c.1) S)
def fP(T:Txt w K mg t):Ok P w base T.dA 2 mZ:=by
 show T.dA.F.cy BI ?_;obtain⟨cs,r,c,e,hg,hw,g,q⟩;let⟨j,d⟩:=Ap hg g;show{_,(s1<|sr<|ix `u (ix `u (dv 1) di)<|bm zG PySem.F.slot_list_index PySem.F.type_list_index Be (bA T.gH (kW T) hr<|ap 0 an)<|ap 2 an),?_};show !!!{cs,rfl,hg.1,λp hp=>?_};show{{rfl,_,aa},_,rfl,(cs.map Prod.fst).map D.str,.str c.1,Ml cs c.1,rfl,aa,rfl,?_,{.str c.1,by rw[zm,d];rfl,by change(c.1==c.1)=ϱ;simp},?_,?_};rw[List.all_map];show yr.mpr λz z=>rfl;intro m u hm hu;rw[zm]at hu;cases e:(cs.map Prod.fst)[m]? with|none=>(rw[e]at hu;cases hu)|some a=>rw[e]at hu;cases hu;change(a==c.1)=ϰ;have:a≠c.1:=λq=>(by subst q;let⟨b1,h⟩:=zf.mp e;let⟨b2,i⟩:=zf.mp d;have:=(List.getElem_inj hg.2.1 (h₀:=b1) (h₁:=b2)).mp<|h.trans i.symm;lia);simpa using this
 show{_,dN (su hg hw g).1,S,.new hp,q}
inductive Ey (n:π) (ds:δ D) (S:av) (R:KD) (Z:KX):η
 |mk (cs d r) (_:ds=[.tup<|cs.map aF,d,ao r]) (_:Gd cs) (_:Sg cs n d) (_:Wg cs r.2) (_:R (.bl<|f_ cs r n d) S)
def wX(T:Txt w K mg t)(n:π):Ok P w base T.passes 1 (Ey n):=by show T.passes.F.cy HY ?_;obtain⟨cs,d,r,e,hg,rfl,hw,q⟩;show{_,(sc (si (bJ cE `u (ix `u (dv 1) di) ds) (s1<|sr db) s0)<|sc D1<|sc D1<|sc D1<|sc D1<|s1 D1),_,rfl,_,rfl,_,rfl,ph<|fo q}
abbrev Row:=ρ×δ D
abbrev Part:=ρ×ρ×ρ
def S_{a b:ρ}(h:a.cps.toList=b.cps.toList):a=b:=by let⟨x⟩:=a;let⟨y⟩:=b;show congrArg Str.mk<|Array.ext' h
theorem Gb(a:ρ):oZ a a=ϰ:=zp<|List.lt_irrefl _
def lP{a b:ρ}(h:a≠b):oZ b a=!oZ a b:=by unfold oZ;rw[yu];simp only[decide_eq_true_iff,yB,decide_eq_false_iff_not];constructor;show λh1 h2=>List.lt_irrefl _<|List.lt_trans h1 h2;intro h1;by_cases h2:b.cps.toList<a.cps.toList;show h2;show absurd (S_<|List.le_antisymm (List.not_lt.mp h2)<|List.not_lt.mp h1) h
theorem Ez(h1:oZ a b=ϱ)(h2:oZ b c=ϱ):oZ a c=ϱ:=zy<|List.lt_trans (zI h1)<|zI h2
def N8(a:D):vN a a=ϰ:=by cases a<;>first|rfl|show Gb _|show zp (Int.lt_irrefl _)
def oB(ha:Vg k a)(hb:Vg k b)(d:a≠.ay)(c:b≠.ay)(h:a≠b):vN b a=!vN a b:=by rcases Ex ha hb d c with⟨i,j,rfl,rfl⟩|⟨i,j,rfl,rfl⟩;have g:i≠j:=λe=>h<|congrArg D.int e;change ω (j<i)=!decide (i<j);rw[yu];simp only[decide_eq_true_iff,yB,decide_eq_false_iff_not];lia;show lP λe=>h<|congrArg D.str e
def Tc(h:vN x y=ϱ):(∃i j,x=.int i/\y=.int j/\i<j)\/∃i j,x=.str i/\y=.str j/\oZ i j=ϱ:=by unfold vN at h;split at h;show .inl {_,_,rfl,rfl,zI h};show .inr {_,_,rfl,rfl,h};cases h
def Lj(h1:vN a b=ϱ)(h2:vN b c=ϱ):vN a c=ϱ:=by rcases Tc h1 with⟨i,j,rfl,rfl,k1⟩|⟨i,j,rfl,rfl,k1⟩<;>rcases Tc h2 with⟨d,l,e,rfl,k2⟩|⟨d,l,e,rfl,k2⟩<;>cases e;show zy<|Int.lt_trans k1 k2;show Ez k1 k2
def Lk(h:Xz a b):vN a b=ϱ:=by cases a with|int i=>(cases b with|int j=>show zy h|_=>show h.elim)|str i=>(cases b with|str j=>show zy h|_=>show h.elim)|_=>show h.elim
noncomputable def df(p:Part)(x y:D):Bool:=if (ai x != ai y)=ϱ then ai x==ω (p.2.2 ="first") else vN x y==ω (p.2.1 ="up")
noncomputable def b_(cs:δ<|ρ×ρ)(wy:ρ):δ Part->Row->Row->χ|[],a,b=>oZ a.1 b.1==ω (wy ="up")|p::ps,a,b=>if mr (au cs a.2 p.1) (au cs b.2 p.1)=ϱ then b_ cs wy ps a b else df p (au cs a.2 p.1) (au cs b.2 p.1)
def bxor:((!x)==u)=!(x==u):=by cases x<;>cases u<;>rfl
def dX(h:ai x=ϱ):x=.ay:=by cases x<;>first|rfl|cases h
def qh(hx:Vg k x)(c:Vg k y)(h:x≠y):df p y x=!df p x y:=by unfold df;cases nx:ai x with|true=>(cases a:ai y with|true=>show absurd ((dX nx).trans (dX a).symm) h|false=>rw[qb<|by rfl,qb<|by rfl];cases ω (p.2.2 ="first")<;>rfl)|false=>cases a:ai y with|true=>(rw[qb<|by rfl,qb<|by rfl];cases ω (p.2.2 ="first")<;>rfl)|false=>rw[qa<|`d,qa<|`d,oB hx c (cw nx) (cw a) h,bxor]
def Ge(hx:Vg k x)(j:Vg k y)(hz:Vg k z)(m:x≠y)(i:y≠z)(h1:df p x y=ϱ)(h2:df p y z=ϱ):x≠z/\df p x z=ϱ:=by
 have h:x≠z:=by rintro rfl;have:=qh (p:=p) hx j m;rw[h1,h2]at this;cases this
 show{h,?_};unfold df at h1 h2⊢;cases nx:ai x with|true=>(cases d:ai y with|true=>show absurd ((dX nx).trans (dX d).symm) m|false=>rw[nx,d,qb<|by rfl]at h1;cases g:ai z with|true=>show absurd ((dX nx).trans (dX g).symm) h|false=>rw[qb<|by rfl];show h1)|false=>cases d:ai y with|true=>(rw[nx,d,qb<|by rfl]at h1;cases g:ai z with|true=>show absurd ((dX d).trans (dX g).symm) i|false=>rw[d,g,qb<|by rfl]at h2;cases e:ω (p.2.2 ="first")<;>rw[e]at h1 h2<;>first|cases h1;done|cases h2;done)|false=>rw[nx,d,qa<|`d]at h1;cases g:ai z with|true=>rw[d,g,qb<|by rfl]at h2;rw[qb<|by rfl];show h2|false=>rw[d,g,qa<|`d]at h2;rw[qa<|`d];cases e:ω (p.2.1 ="up") with|true=>rw[e]at h1 h2;rw[Lj (a:=x) (b:=y) (c:=z) (by simpa using h1)<|by simpa using h2];rfl|false=>rw[e]at h1 h2;have h1:vN x y=ϰ:=(by simpa using h1);have h2:vN y z=ϰ:=(by simpa using h2);have o:=oB hx j (cw nx) (cw d) m;have n:=oB j hz (cw d) (cw g) i;rw[h1]at o;rw[h2]at n;have r:=Lj n o;have l:=oB hx hz (cw nx) (cw g) h;rw[r]at l;cases q:vN x z with|true=>(rw[q]at l;cases l)|false=>rfl
def Pin(cs:δ<|ρ×ρ)(ps:δ Part):Prop:=∀p∈ps,∃c∈cs,c.1=p.1
section
variable{cs:δ (ρ×ρ)}{wy:ρ}
theorem Pin.tail(h:Pin cs<|p::ps):Pin cs ps:=λq hq=>h q<|zh _ hq
def sv(hg:Gd cs)(h:Pin cs<|p::ps):∃k,∀ws,Wg cs ws->Vg k (au cs ws p.1):=by let⟨c,a,e⟩:=h p zw;rw[<-e];show{c.2,λws hw=>(su hg hw a).2}
theorem uH(hg:Gd cs):∀{ps:δ Part}{a b:Row},Pin cs ps->Wg cs a.2->Wg cs b.2->a.1≠b.1->b_ cs wy ps b a=!b_ cs wy ps a b|[],a,b,_,_,_,h=>by change(oZ b.1 a.1==_)=!(oZ a.1 b.1==_);rw[lP h,bxor]|p::ps,a,b,hp,ha,hb,h=>by let⟨k,hk⟩:=sv hg hp;have d:=hk _ ha;have c:=hk _ hb;unfold b_;by_cases e:au cs a.2 p.1=au cs b.2 p.1;rw[qb<|(a_ c.2 d.2).mpr e.symm,qb<|(a_ d.2 c.2).mpr e];show uH hg hp.tail ha hb h;rw[qa λq=>e ((a_ c.2 d.2).mp q).symm,qa λq=>e<|(a_ d.2 c.2).mp q];show qh d c e
theorem Ll(hg:Gd cs):∀{ps:δ Part}{a b c:Row},Pin cs ps->Wg cs a.2->Wg cs b.2->Wg cs c.2->a.1≠b.1->b.1≠c.1->a.1≠c.1->b_ cs wy ps a b=ϱ->b_ cs wy ps b c=ϱ->b_ cs wy ps a c=ϱ|[],a,b,c,_,_,_,_,h1,h2,h3,d,q2=>(by have d:(oZ a.1 b.1==ω (wy ="up"))=ϱ:=d;have q2:(oZ b.1 c.1==ω (wy ="up"))=ϱ:=q2;change(oZ a.1 c.1==ω (wy ="up"))=ϱ;cases e:ω (wy ="up") with|true=>rw[e]at d q2;rw[Ez (b:=b.1) (by simpa using d)<|by simpa using q2];rfl|false=>rw[e]at d q2;have d:oZ a.1 b.1=ϰ:=(by simpa using d);have q2:oZ b.1 c.1=ϰ:=(by simpa using q2);have a1:=lP h1;have a2:=lP h2;rw[d]at a1;rw[q2]at a2;have a3:=Ez a2 a1;have a4:=lP h3;rw[a3]at a4;cases q:oZ a.1 c.1 with|true=>(rw[q]at a4;cases a4)|false=>rfl)|p::ps,a,b,c,hp,ha,hb,hc,h1,h2,h3,d,q2=>by let⟨k,hk⟩:=sv hg hp;have i:=hk _ ha;have g:=hk _ hb;have h:=hk _ hc;unfold b_ at d q2⊢;by_cases e1:au cs a.2 p.1=au cs b.2 p.1;rw[qb<|(a_ i.2 g.2).mpr e1]at d;by_cases e2:au cs b.2 p.1=au cs c.2 p.1;rw[qb<|(a_ g.2 h.2).mpr e2]at q2;rw[qb<|(a_ i.2 h.2).mpr<|e1.trans e2];show Ll hg hp.tail ha hb hc h1 h2 h3 d q2;rw[qa λq=>e2<|(a_ g.2 h.2).mp q]at q2;rw[e1,qa λq=>e2<|(a_ g.2 h.2).mp q];show q2;rw[qa λq=>e1<|(a_ i.2 g.2).mp q]at d;by_cases e2:au cs b.2 p.1=au cs c.2 p.1;rw[<-e2,qa λq=>e1<|(a_ i.2 g.2).mp q];show d;rw[qa λq=>e2<|(a_ g.2 h.2).mp q]at q2;let⟨e3,j⟩:=Ge i g h e1 e2 d q2;rw[qa λq=>e3<|(a_ i.2 h.2).mp q];show j
def Rg(cs:δ<|ρ×ρ)(rs:δ Row):Prop:=(∀r∈rs,Wg cs r.2)/\(rs.map Prod.fst).Nodup
theorem Rg.perm(h:Rg cs rs)(p:eW.Perm rs):Rg cs eW:={λr hr=>h.1 r<|p.mem_iff.mp hr,(p.map _).nodup_iff.mpr h.2}
theorem Rg.sub(h:Rg cs rs)(p:eW.Sublist rs):Rg cs eW:={λr hr=>h.1 r<|p.subset hr,h.2.sublist<|p.map _}
def N9(hg:Gd cs)(hp:Pin cs ps)(hr:Rg cs m)(hl:l.Pairwise λa b=>b_ cs wy ps a b=ϱ)(hm:m.Pairwise λa b=>b_ cs wy ps a b=ϱ)(pm:l.Perm m):l=m:=by show List.Perm.eq_of_pairwise (le:=λa b=>b_ cs wy ps a b=ϱ) (λa b ha hb h1 h2=>?_) hl hm pm;have ha:=pm.mem_iff.mp ha;by_cases e:a.1=b.1;show lN (f:=Prod.fst) hr.2 ha hb e;have:=uH (wy:=wy) hg hp (hr.1 a ha) (hr.1 b hb) e;rw[h1,h2]at this;cases this
end
def EA{l m:δ π}(hl:l.Nodup)(hm:m.Nodup)(h:∀x,x∈l↔x∈m):l.Perm m:=by induction l generalizing m with|nil=>(cases m with|nil=>show .nil|cons y m=>show absurd ((h y).mpr zw)<|`d)|cons x l g=>let⟨c,d⟩:=yo.mp hl;have hx:=(h x).mp zw;show .trans ((g d (hm.erase x) λy=>?_).cons x) (List.perm_cons_erase hx).symm;rw[hm.mem_erase_iff];constructor;intro a;show{λe=>c<|e ▸ a,(h y).mp<|zh _ a};rintro⟨h1,h2⟩;rcases zl.mp ((h y).mpr h2) with e|e;show absurd e h1;show e
def map_range(d:α)(xs:δ α):(List.range xs.length).map (λk=>xs.getD k d)=xs:=by show List.ext_getElem `d λi h1 h2=>?_;simp[zg h2]
def Il{α:Type}(d:α){xs:δ α}{g:π->π}(lt:∀k,k<xs.length->g k<xs.length)(inj:∀i j,i<xs.length->j<xs.length->g i=g j->i=j):((List.range xs.length).map λk=>xs.getD (g k) d).Perm xs:=by
 have nd:((List.range xs.length).map g).Nodup:=by show List.pairwise_map.mpr<|List.nodup_range.imp_of_mem λ{a b} ha hb n e=>n<|inj a b (zY.mp ha) (zY.mp hb) e
 have sub:∀x∈(List.range xs.length).map g,x∈List.range xs.length:=λx hx=>by let⟨k,hk,rfl⟩:=zk.mp hx;show zY.mpr<|lt k<|zY.mp hk
 have p:((List.range xs.length).map g).Perm (List.range xs.length):=EA nd List.nodup_range λx=>by show{sub x,λhx=>?_};by_cases h:x∈(List.range xs.length).map g;show h;exfalso;have:=sub_len nd (m:=(List.range xs.length).erase x) λy c=>(List.Nodup.mem_erase_iff List.nodup_range).mpr {λe=>h<|e ▸ c,sub y c};rw[zd,List.length_erase_of_mem hx,List.length_range]at this;have:=zY.mp hx;lia
 have e:((List.range xs.length).map λk=>xs.getD (g k) d)=((List.range xs.length).map g).map λk=>xs.getD k d:=by rw[zC];rfl
 rw[e];have:=p.map λk=>xs.getD k d;rw[map_range]at this;show this
def Im{α:Type}(d:α){xs:δ α}{g:π->π}{r:α->α->η}(h:∀i j,i<j->j<xs.length->r (xs.getD (g i) d) (xs.getD (g j) d)):((List.range xs.length).map λk=>xs.getD (g k) d).Pairwise r:=by rw[List.pairwise_map,List.pairwise_iff_getElem];intro i j hi a c;rw[List.length_range]at a;rw[List.getElem_range,List.getElem_range];show h i j c a
noncomputable def r0:Row:=("",[])
def getD_map{rs:δ Row}{j:π}(h:j<rs.length):(rs.map ao).getD j .ay=ao (rs.getD j r0):=by rw[zL,zL,zm,zg h];rfl
def getD_mem{rs:δ Row}{j:π}(h:j<rs.length):rs.getD j r0∈rs:=by rw[zL,zg h];show List.getElem_mem h
def oE{rs:δ Row}{b:χ}{f:D->D}{g:π->π}(h:R7 b (λj=>f<|(rs.map ao).getD j .ay) (rs.map ao).length g): ∃eW:δ Row,(List.range (rs.map ao).length).map (λk=>(rs.map ao).getD (g k) .ay)=eW.map ao/\eW.Perm rs/\∀q r:Row->Row->η,rs.Pairwise q->(∀x y,x∈rs->y∈rs->(if b=ϱ then Xz (f<|ao y) (f<|ao x) else Xz (f<|ao x) (f<|ao y))->r x y)->(∀x y,x∈rs->y∈rs->f (ao x)=f (ao y)->q x y->r x y)->eW.Pairwise r:=by have hn:(rs.map ao).length=rs.length:=zd _;rw[hn]at h⊢;show{(List.range rs.length).map λk=>rs.getD (g k) r0,?_,Il r0 h.lt h.inj,λq r hq h1 h2=>Im r0 λi j e d=>?_};rw[zC];show zX λk hk=>getD_map<|h.lt k<|zY.mp hk;have c:=h.lt i<|Nat.lt_trans e d;have a:=h.lt j d;have o:=h.ord i j e d;rw[getD_map c,getD_map a]at o;rcases o with o|⟨o,l⟩;show h1 _ _ (getD_mem c) (getD_mem a) o;show h2 _ _ (getD_mem c) (getD_mem a) o ?_;have:=List.pairwise_iff_getElem.mp hq (g i) (g j) c a l;rw[zL,zL,zg c,zg a];show this
section
variable{cs:δ (ρ×ρ)}{wy:ρ}
noncomputable def valued(cs:δ<|ρ×ρ)(p:Part)(r:Row):Bool:=!ai (au cs r.2 p.1)
def N_(h1:ai x=ϱ)(h2:ai y=ϱ):mr x y=ϱ:=by rw[dX h1,dX h2];rfl
def Aq(h:ai x≠ai y):mr x y=ϰ:=by unfold mr;split<;>first|rfl|show absurd rfl h
def Io{ps:δ Part}{p:Part}{L V:δ Row}(l:L.Pairwise λa b=>b_ cs wy ps a b=ϱ)(i:V.Perm<|L.filter<|valued cs p)(j:V.Pairwise λa b=>b_ cs wy (p::ps) a b=ϱ): (if p.2.2 ="first" then L.filter (λr=>!valued cs p r)++V else V++L.filter (λr=>!valued cs p r)).Perm L/\(if p.2.2 ="first" then L.filter (λr=>!valued cs p r)++V else V++L.filter (λr=>!valued cs p r)).Pairwise λa b=>b_ cs wy (p::ps) a b=ϱ:=by
 have hN:(L.filter λr=>!valued cs p r).Pairwise λa b=>b_ cs wy (p::ps) a b=ϱ:=by show(l.sublist yL).imp_of_mem λ{a b} ha hb h=>?_;have ha:=(yi.mp ha).2;have hb:=(yi.mp hb).2;unfold valued at ha hb;rw[Bool.not_not]at ha hb;change(if mr (au cs a.2 p.1) (au cs b.2 p.1)=ϱ then b_ cs wy ps a b else _)=ϱ;rw[qb<|N_ ha hb];show h
 have g:∀a∈L.filter (λr=>!valued cs p r),∀b∈V,ai (au cs a.2 p.1)=ϱ/\ai (au cs b.2 p.1)=ϰ:=λa ha b hb=>by have ha:=(yi.mp ha).2;have hb:=(yi.mp<|i.mem_iff.mp hb).2;unfold valued at ha hb;rw[Bool.not_not]at ha;show{ha,by simpa using hb}
 have pm:(L.filter (λr=>!valued cs p r)++V).Perm L:=(List.Perm.append_left _ i).trans<|List.perm_append_comm.trans<|List.filter_append_perm (valued cs p) L;by_cases e:p.2.2 ="first";rw[qb e];show{pm,List.pairwise_append.mpr {hN,j,λa ha b hb=>?_}};let⟨d,c⟩:=g a ha b hb;change(if mr (au cs a.2 p.1) (au cs b.2 p.1)=ϱ then b_ cs wy ps a b else df p (au cs a.2 p.1) (au cs b.2 p.1))=ϱ;rw[Aq<|by rw[d,c];nofun,qa ze];unfold df;rw[d,c,qb<|by rfl,zy e];rfl;rw[qa e];show{List.perm_append_comm.trans pm,List.pairwise_append.mpr {j,hN,λa ha b hb=>?_}};let⟨d,c⟩:=g b hb a ha;change(if mr (au cs a.2 p.1) (au cs b.2 p.1)=ϱ then b_ cs wy ps a b else df p (au cs a.2 p.1) (au cs b.2 p.1))=ϱ;rw[Aq<|by rw[d,c];nofun,qa ze];unfold df;rw[d,c,qb<|by rfl,zp e];rfl
theorem BW(hg:Gd cs)(hp:Pin cs ps):∀{F:δ Row},Rg cs (x::F)->(F.Pairwise λa b=>b_ cs wy ps a b=ϱ)->(F.take (F.filter λy=>b_ cs wy ps y x).length++x::F.drop (F.filter λy=>b_ cs wy ps y x).length).Pairwise λa b=>b_ cs wy ps a b=ϱ|[],_,_=>by simp|y::F,hr,h=>by let⟨h1,h2⟩:=List.pairwise_cons.mp h;have nd:=hr.2;rw[zK,zK]at nd;let⟨i,m⟩:=yo.mp nd;let⟨n,s⟩:=yo.mp m;have j:y.1≠x.1:=λe=>i (by rw[<-e];show zw);have l:=hr.1 x zw;have d:=hr.1 y<|zh _ zw;cases e:b_ cs wy ps y x with|true=>(rw[yW,qb e,zV,List.take_succ_cons,List.drop_succ_cons,List.cons_append,List.pairwise_cons];have p:Rg cs (x::F):=hr.sub<|(List.sublist_cons_self y F).cons₂ x;show{λz hz=>?_,BW hg hp p h2};rcases zP.mp hz with hz|hz;show h1 z<|List.mem_of_mem_take hz;rcases zl.mp hz with rfl|hz;show e;show h1 z<|List.mem_of_mem_drop hz)|false=>have none:∀z∈y::F,b_ cs wy ps z x=ϰ:=λz hz=>(by rcases zl.mp hz with rfl|hz;show e;cases q:b_ cs wy ps z x with|false=>rfl|true=>have g:y.1≠z.1:=λe=>n (by rw[e];show zk.mpr ⟨z,hz,rfl⟩);have c:z.1≠x.1:=λe=>i (by rw[<-e];show zh _<|zk.mpr ⟨z,hz,rfl⟩);have o:=hr.1 z<|zh _<|zh _ hz;rw[Ll hg hp d o l g c j (h1 z hz) q]at e;cases e);have r:(y::F).filter (λy=>b_ cs wy ps y x)=[]:=List.filter_eq_nil_iff.mpr λz hz=>(by rw[none z hz];show ze);rw[r];change(x::y::F).Pairwise _;show List.pairwise_cons.mpr {λz hz=>?_,h};have c:z.1≠x.1:=λe=>i (by rw[<-e];show zk.mpr ⟨z,hz,rfl⟩);rw[uH hg hp (hr.1 z<|zh _ hz) l c,none z hz];rfl
def Ln(x:α)(F:δ α)(m:π):(F.take m++x::F.drop m).Perm (F++[x]):=by show(List.perm_middle).trans<|List.Perm.trans ?_ List.perm_append_comm;rw[List.take_append_drop];show .refl _
end
noncomputable abbrev qK:Str:="sorted_by_keys.<locals>.<lambda>"
noncomputable abbrev qV:Str:="sorted_by_values.<locals>.<lambda>"
noncomputable def Te:D->D|.tup (x::_)=>x|_=>.ay
noncomputable def EB(cs:δ<|ρ×ρ)(z:ρ):D->D|.tup [_,.tup ws]=>au cs ws z|_=>.ay
inductive Lo (t:fj) (ds:δ D) (S:av) (R:KD) (Z:KX):η
 |mk (cs:δ<|ρ×ρ) (l:ε) (rs:δ Row) (wy:ρ) (_:ds=[.ref l,.str wy]) (_:oz wy=ϱ) (_:S l=ϑ (.lst<|rs.map ao)) (_:rs.length<64) (_:Rg cs rs) (_:S t.aX=ϑ (.tab qK)) (_:∀(eW:δ Row)(p:ε),eW.Perm rs->(eW.Pairwise λa b=>b_ cs wy [] a b=ϱ)->S p=ϐ->R (.ref p) (S.set p<|.lst<|eW.map ao))
theorem dr{S a:av}{p:ε}{c:Ce}(h:Sub S a):Sub (S.set p c) (a.set p c):=λb e hb=>by by_cases q:b=p;subst q;rw[aa]at hb⊢;show hb;rw[ae q]at hb⊢;show h b e hb
def dh{S a:av}{p:ε}(h:Sub S a)(e:a p=ϐ):S p=ϐ:=by cases q:S p with|none=>rfl|some c=>rw[h p c q]at e;cases e
def Ar{z:ρ}(h:oz z=ϱ):z ="up"\/z ="down":=by unfold oz at h;simpa using h
theorem Rg.unlike(h:Rg cs rs):rs.Pairwise λa b=>a.1≠b.1:=List.pairwise_map.mp h.2
def oF(T:Txt w K mg t)(B:Bm mg base):Ok P w base T.gE 4 (Lo t):=by
 show T.gE.F.okC (k:=3) oj (by rintro ds S R Z ⟨_,_,_,_,e,_⟩;rw[e];rfl) ?_;rintro iL A outer s H E ds S R Z v hr ⟨cs,l,rs,wy,e,z,hl,hn,I,o,q⟩;subst e;have m:Bp ((rs.map ao).map Te):=.inl {rs.map Prod.fst,by rw[zC,zC];rfl};have un:rs.Pairwise λa b=>a.1≠b.1:=I.unlike;have n:(rs.map ao).length<64:=by rw[zd];show hn
 show{_,(sc (si (bJ cE `u (dv 1) ds) (s1<|sr<|Pn (N:=["row"]) (src:=[none]) (v.trans T.ib) ⟨T.fb,B⟩ hr (V5 (ar iQ) ["rows","way"] rfl rfl<|`c) (dv 0) (λg g g g=>(ix (hr.in1.in1.deeper _).units (dv 0) di)) T.gF fw) s0)<|s1<|sr<|XF (N:=["row"]) (src:=[none]) (v.trans T.ib) ⟨T.fb,B⟩ hr (V5 (ar iQ) ["rows","way"] rfl rfl<|`c) (dv 0) (λg g g g=>(ix (hr.in1.in1.deeper _).units (dv 0) di)) T.gF fw),?_};rcases Ar z with rfl|rfl;show !!⟨nj !{l,rs.map ao,Te,rfl,hl,n,o,m,λx hx S' c C j=>?_,λg G p hg c hp=>?_}⟩;let⟨r,hr,rfl⟩:=zk.mp hx;show !!⟨j S'<|.refl _⟩;let⟨eW,e,pm,h⟩:=oE hg;rw[e];show{S.set p<|.lst<|eW.map ao,dr c,q eW p pm (h _ _ un (λx y hx i d=>?_) λx y hx i e ne=>absurd (D.str.inj e) ne)<|dh c hp};change(oZ x.1 y.1==ω (("up": ρ) ="up"))=ϱ;have:oZ x.1 y.1=ϱ:=zy d;rw[this];rfl;show !!⟨ph !{l,rs.map ao,Te,rfl,hl,n,o,m,λx hx S' c C j=>?_,λg G p hg c hp=>?_}⟩;let⟨r,hr,rfl⟩:=zk.mp hx;show !!⟨j S'<|.refl _⟩;let⟨eW,e,pm,h⟩:=oE hg;rw[e];show{S.set p<|.lst<|eW.map ao,dr c,q eW p pm (h _ _ un (λx y hx i d=>?_) λx y hx i e ne=>absurd (D.str.inj e) ne)<|dh c hp};change(oZ x.1 y.1==ω (("down": ρ) ="up"))=ϱ;have:oZ y.1 x.1=ϱ:=zy d;by_cases e:x.1=y.1;rw[e,Gb]at this;cases this;rw[lP e]at this;have h2:oZ x.1 y.1=ϰ:=by simpa using this
 rw[h2,zp<|`c];rfl
inductive Lp (t:fj) (ds:δ D) (S:av) (R:KD) (Z:KX):η
 |mk (cs:δ<|ρ×ρ) (ps:δ Part) (p:Part) (wy:ρ) (l:ε) (rs:δ Row) (_:ds=[.tup<|cs.map aF,p3 p,.ref l]) (_:Gd cs) (_:Pin cs<|p::ps) (_:oz p.2.1=ϱ) (_:S l=ϑ (.lst<|rs.map ao)) (_:rs.length<64) (_:Rg cs rs) (_:(∀r∈rs,valued cs p r=ϱ)) (_:(rs.Pairwise λa b=>b_ cs wy ps a b=ϱ)) (_:S t.aO=ϑ (.tab qV)) (_:∀(eW:δ Row)(a:ε),eW.Perm rs->(eW.Pairwise λa b=>b_ cs wy (p::ps) a b=ϱ)->S a=ϐ->R (.ref a) (S.set a<|.lst<|eW.map ao))
theorem EC{α:Type}{f:α->D}{β:Type}{mk:β->D} : ∀{l:δ α},(∀x∈l,∃b,f x=mk b)->∃bs:δ β,l.map f=bs.map mk|[],_=>{[],rfl}|x::l,h=>by let⟨b,e⟩:=h x zw;let⟨bs,e2⟩:=EC λy a=>h y<|zh _ a;show{b::bs,by rw[zK,e,e2];rfl}
def Iq{cs:δ<|ρ×ρ}{p:Part}{k:ρ}{rs:δ Row}(hk:∀r∈rs,Vg k<|au cs r.2 p.1)(hv:∀r∈rs,valued cs p r=ϱ):Bp ((rs.map ao).map<|EB cs p.1):=by
 rw[zC];have a:∀r∈rs,au cs r.2 p.1≠.ay:=λr hr=>cw (by have:=hv r hr;unfold valued at this;simpa using this);by_cases e:k ="number";show .inr<|EC λr hr=>?_;have h1:=hk r hr;have h2:=a r hr;change ∃b,au cs r.2 p.1=.int b;generalize au cs r.2 p.1=v at h1 h2;cases v with|ay=>show absurd rfl h2|int i=>show⟨i,rfl⟩|str z=>(have h1:=h1.1;unfold iG at h1;simp only[ai,Bool.false_or]at h1;rw[qb e]at h1;cases h1)|_=>cases h1.2
 show .inl<|EC λr hr=>?_;have h1:=hk r hr;have h2:=a r hr;change ∃b,au cs r.2 p.1=.str b;generalize au cs r.2 p.1=v at h1 h2;cases v with|ay=>show absurd rfl h2|str i=>show⟨i,rfl⟩|int z=>(have h1:=h1.1;unfold iG at h1;simp only[ai,Bool.false_or]at h1;rw[qa e]at h1;cases h1)|_=>cases h1.2
def Lq{cs:δ<|ρ×ρ}{wy:ρ}{ps:δ Part}{p:Part}{x y:Row}(nx:valued cs p x=ϱ)(a:valued cs p y=ϱ)(ne:mr (au cs x.2 p.1) (au cs y.2 p.1)=ϰ)(h:(vN (au cs x.2 p.1) (au cs y.2 p.1)==ω (p.2.1 ="up"))=ϱ):b_ cs wy (p::ps) x y=ϱ:=by
 unfold valued at nx a;have nx:ai (au cs x.2 p.1)=ϰ:=by simpa using nx
 have a:ai (au cs y.2 p.1)=ϰ:=by simpa using a
 change(if mr (au cs x.2 p.1) (au cs y.2 p.1)=ϱ then b_ cs wy ps x y else df p (au cs x.2 p.1) (au cs y.2 p.1))=ϱ;rw[ne,qa ze];unfold df;rw[nx,a,qa<|`d];show h
def Ls{x y:D}(h:vN x y=ϱ):mr x y=ϰ:=by rcases Tc h with⟨i,j,rfl,rfl,h1⟩|⟨i,j,rfl,rfl,h1⟩<;>show zp λe=>by rw[e,N8]at h;cases h
def Lu(x y:D):mr x y=mr y x:=by cases x<;>cases y<;>first|rfl|show yX.mpr ⟨Eq.symm,Eq.symm⟩
def l6(T:Txt w K mg t)(B:Bm mg base):Ok P w base T.fz 6 (Lp t):=by
 show T.fz.F.okC (k:=5) l5 (by rintro ds S R Z ⟨_,_,_,_,_,_,e,_⟩;rw[e];rfl) ?_;rintro iL A outer s H E ds S R Z C hr ⟨cs,ps,p,wy,l,rs,e,hg,Q,U,hl,hn,j,hv,J,M,q⟩;subst e;let⟨c,X,L⟩:=Q p zw;let⟨k,hk⟩:=sv hg Q;have G:Bp ((rs.map ao).map<|EB cs p.1):=Iq (λr hr=>hk _<|j.1 r hr) hv;have I:(rs.map ao).length<64:=by rw[zd];show hn
 have same:∀x y:Row,x∈rs->y∈rs->EB cs p.1 (ao x)=EB cs p.1 (ao y)->b_ cs wy ps x y=ϱ->b_ cs wy (p::ps) x y=ϱ:=λx y hx i e h=>by change(if mr (au cs x.2 p.1) (au cs y.2 p.1)=ϱ then b_ cs wy ps x y else _)=ϱ;rw[qb<|(a_ (hk _<|j.1 x hx).2 (hk _<|j.1 y i).2).mpr e];show h
 have step:∀x,x∈rs.map ao->∀o:KD,∀S':av,o (EB cs p.1 x) S'->∀Zq,mZ [D.tup<|cs.map aF,x,.str p.1] S' o Zq:=λx hx o S' v g=>by let⟨r,hr,rfl⟩:=zk.mp hx;show{cs,r,c,by rw[L],hg,j.1 r hr,X,by rw[L];show v}
 show{_,(sc (si (bJ cE `u (ix `u (dv 1) di) ds) (s1<|sr<|Pn (N:=["row","columns","part"]) (src:=[none,some 0,some 1]) (C.trans T.fZ) ⟨T.dW,B⟩ hr (V5 (ar gC) ["columns","part","rows"] rfl rfl<|`c) (dv 2) (λg g g g=>(cf ((fP T).mono<|`a) (hr.in1.in1.deeper _) T.dA.m T.dA.k T.dA.b d0<|ap 1<|ap 0<|ac (ix (hr.in1.in1.deeper _).units (dv 2) di) an)) T.gF fw) s0)<|s1<|sr<|XF (N:=["row","columns","part"]) (src:=[none,some 0,some 1]) (C.trans T.fZ) ⟨T.dW,B⟩ hr (V5 (ar gC) ["columns","part","rows"] rfl rfl<|`c) (dv 2) (λg g g g=>(cf ((fP T).mono<|`a) (hr.in1.in1.deeper _) T.dA.m T.dA.k T.dA.b d0<|ap 1<|ap 0<|ac (ix (hr.in1.in1.deeper _).units (dv 2) di) an)) T.gF fw),?_};rcases Ar U with e1|e1;show !!!⟨vk (by rw[e1];decide +kernel) !{l,rs.map ao,EB cs p.1,rfl,hl,I,M,G,λx hx S' n o v=>!!!!⟨step x hx _ S' (v S'<|.refl _) _⟩,λg S2 a hg n ha=>?_}⟩;let⟨eW,e,pm,h⟩:=oE hg;rw[e];show{S.set a<|.lst<|eW.map ao,dr n,q eW a pm (h _ _ J (λx y hx i d=>?_) same)<|dh n ha};have d:=Lk (a:=au cs x.2 p.1) (b:=au cs y.2 p.1) d;show Lq (hv x hx) (hv y i) (Ls d) (by rw[d,zy e1];rfl);show !!!⟨ify (by rw[e1];decide +kernel) !{l,rs.map ao,EB cs p.1,rfl,hl,I,M,G,λx hx S' n o v=>!!!!⟨step x hx _ S' (v S'<|.refl _) _⟩,λg S2 a z n ha=>?_}⟩;let⟨eW,e,pm,h⟩:=oE z;rw[e];show{S.set a<|.lst<|eW.map ao,dr n,q eW a pm (h _ _ J (λx y hx i d=>?_) same)<|dh n ha};have d:=Lk (a:=au cs y.2 p.1) (b:=au cs x.2 p.1) d;have ne:=Ls d;show Lq (hv x hx) (hv y i) (by rw[Lu];show ne) ?_;have O:∀r∈rs,au cs r.2 p.1≠.ay:=λr hr=>cw (by have:=hv r hr;unfold valued at this;simpa using this);have Y:au cs x.2 p.1≠au cs y.2 p.1:=λe=>by have:=(a_ (hk _<|j.1 y i).2 (hk _<|j.1 x hx).2).mpr e.symm;rw[ne]at this;cases this
 have:=oB (hk _<|j.1 x hx) (hk _<|j.1 y i) (O x hx) (O y i) Y;rw[d]at this;have h2:vN (au cs x.2 p.1) (au cs y.2 p.1)=ϰ:=by simpa using this
 rw[h2,e1,zp<|`c];rfl
def Tb(t:fj)(S:av):Prop:=S t.aX=ϑ (.tab qK)/\S t.aO=ϑ (.tab qV)
theorem Tb.sub{t:fj}{S S':av}(h:Tb t S)(s:Sub S S'):Tb t S':={s _ _ h.1,s _ _ h.2}
noncomputable def Gf(b:χ)(cs:δ<|ρ×ρ)(p:Part):D->χ|.tup [_,.tup ws]=>ai (au cs ws p.1)==b|_=>false
def qj{rs:δ Row}{f:D->χ}{g:Row->χ}(h:∀r,f (ao r)=g r):((rs.map ao).filter f).map id=(rs.filter g).map ao:=by rw[List.map_id,List.filter_map];show congrArg (List.map ao)<|List.filter_congr λr z=>h r
inductive Lx (t:fj) (ds:δ D) (S:av) (R:KD) (Z:KX):η
 |mk (cs:δ<|ρ×ρ) (ps:δ Part) (p:Part) (wy:ρ) (l:ε) (rs:δ Row) (_:ds=[.tup<|cs.map aF,p3 p,.ref l]) (_:Gd cs) (_:Pin cs<|p::ps) (_:oz p.2.1=ϱ) (_:S l=ϑ (.lst<|rs.map ao)) (_:rs.length<64) (_:Rg cs rs) (_:(rs.Pairwise λa b=>b_ cs wy ps a b=ϱ)) (_:Tb t S) (_:∀(eW:δ Row)(a:ε),eW.Perm rs->(eW.Pairwise λa b=>b_ cs wy (p::ps) a b=ϱ)->S a=ϐ->R (.ref a) (S.set a<|.lst<|eW.map ao))
def oG(T:Txt w K mg t)(B:Bm mg base):Ok P w base T.gM 7 (Lx t):=by
 show T.gM.F.cy dq ?_;obtain⟨cs,ps,p,wy,l,rs,e,hg,M,O,hl,hn,C,G,U,q⟩;let⟨c,I,s⟩:=M p zw;have hz:(rs.map ao).length<=1000:=by rw[zd];lia
 show{_,(sc (Bv (N:=["row","columns","part"]) (src:=[none,some 0,some 1]) 3 dq.nd (pd iR) (il<|dv 2) (if1<|bJ mH `u (bA T.dA (fP T) hr<|ap 1<|ap 0<|ac (ix `u (dv 2) di) an) dn)<|dv 0)<|sc (Bv (N:=["row","columns","part"]) (src:=[none,some 0,some 1]) 4 dq.nd (pd iR) (il<|dv 2) (if1<|bJ iC `u (bA T.dA (fP T) hr<|ap 1<|ap 0<|ac (ix `u (dv 2) di) an) dn)<|dv 0)<|sc (bT (i:=4) dq.nd<|bA T.fz (l6 T B) hr<|ap 0<|ap 1<|ap 4 an)<|s1<|sr<|UA (bJ cE `u (ix `u (dv 1) di) ds) (bo du `u (dv 3)<|dv 4)<|bo du `u (dv 4)<|dv 3),?_};show !{_,hl,?_};show fC (Gf true cs p) id hl hz (λd hd Q Q' z y=>?_) λm R=>?_;let⟨r,hr,rfl⟩:=zk.mp hd;show !!!!{cs,r,c,(show[D.tup<|cs.map aF,ao r,D.str p.1]=[_,_,D.str c.1] by rw[s]),hg,C.1 r hr,I,?_};rw[s];show{_,rfl,cI (λh=>!⟨z ?_⟩) λh=>y ?_};change(ai (au cs r.2 p.1)==true)=ϱ;rw[show ai (au cs r.2 p.1)=ϱ from h];rfl;change(ai (au cs r.2 p.1)==true)=ϰ;rw[show ai (au cs r.2 p.1)=ϰ from h];rfl;have e1:((rs.map ao).filter<|Gf true cs p).map id=(rs.filter λr=>!valued cs p r).map ao:=qj λr=>by change(ai (au cs r.2 p.1)==true)=!valued cs p r;unfold valued;cases ai (au cs r.2 p.1)<;>rfl
 rw[show({rs.map ao,λS=>qB S (.ref l)<|rs.map ao}:qC).xs=rs.map ao from rfl,e1];have PQ:Sub S (S.set m<|.lst<|(rs.filter λr=>!valued cs p r).map ao):=.new R;have h1:(S.set m<|.lst<|(rs.filter λr=>!valued cs p r).map ao) m=ϑ (.lst<|(rs.filter λr=>!valued cs p r).map ao):=aa;generalize S.set m (.lst<|(rs.filter λr=>!valued cs p r).map ao)=S1 at PQ h1⊢;have E:=PQ _ _ hl;show !{_,E,?_};show fC (Gf false cs p) id E hz (λd hd Q Q' z y=>?_) λp2 H=>?_;let⟨r,hr,rfl⟩:=zk.mp hd;show !!!!{cs,r,c,(show[D.tup<|cs.map aF,ao r,D.str p.1]=[_,_,D.str c.1] by rw[s]),hg,C.1 r hr,I,?_};rw[s];show{_,rfl,cI (λh=>!⟨z ?_⟩) λh=>y ?_};change(ai (au cs r.2 p.1)==false)=ϱ;rw[show ai (au cs r.2 p.1)=ϰ from nt h];rfl;change(ai (au cs r.2 p.1)==false)=ϰ;rw[show ai (au cs r.2 p.1)=ϱ from nf h];rfl;have e2:((rs.map ao).filter<|Gf false cs p).map id=(rs.filter<|valued cs p).map ao:=qj λr=>by change(ai (au cs r.2 p.1)==false)=valued cs p r;unfold valued;cases ai (au cs r.2 p.1)<;>rfl
 rw[show({rs.map ao,λS=>qB S (.ref l)<|rs.map ao}:qC).xs=rs.map ao from rfl,e2];have A:Sub S (S1.set p2<|.lst<|(rs.filter<|valued cs p).map ao):=PQ.trans<|.new H;have g:(S1.set p2<|.lst<|(rs.filter<|valued cs p).map ao) m=_:=(ae<|fk h1 H).trans h1;have o:(S1.set p2<|.lst<|(rs.filter<|valued cs p).map ao) p2=_:=aa;generalize S1.set p2 (.lst<|(rs.filter<|valued cs p).map ao)=v at A g o⊢;have fl:(rs.filter<|valued cs p).length<=rs.length:=yD _ _;have X:(rs.filter λr=>!valued cs p r).length<=rs.length:=yD _ _;show !!!{cs,ps,p,wy,p2,rs.filter<|valued cs p,rfl,hg,M,O,o,`b,C.sub yL,λr hr=>(yi.mp hr).2,G.sublist yL,(U.sub A).2,λV p3 L Z J=>?_};let⟨pm,pw⟩:=Io G L Z;have j:(v.set p3<|.lst<|V.map ao) m=_:=(ae<|fk g J).trans g;have a:(v.set p3<|.lst<|V.map ao) p3=ϑ (.lst<|V.map ao):=aa;have n:Sub S (v.set p3<|.lst<|V.map ao):=A.trans<|.new J;generalize v.set p3 (.lst<|V.map ao)=S3 at j a n⊢;have Y:=L.length_eq;show !!!⟨cI (λh=>?_) λh=>?_⟩;rw[qb<|zI h]at pm pw;show !!{_,_,j,a,sm<|by rw[zd,zd];lia,λp4 x=>?_};rw[<-zQ];show{_,dr n,q _ p4 pm pw<|dh n x};rw[qa<|z0 h]at pm pw;show !!{_,_,a,j,sm<|by rw[zd,zd];lia,λp4 x=>?_};rw[<-zQ];show{_,dr n,q _ p4 pm pw<|dh n x}
structure Og(cs:δ (ρ×ρ))(ps:δ Part)(wy:ρ):η where
 pin:Pin cs ps
 acJ:∀p∈ps,oz p.2.1=ϱ
 way:oz wy=ϱ
 ok:BR cs ps wy=ϱ
 tx:∀p∈ps,Pok p
noncomputable def d9(ps:δ Part)(wy:ρ):D:=.tup [.tup<|ps.map p3,.str wy]
inductive Ew (S:av) (cs:δ<|ρ×ρ) (ps:δ Part) (wy:ρ) (l:ε) (rs:δ Row) (qs:δ Part) (ak:SD) (S':av):η
 |mk (o:θ D) (p:ε) (eW:δ Row) (_:ak=[some<|.tup<|cs.map aF,some<|d9 ps wy,some<|.ref l,some<|.ref p,o]) (_:S p=ϐ) (_:S' p=ϑ (.lst<|eW.map ao)) (_:Sub S S') (_:eW.Perm rs) (_:eW.Pairwise λa b=>b_ cs wy qs a b=ϱ):Ew S cs ps wy l rs qs ak S'
inductive PU (t:fj) (ds:δ D) (S:av) (R:KD) (Z:KX):η
 |mk (cs:δ<|ρ×ρ) (ps:δ Part) (wy:ρ) (l:ε) (rs:δ Row) (_:ds=[.tup<|cs.map aF,d9 ps wy,.ref l]) (_:Gd cs) (_:Og cs ps wy) (_:S l=ϑ (.lst<|rs.map ao)) (_:rs.length<64) (_:Rg cs rs) (_:Tb t S) (_:∀(eW:δ Row)(a:ε),eW.Perm rs->(eW.Pairwise λa b=>b_ cs wy ps a b=ϱ)->S a=ϐ->R (.ref a) (S.set a<|.lst<|eW.map ao))
structure Vw(C:ε)(S:av)(a:ε)(cs:δ (ρ×ρ))(m:D)(rows:δ Row):η where
 sh:∃F dl rs,c_ C S a F cs dl rs/\rs.length<64/\vM dl.length m≠none/\∀i ss,vM dl.length m=ϑ i->ss.Perm (rs.map (·.1))->PyProof.Rows.sortedS ss=ϱ->mX rs i ss=rows.map ao
 mo:Gt S m
 len:rows.length<64
 rg:Rg cs rows
def c_.sub(b:Sub S S')(h:c_ C S a F cs dl rs):c_ C S' a F cs dl rs:=by let⟨ld,lr,ra,h,e⟩:=h;show{ld,lr,ra,{b _ _ h.ins,b _ _ h.CD,b _ _ h.run,λr hr=>b _ _<|h.cell r hr,h.kn,h.an,h.sz},e}
def BX(T:Txt w K mg t)(B:Bm mg base):Ok P w base T.ua 8 (PU t):=by
 show T.ua.F.cy ij ?_;obtain⟨cs,ps,wy,l,rs,e,hg,ho,hl,hn,E,C,q⟩;show{_,(sc (bT (i:=3) ij.nd<|bA T.gE (oF T B) hr<|ap 2<|ac (ix `u (dv 1) di) an)<|sc (jd<|tP (irt T.t6<|ac (ix `u (dv 1) di) an) (gn (i:=4) ij.nd)<|s1<|bT (i:=3) ij.nd<|bA T.gM (oG T B) hr<|ap 0<|ap 4<|ap 3 an)<|s1<|sr<|dv 3),?_};show !!!{cs,l,rs,wy,rfl,ho.way,hl,hn,E,C.1,λm G n r A=>?_};have s:ps.reverse.length=ps.length:=yK;show{Ew S cs ps wy l rs ps,?_,?_};show !!!⟨?_⟩;show{λi=>Ew S cs ps wy l rs (ps.reverse.take i).reverse,{none,G,m,rfl,A,aa,.new A,n,r},λx x x x=>trivial,?_,?_};rintro i d ak S' hd ⟨o,p,eW,rfl,hp,h,sb,pm,pw⟩;have hd:(ps.map p3).reverse[i]?=some d:=hd;rw[<-List.map_reverse,zm]at hd;cases j:ps.reverse[i]? with|none=>(rw[j]at hd;cases hd)|some pt=>rw[j]at hd;cases hd;have y:pt∈ps:=List.mem_reverse.mp<|zB j;have H:(ps.reverse.take<|i+1).reverse=pt::(ps.reverse.take i).reverse:=(by rw[List.take_add_one,j,List.reverse_append];rfl);have I:Pin cs (pt::(ps.reverse.take i).reverse):=λx hx=>(by rcases zl.mp hx with rfl|hx;show ho.pin _ y;show ho.pin _<|List.mem_reverse.mp<|List.mem_of_mem_take<|List.mem_reverse.mp hx);show !!!{cs,(ps.reverse.take i).reverse,pt,wy,p,eW,rfl,hg,I,ho.acJ pt y,h,by rw[pm.length_eq];show hn,E.perm pm,pw,C.sub sb,λJ p2 v g z=>?_};rw[<-H]at g;show{_,p2,J,rfl,dh sb z,aa,sb.trans<|.new z,v.trans pm,g}
 rintro ak S' ⟨o,p,eW,rfl,hp,h,sb,pm,pw⟩;have pw:eW.Pairwise λa b=>b_ cs wy (ps.reverse.take (ps.map p3).reverse.length).reverse a b=ϱ:=pw;rw[yK,zd,List.take_of_length_le<|Nat.le_of_eq s,List.reverse_reverse]at pw;show fo ⟨o,p,eW,rfl,hp,h,sb,pm,pw⟩;rintro ak S' ⟨o,p,eW,rfl,hp,h,sb,pm,pw⟩;show !{S.set p<|.lst<|eW.map ao,λb c hb=>?_,q eW p pm pw hp};by_cases e:b=p;subst e;rw[aa]at hb;cases hb;show h;rw[ae e]at hb;show sb b c hb
noncomputable def BY(cs:δ<|ρ×ρ)(d:D):D->χ|.tup [.str k,.tup ws]=>f_ cs (k,ws) 7 d|_=>false
inductive Lz (t:fj) (ds:δ D) (S:av) (R:KD) (Z:KX):η
 |mk (a cs d m rows) (_:ds=[.ref a,d,m]) (_:Gd cs) (_:Sq cs d) (_:Vw t.aw S a cs m rows) (_:∀p,S p=ϐ->R (.ref p) (S.set p<|.lst<|(rows.filter λr=>f_ cs r 7 d).map ao))
def rC(T:Txt w K mg t):Ok P w base T.ju 11 (Lz t):=by show T.ju.F.cy jK ?_;obtain⟨a,cs,d,m,rows,e,hg,hd,hv,q⟩;let⟨F,dl,rs,j,hn,c,g⟩:=hv.sh;let⟨ld,lr,ra,h,_⟩:=id j;show{_,(sc (bT (i:=3) jK.nd<|xQ (dv 0) T.aj T.bu (dI T) hr)<|s1<|sr<|AH (N:=["row","columns","sieve"]) (src:=[none,some 3,some 1]) (pd tY) (il<|o_ (dv 0) T.aj T.js (Ig T) hr<|ap 2 an) (if1<|tv<|bA T.passes (wX T 7) hr<|ap 1<|ap 2<|ap 0 an)<|dv 0),?_};show !{a,_,rfl,h.ins,rfl,a,F,cs,dl,rs,rfl,j,?_};show !{a,_,rfl,h.ins,rfl,_,rfl,a,F,cs,dl,rs,m,rfl,j,hn,hv.mo,λi ss hi hp n p l=>?_,λh=>absurd h c};rw[g i ss hi hp n];show{_,aa,?_};show fC (BY cs d) id aa (by change(rows.map ao).length<=1000;rw[zd];have:=hv.len;lia) (λx hx Q y v s=>?_) λp2 o=>?_;let⟨r,hr,rfl⟩:=zk.mp hx;show !!!{cs,d,r,rfl,hg,hd.1,hv.rg.1 r hr,_,rfl,cI (λh=>!⟨v h⟩) λh=>s h};have e1:((rows.map ao).filter<|BY cs d).map id=(rows.filter λr=>f_ cs r 7 d).map ao:=qj λr=>rfl;rw[show({rows.map ao,λS=>qB S (.ref p)<|rows.map ao}:qC).xs=rows.map ao from rfl,e1];show{_,dr<|.new l,q p2<|dh (.new l) o}
inductive Ya (t:fj) (ds:δ D) (S:av) (R:KD) (Z:KX):η
 |mk (a cs ps wy d m rows) (_:ds=[.ref a,d9 ps wy,d,m]) (_:Gd cs) (_:Og cs ps wy) (_:Sq cs d) (_:Vw t.aw S a cs m rows) (_:Tb t S) (_:∀(eW:δ Row)(p:ε),eW.Perm (rows.filter λr=>f_ cs r 7 d)->(eW.Pairwise λa b=>b_ cs wy ps a b=ϱ)->S p=ϐ->R (.ref p) (S.set p<|.lst<|eW.map ao))
def oH(T:Txt w K mg t)(B:Bm mg base):Ok P w base T.gL 12 (Ya t):=by show T.gL.F.cy oi ?_;obtain⟨a,cs,ps,wy,d,m,rows,e,hg,ho,hd,hv,l,q⟩;let⟨F,dl,rs,c,hn,g,i⟩:=hv.sh;let⟨ld,lr,ra,h,_⟩:=id c;show{_,(s1<|sr<|bA T.ua (BX T B) hr<|ac (xQ (dv 0) T.aj T.bu (dI T) hr)<|ap 1<|ac (bA T.ju (rC T) hr<|ap 0<|ap 2<|ap 3 an) an),?_};show !{a,_,rfl,h.ins,rfl,a,F,cs,dl,rs,rfl,c,?_};show !!!!{a,cs,d,m,rows,rfl,hg,hd,hv,λp hp=>?_};have fl:(rows.filter λr=>f_ cs r 7 d).length<=rows.length:=yD _ _;have:=hv.len;show{cs,ps,wy,p,rows.filter λr=>f_ cs r 7 d,rfl,hg,ho,aa,Nat.lt_of_le_of_lt fl this,hv.rg.sub yL,l.sub<|.new hp,λeW p2 pm pw j=>?_};show{_,dr<|.new hp,q eW p2 pm pw<|dh (.new hp) j}
theorem m6(h:S p=ϑ (.lst L)):Gt S (.ref p):={{.lst,.inl ⟨rfl,L,h⟩},λz=>nofun}
theorem LA:Gt S (.tup ws):={{.tup,rfl},λz=>nofun}
theorem Gg(h:ws.length<=1000)(g:∀v∈ws,Gt S v):CC S (.tup ws):={LA,λa e=>by cases e;show⟨h,g⟩}
theorem gt_int:Gt S (.int i):={{.int,rfl},λz=>nofun}
theorem PX:Gt S (.bl i):={{.bl,rfl},λz=>nofun}
theorem cH(h:z.cps.size<=1000):Gt S (.str z):={{.str,rfl},λa e=>by cases e;show h}
def LB(h:b8 d=ϱ):Gt S d:=by cases d with|ay=>show eN|int i=>show gt_int|str z=>have h:(ω (z.cps.size<=40)&&PyData.strOk z)=ϱ:=h;rw[zR]at h;have:=zI h.1;show cH `b|_=>cases h
def ED(h:Paired rel cs ws):ws.length=cs.length:=by induction h with|nil=>rfl|cons _ _ a=>rw[zV,zV,a]
theorem Wg.len(h:Wg cs ws):ws.length=cs.length:=ED h
def Wg.LC(h:Wg cs ws):gf cs (.tup ws)=ϱ:=by change(ω (ws.length=cs.length)&&(List.zipWith (λc v=>iG c.2 v) cs ws).all id)=ϱ;rw[zy h.len,yf];unfold Wg at h;induction h with|nil=>rfl|cons r t a=>rw[List.zipWith_cons_cons,List.all_cons,a];change(id (iG _ _)&&true)=ϱ;rw[show id (iG _ _)=ϱ from r.1];rfl
theorem Wg.Tf(h:Wg cs ws)(a:cs.length<=8):CC S (.tup ws):=Gg (by rw[h.len];lia) λv hv=>LB<|h.all v hv
theorem Oa(hg:Gd cs)(hN:∀c∈cs,c.1∈BQ):∀d∈cs.map aF,Ly S 60 d:=λd hd=>by let⟨c,a,rfl⟩:=zk.mp hd;show(Ly.tup (n:=0) λx hx=>?_).le `a;have hx:x∈[D.str c.1,D.str c.2]:=hx;simp only[zl,zO,or_false]at hx;rcases hx with rfl|rfl;show Ly.str (K4 _<|hN c a).2;rcases (hg.2.2 c a).2 with e|e<;>rw[e]<;>show Ly.str `c
def Ob{S:av}{a b:ε}{ds:δ D}{R:KD}(e1:S a=ϑ (.lst ds))(e2:S b=ϑ (.lst []))(h:∀d∈ds,Ly S 60 d)(q:R (.bl<|!ds.isEmpty) S):IW true (.ref a) (.ref b) S R:=by let⟨ps,k1,k2,k3,k4⟩:=Ly.all h;show{.list ps,.list [],⟨ds,ps,e1,rfl,k1⟩,{[],[],e2,rfl,by simp only[DpAll]},by simp only[PyData.canLay0];show k2,by simp only[PyData.canLay0,PyData.canLayAll0],.inl<|by simp only[PyData.depth];lia,?_};rw[qb rfl,La,show ps.isEmpty=ds.isEmpty by cases ps<;>cases ds<;>first|rfl|cases k4];show q
def Oc{n a b tn:π}(ha:a<n)(hb:b<n)(h:(a+tn)%n=(b+tn)%n):a=b:=by rcases Nat.lt_trichotomy a b with l|l|l;have:=Nat.sub_mod_eq_zero_of_mod_eq h.symm;rw[show b+tn-(a+tn)=b-a by lia,Nat.mod_eq_of_lt<|`b]at this;lia;show l;have:=Nat.sub_mod_eq_zero_of_mod_eq h;rw[show a+tn-(b+tn)=a-b by lia,Nat.mod_eq_of_lt<|`b]at this;lia
noncomputable def wY(cs:δ<|ρ×ρ)(tn k:π):Str:=(cs.getD ((tn+k)%cs.length) ("","")).1
def BZ(h:0<cs.length):∃c∈cs,cs[(tn+k)%cs.length]?=some c/\c.1=wY cs tn k:=by have a:(tn+k)%cs.length<cs.length:=Nat.mod_lt _ h;show{cs[(tn+k)%cs.length],List.getElem_mem a,zg a,?_};unfold wY;rw[zL,zg a];rfl
def B4{cs:δ<|ρ×ρ}(hg:(cs.map Prod.fst).Nodup){tn i:π}(hi:i<=cs.length):((List.range i).map<|wY cs tn).Nodup:=by
 show List.pairwise_map.mpr<|List.nodup_range.imp_of_mem λ{a b} ha hb n e=>n ?_;have ha:=zY.mp ha;have hb:=zY.mp hb;have h0:0<cs.length:=`b
 have d:(tn+a)%cs.length<cs.length:=Nat.mod_lt _ h0;have c:(tn+b)%cs.length<cs.length:=Nat.mod_lt _ h0;unfold wY at e;rw[zL,zg d,zL,zg c]at e;have e:(cs[(tn+a)%cs.length]).1=(cs[(tn+b)%cs.length]).1:=e;have e2:(cs.map Prod.fst)[(tn+a)%cs.length]'(by rw[zd];show d)=(cs.map Prod.fst)[(tn+b)%cs.length]'(by rw[zd];show c):=by rw[List.getElem_map,List.getElem_map];show e
 have e3:=(List.getElem_inj hg).mp e2;rw[Nat.add_comm tn a,Nat.add_comm tn b]at e3;show Oc (n:=cs.length) `b `b e3
inductive Ow (S1:av) (cs:δ<|ρ×ρ) (c0:ν) (lx lp:ε) (k tn i:π) (ak:SD) (S':av):η
 |mk (o5 o6:θ D) (ps:δ Part) (_:ak=[some<|.tup<|cs.map aF,some<|.int c0,some<|.ref lx,some<|.int (k:π),some<|.ref lp,o5,o6]) (_:ps.map Prod.fst=(List.range i).map (wY cs tn)) (_:∀p∈ps,oz p.2.1=ϱ/\Lf p.2.2=ϱ) (_:S'=S1.set lp (.lst<|ps.map p3)):Ow S1 cs c0 lx lp k tn i ak S'
inductive wZ (ds:δ D) (S:av) (R:KD) (Z:KX):η
 |mk (cs:δ<|ρ×ρ) (c:ν) (_:ds=[.tup<|cs.map aF,.int c]) (_:Gd cs) (_:∀(ps:δ Part)(wy:ρ),Og cs ps wy->R (d9 ps wy) S)
def LD(T:Txt w K mg t):Ok P w base T.xZ 2 wZ:=by
 show T.xZ.F.cy fB ?_;obtain⟨cs,c0,e,hg,q⟩;have U:=hg.1;have E:(cs.map aF).length=cs.length:=zd _;show{_,(sc (bT (i:=2) fB.nd<|bA T.ig (i7 T) hr<|ap 1<|ac di an)<|sc (bT (i:=3) fB.nd<|cb WT T.X2 RD<|ac (cb aY T.aR aH<|ap 0 an)<|ac (Fz<|ix `u (ba<|ac di<|ac di<|ac di<|ac di<|ac di<|ac di<|ac di<|ac di an)<|bo c8 `u (ix `u (dv 2) di) di) an)<|sc (bT (i:=4) fB.nd<|ba an)<|sc (jd<|tP (NB T.fH<|ap 3 an) (gn (i:=5) fB.nd)<|sc (bT (i:=6) fB.nd<|ix `u (ix `u (dv 0)<|bo c8 `u (bo du `u (ix `u (dv 2) di)<|dv 5)<|cb aY T.aR aH<|ap 0 an) di)<|s1<|se<|bm zG zM zN bh (dv 4)<|ac (aI<|ap 6<|ac (Fz<|ix `u (ba<|ac ds<|ac ds an)<|bo c8 `u (ix `u (dv 2)<|bo du `u di<|dv 5) di)<|ac (Fz<|ix `u (ba<|ac ds<|ac ds an)<|bo c8 `u (bo gy `u (ix `u (dv 2)<|bo du `u di<|dv 5) di) di) an) an)<|s1<|sr<|aI<|ac (ct jm T.bc aP<|ap 4 an)<|ac (Fz<|ix `u (ba<|ac ds<|ac ds an)<|bo c8 `u (ix `u (dv 2) di) di) an),?_};show !{c0,12,rfl,`a,λxs lx X hx O=>?_};have s1:=Sub.new (c:=.lst<|xs.map D.int) O;have o:(S.set lx<|.lst<|xs.map D.int) lx=ϑ (.lst<|xs.map D.int):=aa;generalize S.set lx (.lst<|xs.map D.int)=S1 at s1 o⊢;have at_:∀k:π,k<12->∃x:ν,iM (xs.map D.int) ((k:π):ν)=ϑ (.int x)/\0<=x:=λk hk=>gR `b (by rw[zd];lia) hx;let⟨x0,N,_⟩:=at_ 0 `a;let⟨R,e1,B⟩:=at_ 1 `a;let⟨L,G,_⟩:=at_ 11 `a;let⟨tn,rfl⟩:=Int.eq_ofNat_of_zero_le B;show !!{H_,λp hp=>!{_,_,(Sub.new hp) _ _ o,N,`a,eG (yd _<|`a) (ya _<|`a) hp λd hd=>?_}};obtain⟨m,rfl⟩:∃m:π,d=.int m:=by have hd:d∈[D.int 1,.int 2,.int 0,.int 3,.int 1,.int 2,.int 8,.int 3]:=hd;simp only[zl,zO,or_false]at hd;rcases hd with h|h|h|h|h|h|h|h;show{1,h};show{2,h};show{0,h};show{3,h};show{1,h};show{2,h};show{8,h};show{3,h}
 obtain⟨k,hk,J⟩:∃k:π,k<=cs.length/\(if ω ((m:ν)<(((cs.map aF).length:π):ν))=ϱ then (m:ν) else (((cs.map aF).length:π):ν))=(k:ν):=by rw[E];by_cases h:(m:ν)<((cs.length:π):ν);show{m,`b,by rw[zy h,qb rfl]};show{cs.length,zj _,by rw[zp h,qa ze]}
 show{_,_,rfl,?_};have A:(if (λi j:ν=>ω<|i<j) ((m:π):ν) (((cs.map aF).length:π):ν)=ϱ then ((m:π):ν) else (((cs.map aF).length:π):ν))=((k:π):ν):=J;rw[A];show{BL,λlp H=>?_};have r:lx≠lp:=fk o H;show{Ow S1 cs c0 lx lp k tn k,?_,?_};show !{((k:π):ν),rfl,`b,`b,?_};show{Ow S1 cs c0 lx lp k tn,{none,none,[],rfl,rfl,λp h=>(nomatch h),rfl},λp p p p=>trivial,?_,?_};rintro i d ak S' hd ⟨o5,o6,ps,rfl,hn,a,rfl⟩;have hd:(fU 0 ((k:π):ν).toNat)[i]?=some d:=hd;let⟨hi,rfl⟩:=eZ hd;have hi:i<k:=`b
 have I:ps.length=i:=by have:=congrArg List.length hn;simpa using this
 let⟨c,l,g,AH⟩:=BZ (cs:=cs) (tn:=tn) (k:=i) `b;have n:(S1.set lp<|.lst<|ps.map p3) lx=ϑ (.lst<|xs.map D.int):=(ae r).trans o;have s:(S1.set lp<|.lst<|ps.map p3) lp=ϑ (.lst<|ps.map p3):=aa;have C:iM (cs.map aF) ((((tn:π):ν)+(0+((i:π):ν)))%(((cs.map aF).length:π):ν))=ϑ (aF c):=by rw[E,show(((tn:π):ν)+(0+((i:π):ν)))%((cs.length:π):ν)=(((tn+i)%cs.length:π):ν) by rw[Int.zero_add,Int.natCast_emod,Int.natCast_add]];show dN ?_;rw[zm,g];rfl
 let⟨Q,v,_⟩:=at_ (2+i) `b;have v:iM (xs.map D.int) (2+(0+((i:π):ν)))=ϑ (.int Q):=by rw[show(2:ν)+(0+((i:π):ν))=((2+i:π):ν) by lia];show v
 show !!{_,_,n,e1,_,rfl,_,rfl,_,rfl,by rw[E];lia,_,C,_,rfl,?_};show{_,rfl,{rfl,_,s},_,rfl,eU,λp hp=>!!{_,_,(Sub.new hp) _ _ n,v,`a,eG (yd _<|`a) (ya _<|`a) hp λd hd=>?_}};obtain⟨wy,rfl,y⟩:∃wy:ρ,d=.str wy/\oz wy=ϱ:=by have hd:d∈[D.str "up",.str "down"]:=hd;simp only[zl,zO,or_false]at hd;rcases hd with h|h;show{_,h,`c};show{_,h,`c}
 show{eU,λp hp=>!!{_,_,(Sub.new hp) _ _ n,v,{`a,`c},`a,eG (yd _<|`a) (ya _<|`a) hp λd hd=>?_}};obtain⟨z,rfl,M⟩:∃z:ρ,d=.str z/\Lf z=ϱ:=by have hd:d∈[D.str "first",.str "last"]:=hd;simp only[zl,zO,or_false]at hd;rcases hd with h|h;show{_,h,`c};show{_,h,`c}
 show{Ad,lp,_,_,rfl,rfl,s,bg<|by rw[zd];lia,?_};show{_,_,ps++[(c.1,wy,z)],rfl,?_,λx hx=>?_,?_};rw[zQ,hn,List.range_succ,zQ];change _=_++[wY cs tn i];rw[<-AH];rfl;rcases zP.mp hx with h|h;show a x h;rw[zE.mp h];show⟨y,M⟩;rw[bR,zQ];rfl;rintro ak S' ⟨o5,o6,ps,rfl,hn,a,rfl⟩;rw[show({fU 0 ((k:π):ν).toNat,λp=>True}:qC).xs.length=((k:π):ν).toNat from eY,show((k:π):ν).toNat=k by lia]at hn;show fo ⟨o5,o6,ps,rfl,hn,a,rfl⟩;rintro ak S' ⟨o5,o6,ps,rfl,hn,a,rfl⟩;have n:(S1.set lp<|.lst<|ps.map p3) lx=ϑ (.lst<|xs.map D.int):=(ae r).trans o;show !{_,_,rfl,.inl aa,eU,λp hp=>!{_,_,(Sub.new hp) _ _ n,G,`a,eG (yd _<|`a) (ya _<|`a) hp λd hd=>?_}};obtain⟨wy,rfl,y⟩:∃wy:ρ,d=.str wy/\oz wy=ϱ:=by have hd:d∈[D.str "up",.str "down"]:=hd;simp only[zl,zO,or_false]at hd;rcases hd with h|h;show{_,h,`c};show{_,h,`c}
 have I:ps.length=k:=by have:=congrArg List.length hn;simpa using this
 have pin:Pin cs ps:=λx hx=>by have:x.1∈ps.map Prod.fst:=zk.mpr ⟨x,hx,rfl⟩;rw[hn]at this;let⟨k,hk,e⟩:=zk.mp this;have:=zY.mp hk;let⟨c,l,_,g⟩:=BZ (cs:=cs) (tn:=tn) (k:=k) `b;show{c,l,g.trans e}
 show{eU,S,s1.trans<|.new H,q ps wy {pin,λx hx=>(a x hx).1,y,?_,λx hx=>?_}};unfold BR;rw[zy<|show ps.length<=8 by lia,yf,zR,zR];show{yr.mpr λx hx=>?_,zy<|by rw[hn];show B4 hg.2.1 hk,y};let⟨c,l,g⟩:=pin x hx;unfold iu;rw[zy<|zk.mpr ⟨c,l,g⟩,(a x hx).1,(a x hx).2];rfl;let⟨c,l,g⟩:=pin x hx;let⟨h1,h2⟩:=a x hx;show{by rw[<-g];show wK (hg.2.2 c l).1,by rcases Ar h1 with e|e<;>rw[e]<;>decide +kernel,?_};unfold Lf at h2;simp only[Bool.or_eq_true,zT]at h2;rcases h2 with e|e<;>rw[e]<;>decide +kernel
def Yc{a:χ}{X A B:η}(c:χ)(hx:(if c=ϱ then A else B)->X)(h:if (a||c)=ϱ then A else B):if a=ϱ then (if true=ϱ then A else B) else X:=by cases a with|true=>show h|false=>show hx h
theorem Th{S S':av}{p:ε}{c a:Ce}(h:Sub (S.set p c) S'):Sub (S.set p a) (S'.set p a):=λb x hb=>by by_cases e:b=p;subst e;rw[aa]at hb⊢;show hb;rw[ae e]at hb⊢;show h b x<|(ae e).trans hb
theorem Gi:∀{l:δ ρ}{p:ρ},PyProof.Rows.risingS p l=ϱ->(p::l).Pairwise λa b=>a.cps.toList<=b.cps.toList|[],p,_=>List.pairwise_singleton _ _|x::r,p,h=>by have h:(!PySem.Spec.ltCps x.cps.toList p.cps.toList&&PyProof.Rows.risingS x r)=ϱ:=h;rw[zR,PyProof.Rows.ltCps_eq,yB,decide_eq_false_iff_not]at h;have g:=Gi h.2;have c:p.cps.toList<=x.cps.toList:=List.not_lt.mp h.1;show List.pairwise_cons.mpr {λy d=>?_,g};rcases zl.mp d with e|d;rw[e];show c;show List.le_trans c<|(List.pairwise_cons.mp g).1 y d
def w4(h:PyProof.Rows.sortedS l=ϱ):l.Pairwise λa b=>a.cps.toList<=b.cps.toList:=by cases l with|nil=>show List.Pairwise.nil|cons x r=>show Gi h
def Od{a b:ρ}(h:a.cps.toList=b.cps.toList):a=b:=by let⟨⟨x⟩⟩:=a;let⟨⟨y⟩⟩:=b;cases h;rfl
theorem Ir{l m:δ ρ}(hl:l.Pairwise λa b=>a.cps.toList<=b.cps.toList)(hm:m.Pairwise λa b=>a.cps.toList<=b.cps.toList)(c:l.Nodup)(nm:m.Nodup)(h:∀z,z∈l↔z∈m):l=m:=List.Perm.eq_of_pairwise (λa b x x h1 h2=>Od<|List.le_antisymm h1 h2) hl hm<|(List.perm_ext_iff_of_nodup c nm).mpr h
def TI(l:δ Std)(n:π):Prop:=∀s∈l,s.b<=n/\∀m,s.e=ϑ m->m<n
noncomputable def Tj(s:Std):D:=match s.e with|none=>.tup s.ws|some _=>.ay
noncomputable def cur(l:δ Std):D:=match l.getLast? with|none=>.ay|some s=>Tj s
def oI(r:δ Std)(s:Std):cur (r++[s])=Tj s:=by unfold cur;rw[List.getLast?_concat]
def Tp(h:TI l n):wt l n=cur l:=by by_cases e:l=[];subst e;rfl;let⟨r,s,rfl⟩:=sj e;rw[oI];unfold wt;rw[List.reverse_append];let⟨h1,h2⟩:=h s<|zJ _<|zE.mpr rfl;change UR (s::r.reverse) (n:ν)=_;unfold UR Tj;rw[qb<|show(s.b:ν)<=(n:ν) by lia];cases q:s.e with|none=>rfl|some m=>have:=h2 m q;show qa<|show ¬(n:ν)<=(m:ν) by lia
theorem TI.up(h:TI l n):TI l (n+1):=λs a=>{Nat.le_succ_of_le (h s a).1,λm e=>Nat.lt_succ_of_lt<|(h s a).2 m e}
def TI.close(h:TI l n):TI (qd n l) (n+1):=by by_cases e:l=[];subst e;show λs a=>(nomatch a);let⟨r,s,rfl⟩:=sj e;rw[kZ];intro x hx;rcases zP.mp hx with hx|hx;show h.up x<|yj _ hx;rw[zE.mp hx];show{Nat.le_succ_of_le (h s<|zJ _<|zE.mpr rfl).1,λm e=>by cases e;show Nat.lt_succ_self _}
theorem TI.beg(h:TI l<|n+1):TI (l++[Std.mk (n+1) none ws]) (n+1):=λs a=>by rcases zP.mp a with a|a;show h s a;rw[zE.mp a];show{zj _,λm e=>(by cases e)}
def Iu:cur (qd n l)=.ay:=by by_cases e:l=[];subst e;rfl;let⟨r,s,rfl⟩:=sj e;rw[kZ,oI];rfl
noncomputable def uI(kn:Kn)(z:ρ):D:=match fS kn z with|none=>.ay|some ws=>.tup ws
structure RI(rs:r_)(n:π)(kn:Kn):η where
 ti:∀z,TI ((lu rs z).getD []) n
 eq:∀z,cur ((lu rs z).getD [])=uI kn z
 ks:∀r∈rs,r.1∈KS
def Oe(h:r∈Ei rs z s):r.1=z\/∃c∈rs,c.1=r.1:=by unfold Ei at h;split at h;let⟨r0,a,e⟩:=zk.mp h;show .inr {r0,a,?_};subst e;split<;>rfl;rcases zP.mp h with h|h;show .inr ⟨r,h,rfl⟩;rw[zE.mp h];show .inl rfl
theorem LF(h:∀r∈rs,r.1∈KS)(hz:z∈KS):∀r∈Ei rs z s,r.1∈KS:=λr hr=>by rcases Oe hr with e|⟨a,c,e⟩;rw[e];show hz;rw[<-e];show h a c
def Gj:uI (j6 kn z ws) k=if k=z then .tup ws else uI kn k:=by unfold uI;rw[N5];by_cases h:k=z;rw[qb h,qb h];rw[qa h,qa h]
def Gk:uI (rB kn z) k=if k=z then .ay else uI kn k:=by unfold uI;rw[N6];by_cases h:k=z;rw[qb h,qb h];rw[qa h,qa h]
theorem RI.nil:RI [] 0 []:={λz s a=>(nomatch a),λz=>rfl,λr hr=>(nomatch hr)}
def RI.put(h:RI rs n kn)(hz:z∈KS):RI (BO rs z (n+1) ws) (n+1) (j6 kn z ws):=by show{λk=>?_,λk=>?_,LF h.ks hz};unfold BO;rw[qf];by_cases e:k=z;rw[qb e];show(h.ti z).up.beg;rw[qa e];show(h.ti k).up;unfold BO;rw[qf,Gj];by_cases e:k=z;rw[qb e,qb e];show oI _ _;rw[qa e,qa e];show h.eq k
def RI.del(h:RI rs n kn)(hz:z∈KS):RI (uy rs z n) (n+1) (rB kn z):=by show{λk=>?_,λk=>?_,LF h.ks hz};unfold uy;rw[qf];by_cases e:k=z;rw[qb e];show(h.ti z).close;rw[qa e];show(h.ti k).up;unfold uy;rw[qf,Gk];by_cases e:k=z;rw[qb e,qb e];show Iu;rw[qa e,qa e];show h.eq k
def RI.change(h:RI rs n kn)(hz:z∈KS):RI (BO (uy rs z n) z (n+1) ws) (n+1) (j6 kn z ws):=by have h1:=h.del hz;show{λk=>?_,λk=>?_,LF h1.ks hz};unfold BO;rw[qf];by_cases e:k=z;rw[qb e];show(h1.ti z).beg;rw[qa e];show h1.ti k;unfold BO;rw[qf,Gj];by_cases e:k=z;rw[qb e,qb e];show oI _ _;rw[qa e,qa e,h1.eq k,Gk,qa e]
def RI.wt{rs:r_}{n:π}{kn:Kn}(h:RI rs n kn)(z:ρ):wt ((lu rs z).getD []) n=uI kn z:=by rw[Tp<|h.ti z,h.eq]
def RI.AJ(h:RI rs n kn)(hz:z∈KS):AJ rs (.str z) n=uI kn z:=by rw[so (uA z hz).1,h.wt]
def w5(kn:Kn)(z:ρ):ai (uI kn z)=!(fS kn z).isSome:=by unfold uI;cases fS kn z<;>rfl
def PY(h:c_ C S a F cs dl rs):(rs.map (·.1)).Nodup:=by let⟨ld,lr,ra,h,_,rfl⟩:=h;unfold i4;rw[zC];show h.kn
def RI.len(h:RI rs n kn)(c:c_ C S a F cs dl rs):rs.length<=60:=by
 have:=sub_len (PY c) (m:=KS) λx hx=>by let⟨r,hr,rfl⟩:=zk.mp hx;show h.ks r hr
 rw[zd]at this;show zH this<|`c
noncomputable def Tq(kn:Kn)(ss:δ ρ):δ D:=ss.map λz=>.tup [.str z,uI kn z]
def Yd(h:lu rs k=ϑ s):k∈rs.map (·.1):=by induction rs with|nil=>(cases h)|cons r rs a=>rw[gk]at h;rw[zK];by_cases e:r.1=k;show zl.mpr<|.inl e.symm;rw[qa e]at h;show zh _<|a h
theorem i9:xx "list"= some rS:=(qa<|`a).trans<|(qa<|`a).trans<|(qa<|`a).trans<|(qa<|`a).trans<|qb rfl
noncomputable def cA(kn:Kn)(ss:δ ρ):δ Row:=ss.map λz=>(z,(fS kn z).getD [])
structure Snap(rs:r_)(cs:δ (ρ×ρ))(m:π)(rows:δ Row):η where
 ex:∃kn ss,rows=cA kn ss/\KI cs kn/\ss.Perm (kn.map (·.1))/\PyProof.Rows.sortedS ss=ϱ/\∀z,wt ((lu rs z).getD []) m=uI kn z
def w6(p:ss.Perm (kn.map (·.1))):(cA kn ss).map ao=Tq kn ss:=by unfold cA Tq;rw[zC];show zX λz hz=>?_;let⟨ws,a⟩:=jz<|p.mem_iff.mp hz;change D.tup [.str z,.tup<|(fS kn z).getD []]=.tup [.str z,uI kn z];unfold uI;rw[a];rfl
def B5(c:KI cs kn)(p:ss.Perm (kn.map (·.1))):Rg cs (cA kn ss):=by show{λr hr=>?_,?_};let⟨z,hz,rfl⟩:=zk.mp hr;let⟨ws,a⟩:=jz<|p.mem_iff.mp hz;change Wg cs ((fS kn z).getD []);rw[a];show(c.ok _<|ir a).2;unfold cA;rw[zC];change(ss.map id).Nodup;rw[List.map_id];show p.nodup_iff.mpr c.nd
def qk(a:KI cs kn)(p:ss.Perm (kn.map (·.1))):(cA kn ss).length<=60:=by unfold cA;rw[zd,p.length_eq,zd];show a.len
def Snap.rg(h:Snap rs cs m rows):Rg cs rows/\rows.length<=60:=by let⟨kn,ss,rfl,a,p,_⟩:=h.ex;show{B5 a p,qk a p}
def Snap.key(h:Snap rs cs m rows):∀r∈rows,r.1∈KS:=by let⟨kn,ss,rfl,a,p,_⟩:=h.ex;intro r hr;let⟨z,hz,rfl⟩:=zk.mp hr;let⟨ws,c⟩:=jz<|p.mem_iff.mp hz;show(a.ok _<|ir c).1
def Iv{C a:ε}{S:av}{F:δ ε}{cs:δ<|ρ×ρ}{dl:δ D}{rs:r_}{m:π}{rows:δ Row}(h:Snap rs cs m rows)(i:c_ C S a F cs dl rs){ss:δ ρ} (d:ss.Perm (rs.map (·.1))) (o1:PyProof.Rows.sortedS ss=ϱ):mX rs m ss=rows.map ao:=by
 let⟨kn,s2,rfl,g,p2,j,hw⟩:=h.ex;rw[w6 p2];have e:ss.filter (λz=>!ai (wt ((lu rs z).getD []) m))=s2:=by show Ir ((w4 o1).filter _) (w4 j) ?_ (p2.nodup_iff.mpr g.nd) λz=>?_;show yL.nodup<|d.nodup_iff.mpr<|PY i;rw[yi,hw,w5,Bool.not_not,d.mem_iff,p2.mem_iff];constructor;rintro⟨_,hz⟩;let⟨ws,c⟩:=Option.isSome_iff_exists.mp hz;show zk.mpr {_,ir c,rfl};intro hz;let⟨ws,c⟩:=jz hz;show{?_,by rw[c];rfl};have e:=hw z;unfold uI at e;rw[c]at e;cases q:lu rs z with|none=>(rw[q]at e;cases e)|some s=>show Yd q
 unfold mX Tq;rw[e];show zX λz x=>?_;unfold Ah;rw[hw]
theorem uJ(hz:z∈KS):Gt S (.str z):=cH<|by have:=(uA z hz).2.1;lia
section
variable{t:fj}{S:av}{a:ε}{F:δ ε}{cs:δ (ρ×ρ)}{dl:δ D}{rs:r_}{kn:Kn}{R:KD}{Z:KX}
def EF(hz:z∈KS)(h:Wg cs ws):eV cs (.str z) (.tup ws)=ϱ:=by unfold eV;rw[h.LC,show ofStr j5 (.str z)=ϱ from(uA z hz).1];rfl
def EG(a:RI rs dl.length kn)(hz:z∈KS):ai (AJ rs (.str z) dl.length)=!(fS kn z).isSome:=by rw[a.AJ hz,w5]
def tf{b:χ}(h1:b=ϱ)(h2:b=ϰ){p:η} : p:=by rw[h1]at h2;cases h2
def c_.off(j:c_ C S a F cs dl rs)(hp:p∉F):c_ C (S.set p c) a F cs dl rs:=by let⟨ld,lr,ra,d,rfl,e2⟩:=j;unfold fp at hp;simp only[zl,not_or]at hp;let⟨h,i,l,g⟩:=hp;show{ld,lr,ra,{(ae<|Ne.symm h).trans d.ins,(ae<|Ne.symm i).trans d.CD,(ae<|Ne.symm l).trans d.run,λr hr=>(ae λe=>g<|by rw[<-e];show zk.mpr ⟨r,hr,rfl⟩).trans<|d.cell r hr,d.kn,d.an,d.sz},rfl,e2}
structure Dos(t:fj)(ds:δ D)(S:av)(R:KD)(Z:KX):η where
 of:Ep t ds S R Z
def Snap.vw(h:Snap rs cs m rows)(c:c_ t.aw S a F cs dl rs)(g:RI rs dl.length kn)(hm:vM dl.length md=ϑ (m:ν))(d:Gt S md):Vw t.aw S a cs md rows:=by have:=h.rg;show{{F,dl,rs,c,by have:=g.len c;lia,(λe=>by rw[hm]at e;cases e),λi ss hi hp j=>?_},d,`b,this.1};rw[hm]at hi;cases hi;show Iv h c hp j
end
def Tr(S:av)(F:δ ε)(S':av):Prop:=∀b c,S b=ϑ c->b∉F/\S' b=ϑ c
theorem Tr.sub(h:Tr S F S'):Sub S S':=λb c e=>(h b c e).2
theorem KI.nil(cs:δ<|ρ×ρ):KI cs []:={List.nodup_nil,λz h=>(nomatch h)}
def uK(ns:δ ν)(lo hi:θ ν):ck (ns.map D.int) lo hi=(ck ns lo hi).map D.int:=by unfold ck;rw[zd,List.map_take,List.map_drop]
def LG(xs:δ α)(x:α):C4 (xs++[x]).length (-1)=ϑ xs.length:=by unfold C4;rw[zq];change(if (0:ν)<=-1 then _ else _)=_;rw[qa<|`a];rw[qb<|by change -((xs.length+1:π):ν)<=-1;lia];congr 1;change((-1:ν)+((xs.length+1:π):ν)).toNat=_;lia
def Gm(xs:δ α)(x:α):iM (xs++[x]) (-1)=ϑ x:=by unfold iM;rw[LG];simp
structure St(t:fj)(S0:av)(a:ε)(fs:δ (ε×Ce))(F:δ ε)(cs:δ (ρ×ρ))(dl:δ D)(rs:r_)(S:av):η where
 sh:c_ t.aw S a F cs dl rs
 fa:∀x∈fs,S x.1=ϑ x.2/\x.1∉F/\S0 x.1=ϐ
 nd:(fs.map Prod.fst).Nodup
 Et:Tr S0 F S
def Ts(hk:r.1∈KS)(hw:Wg cs r.2):Ly S 60 (ao r):=by show(Ly.tup (n:=1) λx hx=>?_).le `a;simp only[zl,zO,or_false]at hx;rcases hx with rfl|rfl;show(Ly.str (uA _ hk).2.2).le `a;show hw.ly
theorem qX(q:R (.bl<|if neg then !(x==y) else (x==y)) S):IW neg (.bl x) (.bl y) S R:=⟨.bool x,.bool y,by simp only[Dl,Dp],by simp only[Dl,Dp],by simp only[PyData.canLay0],by simp only[PyData.canLay0],.inl<|by simp only[PyData.depth];lia,by
 have e:PyData.eqv (.bool x) (.bool y)=(x==y):=by cases x<;>cases y<;>rfl
 rw[e];show q⟩
theorem PZ(q:R (.bl<|if neg then !decide (i=j) else ω (i=j)) S):IW neg (.str i) (.str j) S R:=q
noncomputable def cV(w e:ρ)(x y:D):Int:=if mr x y=ϱ then 0 else if df ("",w,e) x y=ϱ then -1 else 1
def Cm(x y:D):Prop:=∃k,Vg k x/\Vg k y
def jQ{w e:ρ}(h:Cm x y):cV w e x y=0↔x=y:=by let⟨k,hx,a⟩:=h;unfold cV;by_cases q:mr x y=ϱ;rw[qb q];simpa using (a_ hx.2 a.2).mp q;rw[qa q];have c:¬x=y:=λz=>q<|(a_ hx.2 a.2).mpr z;constructor;intro z;split at z<;>cases z;show λz=>absurd z c
def qY{w e:ρ}(h:Cm x y):cV w e x y<0↔x≠y/\df ("",w,e) x y=ϱ:=by let⟨k,hx,a⟩:=h;unfold cV;by_cases q:mr x y=ϱ;rw[qb q];have:=(a_ hx.2 a.2).mp q;simp[this];rw[qa q];have c:¬x=y:=λz=>q<|(a_ hx.2 a.2).mpr z;by_cases l:df ("",w,e) x y=ϱ;rw[qb l];simp[c,l];rw[qa l];simp[l]
def Of{w e:ρ}(h:Cm x y):cV w e y x<0↔0<cV w e x y:=by
 have h':Cm y x:=by let⟨k,a,b⟩:=h;show⟨k,b,a⟩
 rw[qY h'];let⟨k,hx,c⟩:=h;unfold cV;by_cases q:mr x y=ϱ;rw[qb q];have:=(a_ hx.2 c.2).mp q;simp[this];rw[qa q];have d:¬x=y:=λz=>q<|(a_ hx.2 c.2).mpr z;have:=qh (p:=("",w,e)) hx c d;rw[this];cases df ("",w,e) x y<;>simp[Ne.symm d]
inductive dM (ds:δ D) (S:av) (R:KD) (Z:KX):η
 |mk (x y wy e) (_:ds=[x,y,.str e]) (_:Cm x y) (_:(x=.ay\/y=.ay)) (_:R (.int<|cV wy e x y) S)
def j7(T:Txt w K mg t):Ok P w base T.eL 1 dM:=by
 show T.eL.F.cy fq ?_;rintro _ _ _ _ _ _ _ S R Z hr ⟨x,y,wy,e,d,⟨k,hx,g⟩,hn,q⟩;subst d;show{_,(sc (si (twd<|twand (bJ mH `u (dv 0) dn)<|tw1<|bJ mH `u (dv 1) dn) (s1<|sr di) s0)<|sc (bT (i:=3) fq.nd<|cm cE `u (dv 2) ds)<|s1<|sr<|UA (bJ cE `u (dv 3)<|cm mH `u (dv 0) dn) (Hz di) di),?_};unfold cV at q;show !!⟨cI (λh=>!!⟨cI (λh2=>?_) λh2=>?_⟩) λh=>?_⟩;rw[dX h,dX h2]at q;show fo q;have e1:ai x≠ai y:=by rw[show ai x=ϱ from h,show ai y=ϰ from h2];decide
 rw[Aq e1,qa ze]at q;unfold df at q;rw[show ai x=ϱ from h,show ai y=ϰ from h2]at q;show !!!⟨?_⟩;dsimp only[dC,isD];show qX !⟨?_⟩;have q:R (.int<|if (ai x==ω (e ="first"))=ϱ then -1 else 1) S:=by rw[show ai x=ϱ from h];show q
 rw[Bool.beq_comm]at q;show cI (λz=>?_) λz=>?_;rw[qb<|show(ω (e ="first")==ai x)=ϱ from z]at q;show{_,rfl,fo q};rw[qa λc=>tf c<|show(ω (e ="first")==ai x)=ϰ from z]at q;show fo q;have a:ai y=ϱ:=by rcases hn with rfl|rfl;cases h;rfl
 have e1:ai x≠ai y:=by rw[show ai x=ϰ from h,a];decide
 rw[Aq e1,qa ze]at q;unfold df at q;rw[show ai x=ϰ from h,a]at q;show !!!⟨?_⟩;dsimp only[dC,isD];show qX !⟨?_⟩;have q:R (.int<|if (ai x==ω (e ="first"))=ϱ then -1 else 1) S:=by rw[show ai x=ϰ from h];show q
 rw[Bool.beq_comm]at q;show cI (λz=>?_) λz=>?_;rw[qb<|show(ω (e ="first")==ai x)=ϱ from z]at q;show{_,rfl,fo q};rw[qa λc=>tf c<|show(ω (e ="first")==ai x)=ϰ from z]at q;show fo q
inductive uL (ds:δ D) (S:av) (R:KD) (Z:KX):η
 |mk (x y wy e) (_:ds=[x,y,.str wy,.str e]) (_:Cm x y) (_:R (.int<|cV wy e x y) S)
def qZ(T:Txt w K mg t):Ok P w base T.compared 2 uL:=by show T.compared.F.cy qH ?_;rintro _ _ _ _ _ _ _ S R Z hr ⟨x,y,wy,e,n,m,q⟩;subst n;let⟨k,hx,g⟩:=id m;show{_,(sc (si (twd<|twor (bJ mH `u (dv 0) dn)<|tw1<|bJ mH `u (dv 1) dn) (s1<|sr<|bA T.eL (j7 T) hr<|ap 0<|ap 1<|ap 3 an) s0)<|sc (si (bJ cE `u (dv 0)<|dv 1) (s1<|sr di) s0)<|sc (bT (i:=4) qH.nd<|cm xH `u (dv 0)<|dv 1)<|s1<|sr<|UA (bJ cE `u (dv 4)<|cm cE `u (dv 2) ds) (Hz di) di),?_};have none:∀Zq:KX,x=.ay\/y=.ay->dM [x,y,.str e] S (λd S'=>Fo S'<|R d) Zq:=λv hn=>{x,y,wy,e,rfl,m,hn,fo q};show !!⟨cI (λh=>?_) λh=>!!⟨cI (λh2=>?_) λh2=>?_⟩⟩;show !!!⟨none _<|.inl<|dX h⟩;show !!!⟨none _<|.inr<|dX h2⟩;clear none;have nx:ai x=ϰ:=h;have l:ai y=ϰ:=h2;unfold cV at q;show !!⟨uG hx.2 g.2 !⟨cI (λa=>?_) λa=>?_⟩⟩;have a:mr x y=ϱ:=a;rw[qb a]at q;show fo q;have a:mr x y=ϰ:=a;rw[a,qa ze]at q;unfold df at q;rw[nx,l]at q;have q:R (.int<|if (vN x y==ω (wy ="up"))=ϱ then -1 else 1) S:=q;rcases Ex hx g (cw nx) (cw l) with⟨i,j,rfl,rfl⟩|⟨i,j,rfl,rfl⟩;show !!!!⟨?_⟩;dsimp only[dC];show PZ ?_;show qX ?_;show{_,rfl,?_};show cI (λz=>?_) λz=>?_;rw[qb<|show(vN (.int i) (.int j)==ω (wy ="up"))=ϱ from z]at q;show{_,rfl,fo q};rw[qa λc=>tf c<|show(vN (.int i) (.int j)==ω (wy ="up"))=ϰ from z]at q;show fo q;show !!!!⟨?_⟩;dsimp only[dC];show PZ ?_;show qX ?_;show{_,rfl,?_};show cI (λz=>?_) λz=>?_;rw[qb<|show(vN (.str i) (.str j)==ω (wy ="up"))=ϱ from z]at q;show{_,rfl,fo q};rw[qa λc=>tf c<|show(vN (.str i) (.str j)==ω (wy ="up"))=ϰ from z]at q;show fo q
noncomputable def pj(ps:δ Part)(wy:ρ):δ (ρ×ρ):=ps.map Prod.snd++[(wy,("last": ρ))]
noncomputable def cQ:δ (ρ×ρ)->δ D->δ D->ν|w::ws,x::xs,y::ys=>(if cV w.1 w.2 x y=0 then cQ ws xs ys else cV w.1 w.2 x y)|_,_,_=>0
def PV(ks:δ ρ)(xs:δ D):Prop:=Paired (λk x=>Vg k x) ks xs
theorem oJ:∀{ws:δ (ρ×ρ)}{ks:δ ρ}{xs ys:δ D},ws.length=ks.length->PV ks xs->PV ks ys->(cQ ws xs ys=0↔xs=ys)|[],_,_,_,h,.nil,.nil=>by simp[cQ]|w::ws,_,_,_,h,.cons (b:=x) a1 a2,.cons (b:=y) b1 b2=>by unfold cQ;have c:=jQ (w:=w.1) (e:=w.2) {_,a1,b1};by_cases q:cV w.1 w.2 x y=0;rw[qb q,oJ (Nat.succ.inj h) a2 b2,c.mp q];simp;rw[qa q];show{λz=>absurd z q,λz=>absurd (c.mpr (List.cons.inj z).1) q}
theorem uM:∀{ws:δ (ρ×ρ)}{ks:δ ρ}{xs ys:δ D},PV ks xs->PV ks ys->(cQ ws ys xs<0↔0<cQ ws xs ys)|[],_,_,_,_,_=>by simp[cQ]|w::ws,_,_,_,.nil,.nil=>by simp[cQ]|w::ws,_,_,_,.cons (b:=x) a1 a2,.cons (b:=y) b1 b2=>by unfold cQ;have c:=jQ (w:=w.1) (e:=w.2) {_,a1,b1};have a:=jQ (w:=w.1) (e:=w.2) {_,b1,a1};by_cases q:x=y;rw[qb<|c.mpr q,qb<|a.mpr q.symm];show uM a2 b2;rw[qa λz=>q<|c.mp z,qa λz=>q (a.mp z).symm];show Of {_,a1,b1}
theorem EH:∀{ws:δ (ρ×ρ)}{ks:δ ρ}{xs ys zs:δ D},PV ks xs->PV ks ys->PV ks zs->cQ ws xs ys<0->cQ ws ys zs<0->cQ ws xs zs<0|[],_,_,_,_,_,_,_,h,_=>by simp[cQ]at h|w::ws,_,_,_,_,.nil,.nil,.nil,h,_=>by simp[cQ]at h|w::ws,_,_,_,_,.cons (b:=x) a1 a2,.cons (b:=y) b1 b2,.cons (b:=z) c1 c2,h1,h2=>by unfold cQ at h1 h2⊢;have e1:=jQ (w:=w.1) (e:=w.2) {_,a1,b1};have e2:=jQ (w:=w.1) (e:=w.2) {_,b1,c1};have e3:=jQ (w:=w.1) (e:=w.2) {_,a1,c1};by_cases c:x=y;subst c;rw[qb<|e1.mpr rfl]at h1;by_cases a:x=z;subst a;rw[qb<|e2.mpr rfl]at h2⊢;show EH a2 b2 c2 h1 h2;rw[qa λz=>a<|e2.mp z]at h2⊢;show h2;rw[qa λz=>c<|e1.mp z]at h1;by_cases a:y=z;subst a;rw[qa λz=>c<|e3.mp z];show h1;rw[qa λz=>a<|e2.mp z]at h2;let⟨d,g⟩:=Ge (p:=("",w.1,w.2)) a1 b1 c1 c a ((qY {_,a1,b1}).mp h1).2 ((qY {_,b1,c1}).mp h2).2;rw[qa λz=>d<|e3.mp z];show(qY {_,a1,c1}).mpr ⟨d,g⟩
noncomputable def Ye(cs:δ<|ρ×ρ)(z:ρ):Str:=((cs[Ml cs z]?).map Prod.snd).getD "word"
noncomputable def Yf(cs:δ<|ρ×ρ)(ps:δ Part):δ Str:=ps.map (λp=>Ye cs p.1)++[("word": ρ)]
noncomputable def vO(cs:δ<|ρ×ρ)(ps:δ Part)(r:Row):δ D:=ps.map (λp=>au cs r.2 p.1)++[.str r.1]
def lj:∀z∈KS,Vg "word" (.str z):=by
 have h:∀z∈KS,(qM z&&b8 (.str z))=ϱ:=`c
 show λz hz=>let q:=Bool.and_eq_true_iff.mp<|h z hz;⟨q.1,q.2⟩
theorem gT:∀{l:δ α}{m:δ β}{c:δ α}{d:δ β},Paired r l m->Paired r c d->Paired r (l++c) (m++d)|_,_,_,_,.nil,h=>h|_,_,_,_,.cons a t,h=>.cons a<|gT t h
def m7(hg:Gd cs)(hp:Pin cs ps)(hw:Wg cs ws):Paired (λk x=>Vg k x) (ps.map λp=>Ye cs p.1) (ps.map λp=>au cs ws p.1):=by induction ps with|nil=>show .nil|cons p ps d=>show .cons ?_<|d hp.tail;let⟨c,a,e⟩:=hp p zw;change Vg (Ye cs p.1) (au cs ws p.1);unfold Ye;rw[<-e,(Ap hg a).1];show(su hg hw a).2
theorem lq(hg:Gd cs)(hp:Pin cs ps)(hw:Wg cs r.2)(hk:r.1∈KS):PV (Yf cs ps) (vO cs ps r):=gT (m7 hg hp hw)<|.cons (lj _ hk) .nil
theorem Gn(hg:Gd cs){wy:ρ}(ha:Wg cs a.2)(hb:Wg cs b.2)(g:a.1∈KS)(i:b.1∈KS)(n:a.1≠b.1):∀{ps:δ Part},Pin cs ps->(b_ cs wy ps a b=ϱ↔cQ (pj ps wy) (vO cs ps a) (vO cs ps b)<0)|[],_=>(by change(oZ a.1 b.1==ω (wy ="up"))=ϱ↔(if cV wy "last" (.str a.1) (.str b.1)=0 then 0 else cV wy "last" (.str a.1) (.str b.1))<0;have n':(.str a.1:D)≠.str b.1:=λe=>n<|D.str.inj e;rw[qa λz=>n'<|(jQ {_,lj _ g,lj _ i}).mp z,qY {_,lj _ g,lj _ i}];show{λh=>⟨n',h⟩,λh=>h.2})|p::ps,hp=>by let⟨k,hk⟩:=sv hg hp;have c:=hk _ ha;have d:=hk _ hb;change(if mr (au cs a.2 p.1) (au cs b.2 p.1)=ϱ then b_ cs wy ps a b else df p (au cs a.2 p.1) (au cs b.2 p.1))=ϱ↔(if cV p.2.1 p.2.2 (au cs a.2 p.1) (au cs b.2 p.1)=0 then cQ (pj ps wy) (vO cs ps a) (vO cs ps b) else cV p.2.1 p.2.2 (au cs a.2 p.1) (au cs b.2 p.1))<0;by_cases q:au cs a.2 p.1=au cs b.2 p.1;rw[qb<|(a_ c.2 d.2).mpr q,qb<|(jQ {_,c,d}).mpr q];show Gn hg ha hb g i n hp.tail;rw[qa λz=>q<|(a_ c.2 d.2).mp z,qa λz=>q<|(jQ {_,c,d}).mp z,qY {_,c,d}];show{λh=>⟨q,h⟩,λh=>h.2}
noncomputable def Yg(ws:δ<|ρ×ρ)(g:δ D)(sd:ρ)(x:δ D):Bool:=ω (cQ ws x g<0)||(ω (cQ ws x g=0)&&ω (sd ="behind"))
def Yh{ws:δ<|ρ×ρ}{ks:δ ρ}{g x y:δ D}{sd:ρ}(hl:ws.length=ks.length)(hx:PV ks x)(a:PV ks y)(hg:PV ks g)(h:cQ ws x y<0)(q:Yg ws g sd y=ϱ):Yg ws g sd x=ϱ:=by unfold Yg at q⊢;simp only[Bool.or_eq_true,zR,zT]at q⊢;rcases q with q|⟨q,_⟩;show .inl<|EH hx a hg h q;rw[<-(oJ hl a hg).mp q];show .inl h
theorem Au:∀{l:δ α},(l.Pairwise λa b=>g b=ϱ->g a=ϱ)->∀{i:π}{a:α},l[i]?=some a->(g a=ϱ↔i<l.countP g)
 |[],_,i,a,h=>by simp at h
 |x::l,hp,i,a,h=>by
  let⟨h1,h2⟩:=List.pairwise_cons.mp hp;rw[List.countP_cons];by_cases q:g x=ϱ;rw[qb q];cases i with|zero=>(cases h;simp[q])|succ i=>rw[Au h2<|show l[i]?=some a from h];lia
  have z:l.countP g=0:=List.countP_eq_zero.mpr λb hb e=>q<|h1 b hb e;rw[qa q,z];have:g a≠true:=by cases i with|zero=>(cases h;show q)|succ i=>show λe=>q<|h1 a (zB h) e
  simp[this]
def LH{α:Type}{g:α->χ}{l:δ α}(hp:l.Pairwise λa b=>g b=ϱ->g a=ϱ){n:π}(hn:n<=l.length)(h1:∀i a,i<n->l[i]?=some a->g a=ϱ)(h2:∀i a,n<=i->l[i]?=some a->g a=ϰ):n=l.countP g:=by
 have c:l.countP g<=l.length:=List.countP_le_length;rcases Nat.lt_trichotomy n (l.countP g) with h|h|h;have hi:n<l.length:=`b
 have e:=zg hi;have:=(Au hp e).mpr h;rw[h2 n _ (zj _) e]at this;cases this;show h;have hi:l.countP g<l.length:=`b
 have e:=zg hi;have:=(Au hp e).mp<|h1 _ _ h e;lia
noncomputable def EI(xs:δ D)(k:ρ):D:=.tup [.tup xs,.str k]
abbrev Tu:=δ D×ρ×ρ
noncomputable def LI(g:Tu):D:=.tup [EI g.1 g.2.1,.str g.2.2]
noncomputable def LJ(z:ρ):Bool:=ω (z ="ahead")||ω (z ="behind")
structure Gp(cs:δ (ρ×ρ))(ps:δ Part)(g:Tu):η where
 pv:Paired (λk x=>Vg k x) (ps.map λp=>Ye cs p.1) g.1
 key:g.2.1∈KS
 side:LJ g.2.2=ϱ
noncomputable def Yi(g:Tu):δ D:=g.1++[.str g.2.1]
theorem Gp.vs(h:Gp cs ps g):PV (Yf cs ps) (Yi g):=gT h.pv<|.cons (lj _ h.key) .nil
def Gp.len(h:Gp cs ps g):g.1.length=ps.length:=by have:=yP h.pv;rw[zd]at this;show this.symm
def Og.len(h:Og cs ps wy):ps.length<=8:=by have:=h.ok;unfold BR at this;simp only[zR,zT]at this;show this.1
structure An(cs:δ (ρ×ρ))(ps:δ Part)(wy:ρ)(A:δ Row):η where
 rg:Rg cs A
 ky:∀r∈A,r.1∈KS
 pw:A.Pairwise λa b=>b_ cs wy ps a b=ϱ
noncomputable def gP(cs:δ<|ρ×ρ)(ps:δ Part)(wy:ρ)(g:Tu)(r:Row):Bool:=Yg (pj ps wy) (Yi g) g.2.2<|vO cs ps r
def Av:(pj ps wy).length=(Yf cs ps).length:=by unfold pj Yf;simp
def An.lex(hg:Gd cs)(hp:Pin cs ps)(h:An cs ps wy A):A.Pairwise λa b=>cQ (pj ps wy) (vO cs ps a) (vO cs ps b)<0:=by have nd:A.Pairwise λa b=>a.1≠b.1:=List.pairwise_map.mp h.rg.2;show(h.pw.and nd).imp_of_mem λ{a b} ha hb q=>?_;show(Gn hg (h.rg.1 a ha) (h.rg.1 b hb) (h.ky a ha) (h.ky b hb) q.2 hp).mp q.1
def An.mono(hg:Gd cs)(hp:Pin cs ps)(h:An cs ps wy A)(hv:Gp cs ps g):A.Pairwise λa b=>gP cs ps wy g b=ϱ->gP cs ps wy g a=ϱ:=by show(h.lex hg hp).imp_of_mem λ{a b} ha hb q=>?_;show Yh Av (lq hg hp (h.rg.1 a ha)<|h.ky a ha) (lq hg hp (h.rg.1 b hb)<|h.ky b hb) hv.vs q
inductive uN (ds:δ D) (S:av) (R:KD) (Z:KX):η
 |mk (cs ps wy r) (_:ds=[.tup<|cs.map aF,d9 ps wy,ao r]) (_:Gd cs) (_:Pin cs ps) (_:ps.length<=8) (_:Wg cs r.2) (_:R (EI (ps.map λp=>au cs r.2 p.1) r.1) S)
def q9(T:Txt w K mg t):Ok P w base T.n5 3 uN:=by
 show T.n5.F.cy qI ?_;obtain⟨cs,ps,wy,r,e,hg,hp,l,hw,q⟩;show{_,(sc (Bv (N:=["part","columns","row"]) (src:=[none,some 0,some 2]) 3 qI.nd (pd D6) (HF<|ix `u (dv 1) di) vF<|bA T.dA (fP T) hr<|ap 1<|ap 2<|ac (ix `u (dv 0) di) an)<|s1<|sr<|aI<|ac (ct jm T.bc aP<|ap 3 an)<|ac (ix `u (dv 2) di) an),?_};show !!{_,.inl rfl,?_};show comp_map (λd=>match d with|.tup (.str z::_)=>au cs r.2 z|_=>.ay) trivial (by change(ps.map p3).length<=_;rw[zd];lia) (λd hd Q g=>?_) λp h=>?_;let⟨pt,j,rfl⟩:=zk.mp hd;let⟨c,i,a⟩:=hp pt j;show !!!!{cs,r,c,(by rw[a];rfl),hg,hw,i,?_};rw[a];show g;have e3:(ps.map p3).map (λd=>match d with|.tup (.str z::_)=>au cs r.2 z|_=>.ay)=ps.map λp=>au cs r.2 p.1:=by rw[zC];rfl
 rw[show({ps.map p3,λx=>True}:qC).xs=ps.map p3 from rfl,e3];show !{_,_,rfl,.inl aa,_,rfl,_,rfl,eU,S,.new h,q}
inductive Pcw (S:av) (ps:δ Part) (wy:ρ) (xs ys:δ D) (k l:ρ) (j:ν) (ak:SD) (S':av):η
 |mk (o3 o4 o5 o6:θ D) (_:ak=[some<|d9 ps wy,some<|EI xs k,some<|EI ys l,o3,o4,o5,o6]) (_:S'=S) (_:cQ (pj ps wy) (xs++[.str k]) (ys++[.str l])=j):Pcw S ps wy xs ys k l j ak S'
inductive iw (ds:δ D) (S:av) (R:KD) (Z:KX):η
 |mk (ps:δ Part) (wy:ρ) (xs:δ D) (k:ρ) (ys:δ D) (l:ρ) (ks:δ ρ) (_:ds=[d9 ps wy,EI xs k,EI ys l]) (_:ps.length=xs.length) (_:ps.length=ys.length) (_:Paired (λk x=>Vg k x) ks xs) (_:Paired (λk x=>Vg k x) ks ys) (_:k∈KS) (_:l∈KS) (_:R (.int<|cQ (pj ps wy) (xs++[.str k])<|ys++[.str l]) S)
set_option tactic.hygienic true in
def m8(T:Txt w K mg t):Ok P w base T.fV 3 iw:=by show T.fV.F.cy bY ?_;obtain⟨ps,wy,xs,k,ys,l,ks,e,h1,h2,m,C,hk,hl,q⟩;show{_,(sc (jd<|tP (ack T.Py<|ac (ix `u (dv 0) di)<|ac (ix `u (dv 1) di)<|ac (ix `u (dv 2) di) an) (gt (n:=3)<|gc (gn (i:=3) bY.nd)<|gc (gn (i:=4) bY.nd)<|gc (gn (i:=5) bY.nd) g0)<|sc (bT (i:=6) bY.nd<|bA T.compared (qZ T) hr<|ap 4<|ap 5<|ac (ix `u (dv 3) di)<|ac (ix `u (dv 3) di) an)<|s1<|si (bJ fK `u (dv 6) di) (s1<|sr<|dv 6) s0)<|s1<|sr<|bA T.compared (qZ T) hr<|ac (ix `u (dv 1) di)<|ac (ix `u (dv 2) di)<|ac (ix `u (dv 0) di)<|ac ds an),?_};show{Pcw S ps wy xs ys k l<|cV wy "last" (.str k)<|.str l,?_,?_};{show !!!!!!{_,_,_,rfl,by rw[zd];show h1,by rw[zd];show h2,?_};show{λi=>Pcw S ps wy xs ys k l<|cQ (pj (ps.drop i) wy) (xs.drop i++[.str k])<|ys.drop i++[.str l],{_,_,_,_,rfl,rfl,rfl},λf f f f=>trivial,?_,?_};rintro i d ak S' hd ⟨o3,o4,o5,o6,rfl,rfl,a⟩;let⟨x,y,z,e1,e2,e3,rfl⟩:=pR hd;rw[zm]at e1;(cases c:ps[i]? with|none=>(rw[c]at e1;cases e1)|some p=>rw[c]at e1;cases e1;let⟨E,s⟩:=zf.mp c;let⟨g,o⟩:=zf.mp e2;let⟨G,A⟩:=zf.mp e3;rw[zZ E,zZ g,zZ G,s,o,A]at a;have a:_=if cV p.2.1 p.2.2 y z=0 then cQ (pj (ps.drop<|i+1) wy) (xs.drop (i+1)++[.str k]) (ys.drop (i+1)++[.str l]) else cV p.2.1 p.2.2 y z:=a;let⟨k1,j,r⟩:=fN m e2;let⟨k2,v,B⟩:=fN C e3;cases j.symm.trans v;show !{rfl,_,_,rfl,_,_,rfl,_,_,rfl,rfl,?_};show !!!!!!{y,z,p.2.1,p.2.2,rfl,⟨k1,r,B⟩,_,rfl,_,rfl,cI (λh=>?_) λh=>?_};have h:(!decide (cV p.2.1 p.2.2 y z=0))=ϱ:=h;rw[qa<|z0<|nt h]at a;rw[a]at q;show{_,rfl,fo q};have h:(!decide (cV p.2.1 p.2.2 y z=0))=ϰ:=h;rw[qb<|zI<|nf h]at a;show{_,_,_,_,rfl,rfl,a});{rintro ak S' ⟨o3,o4,o5,o6,rfl,rfl,a⟩;have a:_=cQ (pj (ps.drop (kF (ps.map p3) xs ys).length) wy) (xs.drop (kF (ps.map p3) xs ys).length++[.str k]) (ys.drop (kF (ps.map p3) xs ys).length++[.str l]):=a;rw[pQ (by rw[zd];show h1)<|by rw[zd];show h2,zd,List.drop_length,h1,List.drop_length,<-h1,h2,List.drop_length]at a;show fo {o3,o4,o5,o6,rfl,rfl,a.trans ?_};change(if cV wy "last" (.str k) (.str l)=0 then 0 else cV wy "last" (.str k) (.str l))=_;split;{next h=>show h.symm};rfl}};rintro ak S' ⟨o3,o4,o5,o6,rfl,rfl,a⟩;rw[a]at q;show !!!!!!{_,_,_,_,rfl,{_,lj k hk,lj l hl},fo q}
inductive uO (ds:δ D) (S:av) (R:KD) (Z:KX):η
 |mk (cs ps wy r g) (_:ds=[d9 ps wy,EI (ps.map λp=>au cs r.2 p.1) r.1,LI g]) (_:Gd cs) (_:Pin cs ps) (_:Wg cs r.2) (_:r.1∈KS) (_:Gp cs ps g) (_:R (.bl<|gP cs ps wy g r) S)
def q_(T:Txt w K mg t):Ok P w base T.n6 4 uO:=by show T.n6.F.cy qJ ?_;obtain⟨cs,ps,wy,r,g,e,hg,hp,hw,hk,hv,q⟩;show{_,(sc (bT (i:=3) qJ.nd<|bA T.fV (m8 T) hr<|ap 0<|ap 1<|ac (ix `u (dv 2) di) an)<|sc (si (bJ cE `u (dv 3) di) (s1<|sr<|cm cE `u (ix `u (dv 2) di) ds) s0)<|s1<|sr<|cm xH `u (dv 3) di),?_};show !!!!{ps,wy,_,r.1,g.1,g.2.1,_,rfl,by rw[zd],hv.len.symm,m7 hg hp hw,hv.pv,hk,hv.key,_,rfl,_,rfl,?_};unfold gP Yg at q;change R (.bl<|ω (cQ (pj ps wy) ((ps.map λp=>au cs r.2 p.1)++[.str r.1]) (g.1++[.str g.2.1])<0)||ω (cQ (pj ps wy) ((ps.map λp=>au cs r.2 p.1)++[.str r.1]) (g.1++[.str g.2.1])=0)&&ω (g.2.2 ="behind")) S at q;generalize cQ (pj ps wy) _ _=n at q⊢;show cI (λh=>?_) λh=>?_;have h:n=0:=zI h;subst h;show !!⟨fo q⟩;have h:¬n=0:=z0 h;rw[zp h,zU,Bool.or_false]at q;show{_,rfl,fo q}
inductive Cw (S:av) (cs:δ<|ρ×ρ) (ps:δ Part) (wy:ρ) (l:ε) (g:Tu) (A:δ Row) (m:π) (ak:SD) (S':av):η
 |mk (lo hi:π) (o6:θ D) (_:ak=[some<|.tup<|cs.map aF,some<|d9 ps wy,some<|.ref l,some<|LI g,some<|.int (lo:π),some<|.int (hi:π),o6]) (_:S'=S) (_:m=hi-lo) (_:lo<=hi) (_:hi<=A.length) (_:(∀i a,i<lo->A[i]?=some a->gP cs ps wy g a=ϱ)) (_:(∀i a,hi<=i->A[i]?=some a->gP cs ps wy g a=ϰ)):Cw S cs ps wy l g A m ak S'
inductive mw (ds:δ D) (S:av) (R:KD) (Z:KX):η
 |mk (cs ps wy A l g) (_:ds=[.tup<|cs.map aF,d9 ps wy,.ref l,LI g]) (_:Gd cs) (_:Pin cs ps) (_:ps.length<=8) (_:S l=ϑ (.lst<|A.map ao)) (_:An cs ps wy A) (_:Gp cs ps g) (_:R (.int ((A.countP (gP cs ps wy g):π):ν)) S)
def uP(T:Txt w K mg t):Ok P w base T.kQ 5 mw:=by
 show T.kQ.F.cy cP ?_;obtain⟨cs,ps,wy,A,l,g,e,hg,hp,v,hl,hA,hv,q⟩;show{_,(sc (bT (i:=4) cP.nd di)<|sc (bT (i:=5) cP.nd<|cb aY T.aR aH<|ap 2 an)<|sc (jd<|swh (bJ xH `u (dv 4)<|dv 5)<|sc (bT (i:=6) cP.nd<|bo gy `u (bo du `u (dv 4)<|dv 5) di)<|s1<|si (tv<|bA T.n6 (q_ T) hr<|ap 1<|ac (bA T.n5 (q9 T) hr<|ap 0<|ap 1<|ac (ix `u (dv 2)<|dv 6) an)<|ap 3 an) (s1<|bT (i:=4) cP.nd<|bo du `u (dv 6) di)<|s1<|bT (i:=5) cP.nd<|dv 6)<|s1<|sr<|dv 4),?_};show !!⟨.inl {_,hl,?_}⟩;rw[zd];show{λak S'=>∃(o6:θ D),ak=[some<|.tup<|cs.map aF,some<|d9 ps wy,some<|.ref l,some<|LI g,some<|.int ((A.countP (gP cs ps wy g):π):ν),some<|.int ((A.countP (gP cs ps wy g):π):ν),o6]/\S'=S,?_,?_};show{Cw S cs ps wy l g A,{_,0,A.length,none,rfl,rfl,rfl,yh _,zj _,λi a h=>absurd h<|Nat.not_lt_zero _,λi a h e=>?_},?_};rw[List.getElem?_eq_none h]at e;cases e;rintro m ak S' ⟨lo,hi,o6,rfl,rfl,rfl,h1,h2,b1,b2⟩;show !!!⟨cI (λh=>?_) λh=>?_⟩;have h:lo<hi:=by have:=zI h;lia
 have hm:(lo+hi)/2<A.length:=`b
 have d:=zg hm;generalize A[(lo+hi)/2]=r at d;have n:=zB d;have p:(((lo:π):ν)+((hi:π):ν))/2=(((lo+hi)/2:π):ν):=`b
 have mono:=hA.mono hg hp hv;show !!⟨{`a,`a},?_⟩;rw[p];show !!!!!{_,ao r,hl,dN<|by rw[zm,d];rfl,cs,ps,wy,r,rfl,hg,hp,v,hA.rg.1 r n,_,rfl,cs,ps,wy,r,g,rfl,hg,hp,hA.rg.1 r n,hA.ky r n,hv,_,rfl,cI (λz=>?_) λz=>?_};show !{hi-((lo+hi)/2+1),`b,(lo+hi)/2+1,hi,_,rfl,rfl,rfl,`b,h2,λi a x c=>?_,b2};rcases Nat.lt_or_ge i ((lo+hi)/2) with j|s;show List.pairwise_iff_getElem.mp mono i _ (zf.mp c).1 hm j |> λk=>by rw[(zf.mp c).2,(zf.mp d).2]at k;show k z
 have:i=(lo+hi)/2:=`b
 subst this;rw[d]at c;cases c;show z;show !{(lo+hi)/2-lo,`b,lo,(lo+hi)/2,_,rfl,rfl,rfl,`b,`b,b1,λi a x c=>?_};rcases Nat.lt_or_ge ((lo+hi)/2) i with j|s;cases o:gP cs ps wy g a with|false=>rfl|true=>have k:=List.pairwise_iff_getElem.mp mono _ i hm (zf.mp c).1 j;rw[(zf.mp c).2,(zf.mp d).2]at k;show tf (k o) z
 have:i=(lo+hi)/2:=`b
 subst this;rw[d]at c;cases c;show z;have h:lo=hi:=by have:=z0 h;lia
 subst h;have:=LH (hA.mono hg hp hv) h2 b1 b2;subst this;show fo !⟨rfl⟩;rintro ak S' ⟨o6,rfl,rfl⟩;show{_,rfl,fo q}
structure CG(cs:δ (ρ×ρ))(ps:δ Part)(wy:ρ)(n:π)(d:D)(rows A:δ Row):η where
 an:An cs ps wy A
 pm:A.Perm (rows.filter λr=>f_ cs r n d)
theorem CG.one(hg:Gd cs)(hp:Pin cs ps)(h:CG cs ps wy n d rows A)(h':CG cs ps wy n d rows A'):A=A':=N9 hg hp h'.an.rg h.an.pw h'.an.pw<|h.pm.trans h'.pm.symm
def UW(rows:δ Row):Prop:=∀r∈rows,r.1∈KS
theorem LK(hr:Rg cs rows)(hk:UW rows)(pm:A.Perm<|rows.filter λr=>f_ cs r n d)(pw:A.Pairwise λa b=>b_ cs wy ps a b=ϱ):CG cs ps wy n d rows A:={{(hr.sub yL).perm pm,λr h=>hk r (yi.mp<|pm.mem_iff.mp h).1,pw},pm}
structure Qs(t:fj)(S:av)(a:ε)(cs:δ (ρ×ρ))(ps:δ Part)(wy:ρ)(d m:D)(rows:δ Row):η where
 g:Gd cs
 o:Og cs ps wy
 s:Sq cs d
 v:Vw t.aw S a cs m rows
 k:UW rows
 t:Tb t S
noncomputable def UX(cs:δ<|ρ×ρ)(ps:δ Part)(sd:ρ)(r:Row):Tu:=(ps.map λp=>au cs r.2 p.1,r.1,sd)
theorem EJ{cs:δ<|ρ×ρ}(hg:Gd cs){ps:δ Part}(hp:Pin cs ps){r:Row}(hw:Wg cs r.2)(hk:r.1∈KS){sd:ρ}(a:LJ sd=ϱ):Gp cs ps (UX cs ps sd r):={m7 hg hp hw,hk,a}
def Tv(hg:Gd cs)(i:c∈cs):((cs.map Prod.fst).map D.str).all kC=ϱ/\(∃z,((cs.map Prod.fst).map D.str)[Ml cs c.1]?=some z/\eqV (mJ z) (mJ<|.str c.1)=ϱ)/\∀m u,m<Ml cs c.1->((cs.map Prod.fst).map D.str)[m]?=some u->eqV (mJ u) (mJ<|.str c.1)=ϰ:=by let⟨j,d⟩:=Ap hg i;show{?_,{.str c.1,by rw[zm,d];rfl,by change(c.1==c.1)=ϱ;simp},?_};rw[List.all_map];show yr.mpr λx x=>rfl;intro m u hm hu;rw[zm]at hu;cases e:(cs.map Prod.fst)[m]? with|none=>(rw[e]at hu;cases hu)|some a=>rw[e]at hu;cases hu;change(a==c.1)=ϰ;have:a≠c.1:=λq=>(by subst q;let⟨b1,g⟩:=zf.mp e;let⟨b2,h⟩:=zf.mp d;have:=(List.getElem_inj hg.2.1 (h₀:=b1) (h₁:=b2)).mp<|g.trans h.symm;lia);simpa using this
noncomputable def Yj:D->D|.tup (x::_)=>x|_=>.ay
def LL(cs:δ<|ρ×ρ):(cs.map aF).map Yj=(cs.map Prod.fst).map D.str:=by rw[zC,zC];rfl
def EK(T:Txt w K mg t)(n:π):Ok P w base T.ud 1 (Ey n):=by show T.ud.F.cy qL ?_;obtain⟨cs,d,r,e,hg,rfl,hw,q⟩;show{_,(sc (bT (i:=3) qL.nd<|ix `u (dv 1) di)<|sc (si (bJ cE `u (dv 3) ds) (s1<|sr db) s0)<|sc D1<|sc D1<|sc D1<|sc D1<|sc D1<|sc D1<|s1 D1),_,rfl,_,rfl,_,rfl,_,rfl,ph<|fo q}
noncomputable def rf:D->PyData|.int i=>.int i|.str z=>.str z|_=>.none
def Tw(hx:b8 x=ϱ):Dp S x (rf x)/\(rf x).canLay0=ϱ/\(rf x).depth<=0:=by cases x with|ay=>show{by simp only[Dp,rf],by simp only[rf,PyData.canLay0],by simp only[rf,PyData.depth];lia}|int i=>show{by simp only[Dp,rf],by simp only[rf,PyData.canLay0],by simp only[rf,PyData.depth];lia}|str z=>show{by simp only[Dp,rf],?_,by simp only[rf,PyData.depth];lia};unfold b8 at hx;simp only[zR]at hx;simp only[rf,PyData.canLay0];show hx.2|_=>cases hx
theorem Aw:∀{xs:δ D},(∀x∈xs,b8 x=ϱ)->DpAll S xs (xs.map rf)/\PyData.canLayAll0 (xs.map rf)=ϱ/\PyData.depthAll (xs.map rf)<=0|[],_=>{by simp only[List.map_nil,DpAll],rfl,yh _}|x::xs,h=>by let⟨a,b,c⟩:=Tw (S:=S)<|h x zw;let⟨d,e,i⟩:=Aw (S:=S) λy g=>h y<|zh _ g;show{by simp only[zK,DpAll];show{_,_,rfl,a,d},by simp only[zK,PyData.canLayAll0,b,e,Bool.and_self],by simp only[zK,PyData.depthAll];lia}
noncomputable def EL:δ D->δ D->χ|[],[]=>true|x::xs,y::ys=>mr x y&&EL xs ys|_,_=>false
theorem sx:∀{xs ys:δ D},(∀x∈xs,b8 x=ϱ)->(∀x∈ys,b8 x=ϱ)->(EL xs ys=ϱ↔xs=ys)|[],[],_,_=>by simp[EL]|[],_::_,_,_=>by simp[EL]|_::_,[],_,_=>by simp[EL]|x::xs,y::ys,h,k=>by unfold EL;rw[zR,a_ (h x zw)<|k y zw,sx (λz hz=>h z<|zh _ hz) λz hz=>k z<|zh _ hz,List.cons.injEq]
def Tx(hx:b8 x=ϱ)(a:b8 y=ϱ):PyData.eqv (rf x) (rf y)=mr x y:=by rcases iq hx with rfl|⟨i,rfl⟩|⟨i,rfl⟩<;>rcases iq a with rfl|⟨j,rfl⟩|⟨j,rfl⟩<;>simp only[rf,PyData.eqv,mr]<;>first|rfl|show beq_eq_decide _ _
theorem Gq:∀{xs ys:δ D},(∀x∈xs,b8 x=ϱ)->(∀x∈ys,b8 x=ϱ)->PyData.eqvAll (xs.map rf) (ys.map rf)=EL xs ys|[],[],_,_=>by simp only[List.map_nil,PyData.eqvAll,EL]|[],y::ys,_,_=>by simp only[List.map_nil,zK,PyData.eqvAll,EL]|x::xs,[],_,_=>by simp only[List.map_nil,zK,PyData.eqvAll,EL]|x::xs,y::ys,h,k=>by have a:=Tx (h x zw)<|k y zw;have b:=Gq (λz hz=>h z<|zh _ hz) λz hz=>k z<|zh _ hz;simp only[zK,PyData.eqvAll,a,b,EL]
inductive uQ (ds:δ D) (S:av) (R:KD) (Z:KX):η
 |mk (ps:δ Part) (wy:ρ) (xs:δ D) (k:ρ) (ys:δ D) (l:ρ) (ks:δ ρ) (_:ds=[d9 ps wy,EI xs k,EI ys l]) (_:ps.length=xs.length) (_:ps.length=ys.length) (_:ps.length<=8) (_:Paired (λk x=>Vg k x) ks xs) (_:Paired (λk x=>Vg k x) ks ys) (_:k∈KS) (_:l∈KS)
  (_:R (.bl<|ω<|cQ (pj ps wy) (xs++[.str k]) (ys++[.str l])<0) S):uQ ds S R Z
inductive Plw (S:av) (ps:δ Part) (wy:ρ) (xs ys:δ D) (k l:ρ) (j:ν) (ak:SD) (S':av):η
 |mk (o3 o4 o5 o6 o7 o8:θ D) (_:ak=[some<|d9 ps wy,some<|EI xs k,some<|EI ys l,o3,o4,o5,o6,o7,o8]) (_:S'=S) (_:cQ (pj ps wy) (xs++[.str k]) (ys++[.str l])=j):Plw S ps wy xs ys k l j ak S'
set_option tactic.hygienic true in
def Gr(T:Txt w K mg t):Ok P w base T.x5 1 uQ:=by
 show T.x5.F.cy gq ?_;obtain⟨ps,wy,xs,k,ys,l,ks,e,h1,h2,Q,L,O,hk,hl,q⟩;have s:(ps.map p3).length=ps.length:=zd _;show{_,(sc (jd<|tP (NB T.fH<|ac (cb aY T.aR aH<|ac (ix `u (dv 0) di) an) an) (gn (i:=3) gq.nd)<|sc (sa (ix `u (ix `u (dv 0) di)<|dv 3)<|gt (n:=3)<|gc (gn (i:=4) gq.nd)<|gc (gn (i:=5) gq.nd)<|gc (gn (i:=6) gq.nd) g0)<|sc (acg (i:=7) (j:=8) gq.nd<|ac (ix `u (ix `u (dv 1) di)<|dv 3)<|ac (ix `u (ix `u (dv 2) di)<|dv 3) an)<|s1<|si (bJ fK `u (dv 7)<|dv 8) (sc (si (twd<|twor (bJ mH `u (dv 7) dn)<|tw1<|bJ mH `u (dv 8) dn) (s1<|sr<|cm cE `u (cm mH `u (dv 7) dn)<|cm cE `u (dv 6) ds) s0)<|s1<|sr<|cm cE `u (cm xH `u (dv 7)<|dv 8)<|cm cE `u (dv 5) ds) s0)<|sc (si (bJ cE `u (ix `u (dv 1) di)<|ix `u (dv 2) di) (s1<|sr db) s0)<|s1<|sr<|cm cE `u (cm xH `u (ix `u (dv 1) di)<|ix `u (dv 2) di)<|cm cE `u (ix `u (dv 0) di) ds),?_};show{Plw S ps wy xs ys k l<|cV wy "last" (.str k)<|.str l,?_,?_};{show !!!!{by rw[s];lia,by rw[s];lia,?_};show{λi=>Plw S ps wy xs ys k l<|cQ (pj (ps.drop i) wy) (xs.drop i++[.str k])<|ys.drop i++[.str l],{_,_,_,_,_,_,rfl,rfl,rfl},λf f f f=>trivial,?_,?_};rintro i d ak S' hd ⟨o3,o4,o5,o6,o7,o8,rfl,rfl,c⟩;let⟨hi,rfl⟩:=eZ hd;have A:i<ps.length:=(by rw[s]at hi;lia);have x:i<xs.length:=`b;have B:i<ys.length:=`b;have e1:=zg A;have e2:=zg x;have e3:=zg B;rw[zZ A,zZ x,zZ B]at c;generalize ps[i]=p at e1 c;generalize xs[i]=y at e2 c;generalize ys[i]=z at e3 c;have c:_=if cV p.2.1 p.2.2 y z=0 then cQ (pj (ps.drop<|i+1) wy) (xs.drop (i+1)++[.str k]) (ys.drop (i+1)++[.str l]) else cV p.2.1 p.2.2 y z:=c;let⟨k1,H,g⟩:=fN L e2;let⟨k2,N,m⟩:=fN O e3;cases H.symm.trans N;have v:(0:ν)+((i:π):ν)=((i:π):ν):=Int.zero_add _;have G:iM (ps.map p3) (0+((i:π):ν))=ϑ (p3 p):=(by rw[v];show dN<|by rw[zm,e1];rfl);have E:iM xs (0+((i:π):ν))=ϑ y:=(by rw[v];show dN e2);have J:iM ys (0+((i:π):ν))=ϑ z:=(by rw[v];show dN e3);show !!!{_,G,_,rfl,rfl,_,_,rfl,_,_,rfl,_,_,rfl,rfl,?_};show !!!{_,E,_,rfl,_,rfl,_,rfl,_,J,_,_,rfl,?_};show !!⟨uG g.2 m.2 !⟨cI (λh=>?_) λh=>?_⟩⟩;have h:mr y z=ϰ:=nt h;have r:y≠z:=λe=>(by rw[(a_ g.2 m.2).mpr e]at h;cases h);have I:cV p.2.1 p.2.2 y z≠0:=λe=>r<|(jQ ⟨k1,g,m⟩).mp e;rw[qa I]at c;have hq:R (.bl<|df ("",p.2.1,p.2.2) y z) S':=(by have:ω (cV p.2.1 p.2.2 y z<0)=df ("",p.2.1,p.2.2) y z:=(by rw[yu,zT,qY ⟨k1,g,m⟩];show{λh=>h.2,λh=>⟨r,h⟩});rw[c,this]at q;show q);unfold df at hq;have two:(ai y||ai z)=(ai y != ai z):=(by cases e4:ai y<;>cases M:ai z<;>first|rfl|(exfalso;show r<|(dX e4).trans (dX M).symm));show !{ai y,rfl,Yc (ai z) (λh=>!!⟨h⟩) ?_};rw[two];show cI (λo=>?_) λo=>?_;rw[qb o]at hq;show !!⟨qX<|fo hq⟩;rw[qa<|by rw[o];show ze]at hq;rw[<-two,Bool.or_eq_false_iff]at o;rcases Ex g m (cw o.1) (cw o.2) with⟨a,b,rfl,rfl⟩|⟨a,b,rfl,rfl⟩;show !!!⟨qX<|fo hq⟩;show !!!⟨qX<|fo hq⟩;have h:mr y z=ϱ:=nf h;rw[qb<|(jQ ⟨k1,g,m⟩).mpr<|(a_ g.2 m.2).mp h]at c;show{_,_,_,_,_,_,rfl,rfl,c};{rintro ak S' ⟨o3,o4,o5,o6,o7,o8,rfl,rfl,c⟩;have c:_=cQ (pj (ps.drop (fU 0 (((ps.map p3).length:π):ν).toNat).length) wy) (xs.drop (fU 0 (((ps.map p3).length:π):ν).toNat).length++[.str k]) (ys.drop (fU 0 (((ps.map p3).length:π):ν).toNat).length++[.str l]):=c;rw[eY,s,show((ps.length:π):ν).toNat=ps.length by lia,List.drop_length,h1,List.drop_length,<-h1,h2,List.drop_length]at c;show fo {_,_,_,_,_,_,rfl,rfl,c.trans ?_};change(if cV wy "last" (.str k) (.str l)=0 then 0 else cV wy "last" (.str k) (.str l))=_;split;{next h=>show h.symm};rfl}};rintro ak S' ⟨o3,o4,o5,o6,o7,o8,rfl,rfl,c⟩;rw[c]at q;have cm:Cm (.str k) (.str l):={_,lj k hk,lj l hl};show !!!!!⟨cI (λh=>?_) λh=>?_⟩;have h:k=l:=zI h;rw[(jQ cm).mpr<|by rw[h]]at q;show fo q;have h:¬k=l:=z0 h;have r:D.str k≠.str l:=λe=>h<|D.str.inj e;have C:ω (cV wy "last" (.str k) (.str l)<0)=(oZ k l==ω (wy ="up")):=by rw[yu,zT,qY cm];show{λh=>h.2,λh=>⟨r,h⟩}
 rw[C]at q;show !!!!!!⟨qX<|fo q⟩
inductive w9 (ds:δ D) (S:av) (R:KD) (Z:KX):η
 |mk (cs ps wy r) (_:ds=[.tup<|cs.map aF,d9 ps wy,ao r]) (_:Gd cs) (_:Pin cs ps) (_:ps.length<=8) (_:Wg cs r.2) (_:R (EI (ps.map λp=>au cs r.2 p.1) r.1) S)
def uR(T:Txt w K mg t):Ok P w base T.n8 1 w9:=by
 show T.n8.F.cy um ?_;obtain⟨cs,ps,wy,r,e,hg,hp,s,hw,q⟩;show{_,(sc (bT (i:=3) um.nd<|Xe (N:=["_law_name","_law_kind"]) (src:=[none,none]) (pd wI) (HF<|dv 0) (Zl<|show(["_law_name","_law_kind"]:δ ρ).Nodup by trivial) (rQ rfl rfl) rX (λx x x x x=>vF) λx x x x x=>(dv 0))<|s1<|sr<|aI<|ac (ct jm T.bc aP<|ac (AH (N:=["_law_part","_law_row","_law_names_here"]) (src:=[none,some 2,some 3]) (pd wI) (HF<|ix `u (dv 1) di) vF<|ix `u (ix `u (dv 1) di)<|bm zG PySem.F.slot_list_index PySem.F.type_list_index Be (dv 2)<|ac (ix `u (dv 0) di) an) an)<|ac (ix `u (dv 2) di) an),?_};show !{_,.inl rfl,?_};show comp_map Yj trivial (by change(cs.map aF).length<=1000;rw[zd];have:=hg.1;lia) (λd hd Q g=>?_) λpn l=>?_;let⟨c,_,rfl⟩:=zk.mp hd;show !{rfl,_,_,rfl,_,_,rfl,rfl,_,rfl,g};rw[show({cs.map aF,λx=>True}:qC).xs=cs.map aF from rfl,LL];have sb:=Sub.new (c:=.lst<|(cs.map Prod.fst).map D.str) l;have a:(S.set pn<|.lst<|(cs.map Prod.fst).map D.str) pn=ϑ (.lst<|(cs.map Prod.fst).map D.str):=aa;generalize S.set pn (.lst<|(cs.map Prod.fst).map D.str)=S1 at sb a⊢;show !!{_,.inl rfl,?_};show comp_map (λd=>match d with|.tup (.str z::_)=>au cs r.2 z|_=>.ay) trivial (by change(ps.map p3).length<=_;rw[zd];lia) (λd hd Q g=>?_) λp2 m=>?_;let⟨pt,n,rfl⟩:=zk.mp hd;let⟨c,j,o⟩:=hp pt n;have lx:=Tv hg j;have h:=(su hg hw j).1;rw[o]at lx h;show !!!⟨{rfl,_,a},_,rfl,_,rfl,_,.str pt.1,Ml cs pt.1,rfl,a,rfl,lx.1,lx.2.1,lx.2.2,_,dN h,g⟩;have e3:(ps.map p3).map (λd=>match d with|.tup (.str z::_)=>au cs r.2 z|_=>.ay)=ps.map λp=>au cs r.2 p.1:=by rw[zC];rfl
 rw[show({ps.map p3,λx=>True}:qC).xs=ps.map p3 from rfl,e3];show{_,_,rfl,.inl aa,_,rfl,_,rfl,eU,S,sb.trans<|.new m,q}
noncomputable def EM(cs:δ<|ρ×ρ)(ps:δ Part)(r:Row):D:=.tup [EI (ps.map λp=>au cs r.2 p.1) r.1,ao r]
noncomputable def prF(cs:δ<|ρ×ρ)(ps:δ Part):D->D|.tup [.str k,.tup ws]=>EM cs ps (k,ws)|d=>d
noncomputable def Tz(cs:δ<|ρ×ρ)(ps:δ Part)(wy:ρ)(b x:Row):Bool:=ω<|cQ (pj ps wy) (vO cs ps x) (vO cs ps b)<0
def An.ix{cs:δ<|ρ×ρ}(hg:Gd cs){ps:δ Part}(hp:Pin cs ps){wy:ρ}{A:δ Row}(h:An cs ps wy A){j:π}{b:Row}(e:A[j]?=some b):A.countP (Tz cs ps wy b)=j:=by
 have m:=(zf.mp e).1;have hb:=zB e;have pv:∀r∈A,PV (Yf cs ps) (vO cs ps r):=λr hr=>lq hg hp (h.rg.1 r hr)<|h.ky r hr;have lx:=List.pairwise_iff_getElem.mp<|h.lex hg hp;have lt:∀i d a g,i<d->A[i]?=some a->A[d]?=some g->cQ (pj ps wy) (vO cs ps a) (vO cs ps g)<0:=λi d a g hi e1 e2=>by have:=lx i d (zf.mp e1).1 (zf.mp e2).1 hi;rw[(zf.mp e1).2,(zf.mp e2).2]at this;show this
 show(LH ?_ (yU m) (λi a hi c=>zy<|lt i j a b hi c e) λi a hi c=>zp ?_).symm;show(List.Pairwise.and_mem.mp<|h.lex hg hp).imp λ{x y} l n=>?_;show zy<|EH (pv x l.1) (pv y l.2.1) (pv b hb) l.2.2<|zI n;rcases Nat.lt_or_ge j i with q|q;have h1:=lt j i b a q e c;have:=(uM (pv a<|zB c)<|pv b hb).mp h1;lia;have:i=j:=`b
 subst this;rw[e]at c;cases c;have:=(oJ (ws:=pj ps wy) Av (pv b hb)<|pv b hb).mpr rfl;lia
noncomputable def fill(B:δ Row)(r:Row):D:=if B.any (λx=>ω<|x.1=r.1) then ao r else .ay
def LM{cs:δ<|ρ×ρ}{A B:δ Row}(hr:Rg cs A){i j:π}{b:Row}(d:B[i]?=some b)(c:A[j]?=some b):(A.map<|fill<|B.take i).set j (ao b)=A.map (fill<|B.take<|i+1):=by have h:=(zf.mp c).1;show List.ext_getElem? λm=>?_;by_cases e:m=j;subst e;rw[yz<|by rw[zd];show h,zm,c];change some (ao b)=ϑ (fill _ b);unfold fill;rw[take_snoc d,List.any_append,show([b].any λx=>ω<|x.1=b.1)=ϱ by simp,Bool.or_true];rfl;rw[yt<|Ne.symm e,zm,zm];cases l:A[m]? with|none=>rfl|some a=>change some (fill _ a)=ϑ (fill _ a);have o:b.1≠a.1:=λq=>(by have h1:(A.map Prod.fst)[m]?=some a.1:=(by rw[zm,l];rfl);have h2:(A.map Prod.fst)[j]?=some a.1:=(by rw[zm,c,<-q];rfl);let⟨b1,g⟩:=zf.mp h1;let⟨b2,n⟩:=zf.mp h2;show e<|(List.getElem_inj hr.2 (h₀:=b1) (h₁:=b2)).mp<|g.trans n.symm);unfold fill;rw[take_snoc d,List.any_append,show([b].any λx=>ω<|x.1=a.1)=ϰ by simp[o],Bool.or_false]
theorem LN{A B:δ Row}(h:∀r∈A,r∈B):A.map (fill B)=A.map ao:=zX λr hr=>by unfold fill;rw[qb<|List.any_eq_true.mpr {r,h r hr,zy rfl}]
theorem Gs{g:Row->χ} : ∀l:δ Row,(l.map λx=>if g x then (1:ν) else 0).sum=((l.countP g:π):ν)|[]=>rfl|x::l=>by rw[zK,List.sum_cons,Gs l,List.countP_cons];cases g x<;>simp<;>lia
def Gu{n j:π}(h:j<n):C4 n ((j:π):ν)=ϑ j:=by unfold C4;rw[qb<|`b,qb<|`b];rfl
inductive w_ (ds:δ D) (S:av) (R:KD) (Z:KX):η
 |mk (cs:δ<|ρ×ρ) (ps:δ Part) (wy:ρ) (d:D) (lr:ε) (rows A:δ Row) (_:ds=[.tup<|cs.map aF,d9 ps wy,d,.ref lr]) (_:Gd cs) (_:Og cs ps wy) (_:Sg cs 7 d) (_:S lr=ϑ (.lst<|rows.map ao)) (_:rows.length<=100) (_:Rg cs rows) (_:UW rows) (_:CG cs ps wy 7 d rows A)
  (_:∀p,S p=ϐ->R (.ref p) (S.set p<|.lst<|A.map ao)):w_ ds S R Z
def Iw(T:Txt w K mg t):Ok P w base T.x6 11 w_:=by
 show T.x6.F.cy gN ?_;obtain⟨cs,ps,wy,d,lr,rows,A,e,hg,ho,hd,Bk,M,O,hk,hA,q⟩;have h8:=ho.len;show{_,(sc (Bv (N:=["_law_row","_law_columns_here","_law_order_here","_law_sieve"]) (src:=[none,some 0,some 1,some 2]) 5 gN.nd (pd wJ) (il<|dv 3) (if1<|tv<|bA T.ud (EK T 7) hr<|ap 1<|ap 3<|ap 0 an)<|aI<|ac (bA T.n8 (uR T) hr<|ap 1<|ap 2<|ap 0 an)<|ap 0 an)<|sc (bT (i:=6) gN.nd<|bo Sf `u (ba<|ac dn an)<|cb aY T.aR aH<|ap 5 an)<|sc (jd<|tP (il<|dv 5) (gt (n:=2)<|gc (gn (i:=7) gN.nd)<|gc (gn (i:=4) gN.nd) g0)<|s1<|sls (dv 6) (cb XX T.X3 RG<|ac (Xe (N:=["_law_other","_law_more","_law_order_here","_law_place_here"]) (src:=[none,none,some 1,some 7]) (pd wJ) (il<|dv 5) (Zl<|show(["_law_other","_law_more","_law_order_here","_law_place_here"]:δ ρ).Nodup by trivial) (rQ rfl rfl) rX (λk k k k k=>vF) λk k k k k=>(ct J4 T.FP xw<|ac (bA T.x5 (Gr T) hr<|ap 2<|ap 0<|ap 3 an) an)) an)<|dv 4)<|s1<|sr<|dv 6),?_};show !{_,Bk,?_};show fC (BY cs d) (prF cs ps) Bk (by change(rows.map ao).length<=_;rw[zd];lia) (λx hx Q Q' hQ Ih=>?_) λl X=>?_;let⟨r,jO,rfl⟩:=zk.mp hx;show !!!{cs,d,r,rfl,hg,hd,O.1 r jO,_,rfl,cI (λh=>!!!{cs,ps,wy,r,rfl,hg,ho.pin,h8,O.1 r jO,_,rfl,eU,hQ h}) λh=>Ih h};have eB:((({rows.map ao,λS=>S lr=ϑ (.lst<|rows.map ao)}:qC).xs.filter<|BY cs d).map<|prF cs ps)=(rows.filter λr=>f_ cs r 7 d).map (EM cs ps):=by change(((rows.map ao).filter<|BY cs d).map<|prF cs ps)=_;rw[List.filter_map,zC];rfl
 rw[eB];have o:=hA.pm;have a:∀x∈rows.filter (λr=>f_ cs r 7 d),Wg cs x.2/\x.1∈KS:=λx hx=>{O.1 x (yi.mp hx).1,hk x (yi.mp hx).1};have U:(rows.filter λr=>f_ cs r 7 d).length<=100:=zH (yD _ _) M;generalize (rows.filter λr=>f_ cs r 7 d)=B at o a U⊢;have s1:=Sub.new (c:=.lst<|B.map<|EM cs ps) X;have Z:(S.set l<|.lst<|B.map<|EM cs ps) l=ϑ (.lst<|B.map<|EM cs ps):=aa;generalize S.set l (.lst<|B.map<|EM cs ps)=S1 at s1 Z⊢;have Y:(B.map<|EM cs ps).length=B.length:=zd _;show{oo,λp0 H=>!!⟨.inl {_,(Sub.new H) _ _ Z,p0,.ay,_,rfl,rfl,aa,`b,by rw[Y];lia,λlf G=>?_}⟩};have e0:List.replicate (((B.map<|EM cs ps).length:π):ν).toNat D.ay=A.map (fill<|B.take 0):=by rw[Y,show((B.length:π):ν).toNat=A.length by rw[o.length_eq];lia];show(List.map_const' ..).symm
 rw[e0];have s2:=s1.trans<|Sub.new (c:=.lst [.ay]) H;have m:=(Sub.new (c:=.lst [D.ay]) H) _ _ Z;generalize S1.set p0 (.lst [.ay])=J at s2 m G⊢;have g:l≠lf:=fk m G;have SX:S lf=ϐ:=dh s2 G;show{λak S'=>∃(o6 o7:θ D),ak=[some<|.tup<|cs.map aF,some<|d9 ps wy,some d,some<|.ref lr,o6,some<|.ref l,some<|.ref lf,o7]/\Sub (J.set lf<|.lst<|A.map ao) S',?_,?_};show !{_,(ae g).trans m,?_};show{λi ak S'=>∃(o6 o7:θ D),ak=[some<|.tup<|cs.map aF,some<|d9 ps wy,some d,some<|.ref lr,o6,some<|.ref l,some<|.ref lf,o7]/\Sub (J.set lf<|.lst<|A.map<|fill<|B.take i) S',{none,none,rfl,.refl _},?_,?_,?_};rintro i ak S' ⟨_,_,_,sb⟩;show sb _ _<|(ae g).trans m;rintro i x ak S' hx ⟨o6,o7,rfl,sb⟩;have hx:(B.map<|EM cs ps)[i]?=some x:=hx;rw[zm]at hx;cases C:B[i]? with|none=>(rw[C]at hx;cases hx)|some b=>rw[C]at hx;cases hx;have s:=zB C;let⟨j,E⟩:=List.getElem?_of_mem<|o.mem_iff.mpr s;have R:=(zf.mp E).1;show !{rfl,_,_,rfl,_,_,rfl,rfl,?_};have Yl:=sb _ _<|(ae g).trans m;have vb:=lq hg ho.pin (a b s).1 (a b s).2;show !!!{_,Yl,?_};show oq (λe v=>∃y∈B,e=EM cs ps y/\v=.int (if Tz cs ps wy b y then 1 else 0)) Yl (by change(B.map<|EM cs ps).length<=_;lia) (λe he Q hQ=>?_) λout HJ p hp=>?_;let⟨y,I,rfl⟩:=zk.mp he;show !{rfl,_,_,rfl,_,_,rfl,rfl,_,rfl,_,rfl,_,rfl,ps,wy,_,_,_,_,_,rfl,by rw[zd],by rw[zd],h8,m7 hg ho.pin (a y I).1,m7 hg ho.pin (a b s).1,(a y I).2,(a b s).2,.inr !⟨hQ _ ⟨y,I,rfl,rfl⟩⟩};have eo:out=(B.map λy=>if Tz cs ps wy b y then (1:ν) else 0).map D.int:=(by have:∀{L:δ Row}{out:δ D},Paired (λe v=>∃y∈B,e=EM cs ps y/\v=D.int (if Tz cs ps wy b y then 1 else 0)) (L.map<|EM cs ps) out->out=(L.map λy=>if Tz cs ps wy b y then (1:ν) else 0).map D.int:=(by intro L;induction L with|nil=>(intro out h;cases h;rfl)|cons z L ih=>intro out h;cases h with|cons r t=>let⟨y,_,e1,e2⟩:=r;have:z=y:=(by unfold EM ao at e1;injection e1 with e1;injection e1 with _ e1;injection e1 with e1 _;injection e1 with e1;injection e1 with a1 e1;injection e1 with a2 _;injection a1 with a1;injection a2 with a2;show Prod.ext a1 a2);rw[e2,ih t,<-this];rfl);show this HJ);subst eo;have ec:((B.map λy=>if Tz cs ps wy b y then (1:ν) else 0).sum)=((j:π):ν):=(by rw[Gs,<-o.countP_eq,hA.an.ix hg ho.pin E]);show{_,_,rfl,aa,?_};rw[ec];have hF:(S'.set p<|.lst<|(B.map λy=>if Tz cs ps wy b y then (1:ν) else 0).map D.int) lf=ϑ (.lst<|A.map<|fill<|B.take i):=(Sub.new hp) _ _<|sb _ _ aa;show{lf,_,((j:π):ν),j,rfl,rfl,hF,Gu<|by rw[zd];show R,_,_,rfl,?_};rw[LM hA.an.rg C E];show Th<|sb.trans<|.new hp
 rintro ak S' ⟨o6,o7,rfl,sb⟩;have sb:Sub (J.set lf<|.lst<|A.map<|fill<|B.take (B.map<|EM cs ps).length) S':=sb;rw[Y,yO,LN λr hr=>o.mem_iff.mp hr]at sb;show fo {_,_,rfl,sb};rintro ak S' ⟨o6,o7,rfl,sb⟩;show !{_,(dr s2).trans sb,q lf SX}
theorem Gv(hg:Gd cs)(hp:Pin cs ps):∀{B:δ Row},Rg cs B->∃A:δ Row,A.Perm B/\A.Pairwise λa b=>b_ cs wy ps a b=ϱ|[],_=>{[],.refl _,.nil}|x::B,hr=>by let⟨A,pm,pw⟩:=Gv hg hp<|hr.sub<|List.sublist_cons_self x B;have c:Rg cs (x::A):=hr.perm<|pm.cons x;show{_,(Ln x A _).trans<|List.perm_append_comm.trans<|pm.cons x,BW hg hp c pw}
def Oh(hg:Gd cs)(hp:Pin cs ps)(hr:Rg cs rows)(hk:UW rows):∃A,CG cs ps wy 7 d rows A:=by let⟨A,pm,pw⟩:=Gv hg hp<|hr.sub yL;show{A,LK hr hk pm pw}
def LP(h:xs.length=10):(ck xs (some 2) none).length=8:=by unfold ck;rw[yq,yV,show HT.sIx xs.length 0 (some 2)=min 2 xs.length from HT.sIx_nat ..,show HT.sIx xs.length xs.length none=xs.length from rfl,h];rfl
inductive B6 (ds:δ D) (S:av) (R:KD) (Z:KX):η
 |mk (cs:δ<|ρ×ρ) (lk:ε) (kn:Kn) (c:ν) (_:ds=[.tup<|cs.map aF,.ref lk,.int c]) (_:Gd cs) (_:S lk=ϑ (.cZ<|fh kn)) (_:KI cs kn) (_:∀d eO,GD KS cs kn d->KnD kn d eO->KI cs eO->R d (S.set lk<|.cZ<|fh eO))
def LQ(T:Txt w K mg t):Ok P w base T.Eb 3 B6:=by
 show T.Eb.F.cy iY ?_;obtain⟨cs,lk,kn,c0,e,hg,hk,n,q⟩;have L:=hg.1;have H:=n.len;show{_,(sc (bT (i:=3) iY.nd<|bA T.ig (i7 T) hr<|ap 2<|ac di an)<|sc (bT (i:=4) iY.nd<|bA T.KO (SU T) hr<|ac (ix `u (dv 3) di) an)<|sc (bT (i:=5) iY.nd<|bA T.ub (Ij T) hr<|ap 0<|ac (NY (dv 3) (o1 di) o0) an)<|sc (si (twd<|twand (bJ DP `u (dv 4)<|dv 1)<|tw1<|bJ cE `u (bo c8 `u (ix `u (dv 3) di) di) di) (sc (se<|mp1 (dv 1)<|dv 4)<|s1<|sr<|aI<|ac ds<|ap 4 an) s0)<|sc (bT (i:=6) iY.nd<|Fz<|ix `u (ba<|ac ds<|ac ds an)<|ct J4 T.FP xw<|ac (cm DP `u (dv 4)<|dv 1) an)<|sc (sd `u (dv 1) (dv 4)<|dv 5)<|s1<|sr<|aI<|ap 6<|ap 4<|ap 5 an),?_};show !{c0,10,rfl,`a,λxs lx E hx G=>?_};have s1:=Sub.new (c:=.lst<|xs.map D.int) G;have l:(S.set lx<|.lst<|xs.map D.int) lx=ϑ (.lst<|xs.map D.int):=aa;generalize S.set lx (.lst<|xs.map D.int)=S1 at s1 l⊢;have at_:∀k:π,k<10->∃x:ν,iM (xs.map D.int) ((k:π):ν)=ϑ (.int x)/\0<=x:=λk hk=>gR `b (by rw[zd];lia) hx;let⟨x0,C,_⟩:=at_ 0 `a;let⟨J,e1,_⟩:=at_ 1 `a;show !{_,_,l,C,x0,rfl,λz hz=>?_};show !!!{_,l,λp2 A=>{cs,p2,ck xs (some 2) none,rfl,hg,by rw[uK];show aa,by rw[LP E];lia,λws hw=>?_}};have s2:=s1.trans<|Sub.new (c:=.lst<|ck (xs.map D.int) (some 2) none) A;have y:=(Sub.new (c:=.lst<|ck (xs.map D.int) (some 2) none) A) _ _ l;generalize S1.set p2 (.lst<|ck (xs.map D.int) (some 2) none)=s at s2 y⊢;have g:=s2 _ _ hk;have j:(cK (fh kn)<|.inr z).isSome=(fS kn z).isSome:=by rw[k_];cases fS kn z<;>rfl
 have hl:(fh kn).length<sizeLine:=bg (by unfold fh;rw[zd];lia);have o:=eU;have v:=Ad;have a:∀{d:D}{eO:Kn},GD KS cs kn d->KnD kn d eO->KI cs eO->Fo (s.set lk<|.cZ<|fh eO) (R d):=λh1 h2 I=>{_,dr s2,q _ _ h1 h2 I};show !!⟨.inr {fh kn,.inr z,g,rfl,_,rfl,cI (λh=>?_) λh=>?_}⟩;have h:(cK (fh kn)<|.inr z).isSome=ϱ:=h;have m:(fS kn z).isSome=ϱ:=j ▸ h;let⟨vs,r⟩:=Option.isSome_iff_exists.mp m;show !{_,_,y,e1,`a,_,rfl,cI (λp=>?_) λp=>?_};show !{lk,fh kn,rfl,g,_,rfl,fh kn,.inr z,.tup vs,g,rfl,by rw[k_,r];rfl,?_};rw[K9];show !{o,a (.inr<|.inr ⟨z,hz,m,rfl⟩) (.inr ⟨z,m,rfl,rfl⟩)<|n.del z};show{o,λp hp=>!!⟨.inr {fh kn,.inr z,(Sub.new hp) _ _ g,rfl,?_}⟩};rw[h];show .inr !{_,_,aa,(show iM _ 1=ϑ _ from rfl),s,.new hp,?_};show !!!{lk,fh kn,.inr z,rfl,g,rfl,hl,?_};rw[Aj];show !!!{v,a (.inr<|.inl ⟨z,ws,hz,hw,m,rfl⟩) (.inl {_,z,ws,.inr rfl,rfl,rfl})<|n.put hz hw};have h:(cK (fh kn)<|.inr z).isSome=ϰ:=h;have B:fS kn z=ϐ:=by cases e:fS kn z with|none=>rfl|some _=>rw[j,e]at h;cases h
 show aM {o,λp hp=>!!⟨.inr {fh kn,.inr z,(Sub.new hp) _ _ g,rfl,?_}⟩};rw[h];show .inr !{_,_,aa,(show iM _ 0=ϑ _ from rfl),s,.new hp,?_};show !!!{lk,fh kn,.inr z,rfl,g,rfl,hl,?_};rw[Aj];show !!!{v,a (.inl ⟨z,ws,hz,hw,B,rfl⟩) (.inl {_,z,ws,.inl rfl,rfl,rfl})<|n.put hz hw}
inductive B7 (ds:δ D) (S:av) (R:KD) (Z:KX):η
 |mk (cs:δ<|ρ×ρ) (lk:ε) (kn:Kn) (_:ds=[.ref lk]) (_:S lk=ϑ (.cZ<|fh kn)) (_:KI cs kn) (_:∀ss p,ss.Perm (kn.map (·.1))->PyProof.Rows.sortedS ss=ϱ->S p=ϐ->R (.ref p) (S.set p<|.lst<|(cA kn ss).map ao))
def LR(T:Txt w K mg t):Ok P w base T.Ec 1 B7:=by
 show T.Ec.F.cy H9 ?_;obtain⟨cs,lk,kn,e,hk,j,q⟩;have c:=j.len;show{_,(s1<|sr<|AH (N:=["_law_key_here","_law_standing_here"]) (src:=[none,some 0]) (pd KJ) (il<|cb tQ T.gF fw<|ap 0 an) vF<|aI<|ap 0<|ac (ix `u (dv 1)<|dv 0) an),?_};show !{lk,fh kn,kn.map (·.1),rfl,hk,by unfold fh;rw[zC,zC];rfl,by unfold fh;rw[zd];lia,λss hp l p g=>?_};have h:ss.length<=60:=by rw[hp.length_eq,zd];show c
 show{_,aa,?_};show comp_map (λd=>match d with|.str z=>.tup [.str z,uI kn z]|_=>.ay) aa (by change(ss.map D.str).length<=1000;rw[zd];lia) (λd hd Q a=>?_) λp2 n=>?_;let⟨z,hz,rfl⟩:=zk.mp hd;let⟨ws,m⟩:=jz<|hp.mem_iff.mp hz;have a:Q (.tup [.str z,uI kn z]) (S.set p<|.lst<|ss.map D.str):=a;have e1:cK (fh kn) (.inr z)=ϑ (uI kn z):=by rw[k_];unfold uI;rw[m];rfl
 show !!!{fh kn,_,(Sub.new g) _ _ hk,e1,eU,a};have i:(ss.map D.str).map (λd=>match d with|.str z=>D.tup [.str z,uI kn z]|_=>.ay)=(cA kn ss).map ao:=by rw[w6 hp,zC];rfl
 rw[show({ss.map D.str,λS=>qB S (.ref p)<|ss.map D.str}:qC).xs=ss.map D.str from rfl,i];show{_,dr<|.new g,q ss p2 hp l<|dh (.new g) n}
set_option genInjectivity true in
set_option genSizeOfSpec true in
inductive Sd
 |s
 |e
 |g (g:Tu)
noncomputable def Iy(cs:δ<|ρ×ρ)(ps:δ Part)(wy:ρ)(A:δ Row):Sd->π|.s=>0|.e=>A.length|.g g=>A.countP<|gP cs ps wy g
theorem TF:∀s,Iy cs ps wy A s<=A.length|.s=>yh _|.e=>zj _|.g _=>List.countP_le_length
section
variable{cs:δ (ρ×ρ)}{ps:δ Part}{wy:ρ}
def Lr(cs:δ<|ρ×ρ)(ps:δ Part)(wy:ρ)(r s:Row):Prop:=cQ (pj ps wy) (vO cs ps r) (vO cs ps s)<0
def Ro(cs:δ<|ρ×ρ)(r:Row):Prop:=Wg cs r.2/\r.1∈KS
noncomputable def Iz(cs:δ<|ρ×ρ)(ps:δ Part):θ Row->Sd|none=>.s|some q=>.g<|UX cs ps "behind" q
def Bey(cs:δ<|ρ×ρ)(ps:δ Part)(wy:ρ):θ Row->Row->η|none,_=>True|some q,r=>Lr cs ps wy q r
theorem Oi(hg:Gd cs)(hp:Pin cs ps)(h:Ro cs r):¬Lr cs ps wy r r:=λq=>by have z:=(oJ (ws:=pj ps wy) Av (lq hg hp h.1 h.2)<|lq hg hp h.1 h.2).mpr rfl;unfold Lr at q;omega
def P0(hg:Gd cs)(hp:Pin cs ps)(h1:Ro cs q)(h2:Ro cs r):gP cs ps wy (UX cs ps "behind" q) r=ϱ↔¬Lr cs ps wy q r:=by have an:=uM (ws:=pj ps wy) (lq hg hp h2.1 h2.2)<|lq hg hp h1.1 h1.2;change(ω (cQ (pj ps wy) (vO cs ps r) (vO cs ps q)<0)||(ω (cQ (pj ps wy) (vO cs ps r) (vO cs ps q)=0)&&true))=ϱ↔_;unfold Lr;rw[an,Bool.and_true,Bool.or_eq_true,zT,zT];omega
def Ax(hg:Gd cs)(hp:Pin cs ps)(hA:An cs ps wy A)(hf:∀q,fr=ϑ q->Ro cs q)(e:A[i]?=some r):Bey cs ps wy fr r↔Iy cs ps wy A (Iz cs ps fr)<=i:=by cases fr with|none=>show{λz=>yh _,λz=>trivial}|some q=>have hr:=zB e;have h1:=Au (hA.mono hg hp<|EJ hg hp (hf q rfl).1 (hf q rfl).2<|show LJ "behind"= true by trivial) e;rw[P0 hg hp (hf q rfl) {hA.rg.1 r hr,hA.ky r hr}]at h1;change Lr cs ps wy q r↔A.countP (gP cs ps wy<|UX cs ps "behind" q)<=i;constructor;intro h;have:=mt h1.mpr λk=>k h;omega;intro h;show Classical.byContradiction λk=>?_;have:=h1.mp k;omega
def TH(hg:Gd cs)(hp:Pin cs ps)(hA:An cs ps wy A)(e:A[i]?=some r):i<Iy cs ps wy A (Iz cs ps<|some r):=by have hr:=zB e;have ho:Ro cs r:={hA.rg.1 r hr,hA.ky r hr};have:=Ax hg hp hA (fr:=some r) (λq h=>by cases h;show ho) e;show Nat.lt_of_not_le λk=>Oi hg hp ho<|this.mpr k
variable{kn:Kn}{d:D}
def TJ(a:ss.Perm (kn.map (·.1))):(z,ws)∈cA kn ss↔fS kn z=ϑ ws:=by unfold cA;rw[zk];constructor;rintro⟨y,c,e⟩;let⟨vs,hv⟩:=jz<|a.mem_iff.mp c;rw[hv]at e;cases e;show hv;intro h;show{z,a.mem_iff.mpr<|zk.mpr {_,ir h,rfl},by rw[h];rfl}
variable{ss:δ ρ}{A:δ Row}{n:π}
def TK(a:ss.Perm (kn.map (·.1)))(hA:CG cs ps wy 7 d (cA kn ss) A):r∈A↔fS kn r.1=ϑ r.2/\f_ cs r 7 d=ϱ:=by rw[hA.pm.mem_iff,yi];let⟨z,ws⟩:=r;rw[TJ a]
variable{rows:δ Row}
end
structure acQ(t:fj)(ds:δ D)(S:av)(R:KD)(Z:KX):η where
 of:PJ t ds S R Z
set_option genInjectivity true in
set_option genSizeOfSpec true in
inductive Gw
 |put (z:ρ) (ws:δ D)
 |chg (z:ρ) (ws:δ D)
 |tk (z:ρ)
 |pg (rows:δ Row)
 |bad
noncomputable def rD(cs:δ<|ρ×ρ):D->χ|.tup [k,v]=>eV cs k v|_=>false
def IA(S:av)(d:D):Prop:=(∃k v,d=.tup [k,v]/\Gt S k/\CC S v)\/SG S d
def SG.q(h:SG S d)(cs:δ<|ρ×ρ):rD cs d=ϰ:=by unfold rD;split;rcases h with⟨ds,e,h⟩|⟨h,_⟩;cases e;show absurd rfl h;show absurd rfl<|h _;rfl
theorem SG.sub(h:SG S d)(s:Sub S S'):SG S' d:=h.imp id λh=>{h.1,h.2.sub s}
theorem IA.sub(h:IA S d)(s:Sub S S'):IA S' d:=h.imp (by rintro⟨k,v,e,a,b⟩;show{k,v,e,a.sub s,b.sub s}) λh=>h.sub s
def I_.sub(h:I_ S d)(s:Sub S S'):I_ S' d:=by cases h with|kind h g=>show .kind h (g.sub s)|nil=>show .nil|fst h g=>show .fst h (g.sub s)|word h=>show .word h|len h=>show .len h
inductive ql (S:av) (cs:δ<|ρ×ρ):D->η|kind {d:D} (h:∀ds,d≠.tup ds) (g:Gt S d):ql S cs d|len {ds:δ D} (h:ds.length≠2):ql S cs (.tup ds)|fst {x y:D} (h:∀z,x≠.str z) (g:Gt S x):ql S cs (.tup [x,y])|word {z:ρ}{y:D} (h:z≠"page"):ql S cs (.tup [.str z,y])|lst {x:D}{k:Kd} (hk:Mh S x k) (h:rS k=ϰ):ql S cs (.tup [.str "page",x])|row {l:ε}{xs:δ D} (hl:S l=ϑ (.lst xs)) (h:∀x∈xs,IA S x) (hf:xs.all (rD cs)=ϰ) (_:xs.length<=100):ql S cs (.tup [.str "page",.ref l])
def ql.sub(h:ql S cs d)(s:Sub S S'):ql S' cs d:=by cases h with|kind h g=>show .kind h (g.sub s)|len h=>show .len h|fst h g=>show .fst h (g.sub s)|word h=>show .word h|lst hk h=>show .lst (kd_sub s hk) h|row hl h hf h1=>show .row (s _ _ hl) (λx hx=>(h x hx).sub s) hf h1
inductive sy (S:av) (cs:δ<|ρ×ρ):D->η|ox {d:D} (h:I_ S d) (_:ql S cs d):sy S cs d|put {k v:D} (hk:Gt S k) (hv:CC S v) (h:eV cs k v=ϰ):sy S cs (.tup [.str "put",k,v])|chg {k v:D} (hk:Gt S k) (hv:CC S v) (h:eV cs k v=ϰ):sy S cs (.tup [.str "change",k,v])|tk {k:D} (hk:Gt S k) (h:ofStr j5 k=ϰ):sy S cs (.tup [.str "take",k])|zc {ws:δ D} (hw:Wg cs ws):sy S cs (.tup [.str "change",.str "zz",.tup ws])|zt:sy S cs (.tup [.str "take",.str "zz"])
def sy.sub(h:sy S cs d)(s:Sub S S'):sy S' cs d:=by cases h with|ox h g=>show .ox (h.sub s) (g.sub s)|put a b h=>show .put (a.sub s) (b.sub s) h|chg a b h=>show .chg (a.sub s) (b.sub s) h|tk a h=>show .tk (a.sub s) h|zc h=>show .zc h|zt=>show .zt
def sy.pg(h:sy S cs d):ql S cs d:=by cases h with|ox _ g=>show g|put=>show .len (show 3≠2 by decide)|chg=>show .len (show 3≠2 by decide)|tk=>show .word `a|zc=>show .len (show 3≠2 by decide)|zt=>show .word<|`a
inductive CH (cs:δ<|ρ×ρ) (S:av) (n:π):D->Gw->η|put {z:ρ}{ws:δ D} (hz:z∈KS) (hw:Wg cs ws):CH cs S n (.tup [.str "put",.str z,.tup ws]) (.put z ws)|chg {z:ρ}{ws:δ D} (hz:z∈KS) (hw:Wg cs ws):CH cs S n (.tup [.str "change",.str z,.tup ws]) (.chg z ws)|tk {z:ρ} (hz:z∈KS):CH cs S n (.tup [.str "take",.str z]) (.tk z)|pg {l:ε}{rows:δ Row} (hl:S l=ϑ (.lst<|rows.map ao)) (ho:∀r∈rows,Ro cs r) (hn:rows.length<=n):CH cs S n (.tup [.str "page",.ref l]) (.pg rows)|bad {d:D} (h:sy S cs d):CH cs S n d .bad
def CH.sub(h:CH cs S n d e)(b:Sub S S')(l:n<=m):CH cs S' m d e:=by cases h with|put hz hw=>show .put hz hw|chg hz hw=>show .chg hz hw|tk hz=>show .tk hz|pg hl ho hn=>show .pg (b _ _ hl) ho (zH hn l)|bad h=>show .bad<|h.sub b
def m9(cs:δ<|ρ×ρ)(S:av)(n:π)(ds:δ D)(es:δ Gw):Prop:=Paired (λd e=>CH cs S n d e) ds es
theorem Gx{α β:Type}{r c:α->β->η}(i:∀a b,r a b->c a b):∀{l:δ α}{m:δ β},Paired r l m->Paired c l m|_,_,.nil=>.nil|_,_,.cons h t=>.cons (i _ _ h)<|Gx i t
theorem m9.sub{cs:δ<|ρ×ρ}{S S':av}{n m:π}{ds:δ D}{es:δ Gw}(h:m9 cs S n ds es)(b:Sub S S')(l:n<=m):m9 cs S' m ds es:=Gx (λz z q=>q.sub b l) h
noncomputable def stepK(kn:Kn):Gw->θ Kn|.put z ws=>(if (fS kn z).isSome=ϱ then none else some (j6 kn z ws))|.chg z ws=>(if (fS kn z).isSome=ϱ then some (j6 kn z ws) else none)|.tk z=>(if (fS kn z).isSome=ϱ then some (rB kn z) else none)|.pg _=>none|.bad=>none
def Gy(a:KI cs kn)(c:CH cs S n d e)(h:stepK kn e=ϑ eO):KI cs eO:=by cases c with|@put z ws hz hw=>(have h:(if (fS kn z).isSome=ϱ then none else some (j6 kn z ws))=ϑ eO:=h;split at h;cases h;cases h;show a.put hz hw)|@chg z ws hz hw=>(have h:(if (fS kn z).isSome=ϱ then some (j6 kn z ws) else none)=ϑ eO:=h;split at h;cases h;show a.put hz hw;cases h)|@tk z hz=>(have h:(if (fS kn z).isSome=ϱ then some (rB kn z) else none)=ϑ eO:=h;split at h;cases h;show a.del _;cases h)|pg _ _ _=>(cases h)|bad _=>cases h
section
variable{P:Ψ}{w:Ω}{K:Φ}{mg:ρ->θ ξ}{base:Γ}{t:fj}{S:av}{a:ε}{F:δ ε}{cs:δ (ρ×ρ)}{dl:δ D}{rs:r_}{kn:Kn}{d:D}{R:KD}{Z:KX}
def TL(h:Wg cs ws):eV cs (.str "zz") (.tup ws)=ϱ:=by unfold eV;rw[h.LC,show ofStr j5 (.str "zz")=ϱ by trivial];rfl
def LS(h:RI rs n kn):ai (AJ rs (.str "zz") n)=ϱ:=by rw[so<|`c];unfold lu;rw[List.find?_eq_none.mpr λr hr=>by rw[zT];intro e;show absurd (e ▸ h.ks r hr)<|`c];rfl
def LU(g:c_ t.aw S a F cs dl rs)(hg:Gd cs)(w:KI cs kn)(j:RI rs dl.length kn)(hl:dl.length<=200)(r:CH cs S n d e)(hp:∀rows,e≠.pg rows) (i:stepK kn e=ϐ->∀C,C=t.kJ\/C=t.jr\/C=t.aT\/C=t.bC->Z C S) (q:∀eO S' F' eW,stepK kn e=ϑ eO->c_ t.aw S' a F' cs (dl++[d]) eW->Ek F F' S S'->RI eW (dl.length+1) eO->R .ay S'):Dos t [.ref a,d] S R Z\/PK t [.ref a,d] S R Z:=by have s:=j.len g;have l:=hg.1;let⟨ld,lr,ra,h,_,_⟩:=id g;cases r with|@put z ws hz hw=>(have ro:=EF hz hw;have st:=EG j hz;show .inl {a,_,h.ins,rfl,.inl {_,_,rfl,a,F,cs,_,rs,_,_,rfl,g,l,uJ hz,hw.Tf l,`b,`b,λe=>tf ro e,λx e=>i (qb ?_) _<|.inl rfl,λp v e1 e2 x e3 S' F' m o=>?_}};rw[st,Bool.not_eq_false']at e;show e;cases e1;cases e2;rw[st,yB]at e3;show q _ S' F' _ (qa<|by rw[e3];show ze) m o<|j.put hz)|@chg z ws hz hw=>(have ro:=EF hz hw;have st:=EG j hz;show .inl {a,_,h.ins,rfl,.inr<|.inl {_,_,rfl,a,F,cs,_,rs,_,_,rfl,g,l,uJ hz,hw.Tf l,`b,`b,λe=>tf ro e,λx e=>i (qa ?_) _<|.inr<|.inl rfl,λp v e1 e2 x e3 S' F' m o=>?_}};rw[st,yB]at e;rw[e];show ze;cases e1;cases e2;rw[st,Bool.not_eq_false']at e3;show q _ S' F' _ (qb e3) m o<|j.change hz)|@tk z hz=>(have st:=EG j hz;show .inl {a,_,h.ins,rfl,.inr<|.inr !{a,F,cs,_,rs,_,rfl,g,uJ hz,`b,λe=>tf (uA z hz).1 e,λx e=>i (qa ?_) _<|.inr<|.inl rfl,λp e1 x e3 S' m o=>?_}};rw[st,yB]at e;rw[e];show ze;cases e1;rw[st,Bool.not_eq_false']at e3;show q _ S' F _ (qb e3) m o<|j.del hz)|pg _ _ _=>show absurd rfl (hp _)|bad c=>cases c with|ox c _=>show .inr {.ref a,d,rfl,c,i rfl _<|.inr<|.inr<|.inl rfl}|put hk hv c=>show .inl {a,_,h.ins,rfl,.inl {_,_,rfl,a,F,cs,_,rs,_,_,rfl,g,l,hk,hv,`b,`b,λx=>i rfl _<|.inr<|.inr<|.inr rfl,λe=>tf e c,λx x x x e=>tf e c}}|chg hk hv c=>show .inl {a,_,h.ins,rfl,.inr<|.inl {_,_,rfl,a,F,cs,_,rs,_,_,rfl,g,l,hk,hv,`b,`b,λx=>i rfl _<|.inr<|.inr<|.inr rfl,λe=>tf e c,λx x x x e=>tf e c}}|tk hk c=>(show .inl {a,_,h.ins,rfl,.inr<|.inr !{a,F,cs,_,rs,_,rfl,g,hk,`b,λx=>i rfl _<|.inr<|.inr<|.inr rfl,λe=>tf e c,λz e1 e2=>tf e2<|by cases e1;show c}})|zc hw=>(show .inl {a,_,h.ins,rfl,.inr<|.inl {_,_,rfl,a,F,cs,_,rs,_,_,rfl,g,l,cH<|`a,hw.Tf l,`b,`b,λe=>tf (TL hw) e,λx x=>i rfl _<|.inr<|.inl rfl,λz ws e1 x x e2=>by cases e1;show tf (LS j) e2}})|zt=>show .inl {a,_,h.ins,rfl,.inr<|.inr !{a,F,cs,_,rs,_,rfl,g,cH<|`a,`b,λe=>tf (show ofStr j5 (.str "zz")=ϱ by trivial) e,λx x=>i rfl _<|.inr<|.inl rfl,λz e1 x e2=>by cases e1;show tf (LS j) e2}}
inductive xf (t:fj) (ds:δ D) (S:av) (R:KD) (Z:KX):η
 |mk (a F cs dl rs kn n d e) (_:ds=[.ref a,d]) (_:c_ t.aw S a F cs dl rs) (_:Gd cs) (_:KI cs kn) (_:RI rs dl.length kn) (_:dl.length<=200) (_:CH cs S n d e) (_:∀rows,e≠.pg rows)
  (_:stepK kn e=ϐ->R (.bl false) S) (_:∀eO S' F' eW,stepK kn e=ϑ eO->c_ t.aw S' a F' cs (dl++[d]) eW->Ek F F' S S'->RI eW (dl.length+1) eO->R (.bl true) S'):xf t ds S R Z
def uT(T:Txt w K mg t):Ok P w base T.r9 8 (xf t):=by have g:Ok P w base T.lL 7 _:=KR (bU.Xf (sp':=acQ t) (N7 T) λds S R Z h=>h.of)<|Le T;show T.r9.F.cy Ef ?_;rintro _ _ _ _ _ _ _ S R Z hr ⟨a,F,cs,dl,rs,kn,n,d,e,r,s,hg,v,y,hl,m,hp,p,o⟩;subst r;show{_,(sc (Pu T.nW ⟨T.ia⟩ (s1<|se<|bA T.lL g hr<|ap 0<|ap 1 an) λz=>(s1<|sr db))<|s1<|sr db),?_};show !!⟨(LU s hg v y hl m hp (λh C j=>{?_,λx hx=>?_}) λeO S' F' eW h i l c=>?_).imp (λh=>⟨h.of⟩) id⟩;show fo<|o eO S' F' eW h i l c;rcases j with rfl|rfl|rfl|rfl;show T.eK;show T.e8;show T.cF;show T.eJ;show{_,.new hx,p h}
inductive B8 (ds:δ D) (S:av) (R:KD) (Z:KX):η
 |mk (cs:δ<|ρ×ρ) (d':D) (_:ds=[.tup<|cs.map aF,d']) (_:Gd cs) (_:IA S d') (_:R (.bl<|rD cs d') S)
def IC(T:Txt w K mg t):Ok P w base T.Ea 6 B8:=by have c:Ok P w base T.eS 5 _:=KR (jw T)<|vL T;show T.Ea.F.cy HZ ?_;rintro _ _ _ _ _ _ _ S R Z hr ⟨cs,d,a,hg,h,q⟩;subst a;show{_,(sc (Pu T.dO ⟨T.dZ⟩ (s1<|se<|bA T.eS c hr<|ap 0<|ap 1 an) λz=>(s1<|sr db))<|s1<|sr db),?_};rcases h with⟨k,v,rfl,hk,hv⟩|h;show !!⟨.inl {cs,k,v,rfl,hg.1,hk,hv,λe=>fo<|by rw[show rD cs (.tup [k,v])=ϱ from e]at q;show q,λe=>{T.eE,λx hx=>{_,.new hx,by rw[show rD cs (.tup [k,v])=ϰ from e]at q;show q}}}⟩;show !!⟨.inr {cs,d,rfl,h,T.eE,λx hx=>{_,.new hx,by rw[h.q]at q;show q}}⟩
theorem Ro.rd(hg:Gd cs)(h:Ro cs r):IA S (ao r)/\rD cs (ao r)=ϱ:={.inl {_,_,rfl,uJ h.2,h.1.Tf hg.1},EF h.2 h.1}
end
def EN(l:δ ρ):∃ss:δ ρ,ss.Perm l/\PyProof.Rows.sortedS ss=ϱ:=by show{l.mergeSort λa b=>ω<|a.cps.toList<=b.cps.toList,List.mergeSort_perm _ _,PyProof.Rows.sortedS_of_pairwise _ ?_};show(List.pairwise_mergeSort (λa b c h1 h2=>?_) (λa b=>?_) l).imp λ{a b} h=>?_;show zy<|List.le_trans (zI h1)<|zI h2;rw[Bool.or_eq_true,zT,zT];show List.le_total _ _;rw[PyProof.Rows.ltCps_eq];show zp<|List.not_lt.mpr<|zI h
abbrev Flt:=ρ×θ ρ
noncomputable def Ay:θ ρ->D|none=>.ay|some z=>.str z
noncomputable def uU(a c:θ ρ):θ Flt:=if a=c then none else some ("missed",c)
noncomputable def ZO(A:δ Row)(r:Row):Bool:=A.any λy=>ω (y.1=r.1)&&EL y.2 r.2
noncomputable def oK(cs:δ<|ρ×ρ)(ps:δ Part)(wy:ρ)(fr:θ Row)(r:Row):Bool:=match fr with|none=>true|some q=>ω<|cQ (pj ps wy) (vO cs ps q) (vO cs ps r)<0
noncomputable def Oj(cs:δ<|ρ×ρ)(ps:δ Part)(wy:ρ)(A:δ Row)(fr:θ Row):θ Str:=(A[Iy cs ps wy A<|Iz cs ps fr]?).map Prod.fst
noncomputable def EO(cs:δ<|ρ×ρ)(ps:δ Part)(wy:ρ)(A:δ Row)(fr:θ Row)(r:Row):θ Flt:=if ZO A r=ϱ then (if oK cs ps wy fr r=ϱ then uU (some r.1) (Oj cs ps wy A fr) else some ("order",some r.1)) else some ("strange",some r.1)
noncomputable def jR(cs:δ<|ρ×ρ)(ps:δ Part)(wy:ρ)(A:δ Row):θ Row->δ Row->θ Flt|_,[]=>none|fr,r::rs=>match EO cs ps wy A fr r with|some f=>some f|none=>jR cs ps wy A (some r) rs
noncomputable def i_(cs:δ<|ρ×ρ)(ps:δ Part)(wy:ρ)(A:δ Row)(fr:θ Row)(rows:δ Row):θ Flt:=if rows.isEmpty=ϱ then uU none (Oj cs ps wy A fr) else jR cs ps wy A fr rows
noncomputable def j8(fr:θ Row)(rows:δ Row):θ Row:=match rows.getLast? with|none=>fr|some r=>some r
def ID(fr:θ Row)(r:Row)(rs:δ Row):j8 fr (r::rs)=j8 (some r) rs:=by unfold j8;cases rs with|nil=>rfl|cons x xs=>rw[List.getLast?_cons_cons,List.getLast?_eq_some_getLast<|List.cons_ne_nil x xs]
noncomputable def vP(cs:δ<|ρ×ρ)(ps:δ Part)(wy:ρ)(d:D)(kn:Kn):δ Row:=Classical.epsilon λA=>∃ss,ss.Perm (kn.map (·.1))/\CG cs ps wy 7 d (cA kn ss) A
theorem Ol(hg:Gd cs)(hp:Pin cs ps)(h1:ss.Perm (kn.map (·.1)))(h2:s2.Perm (kn.map (·.1)))(hA:CG cs ps wy 7 d (cA kn ss) A)(a:CG cs ps wy 7 d (cA kn s2) A'):A'=A:=CG.one hg hp {a.an,a.pm.trans<|((h2.trans h1.symm).map _).filter _} hA
def LV(hg:Gd cs)(hp:Pin cs ps)(h1:ss.Perm (kn.map (·.1)))(hA:CG cs ps wy 7 d (cA kn ss) A):A=vP cs ps wy d kn:=by have h:∃ss,ss.Perm (kn.map (·.1))/\CG cs ps wy 7 d (cA kn ss) (vP cs ps wy d kn):=Classical.epsilon_spec (p:=λA=>∃ss,ss.Perm (kn.map (·.1))/\CG cs ps wy 7 d (cA kn ss) A) ⟨A,ss,h1,hA⟩;let⟨s2,h2,a⟩:=h;show Ol hg hp h2 h1 a hA
abbrev Res:=θ<|ρ×π×θ (θ ρ)
noncomputable def acR:Res->D|none=>.ay|some (w,i,none)=>.tup [.str w,.int (i:π)]|some (w,i,some k)=>.tup [.str w,.int (i:π),Ay k]
noncomputable def dj(cs:δ<|ρ×ρ)(ps:δ Part)(wy:ρ)(d:D):Kn->θ Row->π->δ Gw->Res
 |_,_,_,[]=>none
 |kn,fr,i,.pg rows::es=>(match i_ cs ps wy (vP cs ps wy d kn) fr rows with
  |some f=>some (f.1,i,some f.2)
  |none=>dj cs ps wy d kn (j8 fr rows) (i+1) es)
 |kn,fr,i,e::es=>match stepK kn e with
  |none=>some ("event",i,none)
  |some eO=>dj cs ps wy d eO fr (i+1) es
def ja(hp:∀rows,e≠.pg rows):dj cs ps wy d kn fr i (e::es)=match stepK kn e with|none=>some ("event",i,none)|some eO=>dj cs ps wy d eO fr (i+1) es:=by cases e with|pg rows=>show absurd rfl (hp rows)|_=>rfl
section
variable{cs:δ (ρ×ρ)}{ps:δ Part}{wy:ρ}
def Az:oK cs ps wy fr r=ϱ↔Bey cs ps wy fr r:=by cases fr with|none=>show{λz=>trivial,λz=>rfl}|some q=>show decide_eq_true_iff
def Gz(hA:∀y∈A,Ro cs y)(hr:Ro cs r):ZO A r=ϱ↔r∈A:=by unfold ZO;rw[List.any_eq_true];constructor;rintro⟨y,a,e⟩;rw[zR,zT,sx (hA y a).1.all hr.1.all]at e;let⟨g,y2⟩:=y;let⟨d,c⟩:=r;let⟨e1,e2⟩:=e;cases e1;cases e2;show a;intro h;show{r,h,by rw[zR,zT,sx hr.1.all hr.1.all];show⟨rfl,rfl⟩}
end
def AA{α:Type}{l:δ α}{i:π}{a:α}(h:l[i]?=some a):l.drop i=a::l.drop (i+1):=by let⟨hi,e⟩:=zf.mp h;rw[zZ hi,e]
noncomputable def acS(cs:δ<|ρ×ρ)(ps:δ Part):θ Row->D|none=>.ay|some q=>LI<|UX cs ps "behind" q
noncomputable def Mp(C a:ε)(cs:δ<|ρ×ρ)(ps:δ Part)(wy:ρ)(d:D)(fr:θ Row):Ce:=.ins C [("shelf",.ref a),("order",d9 ps wy),("sieve",d),("hinder",acS cs ps fr)]
noncomputable def LW:θ Flt->D|none=>.ay|some (w,k)=>.tup [.str w,Ay k]
structure Ja(t:fj)(S:av)(k a:ε)(F:δ ε)(cs:δ (ρ×ρ))(dl:δ D)(rs:r_)(ps:δ Part)(wy:ρ)(d:D)(fr:θ Row)(kn:Kn):η where
 hk:S k=ϑ (Mp t.aU a cs ps wy d fr)
 nk:k∉F
 sh:c_ t.aw S a F cs dl rs
 g:Gd cs
 o:Og cs ps wy
 s:Sq cs d
 ki:KI cs kn
 ri:RI rs dl.length kn
 fo:∀q,fr=ϑ q->Ro cs q
 tb:Tb t S
section
variable{t:fj}{S:av}{k a:ε}{F:δ ε}{cs:δ (ρ×ρ)}{dl:δ D}{rs:r_}{ps:δ Part}{wy:ρ}{d:D}{fr:θ Row}{kn:Kn}
theorem Ja.sub{S':av}(h:Ja t S k a F cs dl rs ps wy d fr kn)(b:Sub S S'):Ja t S' k a F cs dl rs ps wy d fr kn:={b _ _ h.hk,h.nk,h.sh.sub b,h.g,h.o,h.s,h.ki,h.ri,h.fo,h.tb.sub b}
def Ja.put{j9:θ Row}(h:Ja t S k a F cs dl rs ps wy d fr kn)(hf:∀q,j9=ϑ q->Ro cs q):Ja t (S.set k<|Mp t.aU a cs ps wy d j9) k a F cs dl rs ps wy d j9 kn:=by
 have n:∀{q:ε}{z:ρ},S q=ϑ (.tab z)->q≠k:=λe z=>by rw[z,h.hk]at e;cases e
 show{aa,h.nk,h.sh.off h.nk,h.g,h.o,h.s,h.ki,h.ri,hf,(ae<|n h.tb.1).trans h.tb.1,(ae<|n h.tb.2).trans h.tb.2}
def uV(h:∀z,x=ϑ z->z∈KS):b8 (Ay x)=ϱ:=by cases x with|none=>rfl|some z=>show(lj z<|h z rfl).2
def Om:mr (Ay x) (Ay y)=ω (x=y):=by cases x<;>cases y<;>simp[Ay,mr]
def ER{A:δ Row}(hA:An cs ps wy A):∀z,Oj cs ps wy A fr=ϑ z->z∈KS:=by intro z h;unfold Oj at h;cases e:A[Iy cs ps wy A<|Iz cs ps fr]? with|none=>(rw[e]at h;cases h)|some r=>rw[e]at h;cases h;show hA.ky r<|zB e
noncomputable def IE(kn:Kn)(r:Row):Bool:=match fS kn r.1 with|none=>false|some ws=>EL ws r.2
def Ym(a:KI cs kn)(hr:Ro cs r)(q:R (.bl<|!IE kn r) S):IW true (uI kn r.1) (.tup r.2) S R:=by let⟨b1,b2,b3⟩:=Aw (S:=S) hr.1.all;unfold IE at q;unfold uI;cases e:fS kn r.1 with|none=>rw[e]at q;show{.none,.tuple<|r.2.map rf,by simp only[Dl,Dp],by simp only[Dl,Dp];show{_,rfl,b1},by simp only[PyData.canLay0],by simp only[PyData.canLay0];show b2,.inl<|by simp only[PyData.depth];lia,?_};rw[qb rfl,show PyData.eqv .none (.tuple<|r.2.map rf)=ϰ by simp only[PyData.eqv]];show q|some ws=>rw[e]at q;have hw:∀x∈ws,b8 x=ϱ:=(a.ok _<|ir e).2.all;let⟨c,d,g⟩:=Aw (S:=S) hw;show{.tuple<|ws.map rf,.tuple<|r.2.map rf,by simp only[Dl,Dp];show{_,rfl,c},by simp only[Dl,Dp];show{_,rfl,b1},by simp only[PyData.canLay0];show d,by simp only[PyData.canLay0];show b2,.inl<|by simp only[PyData.depth];lia,?_};rw[qb rfl,show PyData.eqv (.tuple<|ws.map rf) (.tuple<|r.2.map rf)=EL ws r.2 by simp only[PyData.eqv];show Gq hw hr.1.all];show q
def TM(c:KI cs kn)(g:ss.Perm (kn.map (·.1)))(hA:CG cs ps wy 7 d (cA kn ss) A)(hr:Ro cs r):ZO A r=(IE kn r&&f_ cs r 7 d):=by
 have h1:=Gz (λy a=>{hA.an.rg.1 y a,hA.an.ky y a}) hr;rw[TK g hA]at h1;have h2:IE kn r=ϱ↔fS kn r.1=ϑ r.2:=by unfold IE;cases e:fS kn r.1 with|none=>show{λh=>(nomatch h),λh=>(nomatch h)}|some ws=>change EL ws r.2=ϱ↔_;have hw:∀x∈ws,b8 x=ϱ:=(c.ok _<|ir e).2.all;rw[sx hw hr.1.all];show{λh=>by rw[h],λh=>zS h}
 rw[yu,h1,zR,h2]
end
inductive uW (t:fj) (ds:δ D) (S:av) (R:KD) (Z:KX):η
 |mk (k a F cs dl rs ps wy d fr kn r) (_:ds=[.ref k,ao r]) (_:Ja t S k a F cs dl rs ps wy d fr kn) (_:Wg cs r.2) (_:R (EI (ps.map λp=>au cs r.2 p.1) r.1) S)
def rh(T:Txt w K mg t):pP P w mg base T.fe 4 (uW t):=by show T.fe.F.cy om ?_;rintro _ _ _ _ _ _ _ S R Z hr ⟨k,a,F,cs,dl,rs,ps,wy,d,fr,kn,r,e,c,hw,q⟩;subst e;let⟨ld,lr,ra,h,_⟩:=id c.sh;show{_,(s1<|sr<|bA T.n5 (q9 T) hr<|ac (xQ (fl T.aE T.bt<|dv 0) T.aj T.bu (dI T) hr)<|ac (fl T.aE T.cN<|dv 0)<|ap 1 an),?_};show !{k,_,_,rfl,c.hk,rfl,a,_,rfl,h.ins,rfl,a,F,cs,dl,rs,rfl,c.sh,_,rfl,k,_,_,rfl,c.hk,rfl,_,rfl,cs,ps,wy,r,rfl,c.g,c.o.pin,c.o.len,hw,fo q}
inductive jS (ds:δ D) (S:av) (R:KD) (Z:KX):η
 |mk (x y:θ ρ) (_:ds=[Ay x,Ay y]) (_:∀z,x=ϑ z->z∈KS) (_:∀z,y=ϑ z->z∈KS) (_:R (LW<|uU x y) S)
def jb(T:Txt w K mg t):Ok P w base T.fJ 1 jS:=by show T.fJ.F.cy p8 ?_;rintro _ _ _ _ _ _ _ S R Z hr ⟨x,y,c,hx,a,q⟩;subst c;show{_,(s1<|sr<|UA (bJ cE `u (dv 0)<|dv 1) dn<|aI<|ac ds<|ap 1 an),?_};show !!⟨uG (uV hx) (uV a) ?_⟩;rw[qa ze,Om];unfold uU at q;by_cases h:x=y;rw[qb h]at q;show{_,rfl,ph (fo q)<|zy h};rw[qa h]at q;show{_,rfl,nj (!{eU,fo q})<|zp h}
inductive lA (t:fj) (ds:δ D) (S:av) (R:KD) (Z:KX):η
 |mk (k a F cs dl rs ps wy d fr kn l A) (_:ds=[.ref k,.ref l]) (_:Ja t S k a F cs dl rs ps wy d fr kn) (_:S l=ϑ (.lst<|A.map ao)) (_:An cs ps wy A) (_:R (Ay<|Oj cs ps wy A fr) S)
def jT(T:Txt w K mg t):pP P w mg base T.cY 6 (lA t):=by
 show T.cY.F.cy dm ?_;rintro _ _ _ _ _ _ _ S R Z hr ⟨k,a,F,cs,dl,rs,ps,wy,d,fr,kn,l,A,m,c,hl,hA,q⟩;subst m;let⟨ld,lr,ra,h,_⟩:=id c.sh;show{_,(sc (bT (i:=2) dm.nd di)<|sc (jd<|si (bJ iC `u (fl T.aE T.bG<|dv 0) dn) (s1<|bT (i:=2) dm.nd<|bA T.kQ (uP T) hr<|ac (xQ (fl T.aE T.bt<|dv 0) T.aj T.bu (dI T) hr)<|ac (fl T.aE T.cN<|dv 0)<|ap 1<|ac (fl T.aE T.bG<|dv 0) an) s0)<|s1<|sr<|UA (bJ xH `u (dv 2)<|cb aY T.aR aH<|ap 1 an) (ix `u (ix `u (dv 1)<|dv 2) di) dn),?_};show{λak S'=>ak=[some<|.ref k,some<|.ref l,some<|.int (Iy cs ps wy A (Iz cs ps fr):π)]/\S'=S,?_,?_};cases fr with|none=>show (!{k,_,_,rfl,c.hk,rfl,_,rfl,aM<|fo ⟨rfl,rfl⟩})|some r=>show !{k,_,_,rfl,c.hk,rfl,_,rfl,bw !{k,_,_,rfl,c.hk,rfl,a,_,rfl,h.ins,rfl,a,F,cs,dl,rs,rfl,c.sh,_,rfl,k,_,_,rfl,c.hk,rfl,_,rfl,_,rfl,k,_,_,rfl,c.hk,rfl,cs,ps,wy,A,l,_,rfl,c.g,c.o.pin,c.o.len,hl,hA,EJ c.g c.o.pin (c.fo r rfl).1 (c.fo r rfl).2<|`c,fo ⟨rfl,rfl⟩}}
 rintro ak S' ⟨rfl,rfl⟩;show !!!⟨.inl {_,hl,?_}⟩;rw[zd];unfold Oj at q;by_cases j:Iy cs ps wy A (Iz cs ps fr)<A.length;have e:=zg j;rw[e]at q;generalize A[Iy cs ps wy A<|Iz cs ps fr]=r at e q;show{_,rfl,ph (!!{_,ao r,hl,?_,_,rfl,fo q})<|zy<|`b};unfold iM;rw[zd,Gu j];change(A.map ao)[_]?=_;rw[zm,e];rfl;rw[List.getElem?_eq_none<|`b]at q;show{_,rfl,nj (fo q)<|zp<|`b}
inductive rj (t:fj) (ds:δ D) (S:av) (R:KD) (Z:KX):η
 |mk (k a F cs dl rs ps wy d fr kn l A ss r) (_:ds=[.ref k,.ref l,ao r]) (_:Ja t S k a F cs dl rs ps wy d fr kn) (_:S l=ϑ (.lst<|A.map ao)) (_:ss.Perm (kn.map (·.1))) (_:CG cs ps wy 7 d (cA kn ss) A) (_:Ro cs r) (_:R (LW<|EO cs ps wy A fr r) S)
def AB(T:Txt w K mg t):pP P w mg base T.fW 12 (rj t):=by
 show T.fW.F.cy mU ?_;rintro _ _ _ _ _ _ _ S R Z hr ⟨k,a,F,cs,dl,rs,ps,wy,d,fr,kn,l,A,ss,r,n,c,hl,m,hA,ho,q⟩;subst n;let⟨ld,lr,ra,h,_⟩:=id c.sh;show{_,(sc (si (twd<|twor (bJ fK `u (Zd (fl T.aE T.bt<|dv 0) T.aj T.c9.e ((jx T).mono<|`a) hr T.dU d1<|ac (ix `u (dv 2) di) an)<|ix `u (dv 2) di)<|tw1<|bS<|tv<|bA T.passes (wX T 7) hr<|ac (xQ (fl T.aE T.bt<|dv 0) T.aj T.bu (dI T) hr)<|ac (fl T.aE T.e_<|dv 0)<|ap 2 an) (s1<|sr<|aI<|ac ds<|ac (ix `u (dv 2) di) an) s0)<|sc (si (twd<|twand (bJ iC `u (fl T.aE T.bG<|dv 0) dn)<|tw1<|tv<|bA T.n6 (q_ T) hr<|ac (fl T.aE T.cN<|dv 0)<|ac (o_ (dv 0) T.aE T.fe (rh T) hr<|ap 2 an)<|ac (fl T.aE T.bG<|dv 0) an) (s1<|sr<|aI<|ac ds<|ac (ix `u (dv 2) di) an) s0)<|s1<|sr<|bA T.fJ (jb T) hr<|ac (ix `u (dv 2) di)<|ac (o_ (dv 0) T.aE T.cY (jT T) hr<|ap 1 an) an),?_};unfold EO at q;rw[TM c.ki m hA ho]at q;have hp:=c.o.pin;have h1:∀z,some r.1=ϑ z->z∈KS:=λz e=>by cases e;show ho.2
 show !{k,_,_,rfl,c.hk,rfl,a,_,rfl,h.ins,rfl,_,rfl,_,rfl,a,F,cs,dl,rs,_,.ay,rfl,c.sh,uJ ho.2,eN,λi hi=>?_,λe=>(by cases e)};cases hi;rw[c.ri.AJ ho.2];show !!⟨Ym c.ki ho ?_⟩;have j:(IE kn r&&f_ cs r 7 d)=ϰ->R (.tup [.str "strange",.str r.1]) S:=λe=>by rw[qa<|by rw[e];show ze]at q;show q
 show{_,rfl,cI (λe=>?_) λe=>?_};show bw !!{eU,fo<|j<|by rw[nt e];rfl};show !{k,_,_,rfl,c.hk,rfl,a,_,rfl,h.ins,rfl,a,F,cs,dl,rs,rfl,c.sh,_,rfl,k,_,_,rfl,c.hk,rfl,_,rfl,cs,d,r,rfl,c.g,c.s.1,ho.1,_,rfl,?_};show cI (λe2=>?_) λe2=>?_;show !!{eU,fo<|j<|by rw[nt e2,yH]};rw[qb<|by rw[nf e,nf e2];rfl]at q;cases fr with|none=>have q:R (LW<|uU (some r.1)<|Oj cs ps wy A none) S:=q;show (!{k,_,_,rfl,c.hk,rfl,_,rfl,aM !!!{k,_,rfl,c.hk,rfl,_,rfl,k,a,F,cs,dl,rs,ps,wy,d,none,kn,l,A,rfl,c,hl,hA.an,some r.1,_,rfl,h1,ER hA.an,fo q}})|some u=>have hu:=c.fo u rfl;show !{k,_,_,rfl,c.hk,rfl,_,rfl,bw !{k,_,_,rfl,c.hk,rfl,_,rfl,k,_,rfl,c.hk,rfl,_,rfl,k,a,F,cs,dl,rs,ps,wy,d,some u,kn,r,rfl,c,ho.1,_,rfl,k,_,_,rfl,c.hk,rfl,cs,ps,wy,r,_,rfl,c.g,hp,ho.1,ho.2,EJ c.g hp hu.1 hu.2<|`c,_,rfl,?_}};have hb:oK cs ps wy (some u) r=!gP cs ps wy (UX cs ps "behind" u) r:=(by rw[yu,yB,Az,<-Bool.not_eq_true,P0 c.g hp hu ho,Classical.not_not];show Iff.rfl);rw[hb]at q;show cI (λe3=>?_) λe3=>?_;rw[e3,qa<|`a]at q;show !!{eU,fo q};rw[e3,qb<|`a]at q;show !!!{k,_,rfl,c.hk,rfl,_,rfl,k,a,F,cs,dl,rs,ps,wy,d,some u,kn,l,A,rfl,c,hl,hA.an,some r.1,_,rfl,h1,ER hA.an,fo q}
theorem uX{cs:δ<|ρ×ρ}{ps:δ Part}{wy:ρ}{A:δ Row}{fr:θ Row}{r:Row}{rs:δ Row} : jR cs ps wy A fr (r::rs)=match EO cs ps wy A fr r with|some f=>some f|none=>jR cs ps wy A (some r) rs:=rfl
inductive oM (t:fj) (ds:δ D) (S:av) (R:KD) (Z:KX):η
 |mk (k a F cs dl rs ps wy d fr kn l rows) (_:ds=[.ref k,.ref l]) (_:Ja t S k a F cs dl rs ps wy d fr kn) (_:S l=ϑ (.lst<|rows.map ao)) (_:∀r∈rows,Ro cs r)
  (_:∀j9,(i_ cs ps wy (vP cs ps wy d kn) fr rows=ϐ->j9=j8 fr rows)->(∀q,j9=ϑ q->Ro cs q)->R (LW<|i_ cs ps wy (vP cs ps wy d kn) fr rows) (S.set k<|Mp t.aU a cs ps wy d j9)):oM t ds S R Z
inductive Pw (t:fj) (S:av) (k a:ε) (cs:δ<|ρ×ρ) (ps:δ Part) (wy:ρ) (d:D) (A rows:δ Row) (fr:θ Row) (l l2:ε) (i:π) (ak:SD) (S':av):η
 |mk (j9:θ Row) (o3 o4:θ D) (_:ak=[some<|.ref k,some<|.ref l,some<|.ref l2,o3,o4]) (_:Sub (S.set k<|Mp t.aU a cs ps wy d j9) S') (_:∀q,j9=ϑ q->Ro cs q) (_:jR cs ps wy A fr rows=jR cs ps wy A j9 (rows.drop i)) (_:j8 fr rows=j8 j9 (rows.drop i)):Pw t S k a cs ps wy d A rows fr l l2 i ak S'
def mx(T:Txt w K mg t)(B:Bm mg base):pP P w mg base T.dQ 13 (oM t):=by
 show T.dQ.F.cy cG ?_;rintro _ _ _ _ _ _ _ S R Z hr ⟨k,a,F,cs,dl,rs,ps,wy,d,fr,kn,l,rows,U,h,hl,X,q⟩;subst U;show{_,(sc (bT (i:=2) cG.nd<|bA T.gL (oH T B) hr<|ac (fl T.aE T.bt<|dv 0)<|ac (fl T.aE T.cN<|dv 0)<|ac (fl T.aE T.e_<|dv 0)<|ac dn an)<|sc (si (bJ cE `u (cb aY T.aR aH<|ap 1 an) di) (s1<|sr<|bA T.fJ (jb T) hr<|ac dn<|ac (o_ (dv 0) T.aE T.cY (jT T) hr<|ap 2 an) an) s0)<|sc (jd<|tP (il<|dv 1) (gn (i:=3) cG.nd)<|sc (bT (i:=4) cG.nd<|o_ (dv 0) T.aE T.fW (AB T) hr<|ap 2<|ap 3 an)<|sc (si (bJ iC `u (dv 4) dn) (s1<|sr<|dv 4) s0)<|s1<|sf T.aE T.bG (dv 0)<|aI<|ac (o_ (dv 0) T.aE T.fe (rh T) hr<|ap 3 an)<|ac ds an)<|s1<|sr dn),?_};let⟨ss,H,N⟩:=EN (kn.map (·.1));have v:Snap rs cs dl.length (cA kn ss):=⟨kn,ss,rfl,h.ki,H,N,h.ri.wt⟩;have C:=v.vw h.sh h.ri (md:=.ay) rfl eN;show !{k,_,_,rfl,h.hk,rfl,_,rfl,k,_,_,rfl,h.hk,rfl,_,rfl,k,_,_,rfl,h.hk,rfl,a,cs,ps,wy,d,.ay,cA kn ss,rfl,h.g,h.o,h.s,C,h.tb,λA l2 pm pw L=>?_};have hA:=LK C.rg v.key pm pw;rw[<-LV h.g h.o.pin H hA]at q;have s1:=Sub.new (c:=.lst<|A.map ao) L;have z:(S.set l2<|.lst<|A.map ao) l2=ϑ (.lst<|A.map ao):=aa;have j:=h.sub s1;have n:=s1 _ _ hl;have m:∀j9,(i_ cs ps wy A fr rows=ϐ->j9=j8 fr rows)->(∀q,j9=ϑ q->Ro cs q)->∀S',Sub ((S.set l2<|.lst<|A.map ao).set k<|Mp t.aU a cs ps wy d j9) S'->Fo S' (R<|LW<|i_ cs ps wy A fr rows):=λj9 h1 h2 S' Y=>{_,(dr s1).trans Y,q j9 h1 h2};generalize S.set l2 (.lst<|A.map ao)=S1 at s1 z j n m⊢;clear q L s1 hl h;have J:S1.set k (Mp t.aU a cs ps wy d fr)=S1:=by funext b;by_cases e:b=k;rw[e,aa,j.hk];rw[ae e]
 show !!⟨.inl {_,n,_,rfl,?_}⟩;rw[zd];show cI (λh0=>?_) λh0=>?_;have h0:rows=[]:=List.length_eq_zero_iff.mp (by have:=zI h0;lia);subst h0;have:=m fr (λW=>rfl) j.fo S1 (by rw[J];show .refl _);show !{k,_,rfl,j.hk,rfl,_,rfl,k,a,F,cs,dl,rs,ps,wy,d,fr,kn,l2,A,rfl,j,z,hA.an,none,_,rfl,(λW e=>nomatch e),ER hA.an,this};have h0:rows≠[]:=λe=>by subst e;show absurd h0<|`a
 have Q:i_ cs ps wy A fr rows=jR cs ps wy A fr rows:=qa (by rw[List.isEmpty_iff];show h0);rw[Q]at m;show{λak S'=>∃j9,(∀q,j9=ϑ q->Ro cs q)/\jR cs ps wy A fr rows=ϐ/\j9=j8 fr rows/\Sub (S1.set k<|Mp t.aU a cs ps wy d j9) S',?_,?_};show !{_,n,?_};show{Pw t S1 k a cs ps wy d A rows fr l l2,{fr,none,none,rfl,by rw[J];show .refl _,j.fo,rfl,rfl},?_,?_,?_};rintro i ak S' ⟨j9,o3,o4,rfl,sb,hf,e1,e2⟩;show sb _ _<|(ae λe=>by rw[e,j.hk]at n;cases n).trans n;rintro i x ak S' hx ⟨j9,o3,o4,rfl,sb,hf,e1,e2⟩;have hx:(rows.map ao)[i]?=some x:=hx;rw[zm]at hx;cases E:rows[i]? with|none=>(rw[E]at hx;cases hx)|some r=>rw[E]at hx;cases hx;have ho:=X r<|zB E;have G:=AA E;rw[G]at e1 e2;rw[ID]at e2;have y:=(j.put hf).sub sb;have I:=sb _ _<|(ae λe=>by rw[e,j.hk]at z;cases z).trans z;show !{k,_,rfl,y.hk,rfl,_,rfl,_,rfl,k,a,F,cs,dl,rs,ps,wy,d,j9,kn,l2,A,ss,r,rfl,y,I,H,hA,ho,?_};rw[uX]at e1;cases M:EO cs ps wy A j9 r with|some f=>rw[M]at e1;have e1:jR cs ps wy A fr rows=ϑ f:=e1;rw[e1]at m;show (!!⟨bw !⟨m j9 (λe=>nomatch e) hf S' sb⟩⟩)|none=>rw[M]at e1;show !!⟨aM !{k,_,rfl,y.hk,rfl,_,rfl,k,a,F,cs,dl,rs,ps,wy,d,j9,kn,r,rfl,y,ho.1,eU,_,rfl,k,_,rfl,y.hk,(show 4<1000 by decide),?_}⟩;show{some r,_,_,rfl,?_,λq e=>by cases e;show ho,e1,e2};have:=dr (p:=k) (c:=Mp t.aU a cs ps wy d<|some r) sb;rw[bR]at this;show this
 rintro ak S' ⟨j9,o3,o4,rfl,sb,hf,e1,e2⟩;have O:rows.drop (rows.map ao).length=[]:=List.drop_eq_nil_of_le (by rw[zd];show zj _);have e1:jR cs ps wy A fr rows=jR cs ps wy A j9 (rows.drop (rows.map ao).length):=e1;have e2:j8 fr rows=j8 j9 (rows.drop (rows.map ao).length):=e2;rw[O]at e1 e2;show fo ⟨j9,hf,e1,e2.symm,sb⟩;rintro ak S' ⟨j9,hf,e1,e2,sb⟩;rw[e1]at m;show m j9 (λW=>e2) hf S' sb
noncomputable def Yp:Gw->χ|.pg _=>true|_=>false
def Yq(h:Sq cs d):Lv S 0 0 [d] true:=by let⟨rfl,_⟩:=h;show .go `a `a `a (λe a=>by rw[zE.mp a];show .ev) `a .nil
inductive jU (ds:δ D) (S:av) (R:KD) (Z:KX):η
 |mk (cs n d e) (_:ds=[.tup<|cs.map aF,d]) (_:Gd cs) (_:CH cs S n d e) (_:n<=1000) (_:R (.bl<|Yp e) S)
def jc(T:Txt w K mg t):Ok P w base T.fI 7 jU:=by show T.fI.F.cy p7 ?_;rintro _ _ _ _ _ _ _ S R Z hr ⟨cs,n,d,e,i,hg,c,hn,q⟩;subst i;show{_,(sc (si (twd<|twor (bS<|tv<|cb bE T.ah ag<|ap 1<|ac (lG T.bc aP) an)<|tw1<|bJ fK `u (cb aY T.aR aH<|ap 1 an) di) (s1<|sr db) s0)<|sc (si (twd<|twor (bS<|tv<|cb bE T.ah ag<|ac (ix `u (dv 1) di)<|ac (lG T.kM gw) an)<|tw1<|bJ fK `u (ix `u (dv 1) di) ds) (s1<|sr db) s0)<|s1<|sr<|pL (cb bE T.ah ag<|ac (ix `u (dv 1) di)<|ac (lG T.pV lE) an)<|IV<|cb me T.mf iB<|ac (AH (N:=["row","columns"]) (src:=[none,some 0]) (pd rq) (il<|ix `u (dv 1) di) vF<|bA T.Ea (IC T) hr<|ap 1<|ap 0 an) an),?_};cases c with|put hz hw=>show (!{_,_,_,_,rfl,aq,rfl,_,rfl,aM !!!⟨ph (fo q) rfl⟩})|chg hz hw=>show (!{_,_,_,_,rfl,aq,rfl,_,rfl,aM !!!⟨ph (fo q) rfl⟩})|tk hz=>show (!{_,_,_,_,rfl,aq,rfl,_,rfl,aM !!!⟨nj (!!{_,_,_,_,rfl,br,rfl,_,rfl,aM !!!⟨ph<|fo q⟩}) rfl⟩})|@pg l rows hl ho o=>(show !{_,_,_,_,rfl,aq,rfl,_,rfl,aM !!!⟨nj (!!{_,_,_,_,rfl,br,rfl,_,rfl,aM !!!⟨nj !!{_,_,_,_,rfl,i9,.inl {rfl,_,hl},_,rfl,bw ?_}⟩}) rfl⟩};show !!{_,hl,?_};show comp_map (λv=>.bl true) hl (by change(rows.map ao).length<=1000;rw[zd];lia) (λx hx Q a=>?_) λp hp=>?_;let⟨r,m,rfl⟩:=zk.mp hx;let⟨h1,h2⟩:=(ho r m).rd (S:=S) hg;show !!{cs,_,rfl,hg,h1,by rw[h2];show a};rw[show({rows.map ao,λS=>qB S (.ref l)<|rows.map ao}:qC).xs.map (λv=>D.bl true)=(rows.map λv=>true).map D.bl by change(rows.map ao).map _=_;rw[zC,zC];rfl];show{.ref p,rows.map λv=>true,rfl,aa,?_};rw[show(rows.map λv=>true).all id=ϱ by rw[all_map];show yr.mpr λv v=>rfl];show{S,.new hp,q})|bad j=>cases j.pg with|kind h g=>(let⟨⟨k,hk⟩,_⟩:=g;show !{_,_,_,_,rfl,aq,hk,_,rfl,?_};rcases mV hk with⟨ws,rfl,_⟩|⟨h0,_⟩;show absurd rfl<|h ws;rw[h0];show bw<|bw<|fo q)|@len ds h=>show (!{_,_,_,_,rfl,aq,rfl,_,rfl,aM !!!⟨ph (fo q)<|by change(!decide (((ds.length:π):ν)=2))=ϱ;rw[zp<|`b];rfl⟩})|fst h g=>(let⟨⟨k,hk⟩,_⟩:=g;show !{_,_,_,_,rfl,aq,rfl,_,rfl,aM !!!⟨nj (!!{_,_,_,_,rfl,br,hk,_,rfl,?_}) rfl⟩};rw[(ur hk).elim (by rintro⟨z,e,_⟩;show absurd e<|h z) And.left];show bw<|bw<|fo q)|@word z y h=>show (!{_,_,_,_,rfl,aq,rfl,_,rfl,aM !!!⟨nj (!!{_,_,_,_,rfl,br,rfl,_,rfl,aM !!!⟨ph (fo q)<|by change(!decide (z ="page"))=ϱ;rw[zp h];rfl⟩}) rfl⟩})|lst hk h=>show !{_,_,_,_,rfl,aq,rfl,_,rfl,aM !!!⟨nj (!!{_,_,_,_,rfl,br,rfl,_,rfl,aM !!!⟨nj !!{_,_,_,_,rfl,i9,hk,_,rfl,?_}⟩}) rfl⟩};rw[h];show aM (fo q)|@row l xs hl h hf h1=>show !{_,_,_,_,rfl,aq,rfl,_,rfl,aM !!!⟨nj (!!{_,_,_,_,rfl,br,rfl,_,rfl,aM !!!⟨nj !!{_,_,_,_,rfl,i9,.inl {rfl,_,hl},_,rfl,bw ?_}⟩}) rfl⟩};show !!{_,hl,?_};show comp_map (λx=>.bl<|rD cs x) hl (by change xs.length<=1000;lia) (λx hx Q a=>!!{cs,x,rfl,hg,h x hx,a}) λp hp=>?_;rw[show({xs,λS=>qB S (.ref l) xs}:qC).xs.map (λx=>D.bl<|rD cs x)=(xs.map<|rD cs).map D.bl by change xs.map _=_;rw[zC];rfl];show{.ref p,xs.map<|rD cs,rfl,aa,?_};rw[show(xs.map<|rD cs).all id=ϰ by rw[all_map];show hf];show{S,.new hp,q}
inductive oN (t:fj) (ds:δ D) (S:av) (R:KD) (Z:KX):η
 |mk (k cs ps wy d) (_:ds=[.ref k,.tup<|cs.map aF,d9 ps wy,d]) (_:Gd cs) (_:Og cs ps wy) (_:Sq cs d) (_:S k=ϑ (.ins t.aU []))
  (_:∀S' a F,c_ t.aw S' a F cs [] []->S' k=ϑ (Mp t.aU a cs ps wy d none)->k∉F->(∀b c,b≠k->S b=ϑ c->b∉F/\S' b=ϑ c)->R .ay S'):oN t ds S R Z
def B_(T:Txt w K mg t):pP P w mg base T.bX 7 (oN t):=by
 show T.bX.F.cy ip ?_;rintro _ _ _ _ _ _ _ S R Z hr ⟨k,cs,ps,wy,d,j,hg,ho,hd,hk,q⟩;subst j;show{_,(sc (sf T.aE T.bt (dv 0)<|mk T.BC (F7 T) (hr.mono<|`a) T.BB T.bW.b d0<|ap 1 an)<|sc (se<|bA T.dD (lg T) hr<|ap 1<|ap 2 an)<|sc (se<|bA T.ic (lh T) hr<|ap 1<|ap 3 an)<|sc (sf T.aE T.cN (dv 0)<|dv 2)<|sc (sf T.aE T.e_ (dv 0)<|dv 3)<|s1<|sf T.aE T.bG (dv 0) dn),?_};show{_,rfl,λa ha=>{a,cs,rfl,hg,aa,λS1 F g i=>{rfl,?_}}};have kept:∀b c,S b=ϑ c->b∉F/\S1 b=ϑ c:=λb c e=>by have h2:b≠a:=fk e ha;show i b c (λm=>h2<|zE.mp m)<|(ae h2).trans e
 let⟨nk,h⟩:=kept _ _ hk;show !{k,_,rfl,h,(show 0<1000 by decide),?_};show !!{cs,ps,wy,rfl,hg,ho.tx,λz=>?_,λe=>tf ho.ok e};show !!{cs,d,true,rfl,Yq hd,λz=>?_,nofun};show !!{k,_,rfl,aa,(show 1<1000 by decide),?_};show !!{k,_,rfl,aa,(show 2<1000 by decide),?_};show !{k,_,rfl,aa,(show 3<1000 by decide),?_};rw[bR,bR,bR];show fo<|q _ a F (g.off nk) aa nk λb c n e=>{(kept b c e).1,(ae n).trans (kept b c e).2}
inductive oO (t:fj) (ds:δ D) (S:av) (R:KD) (Z:KX):η
 |mk (cs ps wy d l xs es n) (_:ds=[.tup<|cs.map aF,d9 ps wy,d,.ref l]) (_:Gd cs) (_:Og cs ps wy) (_:Sq cs d) (_:Tb t S) (_:S l=ϑ (.lst xs)) (_:m9 cs S n xs es) (_:n<=1000) (_:es.length<=100)
  (_:R (acR<|dj cs ps wy d [] none 0 es) S):oO t ds S R Z
inductive Wv (t:fj) (S:av) (cs:δ<|ρ×ρ) (ps:δ Part) (wy:ρ) (d:D) (l k:ε) (es:δ Gw) (i:π) (ak:SD) (S':av):η
 |mk (o5 o6 o7:θ D) (a:ε) (F:δ ε) (dl:δ D) (rs:r_) (fr:θ Row) (kn:Kn) (_:ak=[some<|.tup<|cs.map aF,some<|d9 ps wy,some d,some<|.ref l,some<|.ref k,o5,o6,o7]) (_:Ja t S' k a F cs dl rs ps wy d fr kn) (_:Tr S (k::F) S') (_:dl.length<=i)
  (_:dj cs ps wy d [] none 0 es=dj cs ps wy d kn fr i (es.drop i)):Wv t S cs ps wy d l k es i ak S'
theorem ES:∀{l:δ α}{m:δ β},Paired r l m->∀{i:π}{a:α},l[i]?=some a->∃b,m[i]?=some b/\r a b|_,_,.nil,_,_,e=>by simp at e|_,_,.cons h t,0,_,e=>(by cases e;show{_,rfl,h})|_,_,.cons h t,i+1,_,e=>ES t e
theorem sG:dj cs ps wy d kn fr i (.pg rows::es)=match i_ cs ps wy (vP cs ps wy d kn) fr rows with|some f=>some (f.1,i,some f.2)|none=>dj cs ps wy d kn (j8 fr rows) (i+1) es:=rfl
def my(T:Txt w K mg t)(B:Bm mg base):Ok P w base T.eM 14 (oO t):=by
 show T.eM.F.cy bq ?_;rintro _ _ _ _ _ _ _ S R Z hr ⟨cs,ps,wy,d,l,xs,es,n,e0,hg,ho,hd,I,hl,M,hn,We,q⟩;subst e0;show{_,(sc (bT (i:=4) bq.nd<|mk T.BE (B_ T) (hr.mono<|`a) T.BD T.bX.b d0<|ap 0<|ap 1<|ap 2 an)<|sc (si (bS<|tv<|cb bE T.ah ag<|ap 3<|ac (lG T.pV lE) an) (s1<|lX ⟨T.dP⟩ T.eI<|ac ds an) s0)<|sc (jd<|tP (ien T.qG<|ap 3 an) (gt (n:=2)<|gc (gn (i:=5) bq.nd)<|gc (gn (i:=6) bq.nd) g0)<|s1<|si (tv<|bA T.fI (jc T) hr<|ap 0<|ap 6 an) (sc (bT (i:=7) bq.nd<|o_ (dv 4) T.aE T.dQ (mx T B) hr<|ac (ix `u (dv 6) di) an)<|s1<|si (bJ iC `u (dv 7) dn) (s1<|sr<|aI<|ac (ix `u (dv 7) di)<|ap 5<|ac (ix `u (dv 7) di) an) s0)<|s1<|si (bS<|tv<|bA T.r9 (uT T) hr<|ac (fl T.aE T.bt<|dv 4)<|ap 6 an) (s1<|sr<|aI<|ac ds<|ap 5 an) s0)<|s1<|sr dn),?_};have K7:xs.length=es.length:=yP M;show !!!⟨λk hk=>{k,cs,ps,wy,d,rfl,hg,ho,hd,aa,λS1 a F hS NH nk kept=>{rfl,?_}}⟩;have v:Tr S (k::F) S1:=λb c e=>by have h2:b≠k:=fk e hk;let⟨o,p⟩:=kept b c h2<|(ae h2).trans e;show{λm=>(zl.mp m).elim h2 o,p}
 have A:Ja t S1 k a F cs [] [] ps wy d none []:={NH,nk,hS,hg,ho,hd,KI.nil cs,RI.nil,(λW e=>nomatch e),I.sub v.sub};show !{_,_,_,_,rfl,i9,.inl {rfl,_,v.sub _ _ hl},_,rfl,aM ?_};show{λak S'=>∃(o5 o6 o7:θ D),ak=[some<|.tup<|cs.map aF,some<|d9 ps wy,some d,some<|.ref l,some<|.ref k,o5,o6,o7]/\dj cs ps wy d [] none 0 es=ϐ/\Sub S S',?_,?_};show !{_,_,rfl,v.sub _ _ hl,?_};show{Wv t S cs ps wy d l k es,{none,none,none,a,F,[],[],none,[],rfl,A,v,zj _,rfl},?_,?_,?_};rintro i ak S' ⟨o5,o6,o7,a,F,dl,rs,fr,kn,rfl,g,Et,N,hw⟩;show Et.sub _ _ hl;rintro i x ak S' hx ⟨o5,o6,o7,a,F,dl,rs,fr,kn,rfl,g,Et,N,hw⟩;let⟨G,ex,rfl⟩:=FC hx;let⟨e,L,Q⟩:=ES M ex;have hi:=(zf.mp L).1;have y:=AA L;rw[y]at hw;have z:=Q.sub Et.sub<|zj n;show !{rfl,_,_,rfl,_,_,rfl,rfl,?_};show !!{cs,n,G,e,rfl,hg,z,hn,_,rfl,?_};by_cases s:∃rows,e=.pg rows;let⟨rows,rfl⟩:=s;obtain⟨l2,rfl,C9,P1⟩:∃l2,G=.tup [.str "page",.ref l2]/\S' l2=ϑ (.lst<|rows.map ao)/\∀r∈rows,Ro cs r:=by cases z with|pg hl ho _=>show{_,rfl,hl,ho}
 rw[sG]at hw;show bw !{k,_,rfl,g.hk,rfl,_,rfl,_,rfl,k,a,F,cs,dl,rs,ps,wy,d,fr,kn,l2,rows,rfl,g,C9,P1,λj9 h1 h2=>?_};have H:Tr S (k::F) (S'.set k<|Mp t.aU a cs ps wy d j9):=λb c e=>by let⟨o,p⟩:=Et b c e;show{o,(ae λe=>o<|by rw[e];show zw).trans p}
 cases E:i_ cs ps wy (vP cs ps wy d kn) fr rows with|some f=>rw[E]at hw;rw[hw]at q;show (!!⟨bw !!!!!⟨Ad,S,H.sub,q⟩⟩)|none=>rw[E,<-h1 E]at hw;show !!⟨aM {_,_,_,a,F,dl,rs,j9,kn,rfl,g.put h2,H,`b,hw}⟩
 have j:∀rows,e≠.pg rows:=λrows h=>s ⟨rows,h⟩;have hb:Yp e=ϰ:=by cases e<;>first|rfl|show absurd rfl (j _)
 rw[ja j]at hw;rw[hb];show aM !{k,_,_,rfl,g.hk,rfl,_,rfl,a,F,cs,dl,rs,kn,n,G,e,rfl,g.sh,hg,g.ki,g.ri,`b,z,j,λh=>?_,λeO S2 U Y h X J C=>?_};rw[h]at hw;rw[hw]at q;show{_,rfl,bw !⟨eU,S,Et.sub,q⟩};rw[h]at hw;have O:Tr S (k::U) S2:=λb c e=>by let⟨o,p⟩:=Et b c e;let⟨h5,h6⟩:=J b c (λm=>o<|zh _ m) p;show{λm=>(zl.mp m).elim (λm=>o<|by rw[m];show zw) h5,h6}
 let⟨n2,eC⟩:=J _ _ g.nk g.hk;show{_,rfl,aM {_,_,_,a,U,_,Y,fr,eO,rfl,{eC,n2,X,hg,ho,hd,Gy g.ki Q h,by rw[zq];show C,g.fo,I.sub O.sub},O,by rw[zq];change _+1<=_;lia,hw}};rintro ak S' ⟨o5,o6,o7,a,F,dl,rs,fr,kn,rfl,g,Et,N,hw⟩;have el:es.drop (Pf xs).length=[]:=List.drop_eq_nil_of_le (by rw[FA];lia);have hw:dj cs ps wy d [] none 0 es=dj cs ps wy d kn fr (Pf xs).length (es.drop (Pf xs).length):=hw;rw[el]at hw;show fo {_,_,_,rfl,hw.trans<|by unfold dj;rfl,Et.sub};rintro ak S' ⟨o5,o6,o7,rfl,hw,sb⟩;rw[hw]at q;show⟨S,sb,q⟩
noncomputable def TN(cs:δ<|ρ×ρ)(ps:δ Part):θ Row->D|none=>.ay|some q=>EI (ps.map λp=>au cs q.2 p.1) q.1
section
variable{cs:δ (ρ×ρ)}{ps:δ Part}{wy:ρ}{A:δ Row}{fr:θ Row}(hg:Gd cs)(hp:Pin cs ps)(hA:An cs ps wy A)(hf:∀q,fr=ϑ q->Ro cs q)
theorem An.ro(hA:An cs ps wy A){i:π}{r:Row}(e:A[i]?=some r):Ro cs r:={hA.rg.1 r<|zB e,hA.ky r<|zB e}
include hg hp hA hf
end
theorem TQ(a:KI cs kn)(c:ss.Perm (kn.map (·.1))):UW (cA kn ss):=λr hr=>by let⟨z,hz,rfl⟩:=zk.mp hr;let⟨ws,hw⟩:=jz<|c.mem_iff.mp hz;show(a.ok _<|ir hw).1
theorem TR(hg:Gd cs)(ho:Og cs ps wy)(ha:Ro cs a)(hb:Ro cs b)(q:R (.bl<|oK cs ps wy (some a) b) S):uQ [d9 ps wy,TN cs ps<|some a,TN cs ps<|some b] S R Z:={ps,wy,_,_,_,_,_,rfl,by rw[zd],by rw[zd],ho.len,m7 hg ho.pin ha.1,m7 hg ho.pin hb.1,ha.2,hb.2,q}
structure Fm(S0:av)(fs:δ (ε×Ce))(S:av):η where
 fa:∀x∈fs,S x.1=ϑ x.2/\S0 x.1=ϐ
 nd:(fs.map Prod.fst).Nodup
 sb:Sub S0 S
section
variable{S0 S:av}{fs:δ (ε×Ce)}
theorem Fm.at(h:Fm S0 fs S)(i:π)(e:fs[i]?=some (b,c)):S b=ϑ c:=(h.fa _<|zB e).1
theorem Fm.sub(h:Fm S0 fs S)(b:Sub S S'):Fm S0 fs S':={λx hx=>{b _ _ (h.fa x hx).1,(h.fa x hx).2},h.nd,h.sb.trans b}
theorem Fm.out(h:Fm S0 fs S)(hp:S p=ϐ):S0 p=ϐ:=dh h.sb hp
def Fm.new(h:Fm S0 fs S)(hp:S p=ϐ)(c:Ce):Fm S0 ((p,c)::fs) (S.set p c):=by have h1:=h.sub<|.new (c:=c) hp;show{λx hx=>?_,yo.mpr {λm=>?_,h.nd},h1.sb};rcases zl.mp hx with rfl|hx;show{aa,h.out hp};show h1.fa x hx;let⟨x,hx,e⟩:=zk.mp m;have:=(h.fa x hx).1;rw[e,hp]at this;cases this
def Fm.grow(h:Fm S0 fs S)(hp:S p=ϐ)(c:Ce):Fm (S0.set p c) fs (S.set p c):=by show{λx hx=>?_,h.nd,dr h.sb};let⟨h1,h2⟩:=h.fa x hx;have n:=fk h1 hp;show{(ae n).trans h1,(ae n).trans h2}
def Fm.put(h:Fm S0 fs S)(i:π)(e:fs[i]?=some (b,c))(d:Ce):Fm S0 (fs.set i (b,d)) (S.set b d):=by
 have hb:=h.fa _<|zB e;have hi:=(zf.mp e).1;have n:(fs.set i (b,d)).map Prod.fst=fs.map Prod.fst:=by show List.ext_getElem? λj=>?_;rw[zm,zm];by_cases q:j=i;subst q;rw[yz hi,e];rfl;rw[yt<|Ne.symm q]
 show{λx hx=>?_,by rw[n];show h.nd,λx c hx=>(ae<|fk hx hb.2).trans<|h.sb x c hx};let⟨j,a⟩:=List.getElem?_of_mem hx;by_cases q:j=i;subst q;rw[yz hi]at a;cases a;show⟨aa,hb.2⟩;rw[yt<|Ne.symm q]at a;have g:=h.fa x<|zB a;show{(ae λe2=>q ?_).trans g.1,g.2};have o:(fs.map Prod.fst)[j]?=some x.1:=by rw[zm,a];rfl
 have m:(fs.map Prod.fst)[i]?=some b:=by rw[zm,e];rfl
 let⟨b1,l⟩:=zf.mp o;let⟨b2,p⟩:=zf.mp m;show(List.getElem_inj h.nd (h₀:=b1) (h₁:=b2)).mp<|by rw[l,p];show e2
end
def LX(h:GD KS cs kn d)(k:KnD kn d eO):∃e,(∀S n,CH cs S n d e)/\(∀rows,e≠.pg rows)/\stepK kn e=ϑ eO:=by
 rcases h with⟨z,ws,hz,hw,hn,rfl⟩|⟨z,ws,hz,hw,hn,rfl⟩|⟨z,hz,hn,rfl⟩;show{.put z ws,λx x=>.put hz hw,λx e=>(nomatch e),?_};have a:eO=j6 kn z ws:=by rcases k with⟨n,y,vs,_,e1,e2⟩|⟨y,_,e1,_⟩<;>cases e1;show e2
 rw[a];show qa (by rw[hn];show ze);show{.chg z ws,λx x=>.chg hz hw,λx e=>(nomatch e),?_};have a:eO=j6 kn z ws:=by rcases k with⟨n,y,vs,_,e1,e2⟩|⟨y,_,e1,_⟩<;>cases e1;show e2
 rw[a];show qb hn;show{.tk z,λx x=>.tk hz,λx e=>(nomatch e),?_};have a:eO=rB kn z:=by rcases k with⟨n,y,vs,_,e1,e2⟩|⟨y,_,e1,e2⟩<;>cases e1;show e2
 rw[a];show qb hn
section
variable{cs:δ (ρ×ρ)}{ps:δ Part}{wy:ρ}{A:δ Row}(hg:Gd cs)(hp:Pin cs ps)(hA:An cs ps wy A)
include hg hp hA
def LY(e:A[m]?=some r):Iy cs ps wy A (Iz cs ps<|some r)=m+1:=by have ho:=hA.ro e;have h1:=TH (wy:=wy) hg hp hA e;have h2:=TF (cs:=cs) (ps:=ps) (wy:=wy) (A:=A)<|Iz cs ps<|some r;rcases Nat.lt_or_ge (m+1) A.length with h|h;have a:=List.pairwise_iff_getElem.mp (hA.lex hg hp) m (m+1) (zf.mp e).1 h `b;rw[(zf.mp e).2]at a;have:=(Ax (wy:=wy) hg hp hA (fr:=some r) (λq h=>by cases h;show ho)<|zg h).mp a;lia;lia
theorem GB:∀{n m:π}{fr:θ Row},(∀q,fr=ϑ q->Ro cs q)->Iy cs ps wy A (Iz cs ps fr)=m->jR cs ps wy A fr ((A.drop m).take n)=ϐ
 |0,m,fr,_,_=>by rw[List.take_zero];rfl
 |n+1,m,fr,hf,hm=>by
  rcases Nat.lt_or_ge m A.length with h|h;have e:=zg h;rw[zZ h,List.take_succ_cons,uX];generalize A[m]=r at e;have ho:=hA.ro e;have hr:EO cs ps wy A fr r=ϐ:=by unfold EO uU Oj;rw[qb<|(Gz (λy a=>{hA.rg.1 y a,hA.ky y a}) ho).mpr<|zB e,qb<|Az.mpr<|(Ax hg hp hA hf e).mpr<|Nat.le_of_eq hm,hm,e];show qb rfl
  rw[hr];show GB (λq h=>by cases h;show ho)<|LY hg hp hA e;rw[List.drop_eq_nil_of_le h,List.take_nil];rfl
def Ot(hn:1<=n)(hf:∀q,fr=ϑ q->Ro cs q):i_ cs ps wy A fr ((A.filter<|oK cs ps wy fr).take n)=ϐ:=by
 have key:A.filter (oK cs ps wy fr)=A.drop (Iy cs ps wy A<|Iz cs ps fr):=by have gen:∀(l:δ Row)(n:π),(∀i a,l[i]?=some a->(oK cs ps wy fr a=ϱ↔n<=i))->l.filter (oK cs ps wy fr)=l.drop n:=(by intro l;induction l with|nil=>intro n _;rw[List.drop_nil];rfl|cons x l d=>intro n h;cases n with|zero=>(rw[List.drop_zero];show List.filter_eq_self.mpr λa ha=>by let⟨i,hi⟩:=List.getElem?_of_mem ha;show(h i a hi).mpr<|yh _)|succ n=>have h0:=h 0 x rfl;rw[List.drop_succ_cons,List.filter_cons_of_neg λz=>by have:=h0.mp z;lia];show d n λi a e=>by have:=h (i+1) a e;rw[this];lia);show gen A _ λi a e=>Az.trans<|Ax hg hp hA hf e
 rw[key];unfold i_;cases c:((A.drop<|Iy cs ps wy A<|Iz cs ps fr).take n).isEmpty with|false=>rw[qa ze];show GB hg hp hA hf rfl|true=>rw[qb rfl];have h1:=List.isEmpty_iff.mp c;have h2:(A.drop<|Iy cs ps wy A<|Iz cs ps fr).length=0:=(by have:=congrArg List.length h1;rw[yq]at this;change _=0;have g:([]:δ Row).length=0:=rfl;lia);rw[yV]at h2;unfold Oj uU;rw[List.getElem?_eq_none<|`b];show qb rfl
end
def ET(cs:δ<|ρ×ρ)(ps:δ Part)(wy:ρ)(d:D)(es:δ Gw)(kn:Kn)(fr:θ Row):Prop:=∀tl,dj cs ps wy d [] none 0 (es++tl)=dj cs ps wy d kn fr es.length tl
theorem ET.ox(h:ET cs ps wy d es kn fr)(hp:∀rows,e≠.pg rows)(k:stepK kn e=ϑ eO):ET cs ps wy d (es++[e]) eO fr:=λtl=>by rw[List.append_assoc,h,List.singleton_append,ja hp,k,zq];rfl
theorem ET.acV(h:ET cs ps wy d es kn fr)(k:i_ cs ps wy (vP cs ps wy d kn) fr rows=ϐ):ET cs ps wy d (es++[.pg rows]) kn (j8 fr rows):=λtl=>by rw[List.append_assoc,h,List.singleton_append,sG,k,zq];rfl
def TU{r:Row}{rows:δ Row}(e:rows.getLast?=some r):iM (rows.map ao) (-1)=ϑ (ao r):=by let⟨ys,rfl⟩:=List.getLast?_eq_some_iff.mp e;rw[zQ];show Gm _ _
noncomputable def btk(cs:δ<|ρ×ρ)(ps:δ Part)(wy:ρ)(fr:θ Row):D->χ|.tup [.str k,.tup ws]=>oK cs ps wy fr (k,ws)|_=>false
inductive uY (ds:δ D) (S:av) (R:KD) (Z:KX):η
 |mk (cs ps wy d l) (ms:δ ν) (_:ds=[.tup<|cs.map aF,d9 ps wy,d,.ref l]) (_:Gd cs) (_:Og cs ps wy) (_:Sg cs 7 d) (_:S l=ϑ (.lst<|ms.map D.int)) (_:ms.length<=40)
  (_:∀S' p xs es,S' p=ϑ (.lst xs)->Sub S S'->m9 cs S' 60 xs es->es.length<=40->dj cs ps wy d [] none 0 es=ϐ->R (.ref p) S'):uY ds S R Z
inductive Evw (S:av) (cs:δ<|ρ×ρ) (ps:δ Part) (wy:ρ) (d:D) (l lk le:ε) (i:π) (ak:SD) (S':av):η
 |mk (S0:av) (kn:Kn) (fr:θ Row) (xs:δ D) (es:δ Gw) (o7 o8 o9 ZP ZQ:θ D) (_:ak=[some<|.tup<|cs.map aF,some<|d9 ps wy,some d,some<|.ref l,some<|.ref lk,some<|TN cs ps fr,some<|.ref le,o7,o8,o9,ZP,ZQ])
  (_:Fm S0 [(le,.lst xs),(lk,.cZ<|fh kn)] S') (_:Sub S S0) (_:KI cs kn) (_:∀q,fr=ϑ q->Ro cs q) (_:m9 cs S0 60 xs es) (_:ET cs ps wy d es kn fr) (_:es.length=i):Evw S cs ps wy d l lk le i ak S'
def IF(T:Txt w K mg t):Ok P w base T.ue 12 uY:=by
 show T.ue.F.cy bQ ?_;rintro _ _ _ _ _ _ _ S R Z hr ⟨cs,ps,wy,d,l,ms,e0,hg,ho,hd,hl,a8,q⟩;subst e0;show{_,(sc (bT (i:=4) bQ.nd Hy)<|sc (bT (i:=5) bQ.nd dn)<|sc (bT (i:=6) bQ.nd<|ba an)<|sc (jd<|tP (il<|dv 3) (gn (i:=7) bQ.nd)<|sc (bT (i:=8) bQ.nd<|bA T.ig (i7 T) hr<|ap 7<|ac di an)<|s1<|si (bJ xH `u (bo c8 `u (ix `u (dv 8) di) di) di) (s1<|se<|bm zG zM zN bh (dv 6)<|ac (bA T.Eb (LQ T) hr<|ap 0<|ap 4<|ac (bo gy `u (dv 7) di) an) an)<|sc (bT (i:=9) bQ.nd<|bA T.x6 (Iw T) hr<|ap 0<|ap 1<|ap 2<|ac (bA T.Ec (LR T) hr<|ap 4 an) an)<|sc (Bv (N:=["_law_row","_law_fore","_law_order_here","_law_columns_here"]) (src:=[none,some 5,some 1,some 0]) 10 bQ.nd (pd D8) (il<|dv 9) (if1<|acd<|twd<|twor (bJ mH `u (dv 1) dn)<|tw1<|tv<|bA T.x5 (Gr T) hr<|ap 2<|ap 1<|ac (bA T.n8 (uR T) hr<|ap 3<|ap 2<|ap 0 an) an)<|dv 0)<|sc (bT (i:=11) bQ.nd<|NY (dv 10) o0<|o1<|Fz<|ix `u (ba<|ac di<|ac di<|ac di<|ac di an)<|bo c8 `u (ix `u (dv 8) di) di)<|sc (se<|bm zG zM zN bh (dv 6)<|ac (aI<|ac ds<|ap 11 an) an)<|s1<|si (bJ fK `u (dv 11)<|ba an) (s1<|bT (i:=5) bQ.nd<|bA T.n8 (uR T) hr<|ap 0<|ap 1<|ac (ix `u (dv 11)<|Hz di) an) s0)<|s1<|sr<|dv 6),?_};have hp:=ho.pin;show λlk Zs=>{BL,λle X=>?_};have o:Fm S [(le,.lst []),(lk,.cZ<|fh [])] ((S.set lk<|.cZ []).set le<|.lst []):=(Fm.new (fs:=[]) {λy h=>(nomatch h),.nil,.refl S} Zs<|.cZ []).new X _;generalize (S.set lk<|.cZ []).set le (.lst [])=S1 at o⊢;clear Zs X;show{λak S'=>∃i,i<=40/\Evw S cs ps wy d l lk le i ak S',?_,?_};show !{_,o.sb _ _ hl,?_};show{Evw S cs ps wy d l lk le,{S,[],none,[],[],none,none,none,none,none,rfl,o,.refl S,KI.nil cs,(λy e=>nomatch e),.nil,λtl=>rfl,rfl},?_,?_,?_};rintro i ak S' ⟨S0,kn,fr,xs,es,o7,o8,o9,ZP,ZQ,rfl,j,sb,a,hf,J,O,hi⟩;show(sb.trans j.sb) _ _ hl;rintro i x ak S' hx ⟨S0,kn,fr,xs,es,o7,o8,o9,ZP,ZQ,rfl,j,sb,a,hf,J,O,hi⟩;have hx:(ms.map D.int)[i]?=some x:=hx;rw[zm]at hx;let⟨c,ec,rfl⟩:=Option.map_eq_some_iff.mp hx;have a7:=(zf.mp ec).1;have K7:xs.length=es.length:=yP J;show !{c,3,rfl,`a,λys py ZH a5 a0=>?_};have NX:=j.sub<|.new (c:=.lst<|ys.map D.int) a0;have hY:(S'.set py<|.lst<|ys.map D.int) py=ϑ (.lst<|ys.map D.int):=aa;generalize S'.set py (.lst<|ys.map D.int)=S2 at NX hY⊢;clear j a0;have at_:∀k:π,k<3->∃x:ν,iM (ys.map D.int) ((k:π):ν)=ϑ (.int x)/\0<=x:=λk hk=>gR `b (by rw[zd];lia) a5;let⟨y0,e0,_⟩:=at_ 0 `a;let⟨y1,e1,_⟩:=at_ 1 `a;show !{_,_,hY,e0,`a,_,rfl,cI (λy=>?_) λy=>?_};show{_,rfl,{rfl,_,NX.at 0 rfl},_,rfl,_,rfl,_,rfl,{`a,`c},cs,lk,kn,_,rfl,hg,NX.at 1 rfl,a,λde eO a6 a9 a4=>?_};have s:Fm S0 [(le,.lst xs),(lk,.cZ<|fh eO)] (S2.set lk<|.cZ<|fh eO):=NX.put 1 rfl _;generalize S2.set lk (.cZ<|fh eO)=U at s⊢;let⟨e,he,hp,ke⟩:=LX a6 a9;show{le,_,_,rfl,rfl,s.at 0 rfl,bg<|`b,?_};have I:Fm S0 [(le,.lst<|xs++[de]),(lk,.cZ<|fh eO)] (U.set le<|.lst<|xs++[de]):=s.put 0 rfl _;show{S0,eO,fr,xs++[de],es++[e],_,_,_,_,_,rfl,I,sb,a4,hf,J.snoc<|he S0 60,O.ox hp ke,by rw[zq,hi];rfl};have UG:∀ss:δ ρ,ss.Perm (kn.map (·.1))->UW (cA kn ss):=λss g=>TQ a g;show !!!!{cs,lk,kn,rfl,NX.at 1 rfl,a,λss p g TC uF=>?_};have UY:=B5 a g;let⟨A,hA⟩:=Oh (wy:=wy) (d:=d) hg hp UY<|UG ss g;show{cs,ps,wy,d,p,cA kn ss,A,rfl,hg,ho,hd,aa,zH (qk a g)<|`a,UY,UG ss g,hA,λp2 lB=>?_};have H:=(Sub.new (c:=.lst<|(cA kn ss).map ao) uF).trans<|Sub.new (c:=.lst<|A.map ao) lB;have s:=NX.sub H;have m:=H _ _ hY;have Mr:((S2.set p<|.lst<|(cA kn ss).map ao).set p2<|.lst<|A.map ao) p2=ϑ (.lst<|A.map ao):=aa;generalize (S2.set p<|.lst<|(cA kn ss).map ao).set p2 (.lst<|A.map ao)=U at s m Mr⊢;clear NX hY uF lB H;have b0:A.length<=60:=by rw[hA.pm.length_eq];show zH (yD _ _)<|qk a g
 show !{_,Mr,?_};show fC (btk cs ps wy fr) id Mr (by change(A.map ao).length<=_;rw[zd];lia) (λy hy Q Q' hQ Ih=>?_) λp3 F8=>?_;let⟨r,Y,rfl⟩:=zk.mp hy;have P1:Ro cs r:={hA.an.rg.1 r Y,hA.an.ky r Y};show{λb S9=>b=oK cs ps wy fr r/\S9=U,?_,?_};cases fr with|none=>show (!!⟨bw ⟨rfl,rfl⟩⟩)|some u=>show !!⟨aM !!!!!{cs,ps,wy,r,rfl,hg,hp,ho.len,P1.1,TR hg ho (hf u rfl) P1 !⟨rfl,rfl⟩}⟩
 rintro b S9 ⟨rfl,rfl⟩;show cI (λh=>!⟨hQ h⟩) λh=>Ih h;have eB:(({A.map ao,λS=>qB S (.ref p2)<|A.map ao}:qC).xs.filter<|btk cs ps wy fr).map id=(A.filter<|oK cs ps wy fr).map ao:=by change((A.map ao).filter<|btk cs ps wy fr).map id=_;rw[List.map_id,List.filter_map];rfl
 rw[eB];have Yu:∀r∈A.filter (oK cs ps wy fr),Ro cs r:=λr hr=>{hA.an.rg.1 r (yi.mp hr).1,hA.an.ky r (yi.mp hr).1};have a2:∀{n:π},1<=n->i_ cs ps wy (vP cs ps wy d kn) fr ((A.filter<|oK cs ps wy fr).take n)=ϐ:=λhn=>by rw[<-LV hg hp g hA];show Ot hg hp hA.an hn hf
 generalize A.filter (oK cs ps wy fr)=L at Yu a2⊢;have I:=s.sub<|.new (c:=.lst<|L.map ao) F8;have E:=(Sub.new (c:=.lst<|L.map ao) F8) _ _ m;have v:(U.set p3<|.lst<|L.map ao) p3=ϑ (.lst<|L.map ao):=aa;generalize U.set p3 (.lst<|L.map ao)=S4 at I E v⊢;clear s m F8 Mr;show !{KP,λp4 PR=>!{_,_,(Sub.new PR) _ _ E,e1,`a,eG (yd _<|`a) (ya _<|`a) PR λdn ZR=>?_}};obtain⟨n,rfl,Mj,b1⟩:∃n:π,dn=.int n/\1<=n/\n<=9:=by have ZR:dn∈[D.int 1,.int 2,.int 3,.int 9]:=ZR;simp only[zl,zO,or_false]at ZR;rcases ZR with h|h|h|h;show{1,h,`a,`a};show{2,h,`a,`a};show{3,h,`a,`a};show{9,h,`a,`a}
 show !{_,v,λp5 U0=>?_};rw[show ck (L.map ao) none (some ((n:π):ν))=(L.take n).map ao by unfold ck;rw[HT.sIx_nat,HT.sIx_none,List.drop_zero,Nat.sub_zero,<-List.map_take,zd];show congrArg _<|List.take_eq_take_iff.mpr<|`b];have a3:(L.take n).length<=60:=by rw[yq];lia
 have M:∀r∈L.take n,Ro cs r:=λr hr=>Yu r<|List.mem_of_mem_take hr;have UU:=a2 Mj;generalize L.take n=B at a3 M UU⊢;have K3:=I.out U0;have Yv:=I.grow U0<|.lst<|B.map ao;have z:(S0.set p5<|.lst<|B.map ao) p5=ϑ (.lst<|B.map ao):=aa;have G:=sb.trans<|.new (c:=.lst<|B.map ao) K3;have Yw:=J.sub (.new (c:=.lst<|B.map ao) K3)<|zj _;generalize S0.set p5 (.lst<|B.map ao)=T0 at Yv z G Yw;generalize S4.set p5 (.lst<|B.map ao)=S5 at Yv⊢;clear I K3 U0 E v;show{_,rfl,{rfl,_,Yv.at 0 rfl},_,rfl,eU,le,_,_,rfl,rfl,Yv.at 0 rfl,bg<|`b,?_};have C:Fm T0 [(le,.lst<|xs++[.tup [.str "page",.ref p5]]),(lk,.cZ<|fh kn)] (S5.set le<|.lst<|xs++[.tup [.str "page",.ref p5]]):=Yv.put 0 rfl _;generalize S5.set le (.lst<|xs++[.tup [.str "page",.ref p5]])=S6 at C⊢;have Yx:m9 cs T0 60 (xs++[.tup [.str "page",.ref p5]]) (es++[.pg B]):=Yw.snoc<|.pg z M a3;have GC:=O.acV UU;have Bk:=C.sb _ _ z;have ZS:∀q,j8 fr B=ϑ q->Ro cs q:=λq h=>by unfold j8 at h;cases e:B.getLast? with|none=>rw[e]at h;show hf q h|some r=>rw[e]at h;cases h;show M _<|List.mem_of_getLast? e
 show !{BL,λpe R8=>Ob ((Sub.new R8) _ _ Bk) aa (λx hx=>?_) !⟨?_⟩};let⟨r,Y,rfl⟩:=zk.mp hx;show Ts (M r Y).2 (M r Y).1;rw[show(B.map ao).isEmpty=B.isEmpty by cases B<;>rfl];have a1:=C.sub<|.new (c:=.lst []) R8;have Yy:(es++[Gw.pg B]).length=i+1:=by rw[zq,hi];rfl
 show cI (λh=>?_) λh=>?_;cases e:B.getLast? with|none=>(rw[List.getLast?_eq_none_iff.mp e]at h;cases h)|some r=>have P1:=M r<|List.mem_of_getLast? e;have el:j8 fr B=ϑ r:=(by unfold j8;rw[e]);rw[el]at ZS GC;show !!!!{_,_,(Sub.new R8) _ _ Bk,TU e,cs,ps,wy,r,rfl,hg,hp,ho.len,P1.1,T0,kn,some r,_,_,_,_,_,_,_,rfl,a1,G,a,ZS,Yx,GC,Yy}
 have hB:B=[]:=by cases B<;>first|rfl|cases h
 have el:j8 fr B=fr:=by rw[hB];rfl
 rw[el]at ZS GC;show{T0,kn,fr,_,_,_,_,_,_,_,rfl,a1,G,a,ZS,Yx,GC,Yy};rintro ak S' h;show fo {_,by change(ms.map D.int).length<=40;rw[zd];show a8,h};rintro ak S' ⟨i,hi,⟨S0,kn,fr,xs,es,o7,o8,o9,ZP,ZQ,rfl,j,sb,a,hf,J,O,a7⟩⟩;have hw:=O [];rw[yR]at hw;show{_,rfl,fo<|q S' le xs es (j.at 0 rfl) (sb.trans j.sb) (J.sub j.sb<|zj _) `b<|hw.trans<|by unfold dj;rfl}
inductive qm (S:av):D->η|kind {d:D} (h:∀ds,d≠.tup ds) (g:Gt S d):qm S d|text:qm S (.tup [.tup [.str "a",.str "text"]])
inductive oP (S:av):D->η|kind {d:D} (h:∀ds,d≠.tup ds) (g:Gt S d):oP S d|len {ds:δ D} (h:ds.length≠2):oP S (.tup ds)|two {a b c:ρ}{y:D} : oP S (.tup [.tup [.str a,.str b,.str c],y])|left:oP S (.tup [.tup [],.str "left"])
inductive Ca (t:fj) (S:av):D->D->D->ε->η|c {c o s:D} (h:qm S c):Ca t S c o s t.aG|o {cs:δ<|ρ×ρ}{o s:D} (hg:Gd cs) (h:oP S o):Ca t S (.tup<|cs.map aF) o s t.aN|s {cs:δ<|ρ×ρ}{ps:δ Part}{wy:ρ}{s:D} (hg:Gd cs) (ho:Og cs ps wy) (h:Lv S 0 0 [s] false):Ca t S (.tup<|cs.map aF) (d9 ps wy) s t.aQ
def qm.sub(h:qm S d)(s:Sub S S'):qm S' d:=by cases h with|kind h g=>show .kind h (g.sub s)|text=>show .text
def oP.sub(h:oP S d)(s:Sub S S'):oP S' d:=by cases h with|kind h g=>show .kind h (g.sub s)|len h=>show .len h|two=>show .two|left=>show .left
def Ca.sub{t:fj}{S S':av}{c o d:D}{C:ε}(h:Ca t S c o d C)(s:Sub S S'):Ca t S' c o d C:=by cases h with|c h=>show .c (h.sub s)|o hg h=>show .o hg (h.sub s)|s hg ho h=>show .s hg ho<|h.sub s
def ac6:lH:=λds S R z=>∃d,ds=[d]/\d=.str "text"/\R (.bl false) S
def Cb(T:Txt w K mg t):Ok P w base T.lJ 1 ac6:=by
 show T.lJ.F.cy uf ?_;obtain⟨z,e,rfl,q⟩;show{_,(s1<|sr<|pL (cb bE T.ah ag<|ap 0<|ac (lG T.kM gw) an)<|IV<|cm DP `u (dv 0)<|dg (v:=.ref t.rZ) T.Bx rfl T.By),?_};show !{_,_,_,_,rfl,br,rfl,_,rfl,bw !{rfl,rfl,?_}};have e:IM (mJ<|.str "text") ([D.str "number",D.str "word"].map mJ)=ϰ:=`c
 change Fo S (R<|.bl<|if false=ϱ then _ else IM (mJ<|.str "text") ([D.str "number",D.str "word"].map mJ));rw[qa ze,e];show fo q
def TY:lH:=λds S R z=>ds=[.tup [.str "a",.str "text"]]/\R (.bl false) S
def vQ(T:Txt w K mg t):Ok P w base T.gm 3 TY:=by show T.gm.F.cy n_ ?_;obtain⟨e,q⟩;show{_,(sc (si (twd<|twor (bS<|tv<|cb bE T.ah ag<|ap 0<|ac (lG T.bc aP) an)<|tw1<|bJ fK `u (cb aY T.aR aH<|ap 0 an) di) (s1<|sr db) s0)<|s1<|sr<|pL (bA T.nZ (mW T) hr<|ac (ix `u (dv 0) di) an)<|IV<|bA T.lJ (Cb T) hr<|ac (ix `u (dv 0) di) an),?_};show !{_,_,_,_,rfl,aq,rfl,_,rfl,?_};show aM !!!⟨aM ?_⟩;show !!!{gt_str<|`a,_,rfl,?_};change if kU "a"= true then _ else _;rw[show kU "a"= true by trivial];show bw !!!{rfl,fo q}
def Ou(t:fj):lH:=λds S z Z=>∃d,ds=[d]/\qm S d/\Z t.aG S
def oQ(T:Txt w K mg t):Ok P w base T.dk 4 (Ou t):=by show T.dk.F.cy iX ?_;obtain⟨d,e,h,q⟩;show{_,(sc (si (twd<|twor (bS<|tv<|cb bE T.ah ag<|ap 0<|ac (lG T.bc aP) an)<|tw1<|bJ vE `u (cb aY T.aR aH<|ap 0 an)<|dg (v:=.int 8) T.jI {_,rfl} λz=>aS _) (s1<|lX ⟨T.bM⟩ T.cz<|ac ds an) s0)<|sc (si (bS<|tv<|cb me T.mf iB<|ac (AH (N:=["column"]) (src:=[none]) (pd jG) (HF<|dv 0) vF<|bA T.gm (vQ T) hr<|ap 0 an) an) (s1<|lX ⟨T.bM⟩ T.cz<|ac ds an) s0)<|s1<|si (bJ fK `u (Zk (bA T.gH (kW T) hr<|ap 0 an) T.aR T.FQ)<|cb aY T.aR aH<|ap 0 an) (s1<|lX ⟨T.bM⟩ T.cz<|ac ds an) s0),?_};cases h with|kind h g=>(let⟨⟨k,hk⟩,_⟩:=g;show !{_,_,_,_,rfl,aq,hk,_,rfl,?_};rcases mV hk with⟨ws,rfl,_⟩|⟨h0,_⟩;show absurd rfl<|h ws;rw[h0];show bw<|bw {sm<|`a,fo q})|text=>show !{_,_,_,_,rfl,aq,rfl,_,rfl,aM !!!⟨nj ?_⟩};show !{_,.inl rfl,?_};show comp_map (λz=>.bl false) trivial (show 1<=1000 by decide) (λd hd Q a=>?_) λp hp=>?_;rw[zE.mp hd];show{_,rfl,rfl,a};show{.ref p,[false],rfl,aa,_,rfl,bw {sm<|`a,S,.new hp,q}}
def Ov:lH:=λds S R x=>∃c z,ds=[c,.str z]/\R (.bl false) S
def Cc(T:Txt w K mg t):Ok P w base T.lK 4 Ov:=by show T.lK.F.cy ug ?_;obtain⟨c,z,e,q⟩;show{_,(sc (si (twd<|twor (bS<|tv<|cb bE T.ah ag<|ap 1<|ac (lG T.bc aP) an)<|tw1<|bJ fK `u (cb aY T.aR aH<|ap 1 an) di) (s1<|sr db) s0)<|s1<|sr<|pL (cm iC `u (bA T.gI (mm T) hr<|ap 0<|ac (ix `u (dv 1) di) an) dn)<|pL (bA T.pY (lO T) hr<|ac (ix `u (dv 1) di) an)<|IV<|bA T.xX (wU T) hr<|ac (ix `u (dv 1) di) an),_,rfl,_,_,_,_,rfl,aq,rfl,_,rfl,bw<|bw<|fo q}
def TZ(t:fj):lH:=λds S z Z=>∃(cs:δ (ρ×ρ))(d:D),ds=[.tup<|cs.map aF,d]/\oP S d/\d≠.tup [.tup [],.str "left"]/\Z t.aN S
def rE(T:Txt w K mg t):Ok P w base T.dD 5 (TZ t):=by show T.dD.F.cy cO ?_;obtain⟨cs,d,e,h,hn,q⟩;show{_,(sc (si (twd<|twor (bS<|tv<|cb bE T.ah ag<|ap 1<|ac (lG T.bc aP) an)<|tw1<|bJ fK `u (cb aY T.aR aH<|ap 1 an) di) (s1<|lX ⟨T.bz⟩ T.bD<|ac ds an) s0)<|sc (bT (i:=2) cO.nd<|ix `u (dv 1) di)<|sc (si (twd<|twor (bS<|tv<|cb bE T.ah ag<|ap 2<|ac (lG T.bc aP) an)<|tw1<|bJ vE `u (cb aY T.aR aH<|ap 2 an)<|dg (v:=.int 8) T.fL {_,rfl} λx=>aS _) (s1<|lX ⟨T.bz⟩ T.bD<|ac ds an) s0)<|sc (si (bS<|tv<|cb me T.mf iB<|ac (AH (N:=["part","columns"]) (src:=[none,some 0]) (pd fF) (HF<|dv 2) vF<|bA T.lK (Cc T) hr<|ap 1<|ap 0 an) an) (s1<|lX ⟨T.bz⟩ T.bD<|ac ds an) s0)<|sc (Bv (N:=["part"]) (src:=[none]) 3 cO.nd (pd fF) (HF<|dv 2) vF<|ix `u (dv 0) di)<|sc (si (bJ fK `u (Zk (dv 3) T.aR T.FQ)<|cb aY T.aR aH<|ap 3 an) (s1<|lX ⟨T.bz⟩ T.bD<|ac ds an) s0)<|s1<|si (bS<|tv<|bA T.pY (lO T) hr<|ac (ix `u (dv 1) di) an) (s1<|lX ⟨T.bz⟩ T.bD<|ac ds an) s0),?_};cases h with|kind h g=>(let⟨⟨k,hk⟩,_⟩:=g;show !{_,_,_,_,rfl,aq,hk,_,rfl,?_};rcases mV hk with⟨ws,rfl,_⟩|⟨h0,_⟩;show absurd rfl<|h ws;rw[h0];show bw<|bw {sm<|`a,fo q})|@len ds h=>show (!{_,_,_,_,rfl,aq,rfl,_,rfl,aM !!!⟨ph {sm<|`a,fo q}<|by change(!decide (((ds.length:π):ν)=2))=ϱ;rw[zp<|`b];rfl⟩})|@two a b c y=>(show !{_,_,_,_,rfl,aq,rfl,_,rfl,aM !!!⟨aM ?_⟩};show !!!{_,_,_,_,rfl,aq,rfl,_,rfl,aM !!!⟨vk rfl ?_⟩};show !{_,.inl rfl,?_};show comp_map (λx=>.bl false) trivial (show 3<=1000 by decide) (λd hd Q j=>?_) λp hp=>?_;have:∃z,d=.str z:=(by have hd:d∈[D.str a,.str b,.str c]:=hd;simp only[zl,zO,or_false]at hd;rcases hd with h|h|h<;>show{_,h});let⟨z,rfl⟩:=this;show !!{_,z,rfl,j};show{.ref p,[false,false,false],rfl,aa,_,rfl,bw {sm<|`a,S,.new hp,q}})|left=>show absurd rfl hn
def Ox(t:fj):lH:=λds S z Z=>∃a d,ds=[.ref a,d]/\qm S d/\Z t.aG S
def LZ(T:Txt w K mg t):pP P w mg base T.bW 5 (Ox t):=by show T.bW.F.cy ik ?_;obtain⟨a,d,e,h,q⟩;show{_,(sc (se<|bA T.dk (oQ T) hr<|ap 1 an)<|sc (sf T.aj T.cL (dv 0)<|dv 1)<|sc (sf T.aj T.cM (dv 0)<|ba an)<|s1<|sf T.aj T.bP (dv 0) Hy),_,rfl,d,rfl,h,fo q}
inductive Cf (t:fj) (S:av):D->D->D->D->ε->η|t {c o s e:D}{C:ε} (h:Ca t S c o s C):Cf t S c o s e C|e {cs:δ<|ρ×ρ}{ps:δ Part}{wy:ρ}{d e:D}{k:Kd} (hg:Gd cs) (ho:Og cs ps wy) (hd:Sq cs d) (hk:Mh S e k) (h:rS k=ϰ):Cf t S (.tup<|cs.map aF) (d9 ps wy) d e t.aT
def Yz(t:fj):lH:=λds S z Z=>∃k c o s C S0,ds=[.ref k,c,o,s]/\S0 k=ϐ/\S k=ϑ (.ins t.aU [])/\Sub S0 S/\Ca t S0 c o s C/\∀S',Sub S0 S'->Z C S'
def IH(T:Txt w K mg t):pP P w mg base T.bX 7 (Yz t):=by have l:pP P w mg base T.bW 5 _:=KR (F7 T)<|LZ T;have j:Ok P w base T.dD 5 _:=KR (lg T)<|rE T;show T.bX.F.cy ip ?_;obtain⟨k,c,o,s,C,S0,e,k0,hk,sb,h,q⟩;show{_,(sc (sf T.aE T.bt (dv 0)<|mk T.BC l (hr.mono<|`a) T.BB T.bW.b d0<|ap 1 an)<|sc (se<|bA T.dD j hr<|ap 1<|ap 2 an)<|sc (se<|bA T.ic (lh T) hr<|ap 1<|ap 3 an)<|sc (sf T.aE T.cN (dv 0)<|dv 2)<|sc (sf T.aE T.e_ (dv 0)<|dv 3)<|s1<|sf T.aE T.bG (dv 0) dn),?_};have d:∀{S'},Sub S0 S'->Fo S' (Z C):=λh=>fo<|q _ h;cases h with|c h=>show{_,rfl,λa ha=>.inr {a,_,rfl,h.sub<|sb.trans<|.new ha,d<|sb.trans<|.new ha}}|o hg h=>show{_,rfl,λa ha=>.inl {a,_,rfl,hg,aa,λS1 F i g=>{rfl,?_}}};have kept:∀b c,S b=ϑ c->S1 b=ϑ c:=λb c e=>(g b c (λm=>fk e ha<|zE.mp m)<|(ae<|fk e ha).trans e).2;have s1:∀{c},Sub S0 (S1.set k c):=λ{_} b c e=>(ae<|fk e k0).trans<|kept _ _<|sb _ _ e;show !{k,_,rfl,kept _ _ hk,(show 0<1000 by decide),?_};by_cases hl:o=.tup [.tup [],.str "left"];subst hl;show !!⟨.inl {_,[],"left",rfl,hg,(λz h=>nomatch h),λe=>tf e<|by unfold BR;rw[show oz "left"= false by trivial,yH,yH,yH],λz=>d s1}⟩;show (!!⟨.inr {_,o,rfl,h.sub s1,hl,d s1}⟩)|s hg ho h=>show{_,rfl,λa ha=>.inl {a,_,rfl,hg,aa,λS1 F i g=>{rfl,?_}}};have kept:∀b c,S b=ϑ c->S1 b=ϑ c:=λb c e=>(g b c (λm=>fk e ha<|zE.mp m)<|(ae<|fk e ha).trans e).2;have s1:∀{c},Sub S0 (S1.set k c):=λ{_} b c e=>(ae<|fk e k0).trans<|kept _ _<|sb _ _ e;show !{k,_,rfl,kept _ _ hk,(show 0<1000 by decide),?_};show !!⟨.inl {_,_,_,rfl,hg,ho.tx,λz=>?_,λe=>tf ho.ok e}⟩;show !!{_,s,false,rfl,h.sub s1,nofun,λz=>d s1}
def YA(t:fj):lH:=λds S z Z=>∃c o s e C,ds=[c,o,s,e]/\Cf t S c o s e C/\Z C S
def uZ(T:Txt w K mg t)(B:Bm mg base):Ok P w base T.eM 14 (YA t):=by have l:pP P w mg base T.bX 7 _:=KR (B_ T)<|IH T;show T.eM.F.cy bq ?_;rintro _ _ _ _ _ _ _ S R Z hr ⟨c,o,s,e,C,j,h,q⟩;subst j;show{_,(sc (bT (i:=4) bq.nd<|mk T.BE l (hr.mono<|`a) T.BD T.bX.b d0<|ap 0<|ap 1<|ap 2 an)<|sc (si (bS<|tv<|cb bE T.ah ag<|ap 3<|ac (lG T.pV lE) an) (s1<|lX ⟨T.dP⟩ T.eI<|ac ds an) s0)<|sc (jd<|tP (ien T.qG<|ap 3 an) (gt (n:=2)<|gc (gn (i:=5) bq.nd)<|gc (gn (i:=6) bq.nd) g0)<|s1<|si (tv<|bA T.fI (jc T) hr<|ap 0<|ap 6 an) (sc (bT (i:=7) bq.nd<|o_ (dv 4) T.aE T.dQ (mx T B) hr<|ac (ix `u (dv 6) di) an)<|s1<|si (bJ iC `u (dv 7) dn) (s1<|sr<|aI<|ac (ix `u (dv 7) di)<|ap 5<|ac (ix `u (dv 7) di) an) s0)<|s1<|si (bS<|tv<|bA T.r9 (uT T) hr<|ac (fl T.aE T.bt<|dv 4)<|ap 6 an) (s1<|sr<|aI<|ac ds<|ap 5 an) s0)<|s1<|sr dn),?_};cases h with|t h=>show (!!!⟨λk hk=>.inr {k,_,_,_,_,S,rfl,hk,aa,.new hk,h,λS' s=>⟨S,s,q⟩}⟩)|@e cs ps wy d e r hg ho hd g h=>show !!!⟨λk hk=>.inl {k,cs,ps,wy,s,rfl,hg,ho,hd,aa,λS1 a F p m nk kept=>{rfl,?_}}⟩;have s1:Sub S S1:=λb c e=>(kept b c (fk e hk)<|(ae<|fk e hk).trans e).2;show !{_,_,_,_,rfl,i9,kd_sub s1 g,_,rfl,?_};rw[h];show bw {sm<|`a,S,s1,q}
structure Xk(K:Φ)(t:fj)(C:ε)(b0 b1 b2 b3:χ):η where
 xc:XC K C
 xa:XA K C
 m:mroIn K C (.ref t.bO)=ϑ true
 k0:kitOne K (.ref C) (.ref t.aG)=ϑ b0
 k1:kitOne K (.ref C) (.ref t.aN)=ϑ b1
 k2:kitOne K (.ref C) (.ref t.aQ)=ϑ b2
 k3:kitOne K (.ref C) (.ref t.aT)=ϑ b3
 k4:kitOne K (.ref C) (.ref t.bC)=ϑ false
noncomputable def nm(b:χ)(z:ρ):δ D:=if b=ϱ then[.str z] else[]
def xg(b:χ)(z:ρ):(nm b z).length<=1:=by cases b<;>simp[nm]
noncomputable def nmL(b0 b1 b2 b3:χ):δ D:=nm b0 "BadColumns"++nm b1 "BadOrder"++nm b2 "BadSieve"++nm b3 "BadDeed"
theorem ac8(T:Txt w K mg t):Xk K t t.aG true false false false:={⟨T.bM⟩,T.iD,T.cT,T.k_BadColumns_BadColumns,T.k_BadColumns_BadOrder,T.k_BadColumns_BadSieve,T.k_BadColumns_BadDeed,T.k_BadColumns_BadRow}
theorem ac9(T:Txt w K mg t):Xk K t t.aN false true false false:={⟨T.bz⟩,T.kO,T.dw,T.k_BadOrder_BadColumns,T.k_BadOrder_BadOrder,T.k_BadOrder_BadSieve,T.k_BadOrder_BadDeed,T.k_BadOrder_BadRow}
theorem ac_(T:Txt w K mg t):Xk K t t.aQ false false true false:={⟨T.gG⟩,T.kP,T.dy,T.k_BadSieve_BadColumns,T.k_BadSieve_BadOrder,T.k_BadSieve_BadSieve,T.k_BadSieve_BadDeed,T.k_BadSieve_BadRow}
theorem ada(T:Txt w K mg t):Xk K t t.aT false false false true:={⟨T.dP⟩,T.mQ,T.cF,T.k_BadDeed_BadColumns,T.k_BadDeed_BadOrder,T.k_BadDeed_BadSieve,T.k_BadDeed_BadDeed,T.k_BadDeed_BadRow}
inductive xh (K:Φ) (t:fj) (ds:δ D) (S:av) (R:KD) (Z:KX):η
 |mk (c o s e:D) (C:ε) (b0 b1 b2 b3:χ) (_:ds=[c,o,s,e]) (_:Cf t S c o s e C) (_:Xk K t C b0 b1 b2 b3) (_:∀p S',Sub S S'->S' p=ϑ (.lst<|nmL b0 b1 b2 b3)->R (.ref p) S')
def Cf.sub{S S':av}{c o d e:D}{C:ε}(h:Cf t S c o d e C)(s:Sub S S'):Cf t S' c o d e C:=by cases h with|t h=>show .t (h.sub s)|e hg ho hd hk h=>show .e hg ho hd (kd_sub s hk) h
def L3(T:Txt w K mg t)(B:Bm mg base):Ok P w base T.x8 15 (xh K t):=by
 show T.x8.F.cy mT ?_;rintro _ _ _ _ _ _ _ S R Z hr ⟨c,o,s,e,C,b0,b1,b2,b3,g,h,X,q⟩;subst g;show{_,(sc (bT (i:=4) mT.nd<|ba an)<|sc (jd<|abK (i:=5) mT.nd T.nW ⟨T.ia⟩ (s1<|se<|bA T.eM (uZ T B) hr<|ap 0<|ap 1<|ap 2<|ap 3 an) λz=>(sc (jd<|si (tv<|Xg Bh T.ah ag<|ap 5<|ac (dg (v:=.ref t.aG) T.cz rfl λz=>eX _) an) (s1<|se<|bm zG zM zN bh (dv 4)<|ac ds an) s0)<|sc (jd<|si (tv<|Xg Bh T.ah ag<|ap 5<|ac (dg (v:=.ref t.aN) T.bD rfl λz=>eX _) an) (s1<|se<|bm zG zM zN bh (dv 4)<|ac ds an) s0)<|sc (jd<|si (tv<|Xg Bh T.ah ag<|ap 5<|ac (dg (v:=.ref t.aQ) T.kN rfl λz=>eX _) an) (s1<|se<|bm zG zM zN bh (dv 4)<|ac ds an) s0)<|sc (jd<|si (tv<|Xg Bh T.ah ag<|ap 5<|ac (dg (v:=.ref t.aT) T.eI rfl λz=>eX _) an) (s1<|se<|bm zG zM zN bh (dv 4)<|ac ds an) s0)<|s1<|si (tv<|Xg Bh T.ah ag<|ap 5<|ac (dg (v:=.ref t.bC) T.dO rfl λz=>eX _) an) (s1<|se<|bm zG zM zN bh (dv 4)<|ac ds an) s0))<|s1<|sr<|dv 4),?_};show{BL,λp hp=>?_};show{λak S'=>∃o5,ak=[some c,some o,some s,some e,some<|.ref p,o5]/\Sub S S'/\S' p=ϑ (.lst<|nmL b0 b1 b2 b3),?_,?_};show !!!!{c,o,s,e,C,rfl,h.sub<|.new hp,X.m,λx hx=>?_};have put:∀{S' L},Sub S S'->Sub S (S'.set p L):=λsb b c e=>(ae<|fk e hp).trans<|sb _ _ e;have nx:x≠p:=by rintro rfl;rw[aa]at hx;cases hx
 have sb:Sub S ((S.set p<|.lst []).set x<|.exc C):=(Sub.new hp).trans<|.new hx;have a:((S.set p<|.lst []).set x<|.exc C) p=ϑ (.lst []):=(ae nx.symm).trans aa;have d:((S.set p<|.lst []).set x<|.exc C) x=ϑ (.exc C):=aa;generalize (S.set p<|.lst []).set x (.exc C)=S1 at sb a d⊢;show{λak S'=>ak=[some c,some o,some s,some e,some<|.ref p,some<|.ref x]/\Sub S S'/\S' x=ϑ (.exc C)/\S' p=ϑ (.lst<|nm b0 "BadColumns"),?_,?_};show !{x,C,_,b0,rfl,d,X.xc,X.xa,.inl !⟨X.k0⟩,_,rfl,cI (λh=>?_) λh=>?_};show{_,rfl,{rfl,_,a},p,_,_,rfl,rfl,a,bg<|`a,fo {rfl,put sb,(ae nx).trans d,by rw[aa,h];rfl}};show fo {rfl,sb,d,by rw[h];show a};rintro ak S' ⟨rfl,sb,d,a⟩;show{λak S'=>ak=[some c,some o,some s,some e,some<|.ref p,some<|.ref x]/\Sub S S'/\S' x=ϑ (.exc C)/\S' p=ϑ (.lst<|nm b0 "BadColumns"++nm b1 "BadOrder"),?_,?_};show !{x,C,_,b1,rfl,d,X.xc,X.xa,.inl !⟨X.k1⟩,_,rfl,cI (λh=>?_) λh=>?_};show{_,rfl,{rfl,_,a},p,_,_,rfl,rfl,a,bg<|by have:=xg b0 "BadColumns";lia,fo {rfl,put sb,(ae nx).trans d,by rw[aa,h];rfl}};show fo {rfl,sb,d,by rw[h,show nm false _=[] from rfl,yR];show a};rintro ak S' ⟨rfl,sb,d,a⟩;show{λak S'=>ak=[some c,some o,some s,some e,some<|.ref p,some<|.ref x]/\Sub S S'/\S' x=ϑ (.exc C)/\S' p=ϑ (.lst<|nm b0 "BadColumns"++nm b1 "BadOrder"++nm b2 "BadSieve"),?_,?_};show !{x,C,_,b2,rfl,d,X.xc,X.xa,.inl !⟨X.k2⟩,_,rfl,cI (λh=>?_) λh=>?_};show{_,rfl,{rfl,_,a},p,_,_,rfl,rfl,a,bg<|by have:=xg b0 "BadColumns";have:=xg b1 "BadOrder";simp only[zq];lia,fo {rfl,put sb,(ae nx).trans d,by rw[aa,h];rfl}};show fo {rfl,sb,d,by rw[h,show nm false _=[] from rfl,yR];show a};rintro ak S' ⟨rfl,sb,d,a⟩;show{λak S'=>ak=[some c,some o,some s,some e,some<|.ref p,some<|.ref x]/\Sub S S'/\S' x=ϑ (.exc C)/\S' p=ϑ (.lst<|nm b0 "BadColumns"++nm b1 "BadOrder"++nm b2 "BadSieve"++nm b3 "BadDeed"),?_,?_};show !{x,C,_,b3,rfl,d,X.xc,X.xa,.inl !⟨X.k3⟩,_,rfl,cI (λh=>?_) λh=>?_};show{_,rfl,{rfl,_,a},p,_,_,rfl,rfl,a,bg<|by have:=xg b0 "BadColumns";have:=xg b1 "BadOrder";have:=xg b2 "BadSieve";simp only[zq];lia,fo {rfl,put sb,(ae nx).trans d,by rw[aa,h];rfl}};show fo {rfl,sb,d,by rw[h,show nm false _=[] from rfl,yR];show a};rintro ak S' ⟨rfl,sb,d,a⟩;show !{x,C,_,false,rfl,d,X.xc,X.xa,.inl !⟨X.k4⟩,_,rfl,aM<|fo !⟨sb,a⟩};rintro ak S' ⟨o5,rfl,sb,a⟩;show{_,rfl,fo<|q p S' sb a}
noncomputable def oR:π->D|0=>.tup [.str "every"]|n+1=>.tup [.str "not",oR n]
noncomputable def EV:π->D|0=>.tup [.str "every"]|n+1=>.tup [.str "and",.tup<|List.replicate 8<|EV n]
theorem EW:∀(k n p m:π),n+k=8->p+k<=100->Lv S n p [oR<|k+m] false|0,n,p,m,h,_=>.Et (List.cons_ne_nil _ _) (.inl<|`b)|k+1,n,p,m,h,h2=>by rw[Nat.succ_add];show .go (List.cons_ne_nil _ _) `b (show p+1<=200 by lia) (λe a=>by rw[zE.mp a];show .no _) (show 1<=900 by decide)<|EW k (n+1) (p+1) m `b<|`b
def YB:Lv S 0 0 [EV 3] false:=by
 have f:∀{n:π},SY (EV<|n+1):=λ{n}=>.an (by rw[yk];show zj _);have g:∀{k n:π},(List.replicate k<|EV<|n+1).flatMap wW=List.replicate (k*8) (EV n):=λ{k n}=>by induction k with|zero=>rw[Nat.zero_mul];rfl|succ k h=>rw[List.replicate_succ,List.flatMap_cons,h,show wW (EV<|n+1)=List.replicate 8 (EV n) from rfl,List.replicate_append_replicate,Nat.add_comm,Nat.succ_mul]
 have one:∀{n k p:π}{b:χ}{m:π},n<8->1<=k->k<=100->p+k<=200->Lv S (n+1) (p+k) (List.replicate (k*8)<|EV m) b->Lv S n p (List.replicate k<|EV<|m+1) b:=λ{n k p b m} h1 h2 i a d=>by show .go (λe=>?_) h1 (by rw[yk];show a) (λe c=>by rw[(List.mem_replicate.mp c).2];show f) (by rw[g,yk];lia) (by rw[g,yk];show d);have:=congrArg List.length e;rw[yk]at this;change k=0 at this;lia
 show one (k:=1) `a `a `a `a<|one (k:=8) `a `a `a `a<|one (k:=64) `a `a `a `a<|.Et (by rw[show 64*8=511+1 from rfl,List.replicate_succ];show List.cons_ne_nil _ _)<|.inr<|by rw[yk];decide
noncomputable def Ci(kn:Kn):Gw->θ Kn|.pg _=>some kn|e=>stepK kn e
noncomputable def runK:Kn->δ Gw->θ Kn|kn,[]=>some kn|kn,e::es=>match Ci kn e with|some k=>runK k es|none=>none
def GF(a:KI cs kn)(c:CH cs S n d e)(h:Ci kn e=ϑ eO):KI cs eO:=by by_cases hp:∃r,e=.pg r;let⟨r,rfl⟩:=hp;cases h;show a;show Gy a c<|by cases e<;>first|show h|show absurd {_,rfl} hp
theorem Cj:∀{ds:δ D}{a b:δ Gw}{kn:Kn}{fr:θ Row}{i:π},m9 cs S n ds a->KI cs kn->dj cs ps wy d kn fr i (a++b)=ϐ->∃eO,runK kn a=ϑ eO/\KI cs eO/\∀e more,(∀rows,e≠.pg rows)->stepK eO e=ϐ->dj cs ps wy d kn fr i (a++e::more)=ϑ (("event": ρ),i+a.length,none)
 |_,[],b,kn,fr,i,.nil,j,h=>{kn,rfl,j,λe more hp l=>by rw[List.nil_append,ja hp,l];rfl}
 |_,x::a,b,kn,fr,i,.cons r t,j,h=>by
  have nx:∀{g:Kn}{c:θ Row},Ci kn x=ϑ g->dj cs ps wy d g c (i+1) (a++b)=ϐ->(∀m,dj cs ps wy d kn fr i (x::m)=dj cs ps wy d g c (i+1) m)->∃eO,runK kn (x::a)=ϑ eO/\KI cs eO/\∀e more,(∀rows,e≠.pg rows)->stepK eO e=ϐ->dj cs ps wy d kn fr i (x::a++e::more)=ϑ (("event": ρ),i+(x::a).length,none):=λ{g c} h1 h2 o=>by let⟨eO,e1,e2,e3⟩:=Cj (b:=b) t (GF j r h1) h2;show{eO,by unfold runK;rw[h1];show e1,e2,λe more hp l=>?_};rw[List.cons_append,o,e3 e more hp l,zV,Nat.add_assoc,Nat.add_comm 1]
  rw[List.cons_append]at h;by_cases hp:∃rows,x=.pg rows;let⟨rows,rfl⟩:=hp;rw[sG]at h;cases e:i_ cs ps wy (vP cs ps wy d kn) fr rows with|some f=>(rw[e]at h;cases h)|none=>rw[e]at h;show nx rfl h λm=>by rw[sG,e]
  have hp:∀rows,x≠.pg rows:=λrows e=>hp ⟨rows,e⟩;rw[ja hp]at h;cases e:stepK kn x with|none=>(rw[e]at h;cases h)|some g=>rw[e]at h;show nx (by cases x<;>first|show e|show absurd rfl (hp _)) h λm=>by rw[ja hp,e]
inductive GH (ds:δ D) (S:av) (R:KD) (Z:KX):η
 |mk (_:ds=[]) (_:∀p,S p=ϐ->R (.ref p) (S.set p<|.lst [oR 8,EV 3,oR 2008]))
def T4(T:Txt w K mg t):Ok P w base T.fc 1 GH:=by show T.fc.F.cy aW ?_;obtain⟨e,q⟩;have g:=oo;have d:=eU;show{_,(sc (bT (i:=0) aW.nd<|aI<|ac ds an)<|sc (jd<|tP (NB T.fH<|ac di an) (gn (i:=1) aW.nd)<|s1<|bT (i:=0) aW.nd<|aI<|ac ds<|ap 0 an)<|sc (bT (i:=2) aW.nd<|aI<|ac ds an)<|sc (jd<|tP (NB T.fH<|ac di an) (gn (i:=1) aW.nd)<|s1<|bT (i:=2) aW.nd<|aI<|ac ds<|ac (bo RV `u (aI<|ap 2 an) di) an)<|sc (bT (i:=3) aW.nd<|dv 0)<|sc (jd<|tP (NB T.fH<|ac di an) (gn (i:=1) aW.nd)<|s1<|bT (i:=3) aW.nd<|aI<|ac ds<|ap 3 an)<|s1<|sr<|ba<|ap 0<|ap 2<|ap 3 an),?_};show{g,λak S'=>∃o1:θ D,ak=[some<|oR 8,o1,none,none]/\S'=S,?_,?_};show{8,rfl,`a,`a,?_};show{λi ak S'=>∃o1:θ D,ak=[some<|oR i,o1,none,none]/\S'=S,!⟨rfl⟩,λz z z z=>trivial,?_,?_};rintro i y ak S' h ⟨o1,rfl,rfl⟩;show !{d,_,rfl,rfl};rintro ak S' ⟨o1,rfl,rfl⟩;show fo !⟨rfl⟩;rintro ak S' ⟨o1,rfl,rfl⟩;show{g,λak a=>∃o1:θ D,ak=[some<|oR 8,o1,some<|EV 3,none]/\a=S',?_,?_};show{3,rfl,`a,`a,?_};show{λi ak a=>∃o1:θ D,ak=[some<|oR 8,o1,some<|EV i,none]/\a=S',!⟨rfl⟩,λz z z z=>trivial,?_,?_};rintro i y ak a h ⟨o1,rfl,rfl⟩;show !{g,_,_,rfl,rfl,`a,`a,d,_,rfl,rfl};rintro ak a ⟨o1,rfl,rfl⟩;show fo !⟨rfl⟩;rintro ak a ⟨o1,rfl,rfl⟩;show !{λak c=>∃o1:θ D,ak=[some<|oR 8,o1,some<|EV 3,some<|oR 2008]/\c=a,?_,?_};show{2000,rfl,`a,`a,?_};show{λi ak c=>∃o1:θ D,ak=[some<|oR 8,o1,some<|EV 3,some<|oR<|8+i]/\c=a,!⟨rfl⟩,λz z z z=>trivial,?_,?_};rintro i y ak c h ⟨o1,rfl,rfl⟩;show !{d,_,rfl,rfl};rintro ak c ⟨o1,e,rfl⟩;rw[show({fU 0 (2000:ν).toNat,λz=>True}:qC).xs.length=2000 from eY]at e;subst e;show fo !⟨rfl⟩;rintro ak c ⟨o1,rfl,rfl⟩;show !!!{Ad,λp hp=>fo<|q p hp}
inductive oS (ds:δ D) (S:av) (R:KD) (Z:KX):η
 |mk (cs n l xs es eO) (_:ds=[.ref l]) (_:S l=ϑ (.lst xs)) (_:m9 cs S n xs es) (_:runK [] es=ϑ eO) (_:∀p,S p=ϐ->R (.ref p) (S.set p<|.cZ<|fh eO))
set_option tactic.hygienic true in
def Ck(T:Txt w K mg t):Ok P w base T.mS 1 oS:=by show T.mS.F.cy iF ?_;rintro _ _ _ _ _ _ _ S R Z hr ⟨cs,n,l,xs,es,eO,G,hl,y,B,q⟩;subst G;show{_,(sc (bT (i:=1) iF.nd Hy)<|sc (jd<|tP (il<|dv 0) (gn (i:=2) iF.nd)<|s1<|si (bJ cE `u (ix `u (dv 2) di) ds) (s1<|se<|mp1 (dv 1)<|ix `u (dv 2) di)<|s1<|si (bJ fK `u (ix `u (dv 2) di) ds) (s1<|sd `u (dv 1) (ix `u (dv 2) di)<|ix `u (dv 2) di) s0)<|s1<|sr<|dv 1),?_};show λp hp=>?_;have v:l≠p:=fk hl hp;have I:xs.length=es.length:=yP y;show{λak S'=>∃o,ak=[some<|.ref l,some<|.ref p,o]/\S'=S.set p (.cZ<|fh eO),?_,?_};{show !{xs,(ae v).trans hl,?_};show{λi ak S'=>∃o kn,ak=[some<|.ref l,some<|.ref p,o]/\S'=S.set p (.cZ<|fh kn)/\KI cs kn/\runK kn (es.drop i)=ϑ eO,{none,[],rfl,rfl,KI.nil cs,B},?_,?_,?_};rintro i ak S' ⟨o,kn,rfl,rfl,_,_⟩;show(ae v).trans hl;{rintro i x ak S' hx ⟨o,kn,rfl,rfl,r,hk⟩;have hx:xs[i]?=some x:=hx;let⟨e,E,j⟩:=ES y hx;rw[AA E]at hk;have m:(S.set p<|.cZ<|fh kn) p=ϑ (.cZ<|fh kn):=aa;have H:=r.len;have g:(fh kn).length<sizeLine:=bg (by unfold fh;rw[zd];lia);obtain⟨d,h1,h2⟩:∃d,Ci kn e=ϑ d/\runK d (es.drop<|i+1)=ϑ eO:=(by unfold runK at hk;cases h:Ci kn e with|none=>(rw[h]at hk;cases hk)|some k=>rw[h]at hk;show⟨k,rfl,hk⟩);have s:=GF r j h1;have c:∃o kn,[some<|D.ref l,some<|D.ref p,some x]=[some<|.ref l,some<|.ref p,o]/\(S.set p<|.cZ<|fh d)=S.set p (.cZ<|fh kn)/\KI cs kn/\runK kn (es.drop<|i+1)=ϑ eO:={_,d,rfl,rfl,s,h2};cases j with|@put z ws hz hw=>(have a:(if (fS kn z).isSome=ϱ then none else some (j6 kn z ws))=ϑ d:=h1;split at a;cases a;cases a;show !!!⟨nj !!!⟨ph !!!!!{p,fh kn,.inr z,rfl,m,rfl,g,?_}⟩⟩;rw[Aj,bR];show c)|@chg z ws hz hw=>(have a:(if (fS kn z).isSome=ϱ then some (j6 kn z ws) else none)=ϑ d:=h1;split at a;cases a;show !!!⟨nj !!!⟨ph !!!!!{p,fh kn,.inr z,rfl,m,rfl,g,?_}⟩⟩;rw[Aj,bR];show c;cases a)|@tk z hz=>(have a:(if (fS kn z).isSome=ϱ then some (rB kn z) else none)=ϑ d:=h1;split at a;(case isTrue h=>cases a;let⟨ws,C⟩:=Option.isSome_iff_exists.mp h;show (!!!⟨ph !{p,fh kn,rfl,m,_,rfl,_,rfl,fh kn,.inr z,.tup ws,m,rfl,by rw[k_,C];rfl,?_}⟩);rw[K9,bR];show c);case isFalse=>cases a)|pg _ _ _=>(cases h1;show !!!⟨nj !!!⟨nj c⟩⟩)|bad _=>cases h1};rintro ak S' ⟨o,kn,rfl,rfl,r,hk⟩;have A:es.drop xs.length=[]:=List.drop_eq_nil_of_le `b;have hk:runK kn (es.drop xs.length)=ϑ eO:=hk;rw[A]at hk;cases hk;show fo !⟨rfl⟩};rintro ak S' ⟨o,rfl,rfl⟩;show{_,rfl,fo<|q p hp}
def Bd(S:av)(cs:δ<|ρ×ρ)(kn:Kn)(d:D):Prop:=∃e,CH cs S 100 d e/\(∀rows,e≠.pg rows)/\stepK kn e=ϐ
def Bd.sub(h:Bd S cs kn d)(s:Sub S S'):Bd S' cs kn d:=by let⟨e,a,b,c⟩:=h;show{e,a.sub s<|zj _,b,c}
theorem sy.bd(h:sy S cs d):Bd S cs kn d:={.bad,.bad h,nofun,rfl}
noncomputable def WN(cs:δ<|ρ×ρ):δ D:=cs.map λz=>.ay
def xj(cs:δ<|ρ×ρ):Wg cs (WN cs):=by unfold Wg WN;induction cs with|nil=>show .nil|cons c cs a=>show .cons ⟨rfl,rfl⟩ a
structure Mn(S0 S:av)(cs:δ (ρ×ρ))(kn:Kn)(l:ε)(n:π):η where
 sb:Sub S0 S
 ex:∃xs,S l=ϑ (.lst xs)/\xs.length<=n/\0<xs.length/\∀d∈xs,Bd S cs kn d
theorem xk(h:∀ds,d≠.tup ds)(g:Gt S d):Bd S cs kn d:=sy.bd<|.ox (.kind h g)<|.kind h g
theorem mz{S:av}{cs:δ<|ρ×ρ}{kn:Kn}{ds:δ D}(h:ql S cs<|.tup<|.str "page":: ds):Bd S cs kn (.tup<|.str "page":: ds):=sy.bd<|.ox (.word<|`a) h
theorem EX(h:S l=ϑ (.lst [.tup [k,v]]))(hk:Gt S k)(hv:CC S v)(hb:eV cs k v=ϰ):Bd S cs kn (.tup [.str "page",.ref l]):=mz<|.row h (λx hx=>by rw[zE.mp hx];show .inl ⟨k,v,rfl,hk,hv⟩) (by change(eV cs k v&&true)=ϰ;rw[hb];rfl)<|show 1<=100 by decide
theorem AD(g:Gt S d)(h:cs.length<=8):CC S (.tup<|WN cs++[d]):={{{.tup,rfl},nofun},λws e=>by cases e;show{by rw[zq];change(WN cs).length+1<=1000;rw[show(WN cs).length=cs.length from zd _];lia,λv hv=>?_};rcases zP.mp hv with hv|hv;let⟨_,_,rfl⟩:=zk.mp hv;show eN;rw[zE.mp hv];show g}
def m_(h:cs.length<=8):eV cs k (.tup<|WN cs++[d])=ϰ:=by unfold eV gf;dsimp only;rw[show ω ((WN cs++[d]).length=cs.length)=ϰ from zp (by rw[zq,show(WN cs).length=cs.length from zd _];change ¬cs.length+1=cs.length;lia),zU,yH]
def YC:eV cs (.str "A") v=ϰ:=by unfold eV;rw[show ofStr j5 (.str "A")=ϰ by trivial];rfl
noncomputable def T5(kn:Kn):D->χ|.str z=>!(fS kn z).isSome|_=>false
def YD(kn:Kn)(d:D):Prop:=(∃z,d=.str z/\z∈KS/\fS kn z=ϐ)\/d=.str "zz"
theorem L4(cs:δ<|ρ×ρ):(WN cs).length=cs.length:=zd _
def Mn.up(M:Mn S0 S1 cs kn l n)(u:Sub S1 S2):Mn S0 S2 cs kn l n:=by let⟨a,_,b,c,d,e⟩:=M;show{a.trans u,_,u _ _ b,c,d,λx h=>(e x h).sub u}
def Mn.le(M:Mn S0 S1 cs kn l n)(h:n<=m):Mn S0 S1 cs kn l m:=by let⟨a,x,b,c,d,e⟩:=M;show{a,x,b,zH c h,d,e}
theorem Mn.add(M:Mn S0 S1 cs kn l n)(u:Sub S1 S2)(e:S2 p=ϑ (.lst<|xs++ys))(h1:xs.length<=n)(a:∀d∈xs,Bd S1 cs kn d)(hb:∀d∈ys,Bd S2 cs kn d)(c:0<(xs++ys).length:=by simp)(hm:ys.length<=m:=by show zj _):Mn S0 S2 cs kn p (n+m):={M.sb.trans u,_,e,by rw[zq];lia,c,λd hd=>(zP.mp hd).elim (λh=>(a d h).sub u)<|hb d}
theorem PQ(h:Sub S0 S)(n:S a=ϐ):Sub S0 (S.set a c):=h.trans<|.new n
theorem ce1{S:av}{a b:ε}{c d:Ce}(h:S a=ϑ c)(n:S b=ϐ):S.set b d a=ϑ c:=Sub.new n _ _ h
theorem AM{p:D->η} : ∀d∈([]:δ D),p d:=λz h=>nomatch h
theorem al{p:D->η}{d:D}{l:δ D}(h:p d)(t:∀x∈l,p x):∀x∈d::l,p x:=List.forall_mem_cons.mpr ⟨h,t⟩
theorem YE{p:D->η}{d:D}(h:p d):∀x∈[d],p x:=al h AM
theorem Jb:0<=sizeLine:=yh _
theorem vS:1<=sizeLine:=sm<|`a
theorem mB:2<=sizeLine:=sm<|`a
theorem wk:3<=sizeLine:=sm<|`a
theorem Oy:4<=sizeLine:=sm<|`a
theorem sz6:6<=sizeLine:=sm<|`a
theorem sz9:9<=sizeLine:=sm<|`a
theorem ZT(h:cs.length<=8):(WN cs).length+1<=sizeLine:=sm<|by rw[L4];lia
noncomputable abbrev Sl(cs:δ<|ρ×ρ)(lk p4 p5 q:ε)(x:ν)(u v w:θ D):SD:=[some<|.tup<|cs.map aF,some<|.ref lk,some<|.int x,some<|.tup<|WN cs,some<|.tup [.str "a",.tup<|WN cs],u,some<|.ref p4,some<|.ref p5,some<|.ref q,v,w]
inductive Ms (S S5:av) (cs:δ<|ρ×ρ) (kn:Kn) (lk p4 p5:ε) (x:ν) (n:π) (ak:SD) (S':av):η
 |mk (q:ε) (u v w:θ D) (_:ak=Sl cs lk p4 p5 q x u v w) (_:Mn S S' cs kn q n) (_:Sub S5 S'):Ms S S5 cs kn lk p4 p5 x n ak S'
inductive Mt (S S5:av) (cs:δ<|ρ×ρ) (kn:Kn) (lk p4 p5:ε) (x:ν) (n:π) (ak:SD) (S':av):η
 |mk (q:ε) (u v w:θ D) (Sb:av) (xs:δ D) (_:ak=Sl cs lk p4 p5 q x u v w) (hq:Sb q=ϐ) (_:Sub S Sb) (_:Sub S5 Sb) (hl:xs.length<=n) (hb:∀d∈xs,Bd Sb cs kn d) (_:S'=Sb.set q (.lst xs)):Mt S S5 cs kn lk p4 p5 x n ak S'
def T6(h:YD kn d):Bd S cs kn (.tup [.str "change",d,.tup<|WN cs]):=by rcases h with⟨z,rfl,hz,e⟩|rfl;show{.chg z _,.chg hz<|xj cs,nofun,qa<|by rw[e];show ze};show sy.bd<|.zc<|xj cs
def YF(h:YD kn d):Bd S cs kn (.tup [.str "take",d]):=by rcases h with⟨z,rfl,hz,e⟩|rfl;show{.tk z,.tk hz,nofun,qa<|by rw[e];show ze};show sy.bd .zt
theorem mC{S:av}{cs:δ<|ρ×ρ}{kn:Kn}{ds:δ D}(h:I_ S<|.tup ds)(h2:ql S cs<|.tup ds):Bd S cs kn (.tup ds):=sy.bd<|.ox h h2
theorem AE(hk:Gt S k)(hv:CC S v)(h:eV cs k v=ϰ):Bd S cs kn (.tup [.str "put",k,v]):=sy.bd<|.put hk hv h
def Oz{S:av}{ds:δ D}{R:KD}(h:∀d∈ds,Ly S 60 d)(q:R (.bl<|!ds.isEmpty) S):IW true (.tup ds) (.tup []) S R:=by let⟨ps,k1,k2,k3,k4⟩:=Ly.all h;show{.tuple ps,.tuple [],by simp only[Dl,Dp];show⟨ps,rfl,k1⟩,by simp only[Dl,Dp];show{[],rfl,by simp only[DpAll]},by simp only[PyData.canLay0];show k2,by simp only[PyData.canLay0,PyData.canLayAll0],.inl<|by simp only[PyData.depth];lia,?_};rw[qb rfl,Lb,show ps.isEmpty=ds.isEmpty by cases ps<;>cases ds<;>first|rfl|cases k4];show q
noncomputable def Di(c:ρ×ρ):D:=if c.2 ="word" then .int 5 else .str "x"
noncomputable def lng:D:=.str<|PySem.Txt.mul "a" 41
def T7:ck (WN<|c::cs) (some 1) none=WN cs:=by unfold ck;rw[show HT.sIx (WN<|c::cs).length 0 (some 1)=1 from(HT.sIx_nat _ 0 1).trans (Nat.min_eq_left<|y6 _)];show List.take_of_length_le<|zj _
def GI:(ck xs none<|some 1).length<=1:=by unfold ck;show zH (List.length_take_le _ _)<|zH (Nat.sub_le _ _)<|zH (Nat.le_of_eq<|HT.sIx_nat _ _ 1)<|Nat.min_le_left 1 _
def GJ(h:iG c.2 d=ϰ):eV (c::cs) k (.tup<|[d]++ck (WN<|c::cs) (some 1) none)=ϰ:=by rw[T7];change eV (c::cs) k (.tup<|d::WN cs)=ϰ;unfold eV gf;dsimp only;rw[List.zipWith_cons_cons,List.all_cons,h,show id false=ϰ from rfl,zU,yH,yH]
def GK(g:Gt S d)(h:cs.length<=8):CC S (.tup<|[d]++ck (WN<|c::cs) (some 1) none):=by rw[T7];show Gg (show(WN cs).length+1<=1000 by rw[L4];lia)<|List.forall_mem_cons.mpr {g,λv hv=>by let⟨_,_,rfl⟩:=zk.mp hv;show eN}
def L5(h:cs.length<=8):1+(ck (WN<|c::cs) (some 1) none).length<=sizeLine:=by rw[T7,Nat.add_comm];show ZT h
theorem L6:¬(HT.sIx (WN<|c::cs).length 0 (some 1)=0/\HT.sIx (WN<|c::cs).length (WN<|c::cs).length none=(WN<|c::cs).length):=λh=>by have:=(HT.sIx_nat _ 0 1).symm.trans h.1;rw[show(WN<|c::cs).length=(WN cs).length+1 from rfl]at this;lia
theorem a41:MulOk "a" 41:={`a,`a,`c}
def T8{c:ρ×ρ} : iM [D.str "x",.int 5] (if ω (c.2 ="word")=ϱ then 1 else 0)=ϑ (Di c):=by unfold Di;by_cases h:c.2 ="word";rw[qb h,zy h];rfl;rw[qa h,zp h];rfl
def OA{c:ρ×ρ}(h:c.2 ="number"\/c.2 ="word"):∀d∈[D.bl true,Di c,lng],iG c.2 d=ϰ/\∀S,Gt S d:=by
 unfold Di iG;show al {?_,λS=>PX}<|al ?_<|al {?_,λS=>cH<|`c} AM;all_goals rcases h with h|h<;>rw[h]
 all_goals first|show{`c,λS=>cH<|`a}|show{`c,λS=>gt_int}|decide +kernel
local macro_rules|`(tactic|trivial)=>`(tactic|((repeat' first|exact Sub.refl _|exact aa|assumption|refine PQ ?_ (by assumption)|refine ce1 ?_ (by assumption));done))
inductive oU (ds:δ D) (S:av) (R:KD) (Z:KX):η
 |mk (cs lk kn x) (_:ds=[.tup<|cs.map aF,.ref lk,.int x]) (_:Gd cs) (hN:∀c∈cs,c.1∈BQ) (_:S lk=ϑ (.cZ<|fh kn)) (_:KI cs kn) (_:∀d S',Sub S S'->Bd S' cs kn d->R d S')
def Co(T:Txt w K mg t):Ok P w base T.mR 1 oU:=by
 show T.mR.F.cy aC ?_;rintro _ _ _ _ _ _ _ S R Z hr ⟨cs,lk,kn,x,e0,hg,hN,hk,hI,q⟩;subst e0;have n:=hg.1;have f0:=hI.len;show{_,(sc (bT (i:=3) aC.nd<|ct jm T.bc aP<|ac (AH (N:=["_law_column"]) (src:=[none]) (pd nM) (HF<|dv 0) vF dn) an)<|sc (bT (i:=4) aC.nd<|aI<|ac ds<|ap 3 an)<|sc (bT (i:=6) aC.nd<|bo eR `u (AH (N:=["_law_key_here","_law_standing_here"]) (src:=[none,some 1]) (pd nM) (il<|ba<|ac ds<|ac ds<|ac ds<|ac ds an) (if1<|bJ WD `u (dv 0)<|dv 1)<|dv 0)<|ba<|ac ds an)<|sc (bT (i:=7) aC.nd<|cb tQ T.gF fw<|ap 1 an)<|sc (jd<|bT (i:=8) aC.nd<|ba<|ac dn<|ac di<|ac (aI an)<|ac (aI<|ac ds an)<|ac (aI<|ac ds<|ac (ba an)<|ac (ba an) an)<|ac (ba<|ac ds<|ac (ba an) an)<|ac (aI<|ac ds<|ac (ba an) an)<|ac (aI<|ac ds<|ac (aI<|ap 4 an) an)<|ac (aI<|ac ds<|ac (ba<|ac dn an) an) an)<|sc (jd<|bT (i:=8) aC.nd<|bo eR `u (dv 8)<|ba<|ac (aI<|ac ds<|ac (ba<|ac (ct DQ T.pV lE<|ap 4 an) an) an)<|ac (aI<|ac ds<|ac (ba<|ac (aI<|ac ds<|ac (bo eR `u (dv 3)<|aI<|ac di an) an) an) an)<|ac (aI<|ac ds<|ac (ba<|ac (aI<|ac ds<|ap 3 an) an) an)<|ac (aI<|ac ds<|ap 4 an) an)<|sc (jd<|bT (i:=8) aC.nd<|bo eR `u (dv 8)<|ba<|ac (aI<|ac ds<|ac (ba<|ap 4<|ac (aI<|ac ds an) an) an)<|ac (aI<|ac ds<|ac ds<|ap 3 an)<|ac (aI<|ac ds<|ac ds<|ac (bo eR `u (dv 3)<|aI<|ac di an) an) an)<|sc (se<|bm zG zM zN bh (dv 8)<|ac (aI<|ac ds<|ac ds<|ac (ct DQ T.pV lE<|ap 3 an) an) an)<|sc (jd<|bT (i:=8) aC.nd<|bo eR `u (dv 8)<|ba<|ac (aI<|ac ds<|ac ds an)<|ac (aI<|ac ds<|ac (ix `u (dv 6)<|Hz di)<|ap 3<|ac di an)<|ac (aI<|ac ds<|ac (ix `u (dv 6) di)<|ap 3 an) an)<|sc (jd<|bT (i:=8) aC.nd<|bo eR `u (dv 8)<|ba<|ac (aI<|ac ds<|ac (ix `u (dv 6) di) an)<|ac (aI<|ac ds an) an)<|sc (jd<|bT (i:=8) aC.nd<|bo eR `u (dv 8)<|ba<|ac (aI<|ac ds<|ac di an)<|ac (aI<|ac ds<|ac ds<|ac ds an)<|ac (aI<|ac ds<|ac ds an)<|ac ds<|ac (ba an)<|ac Hy an)<|sc (jd<|bT (i:=8) aC.nd<|bo eR `u (dv 8)<|ba<|ac (aI<|ac ds<|ac ds<|ap 3 an)<|ac (aI<|ac (ba<|ac ds an)<|ac ds an) an)<|sc (jd<|bT (i:=8) aC.nd<|bo eR `u (dv 8)<|ba<|ac (aI<|ac ds<|ac di<|ac di an)<|ac (aI<|ac ds<|ac dn an)<|ac (aI<|ac ds<|ac ds an) an)<|sc (jd<|tP (il<|NY (dv 7) o0<|o1 di) (gn (i:=5) aC.nd)<|s1<|bT (i:=8) aC.nd<|bo eR `u (dv 8)<|ba<|ac (aI<|ac ds<|ap 5<|ap 3 an)<|ac (aI<|ac ds<|ap 5<|ac (bo eR `u (dv 3)<|aI<|ac db an) an)<|ac (aI<|ac ds<|ap 5<|ac dn an)<|ac (aI<|ac ds<|ac (aI<|ap 5 an) an) an)<|sc (jd<|si (bJ fK `u (dv 0)<|aI an) (sc (bT (i:=9) aC.nd<|Fz<|ix `u (ba<|ac ds<|ac di an)<|ct J4 T.FP xw<|ac (cm cE `u (ix `u (ix `u (dv 0) di) di) ds) an)<|s1<|tP (HF<|aI<|ac db<|ap 9<|ac (bo wm `u ds di) an) (gn (i:=10) aC.nd)<|s1<|bT (i:=8) aC.nd<|bo eR `u (dv 8)<|ba<|ac (aI<|ac ds<|ac (ba<|ac (aI<|ac ds<|ac (bo eR `u (aI<|ap 10 an)<|sl (dv 3) (o1 di) o0) an) an) an)<|ac (aI<|ac ds<|ac ds<|ac (bo eR `u (aI<|ap 10 an)<|sl (dv 3) (o1 di) o0) an) an) s0)<|s1<|sr<|ix `u (dv 8)<|bo c8 `u (dv 2)<|cb aY T.aR aH<|ap 8 an),?_};show !{_,.inl rfl,?_};show comp_map (λf=>.ay) trivial (by change(cs.map aF).length<=1000;rw[zd];lia) (λd hd Q hQ=>hQ) λp0 K3=>?_;show{_,WN cs,rfl,.inl<|by change(S.set p0<|.lst<|(cs.map aF).map _) p0=_;rw[aa,zC];rfl,?_};have s0:=Sub.new (c:=.lst<|(cs.map aF).map λf=>D.ay) K3;generalize S.set p0 (.lst<|(cs.map aF).map λf=>D.ay)=S0 at s0⊢;have Xx:=s0 _ _ hk;show !{eU,?_};show{KP,λp1 uF=>{_,aa,?_}};have s1:=s0.trans<|Sub.new (c:=.lst [.str "a",.str "ab",.str "b",.str "m"]) uF;have NH:=(Sub.new (c:=.lst [.str "a",.str "ab",.str "b",.str "m"]) uF) _ _ Xx;show fC (T5 kn) id aa (show 4<=1000 by decide) (λd hd Q Q' hQ Ih=>?_) λp2 lB=>?_;obtain⟨z,rfl⟩:∃z,d=.str z:=by have hd:d∈[D.str "a",.str "ab",.str "b",.str "m"]:=hd;simp only[zl,zO,or_false]at hd;rcases hd with h|h|h|h<;>show{_,h}
 show !!⟨.inr {fh kn,.inr z,NH,rfl,_,rfl,?_}⟩;have e:(!(cK (fh kn)<|.inr z).isSome)=T5 kn (.str z):=by rw[k_,Option.isSome_map];rfl
 show cI (λh=>!⟨hQ<|e.symm.trans h⟩) λh=>Ih<|e.symm.trans h
 have O:∀d∈(([D.str "a",.str "ab",.str "b",.str "m"].filter (T5 kn)).map id)++[D.str "zz"],YD kn d:=λd hd=>by
  rcases zP.mp hd with hd|hd;rw[List.map_id,yi]at hd;let⟨hd,hb⟩:=hd;obtain⟨z,rfl,hz⟩:∃z,d=.str z/\z∈KS:=by simp only[zl,zO,or_false]at hd;rcases hd with rfl|rfl|rfl|rfl<;>show{_,rfl,`c}
  show .inl ⟨z,rfl,hz,by have hb:(!(fS kn z).isSome)=ϱ:=hb;cases e:fS kn z with
   |none=>rfl
   |some _=>rw[e]at hb;cases hb⟩
  show .inr<|zE.mp hd
 have y:(([D.str "a",.str "ab",.str "b",.str "m"].filter<|T5 kn).map id).length<=4:=by rw[zd];show yD _ _
 have O:∀d∈((⟨[D.str "a",.str "ab",.str "b",.str "m"],λS=>qB S (.ref p1) [D.str "a",.str "ab",.str "b",.str "m"]⟩:qC).xs.filter (T5 kn)).map id++[D.str "zz"],YD kn d:=O;have y:((({[D.str "a",.str "ab",.str "b",.str "m"],λS=>qB S (.ref p1) [D.str "a",.str "ab",.str "b",.str "m"]}:qC).xs.filter<|T5 kn).map id).length<=4:=y;generalize (({[D.str "a",.str "ab",.str "b",.str "m"],λS=>qB S (.ref p1) [D.str "a",.str "ab",.str "b",.str "m"]}:qC).xs.filter<|T5 kn).map id=L at O y⊢;have t2:=Sub.new (c:=.lst L) lB;show{oo,λp3 F8=>{L,_,(Sub.new F8) _ _ aa,aa,sm<|show L.length+1<=1000 by lia,λp4 PR=>?_}};have t3:=(t2.trans<|Sub.new (c:=.lst [.str "zz"]) F8).trans<|Sub.new (c:=.lst<|L++[.str "zz"]) PR;have s4:=s1.trans t3;have E:=t3 _ _ NH;have G:((((S0.set p1<|.lst [.str "a",.str "ab",.str "b",.str "m"]).set p2<|.lst L).set p3<|.lst [.str "zz"]).set p4<|.lst<|L++[.str "zz"]) p4=ϑ (.lst<|L++[.str "zz"]):=aa;clear t2 t3 s1 NH;generalize (((S0.set p1<|.lst [.str "a",.str "ab",.str "b",.str "m"]).set p2<|.lst L).set p3<|.lst [.str "zz"]).set p4 (.lst<|L++[.str "zz"])=S4 at s4 E G⊢;show !{lk,fh kn,kn.map (·.1),rfl,E,by unfold fh;rw[zC,zC];rfl,by unfold fh;rw[zd];lia,λss nK hs p5 U0=>?_};have s5:=s4.trans<|Sub.new (c:=.lst<|ss.map D.str) U0;have OB:=(Sub.new (c:=.lst<|ss.map D.str) U0) _ _ G;have b5:(S4.set p5<|.lst<|ss.map D.str) p5=ϑ (.lst<|ss.map D.str):=aa;clear s4 E G;generalize S4.set p5 (.lst<|ss.map D.str)=S5 at s5 OB b5⊢;show{Ms S S5 cs kn lk p4 p5 x 9,?_,?_};show{Jb,vS,Jb,λa1 h1=>{Jb,λa2 h2=>{wk,Jb,λa3 h3=>{mB,λa4 h4=>{Jb,λa5 h5=>{mB,_,rfl,vS,mB,vS,λa6 h6=>{mB,sz9,λl hl=>fo {l,_,_,_,rfl,{s5.trans<|`c,_,aa,zj _,y6 _,?_},`c}}}}}}}};show(al (xk nofun eN)<|al (xk nofun gt_int)<|al (mC .nil<|.len<|`a)<|al (mz<|.len<|show 1≠2 by decide)<|al (mz<|.len<|show 3≠2 by decide)<|al (xk nofun (m6 (L:=[.str "page",.ref a3])<|`c))<|al (mC (.word<|`a)<|.word<|`a)<|al (mz<|.lst (k:=.tup) rfl rfl)<|al (mz<|.row (xs:=[.ay]) `c (YE<|.inr<|.inr ⟨nofun,eN⟩) rfl<|show 1<=100 by decide) AM);rintro ak S6 ⟨q6,_,_,_,rfl,M6,u6⟩;show{Ms S S5 cs kn lk p4 p5 x<|9+4,?_,?_};let⟨xs,o,j,r,g⟩:=M6.ex;show !!{_,_,rfl,.inr rfl,λb1 d2=>{vS,λb2 FH=>{mB,_,rfl,vS,ZT n,mB,vS,λb3 SN=>{mB,_,rfl,mB,vS,λb4 d6=>{mB,_,rfl,mB,Oy,λm hm=>{xs,_,`c,aa,sm<|show xs.length+4<=1000 by lia,λq hq=>fo {q,_,_,_,rfl,M6.add `c aa j g ?_,u6.trans<|`c}}}}}}};show(al (mz<|.row (xs:=[.ref b1]) `c (YE<|.inr<|.inr {nofun,m6 (L:=[.str "a",.tup<|WN cs])<|`c}) rfl<|show 1<=100 by decide)<|al (EX (k:=.str "a") (v:=.tup<|WN cs++[.int 0]) `c (cH<|`a) (AD gt_int n)<|m_ n)<|al (EX (k:=.str "A") (v:=.tup<|WN cs) `c (cH<|`a) ((xj cs).Tf n) YC)<|al (mz<|.lst (k:=.tup) rfl rfl) AM);rintro ak S7 ⟨q7,_,_,_,rfl,M7,u7⟩;show{Mt S S5 cs kn lk p4 p5 x<|9+4+3,?_,?_};let⟨xs,o,j,r,g⟩:=M7.ex;show !!{vS,mB,λc1 X5=>{mB,_,rfl,wk,_,rfl,vS,ZT n,wk,wk,λm hm=>{xs,_,`c,aa,sm<|show xs.length+3<=1000 by lia,λq hq=>fo {q,_,_,_,_,_,rfl,hq,M7.sb.trans<|`c,u7.trans<|`c,by rw[zq];show Nat.add_le_add_right j 3,λd hd=>(zP.mp hd).elim (λh=>(g d h).sub<|`c) ?_,rfl}}}};show(al (mz<|.row (xs:=[.tup [.str "a",.tup<|WN cs],.tup [.str "a"]]) `c (al (.inl {_,_,rfl,cH<|`a,((xj cs).Tf n)})<|YE<|.inr<|.inl !⟨`a⟩) (by change(_&&(false&&true))=ϰ;rw[zU,yH])<|show 2<=100 by decide)<|al (AE (cH<|`a) ((xj cs).Tf n) YC)<|al (AE (cH<|`a) (AD gt_int n)<|m_ n) AM) d;rintro ak S' ⟨C,_,_,_,Sb,xs,rfl,hq,s8,u8,hl,hB,rfl⟩;show{_,rfl,{rfl,_,aa},_,rfl,_,_,rfl,.inr rfl,λH YG=>{wk,C,_,_,rfl,rfl,Sub.new YG _ _ aa,bg<|`b,?_}};have nq:C≠H:=by rintro rfl;rw[aa]at YG;cases YG
 have U:Sb H=ϐ:=(ae nq.symm).symm.trans YG;have M9:∃S9,((Sb.set C<|.lst xs).set H<|.lst<|WN cs).set C (.lst<|xs++[.tup [.str "put",.str "a",.ref H]])=S9/\Sub Sb S9/\Mn S S9 cs kn C (9+4+3+1):=by show{_,rfl,?_};have u:Sub Sb (((Sb.set C<|.lst xs).set H<|.lst<|WN cs).set C<|.lst<|xs++[.tup [.str "put",.str "a",.ref H]]):=λb c e=>(by rw[ae<|fk e hq,ae<|fk e U,ae<|fk e hq];show e);show{u,s8.trans u,_,aa,by rw[zq];show Nat.add_le_add_right hl 1,by rw[zq];show y6 _,λd hd=>(zP.mp hd).elim (λh=>(hB d h).sub u)<|YE (AE (cH<|`a) {m6<|(ae nq.symm).trans aa,nofun}<|by unfold eV gf;show yH _) d}
 let⟨S9,e9,u9,M9⟩:=M9;rw[e9];replace u9:=u8.trans u9;clear e9 U nq YG hB hl u8 s8 hq;obtain⟨g0,b7,a0⟩:∃d,iM (L++[D.str "zz"]) 0=ϑ d/\YD kn d:=by cases L with|nil=>show{_,Hl _ _,O _ zw}|cons d L=>show{_,Hl _ _,O _ zw}
 show{Ms S S5 cs kn lk p4 p5 x<|9+4+3+1+3,?_,?_};let⟨xs,o,j,r,g⟩:=M9.ex;show !{mB,_,rfl,_,rfl,_,_,u9 _ _ OB,Gm _ _,_,rfl,Oy,_,rfl,_,_,u9 _ _ OB,b7,_,rfl,wk,wk,λm hm=>{xs,_,`c,aa,sm<|show xs.length+3<=1000 by lia,λq hq=>fo {q,_,_,_,rfl,M9.add `c aa j g ?_,u9.trans<|`c}}};show(al (mC (.len<|.inl {.inl rfl,`a})<|.word<|`a)<|al (mC (.len<|.inl {.inl rfl,show 3≠2 by decide})<|.len<|show 4≠2 by decide)<|al (T6 a0) AM);rintro ak e3 ⟨d3,_,_,_,rfl,I,a9⟩;show{Ms S S5 cs kn lk p4 p5 x<|9+4+3+1+3+2,?_,?_};let⟨xs,o,j,r,g⟩:=I.ex;show !!{_,_,a9 _ _ OB,b7,mB,vS,mB,λm hm=>{xs,_,`c,aa,sm<|show xs.length+2<=1000 by lia,λq hq=>fo {q,_,_,_,rfl,I.add `c aa j g ?_,a9.trans<|`c}}};show(al (YF a0)<|al (mC (.len<|.inr {rfl,`a})<|.len<|show 1≠2 by decide) AM);rintro ak e4 ⟨d5,_,_,_,rfl,b0,c4⟩;show{Ms S S5 cs kn lk p4 p5 x<|9+4+3+1+3+2+6,?_,?_};let⟨xs,o,j,r,g⟩:=b0.ex;show !{mB,wk,mB,Jb,λe1 c0 e2 e5=>{sz6,λm hm=>{xs,_,`c,aa,sm<|show xs.length+6<=1000 by lia,λq hq=>fo {q,_,_,_,rfl,b0.add `c aa j g ?_,c4.trans<|`c}}}};show(al (sy.bd<|.tk gt_int rfl)<|al (mC (.len<|.inr {rfl,`a})<|.len<|show 3≠2 by decide)<|al (mC (.len<|.inl {.inr rfl,`a})<|.word<|`a)<|al (xk nofun (cH<|`a))<|al (xk nofun (m6 (L:=[])<|`c))<|al (xk nofun {{.cZ,.inr {rfl,[],`c}},nofun}) AM);rintro ak e8 ⟨d8,_,_,_,rfl,a7,c6⟩;show{Ms S S5 cs kn lk p4 p5 x<|9+4+3+1+3+2+6+2,?_,?_};let⟨xs,o,j,r,g⟩:=a7.ex;show !!{wk,vS,λe1 c0=>{mB,mB,λm hm=>{xs,_,`c,aa,sm<|show xs.length+2<=1000 by lia,λq hq=>fo {q,_,_,_,rfl,a7.add `c aa j g ?_,c6.trans<|`c}}}};show(al (mC (.word<|`a)<|.len<|show 3≠2 by decide)<|al (mC (.fst nofun (m6 (L:=[.str "put"])<|`c))<|.fst nofun (m6 (L:=[.str "put"])<|`c)) AM);rintro ak e7 ⟨d4,_,_,_,rfl,Y,c5⟩;show{Ms S S5 cs kn lk p4 p5 x<|9+4+3+1+3+2+6+2+3,?_,?_};let⟨xs,o,j,r,g⟩:=Y.ex;show !{wk,mB,mB,wk,λm hm=>{xs,_,`c,aa,sm<|show xs.length+3<=1000 by lia,λq hq=>fo {q,_,_,_,rfl,Y.add `c aa j g ?_,c5.trans<|`c}}};show(al (mC (.word<|`a)<|.len<|show 3≠2 by decide)<|al (mz<|.lst (k:=.ay) rfl rfl)<|al (mz<|.lst (k:=.str) rfl rfl) AM);rintro ak J ⟨c9,_,_,_,rfl,c2,c3⟩;show{Ms S J cs kn lk p4 p5 x 37,?_,?_};show !!{_,c3 _ _ b5,λpw hw=>{_,aa,λi ak S'=>Ms S (J.set pw<|.lst<|ck (ss.map D.str) none<|some 1) cs kn lk p4 p5 x (33+4*i) ak S',{c9,_,_,_,rfl,c2.up<|.new hw,.refl _},λi ak S' ⟨_,_,_,_,_,_,p⟩=>p _ _ aa,?_,?_}};rintro i d ak S' hd ⟨q0,_,_,_,rfl,M,p⟩;have hi:=zu (zf.mp hd).1 GI;have hd:d∈ss.map D.str:=List.mem_of_mem_drop<|List.mem_of_mem_take<|zB hd;let⟨z,hz,rfl⟩:=zk.mp hd;have hz:=nK.mem_iff.mp hz;let⟨ws,AK⟩:=jz hz;have s:=(hI.ok _<|ir AK).1;let⟨xs,o,j,r,g⟩:=M.ex;show !!!{wk,_,rfl,_,rfl,vS,ZT n,wk,_,rfl,wk,_,rfl,vS,mB,Oy,λm hm=>{xs,_,`c,aa,sm<|show xs.length+4<=1000 by lia,λq hq=>{q,_,_,_,rfl,Mn.le (M.add (m:=4) `c aa j g ?_)<|show 33+4*i+4<=33+4*(i+1) by lia,p.trans<|`c}}};show(al {.put z _,.put s<|xj cs,nofun,qb<|by rw[AK];rfl}<|al (sy.bd<|.chg (uJ s) (AD PX n)<|m_ n)<|al (sy.bd<|.chg (uJ s) ⟨eN,nofun⟩<|by unfold eV gf;show yH _)<|al (sy.bd<|.tk LA rfl) AM);rintro ak S' ⟨q0,_,_,_,rfl,M,p⟩;show fo {q0,_,_,_,rfl,M.le<|Nat.add_le_add_left (Nat.mul_le_mul_left 4 GI) 33,(Sub.new hw).trans p};rintro ak B ⟨X,_,_,_,rfl,a8,d7⟩;show{Ms S B cs kn lk p4 p5 x 43,?_,?_};show !{Jb,Oz (Oa hg hN) !⟨?_⟩};cases cs with|nil=>show nj (fo {X,_,_,_,rfl,a8.le<|`a,.refl _}) rfl|cons c cs=>have ZU:cs.length<=8:=Nat.le_of_succ_le n;have ob:=OA (hg.2.2 c zw).2;show ph {mB,λa ha=>!{_,Hl _ _,_,rfl,.inr !⟨?_⟩}} rfl;show{_,Di c,aa,T8,B,.new ha,?_};show !{a41,wk,_,.inl rfl,λi ak S'=>Ms S B (c::cs) kn lk p4 p5 x (37+2*i) ak S',{X,_,_,_,rfl,a8,.refl _},λf f f f=>trivial,?_,?_};rintro i d ak S' hd ⟨q0,_,_,_,rfl,M,p⟩;have hi:i<3:=(zf.mp hd).1;let⟨ob,og⟩:=ob d<|zB hd;let⟨xs,o,j,r,g⟩:=M.ex;show !!{vS,_,rfl,_,rfl,L6,L5 ZU,mB,vS,λb hb=>{mB,_,rfl,vS,_,rfl,_,rfl,L6,L5 ZU,wk,mB,λm hm=>{xs,_,`c,aa,sm<|show xs.length+2<=1000 by lia,λq hq=>{q,_,_,_,rfl,Mn.le (M.add (m:=2) `c aa j g ?_)<|show 37+2*i+2<=37+2*(i+1) by lia,p.trans<|`c}}}};show(al (EX (k:=.str "a") (v:=.tup<|[d]++ck (WN<|c::cs) (some 1) none) `c (cH<|`a) (GK (og _) ZU)<|GJ ob)<|al (AE (cH<|`a) (GK (og _) ZU)<|GJ ob) AM);rintro ak S' ⟨q0,_,_,_,rfl,M,p⟩;show fo {q0,_,_,_,rfl,M,p}
 rintro ak c7 ⟨f1,_,_,_,rfl,b6,e6⟩;let⟨xs,o,j,r,g⟩:=b6.ex;let⟨d,e1,e2⟩:=rR (l:=xs) (i:=x%((xs.length:π):ν)) (yd _<|`b)<|ya _ `b;show !!!!⟨.inl {_,o,(show(0:ν)<((xs.length:π):ν) by lia),_,_,o,e1,fo<|q d c7 b6.sb<|g d<|zB e2}⟩
def u0(L:δ D)(k:π):ck L none (some ((k:π):ν))=L.take k:=by unfold ck;rw[HT.sIx_nat,HT.sIx_none,List.drop_zero,Nat.sub_zero];show List.take_eq_take_iff.mpr<|`b
def L7(L:δ D)(k:π):ck L (some ((k:π):ν)) none=L.drop k:=by unfold ck;rw[HT.sIx_nat,HT.sIx_none];rcases Nat.le_total k L.length with h|h;rw[Nat.min_eq_left h,List.take_of_length_le<|by rw[yV];show zj _];rw[Nat.min_eq_right h,Nat.sub_self,List.take_zero,List.drop_eq_nil_of_le h]
theorem sH:∀{l:δ α}{m:δ β}(k:π),Paired r l m->Paired r (l.take k) (m.take k)|_,_,0,_=>by rw[List.take_zero,List.take_zero];show .nil|_,_,k+1,.nil=>.nil|_,_,k+1,.cons h t=>.cons h<|sH k t
theorem GL:∀{l:δ α}{m:δ β}(k:π),Paired r l m->Paired r (l.drop k) (m.drop k)|_,_,0,h=>h|_,_,k+1,.nil=>.nil|_,_,k+1,.cons h t=>GL k t
def OC(h:0<n):∃k:π,x%((n:π):ν)=((k:π):ν)/\k<n:=by have h1:=yd x (b:=(n:ν)) `b;have h2:=ya x (b:=(n:ν)) `b;show{(x%(n:ν)).toNat,`b,`b}
def YH(ns:δ ν):(ck ns (some 24)<|some 36).length<=40:=by unfold ck;rw[show HT.sIx ns.length 0 (some 24)=min 24 ns.length from HT.sIx_nat ..,show HT.sIx ns.length ns.length (some 36)=min 36 ns.length from HT.sIx_nat ..];show zH (List.length_take_le _ _)<|`b
noncomputable abbrev Mu:D:=.tup [.str "every"]
structure Wt(cs:δ (ρ×ρ))(ps:δ Part)(wy:ρ)(p:ε)(xs:δ D)(es:δ Gw)(S:av):η where
 at_:S p=ϑ (.lst xs)
 ev:m9 cs S 60 xs es
 le:es.length<=40
 no:dj cs ps wy Mu [] none 0 es=ϐ
theorem Wt.sub(h:Wt cs ps wy p xs es S)(s:Sub S S'):Wt cs ps wy p xs es S':={s _ _ h.at_,h.ev.sub s<|zj _,h.le,h.no}
noncomputable abbrev T9(ns:δ ν)(cs:δ<|ρ×ρ)(ps:δ Part)(wy:ρ)(p:ε)(r:δ<|θ D):SD:=some (.lV<|ns.map D.int)::some (.tup<|cs.map aF)::some (d9 ps wy)::some Mu::some (.ref p)::r
def II(S:av):π->D->η|0,d=>qm S d|1,d=>oP S d|2,d=>Lv S 0 0 [d] false|_,d=>∃k,Mh S d k/\rS k=ϰ
structure Mq(S:av)(pb:ε):η where
 of:∀j,j<4->∃(bs:δ D)(b:ε)(L:δ D),S pb=ϑ (.lst bs)/\iM bs ((j:π):ν)=ϑ (.ref b)/\S b=ϑ (.lst L)/\0<L.length/\∀d∈L,II S j d
def L8{S:av}{ps:δ Part} : oP S (.tup<|ps.map p3):=by rcases ps with _|⟨a,_|⟨b,_|⟨c,ps⟩⟩⟩;show .len (show 0≠2 by decide);show .len (show 1≠2 by decide);show .two;show .len<|show(ps.map p3).length+3≠2 by lia
theorem GN(h:NF S d):Lv S 0 0 [d] false:=.nf `a `a h
noncomputable abbrev C2:δ D:=[.ay,.tup [.str "any"],.tup [],.str "every"]
noncomputable abbrev CF:δ D:=[oR 8,EV 3,oR 2008]
theorem YI:∀d∈C2++CF,Lv S 0 0 [d] false:=al (GN<|.inr<|.inr ⟨nofun,eN⟩)<|al (GN<|.inr<|.inl rfl)<|al (GN<|.inl rfl)<|al (GN<|.inr<|.inr {nofun,cH<|`a})<|al (EW 8 0 0 0 rfl<|`a)<|al YB<|al (EW 8 0 0 2000 rfl<|`a) AM
structure As(S:av)(r:δ D)(k:π)(full:χ)(ys:δ D):η where
 len:ys.length=4
 pre:∀j,j<k->ys[j]?=r[j]?
 bad:full=ϱ->∃d,ys[k]?=some d/\II S k d
theorem II.sub(s:Sub S S'):∀{k:π}{d:D},II S k d->II S' k d|0,_,h=>qm.sub h s|1,_,h=>oP.sub h s|2,_,h=>Lv.sub s h|_+3,_,⟨k,a,b⟩=>{k,kd_sub s a,b}
theorem As.sub(h:As S r k f ys)(s:Sub S S'):As S' r k f ys:={h.len,h.pre,λe=>by let⟨d,a,b⟩:=h.bad e;show{d,a,b.sub s}}
def As.set(h:As S r k f ys)(l:k<=j)(c:k<4)(hb:II S j d)(hf:f=ϱ\/j=k):As S r k g (ys.set j d):=by show{by rw[List.length_set];show h.len,λi hi=>by rw[yt<|`b];show h.pre i hi,λz=>?_};by_cases e:j=k;subst e;show{d,yz<|by rw[h.len];show c,hb};let⟨x,a,b⟩:=h.bad<|hf.resolve_right e;show{x,by rw[yt e];show a,b}
noncomputable def wdN:π->ρ|0=>"BadColumns"|1=>"BadOrder"|2=>"BadSieve"|_=>"BadDeed"
noncomputable abbrev WD4:δ D:=[.str "BadColumns",.str "BadOrder",.str "BadSieve",.str "BadDeed"]
theorem L9:∀{i:π},i<4->iM WD4 (0+((i:π):ν))=ϑ (.str<|wdN i)/\PyData.strOk (wdN i)=ϱ|0,_=>{rfl,`c}|1,_=>{rfl,`c}|2,_=>{rfl,`c}|3,_=>{rfl,`c}|_+4,h=>absurd h<|`b
theorem adl:∀{n:π},n<4->C4 4 ((n:π):ν)=ϑ n|0,_=>rfl|1,_=>rfl|2,_=>rfl|3,_=>rfl|_+4,h=>absurd h<|`b
theorem adm{p G:η}(k:p->G)(h:p):G:=k h
inductive L_ (t:fj) (ds:δ D) (S:av) (R:KD) (Z:KX):η
 |mk (ns:δ ν) (_:ds=[.lV<|ns.map D.int]) (_:ns.length<=63) (_:Tb t S) (_:R (.bl true) S)
def gH(T:Txt w K mg t)(hg:Gd cs)(ho:Og cs ps wy):∀{i:π}{ys:δ D},i<4->As S [.tup<|cs.map aF,d9 ps wy,Mu,.ref p] i true ys->∃c o s e C b0 b1 b2 b3,ys=[c,o,s,e]/\Cf t S c o s e C/\Xk K t C b0 b1 b2 b3/\nmL b0 b1 b2 b3=[.str<|wdN i]:=by
 intro i ys hi h;let⟨x,hx,hb⟩:=h.bad rfl;obtain⟨c,o,s,e,rfl⟩:∃c o s e,ys=[c,o,s,e]:=by have:=h.len;match ys,this with|[c,o,s,e],_=>show⟨c,o,s,e,rfl⟩
 show{c,o,s,e,?_};rcases i with _|_|_|_|i;cases hx;show{_,_,_,_,_,rfl,.t<|.c hb,ac8 T,rfl};cases hx;cases h.pre 0 `a;show{_,_,_,_,_,rfl,.t<|.o hg hb,ac9 T,rfl};cases hx;cases h.pre 0 `a;cases h.pre 1 `a;show{_,_,_,_,_,rfl,.t<|.s hg ho hb,ac_ T,rfl};cases hx;cases h.pre 0 `a;cases h.pre 1 `a;cases h.pre 2 `a;let⟨k,h1,h2⟩:=hb;show{_,_,_,_,_,rfl,.e hg ho {rfl,_root_.trivial} h1 h2,ada T,rfl};lia
def OD(T:Txt w K mg t)(B:Bm mg base):Ok P w base T.law 20 (L_ t):=by
 show T.law.F.cy dH ?_;obtain⟨ns,e,R1,Ur,q⟩;show{_,(sc (bT (i:=1) dH.nd<|bA T.p6 (En T) hr<|ac (bA T.iW (mY T) hr<|ap 0<|ac di an) an)<|sc (bT (i:=2) dH.nd<|bA T.xZ (LD T) hr<|ap 1<|ac (bA T.iW (mY T) hr<|ap 0<|ac di an) an)<|sc (bT (i:=3) dH.nd<|aI<|ac ds an)<|sc (bT (i:=4) dH.nd<|bA T.ue (IF T) hr<|ap 1<|ap 2<|ap 3<|ac (NY (dv 0) (o1 di)<|o1 di) an)<|sc (jd<|tP (il<|NY (dv 0) (o1 di)<|o1 di) (gn (i:=5) dH.nd)<|sc (bT (i:=6) dH.nd<|bA T.ig (i7 T) hr<|ap 5<|ac di an)<|sc (bT (i:=7) dH.nd<|bo c8 `u (ix `u (dv 6) di)<|bo eR `u (cb aY T.aR aH<|ap 4 an) di)<|sc (bT (i:=8) dH.nd<|bA T.mR (Co T) hr<|ap 1<|ac (bA T.mS (Ck T) hr<|ac (NY (dv 4) o0<|o1<|dv 7) an)<|ac (ix `u (dv 6) di) an)<|s1<|tP (HF<|aI<|ac (NY (dv 4) (o1<|dv 7) o0)<|ac (ba<|ap 8<|ac dn an) an) (gn (i:=9) dH.nd)<|s1<|si (bJ fK `u (bA T.eM (my T B) hr<|ap 1<|ap 2<|ap 3<|ac (bo eR `u (bo eR `u (NY (dv 4) o0<|o1<|dv 7)<|ba<|ap 8 an)<|dv 9) an)<|aI<|ac ds<|ap 7 an) (s1<|sr db) s0)<|sc (bT (i:=10) dH.nd<|bA T.ig (i7 T) hr<|ac (bA T.iW (mY T) hr<|ap 0<|ac di an)<|ac di an)<|sc (bT (i:=11) dH.nd<|ba<|ac (ba<|ac dn<|ac (ba an)<|ac (aI<|ac (aI<|ac ds<|ac ds an) an)<|ac di an)<|ac (ba<|ac dn<|ac (aI an)<|ac (ix `u (dv 2) di)<|ac (aI<|ac (aI an)<|ac ds an) an) an)<|sc (se<|bm zG zM zN bh (dv 11)<|ac (bo eR `u (ba<|ac dn<|ac (aI<|ac ds an)<|ac (aI an)<|ac ds an)<|cf0 ((T4 T).mono<|`a) hr T.fc.m T.fc.k T.fc.b d0) an)<|sc (se<|bm zG zM zN bh (dv 11)<|ac (ba<|ac dn<|ac (ct jm T.bc aP<|ap 4 an)<|ac (aI an)<|ac ds<|ac Hy<|ac di an) an)<|sc (bT (i:=12) dH.nd<|ba<|ap 1<|ap 2<|ap 3<|ap 4 an)<|sc (bT (i:=13) dH.nd<|ba<|ac ds<|ac ds<|ac ds<|ac ds an)<|sc (jd<|tP (NB T.fH<|ac di an) (gn (i:=14) dH.nd)<|sc (bT (i:=15) dH.nd<|ct DQ T.pV lE<|ap 12 an)<|sc (jd<|tP (ir2 T.fH<|ap 14<|ac di an) (gn (i:=16) dH.nd)<|s1<|si (twd<|twor (bJ cE `u (dv 16)<|dv 14)<|tw1<|bJ cE `u (bo c8 `u (bo gy `u (ix `u (dv 10) di)<|Fz<|ix `u (ba<|ac di<|ac di<|ac di<|ac di an)<|dv 16) di) di) (s1<|sls (dv 15) (dv 16)<|ix `u (ix `u (dv 11)<|dv 16)<|bo c8 `u (ix `u (dv 10)<|bo eR `u di<|dv 16)<|cb aY T.aR aH<|ac (ix `u (dv 11)<|dv 16) an) s0)<|s1<|si (bJ fK `u (bA T.x8 (L3 T B) hr<|ac (ix `u (dv 15) di)<|ac (ix `u (dv 15) di)<|ac (ix `u (dv 15) di)<|ac (ix `u (dv 15) di) an)<|ba<|ac (ix `u (dv 13)<|dv 14) an) (s1<|sr db) s0)<|s1<|sr<|cm mH `u (bA T.eM (my T B) hr<|ap 1<|ap 2<|ap 3<|ap 4 an) dn),?_};show !{ns,0,rfl,λc0=>{c0,rfl,λcs a2=>?_}};have hg:=a2.1;show !!{ns,1,rfl,λc1=>{cs,c1,rfl,hg,λps wy ho=>?_}};show{vS,?_};show !!!!!!⟨λp1 uF=>{cs,ps,wy,Mu,p1,ck ns (some 24)<|some 36,rfl,hg,ho,rfl,by rw[uK];show aa,YH ns,λS3 p xs es F8 s3 Ga We hw=>?_}⟩;have J:=(Sub.new uF).trans s3;have W3:Wt cs ps wy p xs es S3:=⟨F8,Ga,We,hw⟩;clear uF s3 F8 Ga We hw;show{λak S'=>∃o5 o6 o7 o8 o9,ak=T9 ns cs ps wy p [o5,o6,o7,o8,o9,none,none,none,none,none,none,none]/\Sub S3 S',?_,?_};show !!!⟨λp2 lB=>{_,aa,?_}⟩;rw[uK];generalize ck ns (some 2) (some 22)=ls;show{λi ak S'=>∃o5 o6 o7 o8 o9,ak=T9 ns cs ps wy p [o5,o6,o7,o8,o9,none,none,none,none,none,none,none]/\Sub (S3.set p2<|.lst<|ls.map D.int) S',{_,_,_,_,_,rfl,.refl _},λi ak S' ⟨_,_,_,_,_,_,s⟩=>s _ _ aa,?_,?_};rintro i x ak r hx ⟨o5,o6,o7,o8,o9,rfl,y⟩;have hx:(ls.map D.int)[i]?=some x:=hx;let⟨c,_,rfl⟩:=zk.mp<|zB hx;show !{c,4,rfl,`a,λys lx K7 hx E=>?_};let⟨y0,e0,_⟩:=gR (i:=0) `a (show(0:ν)<(((ys.map D.int).length:π):ν) by rw[zd];lia) hx;let⟨y1,e1,_⟩:=gR (i:=1) `a (show(1:ν)<(((ys.map D.int).length:π):ν) by rw[zd];lia) hx;have z:=W3.sub<|(Sub.new lB).trans<|y.trans<|Sub.new (c:=.lst<|ys.map D.int) E;have I:(r.set lx<|.lst<|ys.map D.int) lx=ϑ (.lst<|ys.map D.int):=aa;have sB:=y.trans<|Sub.new (c:=.lst<|ys.map D.int) E;generalize r.set lx (.lst<|ys.map D.int)=SB at z I sB⊢;show !{_,_,I,e0,_,rfl,_,rfl,.inl {_,z.at_,?_}};let⟨m,em,hm⟩:=OC (x:=y0) (n:=xs.length+1)<|y6 _;have K7:xs.length=es.length:=yP z.ev;show{show(0:ν)<((xs.length:π):ν)+1 by lia,?_};rw[show y0%(((xs.length:π):ν)+1)=((m:π):ν) from em];let⟨kn,EU,b4,b5⟩:=Cj (b:=es.drop m) (sH m z.ev) (KI.nil cs) (by rw[List.take_append_drop];show z.no);show !!!!{_,z.at_,λv Y=>{cs,60,v,xs.take m,es.take m,kn,rfl,by rw[u0];show aa,m9.sub (sH m z.ev) (.new Y)<|zj _,EU,λpk ZM=>!{_,_,`c,e1,cs,pk,kn,y1,rfl,hg,a2.2,aa,b4,λth S5 s5 hb=>?_}}};have Zn:m<=xs.length:=`b
 have sC:Sub SB S5:=(show Sub SB ((SB.set v<|.lst<|ck xs none<|some ((m:π):ν)).set pk<|.cZ<|fh kn) by trivial).trans s5;have WC:=z.sub sC;have sD:=sB.trans sC;have b7:=Ur.sub<|J.trans<|(Sub.new lB).trans sD;clear s5 sB sC I z ZM Y SB;show !!!{_,WC.at_,λpm Lg=>!{mB,λpn qR=>{mB,_,.inl rfl,λf ak S'=>∃o9,ak=T9 ns cs ps wy p [some<|.int c,some<|.ref lx,some<|.int ((m:π):ν),some th,o9,none,none,none,none,none,none,none]/\Sub ((S5.set pm<|.lst<|ck xs (some ((m:π):ν)) none).set pn<|.lst [th,.ay]) S',!⟨.refl _⟩,λf f f f=>_root_.trivial,?_,?_}}};rintro j x ak H hx ⟨o9,rfl,Q⟩;have N:Sub S5 H:=(PQ (.new Lg) qR).trans Q;have A:=WC.sub N;let⟨e,he,uz,ke⟩:=hb;have a5:=he.sub N<|zj _;have YK:∃l ys fs,x=.ref l/\H l=ϑ (.lst ys)/\m9 cs H 100 ys fs/\fs.length<=40:=by have hx:=zB hx;simp only[zl,zO,or_false]at hx;rcases hx with rfl|rfl;show{_,_,es.drop m,rfl,Q _ _<|`c,by rw[L7];show m9.sub (GL m A.ev) (.refl _)<|`a,by rw[yV];show zH (Nat.sub_le _ _) A.le};show{_,[th,.ay],[e,.bad],rfl,Q _ _<|`c,.cons a5<|.cons (.bad<|.ox (.kind nofun eN)<|.kind nofun eN) .nil,show 2<=40 by decide}
 let⟨l,ys,fs,rfl,hl,a8,V8⟩:=YK;have a9:m9 cs H 100 (ck xs none (some ((m:π):ν))++[th]++ys) (es.take m++[e]++fs):=gT (gT (by rw[u0];show m9.sub (sH m A.ev) (.refl _)<|`a)<|.cons a5 .nil) a8;have X:(es.take m).length=m:=List.length_take_of_le `b;have d2:(ck xs none<|some ((m:π):ν)).length=m:=by rw[u0];show List.length_take_of_le Zn
 have ZH:ys.length=fs.length:=yP a8;have We:=A.le;have b6:dj cs ps wy Mu [] none 0 (es.take m++[e]++fs)=ϑ (("event": ρ),m,none):=by rw[List.append_assoc];show(b5 e fs uz ke).trans<|by rw[X,Nat.zero_add]
 show !!!!!!{_,A.at_,λq1 c7=>!{vS,λq2 RQ=>{ck xs none<|some ((m:π):ν),[th],`c,aa,sm<|show(ck xs none<|some ((m:π):ν)).length+1<=1000 by lia,λq3 c4=>!{_,ys,aa,`c,sm<|by rw[zq];change(ck xs none<|some ((m:π):ν)).length+1+ys.length<=1000;lia,λq4 c9=>{cs,ps,wy,Mu,q4,_,es.take m++[e]++fs,100,rfl,hg,ho,{rfl,_root_.trivial},b7.sub<|N.trans<|`c,aa,a9.sub `c<|zj _,`a,by rw[zq,zq,X];change m+1+fs.length<=100;lia,?_}}}}};rw[b6];show !{mB,eq_self ((Ly.tup (n:=0)<|al (Ly.str<|`c)<|al (Ly.plain rfl) AM).le<|`a) !⟨aM ?_⟩};show{_,rfl,Q.trans<|`c};rintro ak H ⟨o9,rfl,Q⟩;show{_,_,_,_,_,rfl,sD.trans<|(PQ (.new Lg) qR).trans Q};rintro ak S' ⟨o5,o6,o7,o8,o9,rfl,s⟩;show fo {_,_,_,_,_,rfl,(Sub.new lB).trans s};rintro ak S4 ⟨o5,o6,o7,o8,o9,rfl,s4⟩;show !{ns,22,rfl,λc2=>{c2,5,rfl,`a,λys lx K7 a3 E=>?_}};have sE:=s4.trans<|Sub.new (c:=.lst<|ys.map D.int) E;have kl:(S4.set lx<|.lst<|ys.map D.int) lx=ϑ (.lst<|ys.map D.int):=aa;have W5:=W3.sub sE;have sS:=J.trans sE;generalize S4.set lx (.lst<|ys.map D.int)=S5 at kl W5 sS⊢;clear sE s4 E W3 J S4 S3;show{Jb,λa1 h1=>{mB,vS,Oy,λb0 R6=>{Jb,_,rfl,_,Hl _ _,Jb,mB,Oy,λb1 U=>{mB,λpb a6=>?_}}}};have F:=Fm.new (Fm.new (Fm.new (Fm.new ({(λf h=>nomatch h),.nil,.refl _}:Fm S5 [] S5) h1<|.lst []) R6<|.lst [.ay,.ref a1,.tup [.tup [.str "a",.str "text"]],.int 7]) U<|.lst [.ay,.tup [],.tup<|ps.map p3,.tup [.tup [],.str "left"]]) a6<|.lst [.ref b0,.ref b1];generalize av.set _ pb _=S6 at F⊢;clear h1 R6 U a6;have kb:=F.at 0 rfl;show{_,rfl,{rfl,_,kb},vS,Jb,Oy,λl2 C9=>{rfl,λpf Yn=>{_,_,(Sub.new Yn) _ _ aa,aa,sm<|show 4+3<=1000 by decide,λb2 FH=>{pb,_,_,rfl,rfl,`c,bg<|by change 2<=100000;decide,?_}}}};replace F:=(((F.new C9<|.lst C2).new Yn<|.lst CF).new FH<|.lst<|C2++CF).put 3 rfl<|.lst<|[.ref b0,.ref b1]++[.ref b2];generalize av.set _ pb _=H at F⊢;clear C9 Yn FH kb S6;have kb:=F.at 3 rfl;have A:=W5.sub F.sb;show{_,rfl,{rfl,_,kb},_,rfl,_,_,rfl,.inl A.at_,Jb,λd0 a0=>{sz6,λb3 SN=>{pb,_,_,rfl,rfl,`c,bg<|by change 3<=100000;decide,?_}}};replace F:=((F.new a0<|.cZ []).new SN<|.lst [.ay,.tup xs,.tup [],.str "",.ref d0,.int 7]).put 5 rfl<|.lst<|[.ref b0,.ref b1]++[.ref b2]++[.ref b3];generalize av.set _ pb _=S8 at F⊢;clear a0 SN kb A H;show !!!!{Oy,λpr a4=>{Oy,λpw PN=>?_}};replace F:=(F.new a4<|.lst [.tup<|cs.map aF,d9 ps wy,Mu,.ref p]).new PN<|.lst WD4;generalize av.set _ pw _=S9 at F⊢;clear a4 PN S8;have M:Mq S9 pb:=⟨λj hj=>by show{[.ref b0,.ref b1,.ref b2,.ref b3],?_};rcases j with _|_|_|_|j;show{b0,_,F.at 7 rfl,rfl,F.at 9 rfl,y6 _,al (qm.kind nofun eN)<|al (qm.kind nofun (m6<|F.at 10 rfl))<|al .text<|al (qm.kind nofun gt_int) AM};show{b1,_,F.at 7 rfl,rfl,F.at 8 rfl,y6 _,al (oP.kind nofun eN)<|al (oP.len<|show 0≠2 by decide)<|al L8<|al .left AM};show{b2,_,F.at 7 rfl,rfl,F.at 4 rfl,y6 _,YI};show{b3,_,F.at 7 rfl,rfl,F.at 2 rfl,y6 _,al {.ay,rfl,rfl}<|al {.tup,rfl,rfl}<|al {.tup,rfl,rfl}<|al {.str,rfl,rfl}<|al {.cZ,.inr {rfl,_,F.at 3 rfl},rfl}<|al {.int,rfl,rfl} AM};lia⟩;have kr:=F.at 1 rfl;have kw:=F.at 0 rfl;replace kl:=F.sb _ _ kl;have W9:=W5.sub F.sb;have sT:=sS.trans F.sb;clear F W5 sS S5;show{λak S'=>∃O R g,ak=T9 ns cs ps wy p [o5,o6,o7,o8,o9,some<|.ref lx,some<|.ref pb,some<|.ref pr,some<|.ref pw,O,R,g]/\Sub S9 S',?_,?_}
 ·show{4,rfl,`a,`a,?_};show{λf ak S'=>∃O R g,ak=T9 ns cs ps wy p [o5,o6,o7,o8,o9,some<|.ref lx,some<|.ref pb,some<|.ref pr,some<|.ref pw,O,R,g]/\Sub S9 S',{_,_,_,rfl,.refl _},λf f f f=>_root_.trivial,?_,?_}
  ·rintro i x ak r hx ⟨O,R,g,rfl,y⟩;have hx:(fU 0 (4:ν).toNat)[i]?=some x:=hx;let⟨hi,rfl⟩:=eZ hx;have hi:i<4:=hi;show !{_,_,rfl,.inl<|y _ _ kr,λv Y=>?_};show{λak S'=>∃g ys,ak=T9 ns cs ps wy p [o5,o6,o7,o8,o9,some<|.ref lx,some<|.ref pb,some<|.ref pr,some<|.ref pw,some<|.int<|0+((i:π):ν),some<|.ref v,g]/\As r [.tup<|cs.map aF,d9 ps wy,Mu,.ref p] i true ys/\S'=r.set v (.lst ys),?_,?_}
   ·show !{_,4,rfl,{`b,`b,`a,`a},?_};show{λj ak S'=>∃g ys,ak=T9 ns cs ps wy p [o5,o6,o7,o8,o9,some<|.ref lx,some<|.ref pb,some<|.ref pr,some<|.ref pw,some<|.int<|0+((i:π):ν),some<|.ref v,g]/\As r [.tup<|cs.map aF,d9 ps wy,Mu,.ref p] i (ω<|0<j) ys/\S'=r.set v (.lst ys),{_,_,rfl,{rfl,λf f=>rfl,nofun},rfl},λf f f f=>_root_.trivial,?_,?_}
    ·rintro j x ak S' hx ⟨g,G,rfl,hA,rfl⟩;have hx:(fU (0+((i:π):ν)) (4-(0+((i:π):ν))).toNat)[j]?=some x:=hx;let⟨hj,rfl⟩:=eZ hx;have Z:i+j<4:=`b;rw[show(0:ν)+((i:π):ν)+((j:π):ν)=((i+j:π):ν) by lia];have sp:Sub r (r.set v<|.lst G):=.new Y;have E:=sp _ _<|y _ _ kl;let⟨x0,e0,_⟩:=gR (i:=0) `a (show(0:ν)<(((ys.map D.int).length:π):ν) by rw[zd];lia) a3;let⟨x1,e1,_⟩:=gR (i:=1+((i+j:π):ν)) `b (show 1+((i+j:π):ν)<(((ys.map D.int).length:π):ν) by rw[zd];lia) a3;let⟨bs,b,L,m1,m2,m3,m4,m5⟩:=M.of (i+j) Z;have m1:=sp _ _<|y _ _ m1;have m3:=sp _ _<|y _ _ m3;let⟨d,e2,e3⟩:=rR (l:=L) (i:=x1%((L.length:π):ν)) (yd _<|`b)<|ya _ `b;have cb:∀d∈[D.int 1,.int 2,.int 4,.int 8],∃m:ν,d=.int m/\JG x0 m:=al {1,rfl,`a,`c}<|al {2,rfl,`a,`c}<|al {4,rfl,`a,`c}<|al {8,rfl,`a,`c} AM;refine' adm (λbody=>?_) ?_;rotate_left;show !!!⟨cI (λf=>body) λuz=>?_⟩;show !{_,_,E,e0,Oy,λpz c3=>!⟨eG `b (by change((i+j:π):ν)<4;lia) c3 λd hd=>?_⟩};let⟨m,rfl,hm⟩:=cb d hd;show{hm,`a,_,rfl,cI (λf=>body) λf=>{_,G,rfl,{hA.len,hA.pre,λf=>hA.bad<|zy ?_},rfl}};have uz:ω (((i+j:π):ν)=0+((i:π):ν))=ϰ:=uz;have:=z0 uz;lia;show !!{_,_,m1,m2,_,rfl,_,rfl,_,_,E,e1,_,rfl,_,rfl,_,_,m1,m2,_,rfl,.inl {L,m3,(show(0:ν)<((L.length:π):ν) by lia),_,_,m3,e2,?_}};show !!{v,_,_,i+j,rfl,rfl,aa,by rw[hA.len];show adl Z,?_}
     show⟨_,G.set (i+j) d,rfl,hA.set `b hi ((m5 d<|zB e3).sub y) (by cases j with
      |zero=>show .inr rfl
      |succ j=>show .inl<|zy<|y6 j),bR⟩
    rintro ak S' ⟨g,G,rfl,hA,rfl⟩;show fo {_,G,rfl,{hA.len,hA.pre,λf=>hA.bad<|zy<|by change 0<(fU _ _).length;rw[eY];lia},rfl}
   rintro ak S' ⟨g,G,rfl,hA,rfl⟩;have sp:Sub r (r.set v<|.lst G):=.new Y;let⟨c,o,s,e,C,Y_,c5,d3,c6,rfl,hB,hX,hn⟩:=gH T hg ho hi<|hA.sub sp;show !{_,_,aa,(show iM [c,o,s,e] 0=ϑ c from rfl),_,rfl,_,_,aa,(show iM [c,o,s,e] 1=ϑ o from rfl),_,rfl,_,_,aa,(show iM [c,o,s,e] 2=ϑ s from rfl),_,rfl,_,_,aa,(show iM [c,o,s,e] 3=ϑ e from rfl),c,o,s,e,C,_,_,_,_,rfl,hB,hX,λpz SZ sz hz=>?_};rw[hn]at hz;show !!{_,_,sz _ _<|sp _ _<|y _ _ kw,(L9 hi).1,vS,λpq a7=>K_ ((Sub.new a7) _ _ hz) aa (YE<|(Ly.str (L9 hi).2).le<|`a) !⟨aM {_,_,_,rfl,y.trans<|sp.trans<|sz.trans<|.new a7}⟩}
  rintro ak S' ⟨O,R,g,rfl,s⟩;show fo {_,_,_,rfl,s}
 rintro ak SF ⟨O,R,g,rfl,sF⟩;have WF:=W9.sub sF;show !!!!{cs,ps,wy,Mu,p,xs,es,60,rfl,hg,ho,{rfl,_root_.trivial},Ur.sub<|sT.trans sF,WF.at_,WF.ev,`a,zH WF.le<|`a,?_};rw[WF.no];show{S,sT.trans sF,q}
def Ma(t:fj)(K:Φ):Sp:=λvs H Q z=>rV K (L_ t) vs H Q E0
theorem Ua(T:Txt w K mg t)(B:Bm mg base):bU P w K mg base Y5 20 t.Px t.KL ["_law_script"] (Ma t K):=bU.calm<|OD T B
def Mb{w:Ω}{K:Φ}{mg:ρ->θ ξ}{t:fj}(T:Txt w K mg t){H:Hp}{a:ε}{ns:δ ν}(hl:ns.length<=63)(g:Bs t.ts H)(i:jf K H a<|ns.map V.int):Ma t K [.ref a] H (λv x=>v=.bl true) λx x x=>False:=by
 have l:O3 K H a (ns.map V.int):=by rcases i with (h|h)|h;rcases g.all a with q|⟨o,xs,q⟩|⟨_,q⟩;rw[q]at h;cases h;rw[q]at h;cases h;rw[q]at h;cases h;show .inl h;show .inr h
 have j:t.aO≠t.aX:=λe=>by have:=T.np;rw[e]at this;simp at this
 have tok:∀q,Ft H q #[]:=λq=>{trivial,λx x e=>by cases e};show{[.lV<|ns.map D.int],λb=>if b=t.aX then some (.tab qK) else if b=t.aO then some (.tab qV) else none,λd x=>d=.bl true,λx x=>False,aZ (JY l<|Fs ns) bL,λb c e=>?_,{ns,rfl,hl,{qb rfl,(qa j).trans<|qb rfl},rfl},λd S v H' e r x x=>by subst e;show r.bl,λx x x z=>z.elim};by_cases h1:b=t.aX;have e:=(qb h1).symm.trans e;cases e;rw[h1];show{#[],g.tab _ T.nX,tok _};by_cases h2:b=t.aO;have e:=(qa h1).symm.trans e;have e:=(qb h2).symm.trans e;cases e;rw[h2];show{#[],g.tab _ T.l4,tok _};have e:=(qa h1).symm.trans e;have e:=(qa h2).symm.trans e;cases e
def Ub{P:Ψ}{w:Ω}{K:Φ}{mg:ρ->θ ξ}{fa:ε}{ts:δ ε}(h:mg "law"= some (.ref fa))(T:∃t:fj,t.ts=ts/\Txt w K mg t):∃(fd:FuncData) (sp:Sp),(∀b∈ts,∃c,codeHdIn K c b=ϱ)/\(∀(s:ζ) (u:ξ),BindsTo s fd {[u],[]} [("_law_script",u)])/\(∀base:Γ,Bm mg base->K.In base->base.Ns mainGlobals mg->bU P w K mg base Y5 20 fa fd ["_law_script"] sp)/\∀(H:Hp) (a:ε) (ns:δ ν),ns.length<=63->Bs ts H->jf K H a (ns.map V.int)->sp [.ref a] H (λv z=>v=.bl true) λz z z=>False:=by let⟨t,g,T⟩:=T;have j:=h.symm.trans T.law.m;cases j;subst g;show{_,_,λb hb=>(T.ta b<|hb).elim (λe=>{_,e ▸ T.fb}) λe=>{_,e ▸ T.dW},T.bl,λbase B n l=>Ua T B,λH a ns hl i d=>Mb T hl i d}
end My
end Tactic
open Tactic
local macro_rules|`(command|universe $xs*)=>do return Lean.mkNullNode (← (xs[0]!.getId.toString.foldl (fun (h,n,k,l) c=>let n:=n*62+(if c.isDigit then c.toNat-48 else if c.isUpper then c.toNat-55 else c.toNat-61);if k=9 then (h+n-10*62^9,0,0,l.push (h+n-10*62^9)) else (h,n,k+1,l)) (0,0,0,(#[]:Array Nat))).2.2.2.mapM fun v=>`(command|theorem $(Lean.mkIdent (.mkSimple s!"tw{v}")):ident : True:=trivial))
namespace PySem.W.Fast
universe DGzQMoIYAKA85rb6sLaAADUyllG6WFAlH36E3KYWBAQ2cqK8rPAm91adeWo1B2fnKGBaVAExzBnFFX6KD4Fs88YhlSBBrwCSpY2rD9TQSiu2C6Byu8JUd4a6AASVgUf237AqMuEOn50nBL2AHMAu1aBVzNOkbgZhAzmwe897eyAMIA2YpCmEAUFmtmtXpzBMTZDZumEHDYg6MNtoVqEcs65QvHWKFKFBf5tKX7AdSJnxrBWlC2qu5HcxUmDPceXNxrGuBMVhTq7pTfEAEUky5SD5D6xGGCGW19AFHDukszktCiBzcn0CVuA2Od0Sr5r2Ae9xgSu5WcBydV5rnyfuCMlS6IU1SYABkmHZCfBhBIhFcMPfDOBxyS77qgOHFvnhbnsNBLAVoJNqSeR1DeF6v6IHLABJzMGgGSt9CuunAsZvB7AHRG0qtoDPA4NjwHSTbKAamk7VYCxGA3X2ZEphn0APAdI5Dc7UCmZlMRdOTmAYMZceAlu7B0lYtPQVe6CF1xeK13rjA18h8Fl2MHC2CrWlPSBFAElSzubwRsFlTFRwWx98AMRCkJ30gYA3tgNYSustAenHie5UCWCcZzI1HzQGGMoobts0daFyutY6j6wmBEqpI1MdRsAZnbRqwLl1DrPzXkrJN8A0sloE8DCFHkn0ETv52lExXwA37K3kBqnzd0zvPtDaLcyXJ403BHtWACaHabEGFb9254cYFThfoKEJUWAAZKm4ZEy3CawlldyW2OAdD8vDb0jZAhqT83K4BgBSyoFBc3iwBizTQfnNK5AIbnBbs4ArFEaMqyW9lfCEwXQOIcMPA33cNk6dBGCAp4i4QvXeB7kgzmzuZ3BSZ4WIYruADZh8ERwQA4BVlwaFoZLSCsWt70BIF6Ckmyci6zl5BhA4aSuLXsBp2sgT2cVnARUAkEoJn6BugPa0LKxhBt1BQBfAG6C1I1XLpEKZDifDtvks9tYmiugC1Zo8AYn9wHGhM2AbR7FH4irxAzUYO4rxolEONbKMMtTXAHAYhxs3L1AMDh91MhZ7AMFkp9AKWFB1Qn2kmQNTFdPQcNucB2GU0dhl9jZxBoVm9uIMPhAiMHRRvBMhBEEv42EDagA73qq9hO7nFLEKzRKxqvASW0cXwY6ABUw3nn5DMACUIEusrkI5BhZ0rgaMPHASf1yWrrKMBMfxpMki4wBL7JTJgQVrA7PCVDVkfmBjHEco30JhA5TMhOihPMAMK1otxCp9D20KTl0vjSDGbb3S7i5ZAUAOet4jYUCYKlreAGbmA6MBCKvl76BBD1O1fPgICAf4Php8LJEVAhllV5usAmCZQePuuhA2ktitPzIeBt22o2iWzoAcTu6lIEYdA3oAjvKsEWALS5rSRocMB7Vag722I3CTK3jTueYnBWEtIQDgE5ANSKRoHKxZAFUpdNArNIA8ZC6yfGDEAdEfEQLXtHAiyJbIBz3gAi5hFPVQNIBtfr555RzlA1VBzCMFU5EKVtZ32nRgA4sx2xaeVxCCs24v57zgAIldo5zOFJBmbalnufZGDsRelfNjEQF8QE3qo1otAuZ29eEY4yAtTM3N6mhDAmK6bofIKXAHt5Wwg2fcBKCQ00PLycDB4Qp9wQfEAuiyMSoVidB6wIFb1sZHAo9paWV4WnAStq40WapdA3mJKTN11YBRYTvEh1UWDuVH2uholvAsJ8NqLjCABQ61wCgqYeAMm2UoFrXREEY5oQ3GUsCzYYSMo6hoCQUDOlCYmNABNWzm3R94Bly60efLX5AsAyceE3DFAtNktkOPoUJsD2N3nkB5AcE5x1LxWhD7PUMuTXYxBI8CIOdvpOB5z6GOUAcgFaQcm7oXrlEioArDAvS6A6EZLcouKwD7YQai2D06A0QgocxfKkAA6tklhZ5YCGIPtWj4sBDWebQ2pzMsBb3qUrp27VE5f85hvopJCEnpXZreJ6AyVcxYvvhAB238dDtL8kBUkfs0QON2AXXzK8aMESAtJcOlprRyFEtxjL23VKA0OqXygXZZBYFcgb1YSZAbeGEcFaW5A9ZSlJ6FqABJny8F6UnpBjxc1Ywa0QAATEIOk5pUANMTnKVnOBEVZnB2lIbxAGCbCNg2T7A6seLNn3uyAduaQCE8YyBjytHbRqymCKhcvFSZCxBeQxI2zOdnBMjQYy9ZFfBz3upNQxf1AGgf6MshPJBLcwke6hHHAdy91FbdA2ADG39faiS0CWViuWAqE8ASg7RFMsx1BbDHSs2OQTAbbooy4q1lCIlL1SrnwoAI2iDoptjPBScTa4tzMyAdmV3JPbj8B1nwCDeLsJC01Tm8r4zRA7mGyicjEBB9hxawyfrkH80YMyQ5YMEaapLF60pWBUuDL0YmUNC3j2JtaQwlCb7YW3yLl6Ab9IvsZwN3AO7P5oBX4uBkAK67Dw0VAEdGFOP9p9B0Oy7MCLhiAE2mnOJRZdBwRj39khGkAMXAlbabZCA3a0UIRRIGCxoXqb5hw3A6bOQL4DYpF2WP98mNMMAkauOb9c8hAncCvOQuW1CS6G5WAsejAAIhtEdBkcGLMMOEGpzfAPL0uIHKZ1DM7UoH62MGBuAWC0yxWVE0fT9eDfZ4BnXwlNa9cAAbsSARJhJyBUBIr3gZNqB8pBWMbogWGKvLq8a1KYA4GU5f35wsBVSkVey5iRBVBVPOQcyPBTIL9EqEumAEBuOPxtmHAVLF7mYWrNActsEAQ11jBdfT6hJD4NCF194ZmsQWALDZall9BEAc4A8bxDicArlA1ajx8FAib4OOiaasImzBimwUGeA9kDL6WJCIA3qTP12vONAhBfL5jxXXC2izgPrduYAF7oYk4fQxJEF7i8CFfxB8GDerMsmvBsw2u9J0fmBbng4SPsoDBmHCsAEONlCEtpYjtD87FfsDQHrWhKAJ0rOOX6arA9LSeDksSsBSg4Cm06T8ACsK4AHqGfAbSuSfrg0dCbnn7i0KKdBTdCCWKA1EAsmtIchmstIhniKz4tfzAf58igJ0HtAMUOiiPYe9CaduehAl9KALsC8l01xwA67V0OUg3REOUbepJEbbASaLPOpQnFAxyPtTO2fvAFwRvPywkKChFak5trbYEmi0IbFuvZB0zIoCDhcSAI0uZd4MDGDJ7UFcgCwbBOGITuvapEAvVxe6DU2aBQQTH4m9crBDbN7u7GdYB7T33Ugk1PBn3YskTP68CNkv5aptmbCpyxJSQVrdDJUuLEZ69uBSQjlvfKThDBAgHOjBMjBd57JmyVfaD8kptB926dANnNvL4rGqB6W5FeOV9RB9vZb5MKooEJLV34Rdb5A4IP4y9hORAV0B0b1IsNATDgILBwUdAMSwmLZTQuE7eTc5CTdzA0f5Pl7m0TH5QGk1KugvBYRTzwGWoqAIpTySlByYFpaHvBGGoGApBGjwXwkGAXsTSPoWaTAn36S8NGYDBEd4CyaNF4A0gnyrAv7mAP7W7slaZWAnIKb6ht24CEdEIsDGe3Dsks79QskpBGK2j6IID7BYfvebxU4MC1VtGFFZJTBukoQd1BJwDMMo6mI5RlDECK4ORWZfCi2bmGgEDlAUgJ6QQBSgCdGx6cREhAA5PWNLoC0CCP4QaDMa8YB4HzibMNPIG6IIPakDCIAFqtaIyrTqARVrjo9T3TBArnNwZiSpBzBjw4fNimA08uAQWEF9AZQhA1Ja1CA2goKQxOftC2obF59Ek2AwekDwhlD9BFlfaKuvBIArtMgbAAbXAGkpEAIgIgBfK9OmHG5eA8R63aNos8BH7JIqxdTlC10qj5wSGVA6wXwDsaXVDPUSxhe1nsC9nxNITBjqAxCrlmEak4Atx8sbYKi8AsO9rKMcnOBe6mzRv7rhCvF8onGgsFAUESQS2m43AurRZJTx4PATNeOX0Nz2Ayt3p5qzTGBNLPGFgI6EAHxot16Qv3A7B4fLF49UBH8Yy6p2FED4uyRzBJiVB6ZxYb9qplCHAQtECy0AAwAIuLFys9AiU6H4cHmxAmEBrupCbCEBZ8OR21rrGpXLhCZFxfA83XrqqrGVAZqjMIj7KpA5qDg3a4QWBMmNuINAxFAPhlxpZUybA0B9qaru8dAxgijmD7GBEOkZMfOZUSD73oFtoCGvBISE2Kk7P6BYK9n5M3uCE4DaucIUhjANjGcCRGgxAcuROKmbTCBUE2KbtbCzBDHe5jcWEbANlR9iQVarA5hkNmWYX9CbB9YrIpKdBF3CCjcvWdBINJ6euP6qAMR3yB9kwGCFIsxFpOieABohOoCuUjAmv8C5Tz8yARuwKSbFL1ADlpvCIafcAsyurA5tWdFZ3Vs9WRAPAd6MdGkG5lBJXL2bE0B0AThMho2UXUHKDNT78pI9FDlqdPdS9tBxfiDSp8iiA9H5yHU5trCnALfT5z5hCDwPqmtlPKBgVs9Qt5dCABZseUqPBiBpa4cR72ikCL1ynFbAs6Bw47Sn6FKIAC2HxoXV3xDBNSRbwBF8EYa4QxVYgEAIqfNhHZ4GBf4S6z1Zh1DVtyrpedWXBhI3seBDLOALQfvREICwFBvHZnMyEMAfoSSc7CFcDYfM89O2zsD8Wa0oDYrdCu7rQGMZvSFD5WfcX4B3B7EBFvC6xqB8Z9IN1qwmBAZI9cfLUbBXwtG68XoWDf7GF0YNuvCeIKfSvilVA7AznF2GbIAbLjAU5hLoBfeI5bYvg3AtTawGh9IBF6el0sV6u0Ct4CBlVGUiAO1Fq1DMVpA3rjKu5MsXAXJMXeGGZ3GIA2jS2A4ZA812pE1E84CU0aWXBNf2AR6vteQCnzAonFDgvZSkC5vbirEqjTAEElUI72BdBQn175YVULAa0G9eAXN1DghXGuiLh1CL2Le1l3YhA2JN9qmOxlCsYZGU2PzIFCml8UhlbGAiUDMPmKvSCgpzXIqEtlBMjZJACyJLA6rqo8dt4JCcc9MhRQKwPXiCpdQZ84BPDAZ4V5L8AciN8jVUvuAyaPEO3CmkAxzk6254ClBs1JWXW5RYAv7tBcYr1BBb0ZybpQ0pAgfRBMX78ZDGRbZ40ecqA70RmUCA2qCGcgdFbqHZAAtnuxhCTYJfm5v3x7d5AEvA5X1WeiAjOYJoFfCKBH8A0Nyef8BnKmbQyqYbD1BU6mXl4mAwNLyxFGyeBz6KoHXatxAza4fdJtk6BtBufed0XAA5wJGeH0PsFOLG2pS6CiC6X1oTi03mALC3vdWtb0COoDuTklAHG9DZyT186RDGa6mSfaCxDpB2WB8GFlBXBZT8ScJhCSH4jmOiPYDDlduoDxpqA5vpdxv9XxDSEsVrzVutAH8SZZfGxmCvaTNYIKrNAsN9BFrGu2AC9KBWENX8AhIn7mirzhAd6sdxCO1IAEOwo1YSWBBNl2b93T7pAr4XV2mWrsElc64rfAKMBRE0e6oP8BCh6eB7vi6DChO0VGsMeBBAbU7kJfTzAddXh8RaVTAqS4U1QcrsAUqCvSSCnxAIMmcljYKWAtVPRNo5MsEQnyKNDhFwCK73xX3kYCB2pi9k7UOIBwEpVOvjRuAhwLsZjoGVBKehZrDfzNAHKDLbGi8PBii4VrAAwCB2vXJ6xizzAAniMhhAbLEJL6p7JsPRArXxZMQNbbKrB7sfaGnEA5dHmlZB1NC8ItfouajUAthIL81K8tBCUOJCS0gfBtzgHNw0l5AoKfJKzlERAw6zCdBLEKB0brJyFv8DCTIRcLlJngAdp6lq6c4JA79bv0bhWIP9EOgam0qzB45tcQBIM2AFq1Ku4aGFCeBQsXyicRCKpeeMjHhWDIQ2rcghzyBFdzKPnU2dDFidgZZTGFE2FEnOaumSBjhFkro23RBCdY2HQW70HAsfXGPYMVAllphTEYTrA9XOz0rvUWARjNSkGGMiBmNHuyjFWEAXI9xoz6tHCsnyqzPpOqAJigHqUaREBYNVry7zCLBA8mdAuzlZAUcVCHq4NeCv6STM5LkrBd8UxkU4ZCAUc7Kz8E1zBY3kn3Lz4WAb4mVvZ8TwA7BDHpgW7REiVe4vOnoOD7n3rTxW1gCbgQZLNornBAj2cf0hJUAFqbbS5kToCdWCUG2RExACUFVhXWKyAF1hzKIRBQAKkt5g4ZykA5L4St7HPOB37B5bHFugD3cbq7wwHtAAzUqcKH4WBmdvdF75jvAaFBjgYnGcAGFoBnyLWvAWKKDjnApsAWun8ClOKjAHmSrRQR0OBs1PTWpXteCAX1FejLVACCIFAezQS2AyyDul3APjB5Y3aipa1wAXe4ukOPFMABSwnb7OJ1AX9E9Upxv8AjmjbbN8a2AdLcS0gHudKaUu69TVKlAxCum3XtLqD8UoQ3sia1B61PCjznfUF6X6sIDx0BFaL7dZydDcCn2IvTtHmIDqloNEIerkDGFBeb85qXACDwTat5QVBZw81iHIt9B7kJFz21LtA5R1JjRMKRB9NvRw58pGCP14vIhGPACUjOGuN88sAoWbw9PRQ3CEtzfjNvLtC7N0OQSyxUBEjQ1xJ00gCKnK2Tw7SHCou6zq8qyGASkd9qKazaB4DLnJx0avAtWb3FE9pWA8XTXV3D16BQXHatffJPCek2NmNlvAA46sYSRPqNBZfKN56hL8AhW9xbp1MgDCkAqA12Z1Cr8EIbmIvfBKvL56dJTkDx3dltRNQcAIY1OaE6piDDTfqL445PB14vlCPtg2C9ft3LI1nYDFsiEY84oICJ04AEnXCfAVMbh6RqNjHRr3AFsfvfCFaREhvXO4AtKh1vLVeNBGmEKpdfndEcOagggVmqAGk7jwRPGzDDYXhoEffoBpYx4PpKQAAJzPDCkolMAwaalVP7AODSSJFAIzu0AZCvsF7KjxBcLIhdMJ0kETAkjBI3VGCplXjRvuJpDTNA8wBGDYBeI7EILZcgB2IpLnmQl7B5UbUtEGhTAVeOEnq3URC1Dnn5XF9cAHhi3W1r63Biakccn9MQC6I1rP9DL3AuIz6OGyckAT3r34RhiIBylnWA3Q5tDS65A2YunzARfCPRNJGiExoWJdRxAfBdEaaMKjrFBUdMqbGBYuACLZTUJ2VoBGKWmfmNJ4CfrLujiJwCERXr2yTUD2AL1wUEbjwNATBbCml1oRCw8Hy4A8DJAGMz6iMGh4A71au4tDuFA8zRkQLEu4ALw2HLbI14Dd78kUqVxgBaBlih2ARSCZDw6BxbkOCk0qA5kd52BQyDnXiqYgB9SICwaSl1BC2n8TRLVLDxBSq88hFfE9LB2tC4zPB8AWV3zlm6CTCThHHu0QBqhVCMsvHJBMR70TE9mWCMMK8ShWjfACLR7YZBJUAVIEkEFwbxEhShO6v7hMD9JBnfVctABV9Dbqp5LjA9IDbek8qrAkpTujaWX8AjaxJjAABSB3kw9NXoHZAAYrJ8iOMZBJQOXEULHOBgIUWIZKV2AkB6PKXcaNAFMvaahI0BA3CQdX5B9fCJ1EuaObZy
end PySem.W.Fast
open PySem PySem.W PyProof.Rows
set_option tactic.hygienic true
set_option maxRecDepth 100000 in
set_option maxHeartbeats 0 in
theorem PySem.Challenge.cw_pageturns_k57_no_events_of_walks_holds : PySem.Challenge.rw_pageturns_k57_no_events_of_walks.Holds := by
 w_on;o_law;k_head;(case hw=>w_witness2)
 k_fill
 refine L2.Kz (l:=PySem.Challenge.rw_pageturns_k57_no_events_of_walks) (n:=63) (k:=20) (x := "_law_script") (CX:=L2.Y5) rfl (by decide) rfl ⟨rfl,by decide,by decide⟩ (fun w h Y=>PySem.W.km_in_of Y) (fun w h Y=>PySem.W.km_tabs_of Y) (fun w h Y=>L2.NO Y (by trivial)) ?tF fun y y y y z=>z
 intro w mg fa h KX G Q5
 refine My.Ub Q5 ?_
 refine' L2.gvc KX G "Shelf" ?a1 ?b1 ?c1 ?d1 ?e1 ?f1 ?g1 fun OE aw OF k_Shelf=>?z1
 (case a1|b1|c1|d1|e1|f1|g1=>k_is)
 refine' L2.gvc KX G "Trail" ?a2 ?b2 ?c2 ?d2 ?e2 ?f2 ?g2 fun OG aU OH k_Trail=>?z2
 (case a2|b2|c2|d2|e2|f2|g2=>k_is)
 refine' L2.afx KX G (l:=[16,17,18,19,20,21,22,23,24,25,28,29,30,31,32,33,34,39,40,41,42,43,44,45,51,52,53,55,56,59,60,61,63,67,68,69,71,74,76,77,78,80,82,83,84,85,86,87,88,89,90,91,92,93,94,95,96,97,98,99]) (top:=My.top) ?xF fun f0 g0 A0=>?zF
 case xF =>
  repeat' (refine' L2.af KX G _ (by decide) ?a ?b ?c ?d ?e ?_;(case a|b|c|d=>k_is);(case e=>first|exact L2.UN fun y=>rfl|exact L2.ln2 fun y y=>rfl|exact L2.UO fun y y y=>rfl|exact L2.ZC fun y y y y=>rfl|exact L2.ZD fun y y y y y=>rfl|exact L2.ln6 fun y y y y y y=>rfl|exact L2.ZA rfl))
  exact L2.af0
 refine' L2.amx aw (l:=[0,1,2,3,4,5,6,7,8,13]) (q := "Shelf.") (cl:=My.bF) ?xMShelf fun D9 ads EY=>?zMShelf
 case xMShelf =>
  repeat' (refine' L2.am aw _ (by decide) ?a ?b ?c ?d ?f ?e ?_;(case a|b|c|d|f=>k_is);(case e=>first|exact L2.UN fun y=>rfl|exact L2.ln2 fun y y=>rfl|exact L2.UO fun y y y=>rfl|exact L2.ZC fun y y y y=>rfl|exact L2.ZD fun y y y y y=>rfl|exact L2.ln6 fun y y y y y y=>rfl|exact L2.ZA rfl))
  exact L2.am0
 refine' L2.amx aU (l:=[0,1,2,3,4]) (q := "Trail.") (cl:=My.jq) ?xMTrail fun D_ adt EZ=>?zMTrail
 case xMTrail =>
  repeat' (refine' L2.am aU _ (by decide) ?a ?b ?c ?d ?f ?e ?_;(case a|b|c|d|f=>k_is);(case e=>first|exact L2.UN fun y=>rfl|exact L2.ln2 fun y y=>rfl|exact L2.UO fun y y y=>rfl|exact L2.ZC fun y y y y=>rfl|exact L2.ZD fun y y y y y=>rfl|exact L2.ln6 fun y y y y y y=>rfl|exact L2.ZA rfl))
  exact L2.am0
 refine' L2.fnl KX G "sorted_by_keys" (My.top 62) ["rows","way"] ?a3 ?b3 ?c3 ?d3 ?e3 fun d0 e0 B0 F0=>?z3
 (case a3|b3|c3|d3=>k_is)
 (case e3=>exact L2.ln2 fun y y=>rfl)
 refine' L2.fnl KX G "sorted_by_values" (My.top 64) ["columns","part","rows"] ?a4 ?b4 ?c4 ?d4 ?e4 fun d1 e1 B1 F1=>?z4
 (case a4|b4|c4|d4=>k_is)
 (case e4=>exact L2.UO fun y y y=>rfl)
 refine' L2.fnl KX G "law" (My.top 100) ["_law_script"] ?a5 ?b5 ?c5 ?d5 ?e5 fun d2 e2 B2 F2=>?z5
 (case a5|b5|c5|d5=>k_is)
 (case e5=>exact L2.UN fun y=>rfl)
 refine' L2.fmd aw "worths_at" "Shelf.worths_at" ((L2.inClass My.bF 9)) ["self","key","moment"] ?a6 ?b6 ?c6 ?d6 ?e6 ?f6 ?g6 ?h6 fun d3 F3 D3=>?z6
 (case a6|b6|c6|d6|e6|f6=>k_is)
 (case g6=>intro s us t;revert us;exact L2.UO fun y y y=>.of_defaults rfl t rfl rfl rfl)
 (case h6=>intro s us t;revert us;exact L2.ab_ fun y y=>.of_defaults rfl t rfl rfl rfl)
 refine' L2.fmd aw "all_at" "Shelf.all_at" ((L2.inClass My.bF 10)) ["self","moment"] ?a7 ?b7 ?c7 ?d7 ?e7 ?f7 ?g7 ?h7 fun d4 F4 D4=>?z7
 (case a7|b7|c7|d7|e7|f7=>k_is)
 (case g7=>intro s us t;revert us;exact L2.ln2 fun y y=>.of_defaults rfl t rfl rfl rfl)
 (case h7=>intro s us t;revert us;exact L2.ab9 fun y=>.of_defaults rfl t rfl rfl rfl)
 refine' L2.Pq KX G "MOST_NAME_SIGNS" 8 ?a8 fun oV=>?z8
 (case a8=>k_is)
 refine' L2.Pq KX G "MOST_KEY_SIGNS" 12 ?a9 fun qq=>?z9
 (case a9=>k_is)
 refine' L2.Pq KX G "MOST_WORD_SIGNS" 40 ?a10 fun oW=>?z10
 (case a10=>k_is)
 refine' L2.Pq KX G "MOST_COLUMNS" 8 ?a11 fun u3=>?z11
 (case a11=>k_is)
 refine' L2.Pq KX G "MOST_PARTS_orders" 8 ?a12 fun l7=>?z12
 (case a12=>k_is)
 refine' L2.Pq KX G "MOST_DEEP" 8 ?a13 fun Cp=>?z13
 (case a13=>k_is)
 refine' L2.Pq KX G "MOST_PARTS_sieves" 200 ?a14 fun l8=>?z14
 (case a14=>k_is)
 refine' L2.Pq KX G "MOST_IN_A_TUPLE" 8 ?a15 fun oX=>?z15
 (case a15=>k_is)
 refine' L2.XR KX G "KINDS" ?a16 ?b16 fun OI w_KINDS=>?z16
 (case a16|b16=>k_is)
 refine' L2.XR KX G "OTHER_WAY" ?a17 ?b17 fun Cq w_OTHER_WAY=>?z17
 (case a17|b17=>k_is)
 refine' L2.XR KX G "OTHER_END" ?a18 ?b18 fun Cr w_OTHER_END=>?z18
 (case a18|b18=>k_is)
 refine' L2.XR KX G "LENGTHS_sieves" ?a19 ?b19 fun qr w_LENGTHS_sieves=>?z19
 (case a19|b19=>k_is)
 refine' L2.XR KX G "LENGTHS_deeds" ?a20 ?b20 fun rG w_LENGTHS_deeds=>?z20
 (case a20|b20=>k_is)
 refine' L2.Bu KX G "len" ?a21 fun YL=>?z21
 (case a21=>k_is)
 refine' L2.Bu KX G "all" ?a22 fun YM=>?z22
 (case a22=>k_is)
 refine' L2.Bu KX G "isinstance" ?a23 fun AF=>?z23
 (case a23=>k_is)
 refine' L2.Bu KX G "range" ?a24 fun OJ=>?z24
 (case a24=>k_is)
 refine' L2.Bu KX G "int" ?a25 fun YN=>?z25
 (case a25=>k_is)
 refine' L2.Bu KX G "str" ?a26 fun YO=>?z26
 (case a26=>k_is)
 refine' L2.Bu KX G "bool" ?a27 fun Uc=>?z27
 (case a27=>k_is)
 refine' L2.Bu KX G "tuple" ?a28 fun OL=>?z28
 (case a28=>k_is)
 refine' L2.Bu KX G "list" ?a29 fun Ud=>?z29
 (case a29=>k_is)
 refine' L2.Bu KX G "dict" ?a30 fun Ue=>?z30
 (case a30=>k_is)
 refine' L2.Bu KX G "set" ?a31 fun YQ=>?z31
 (case a31=>k_is)
 refine' L2.Bu KX G "zip" ?a32 fun YR=>?z32
 (case a32=>k_is)
 refine' L2.Bu KX G "sorted" ?a33 fun Mc=>?z33
 (case a33=>k_is)
 refine' L2.Bu KX G "min" ?a34 fun YS=>?z34
 (case a34=>k_is)
 refine' L2.Bu KX G "sum" ?a35 fun YT=>?z35
 (case a35=>k_is)
 refine' L2.Bu KX G "enumerate" ?a36 fun Cs=>?z36
 (case a36=>k_is)
 refine' L2.Bu KX G "reversed" ?a37 fun E1=>?z37
 (case a37=>k_is)
 refine' L2.Pr KX G "PageError" ?a38 ?b38 fun cS ia=>?z38
 (case a38=>k_is)
 (case b38=>k_exc)
 refine' L2.Pr KX G "BadColumns" ?a39 ?b39 fun bf bM=>?z39
 (case a39=>k_is)
 (case b39=>k_exc)
 refine' L2.Pr KX G "BadRow" ?a40 ?b40 fun fQ dZ=>?z40
 (case a40=>k_is)
 (case b40=>k_exc)
 refine' L2.Pr KX G "BadOrder" ?a41 ?b41 fun bH bz=>?z41
 (case a41=>k_is)
 (case b41=>k_exc)
 refine' L2.Pr KX G "BadSieve" ?a42 ?b42 fun bI gG=>?z42
 (case a42=>k_is)
 (case b42=>k_exc)
 refine' L2.Pr KX G "HasKey" ?a43 ?b43 fun Ct t9=>?z43
 (case a43=>k_is)
 (case b43=>k_exc)
 refine' L2.Pr KX G "NoKey" ?a44 ?b44 fun GO xV=>?z44
 (case a44=>k_is)
 (case b44=>k_exc)
 refine' L2.Pr KX G "BadDeed" ?a45 ?b45 fun cg dP=>?z45
 (case a45=>k_is)
 (case b45=>k_exc)
 refine' L2.ZE KX bf ?a46 ?b46 ?c46 fun iD=>?z46
 (case a46|b46|c46=>k_is)
 refine' L2.ZE KX bH ?a47 ?b47 ?c47 fun kO=>?z47
 (case a47|b47|c47=>k_is)
 refine' L2.ZE KX bI ?a48 ?b48 ?c48 fun kP=>?z48
 (case a48|b48|c48=>k_is)
 refine' L2.ZE KX cg ?a49 ?b49 ?c49 fun mQ=>?z49
 (case a49|b49|c49=>k_is)
 refine' L2.Pt KX bf cS ?a50 fun cT=>?z50
 (case a50=>k_is)
 refine' L2.Pt KX fQ cS ?a51 fun eJ=>?z51
 (case a51=>k_is)
 refine' L2.Pt KX fQ fQ ?a52 fun eE=>?z52
 (case a52=>k_is)
 refine' L2.Pt KX bH cS ?a53 fun dw=>?z53
 (case a53=>k_is)
 refine' L2.Pt KX bI cS ?a54 fun dy=>?z54
 (case a54=>k_is)
 refine' L2.Pt KX Ct cS ?a55 fun eK=>?z55
 (case a55=>k_is)
 refine' L2.Pt KX GO cS ?a56 fun e8=>?z56
 (case a56=>k_is)
 refine' L2.Pt KX cg cS ?a57 fun cF=>?z57
 (case a57=>k_is)
 refine' L2.wG KX bf bf true ?a58 fun k_BadColumns_BadColumns=>?z58
 (case a58=>kit_is)
 refine' L2.wG KX bf fQ false ?a59 fun k_BadColumns_BadRow=>?z59
 (case a59=>kit_is)
 refine' L2.wG KX bf bH false ?a60 fun k_BadColumns_BadOrder=>?z60
 (case a60=>kit_is)
 refine' L2.wG KX bf bI false ?a61 fun k_BadColumns_BadSieve=>?z61
 (case a61=>kit_is)
 refine' L2.wG KX bf cg false ?a62 fun k_BadColumns_BadDeed=>?z62
 (case a62=>kit_is)
 refine' L2.wG KX bH bf false ?a63 fun k_BadOrder_BadColumns=>?z63
 (case a63=>kit_is)
 refine' L2.wG KX bH fQ false ?a64 fun k_BadOrder_BadRow=>?z64
 (case a64=>kit_is)
 refine' L2.wG KX bH bH true ?a65 fun k_BadOrder_BadOrder=>?z65
 (case a65=>kit_is)
 refine' L2.wG KX bH bI false ?a66 fun k_BadOrder_BadSieve=>?z66
 (case a66=>kit_is)
 refine' L2.wG KX bH cg false ?a67 fun k_BadOrder_BadDeed=>?z67
 (case a67=>kit_is)
 refine' L2.wG KX bI bf false ?a68 fun k_BadSieve_BadColumns=>?z68
 (case a68=>kit_is)
 refine' L2.wG KX bI fQ false ?a69 fun k_BadSieve_BadRow=>?z69
 (case a69=>kit_is)
 refine' L2.wG KX bI bH false ?a70 fun k_BadSieve_BadOrder=>?z70
 (case a70=>kit_is)
 refine' L2.wG KX bI bI true ?a71 fun k_BadSieve_BadSieve=>?z71
 (case a71=>kit_is)
 refine' L2.wG KX bI cg false ?a72 fun k_BadSieve_BadDeed=>?z72
 (case a72=>kit_is)
 refine' L2.wG KX cg bf false ?a73 fun k_BadDeed_BadColumns=>?z73
 (case a73=>kit_is)
 refine' L2.wG KX cg fQ false ?a74 fun k_BadDeed_BadRow=>?z74
 (case a74=>kit_is)
 refine' L2.wG KX cg bH false ?a75 fun k_BadDeed_BadOrder=>?z75
 (case a75=>kit_is)
 refine' L2.wG KX cg bI false ?a76 fun k_BadDeed_BadSieve=>?z76
 (case a76=>kit_is)
 refine' L2.wG KX cg cg true ?a77 fun k_BadDeed_BadDeed=>?z77
 (case a77=>kit_is)
 refine' L2.Sj aw "columns" ?a78 fun rH=>?z78
 (case a78=>k_is)
 refine' L2.Sj aw "deeds" ?a79 fun vT=>?z79
 (case a79=>k_is)
 refine' L2.Sj aw "runs" ?a80 fun AG=>?z80
 (case a80=>k_is)
 refine' L2.Sj aU "shelf" ?a81 fun vU=>?z81
 (case a81=>k_is)
 refine' L2.Sj aU "order" ?a82 fun vV=>?z82
 (case a82=>k_is)
 refine' L2.Sj aU "sieve" ?a83 fun vW=>?z83
 (case a83=>k_is)
 refine' L2.Sj aU "hinder" ?a84 fun u_=>?z84
 (case a84=>k_is)
 refine' L2.gvm KX e0 ?a85 ?b85 ?c85 fun qt=>?z85
 (case a85=>k_is)
 (case b85=>rfl)
 (case c85=>first|rfl|decide|simp [codeHdIn])
 refine' L2.gvm KX e1 ?a86 ?b86 ?c86 fun ng=>?z86
 (case a86=>k_is)
 (case b86=>rfl)
 (case c86=>first|rfl|decide|simp [codeHdIn])
 exact⟨⟨_,_,_,_,_,_,_,_,_,_,_,_,_,_,_,_,_,_,_,_,_,_,_,_,_,_,_,_,_,_,_,_,_,_,_,_,_,_,_,_,_,_,_,_⟩,rfl,⟨A0,EY,EZ,F0,F1,F2,F3,D3,F4,D4,oV,qq,oW,u3,l7,Cp,l8,oX,OI,fun H=>L2.O4 (xs:=[.str "number",.str "word"]) ⟨_,_,_,w_KINDS,rfl,rfl,(by rw[yg];show 2≤16777216;decide),.cons ⟨_,rfl⟩ (.cons ⟨_,rfl⟩ (.nil))⟩ (L2.xG ["number","word"]),Cq,⟨by first|rfl|decide,_,_,_,w_OTHER_WAY,⟨rfl,rfl,rfl⟩,rfl,.cons ⟨rfl,⟨_,rfl⟩,⟨_,rfl⟩⟩ (.cons ⟨rfl,⟨_,rfl⟩,⟨_,rfl⟩⟩ (.nil)),by trivial⟩,Cr,⟨by first|rfl|decide,_,_,_,w_OTHER_END,⟨rfl,rfl,rfl⟩,rfl,.cons ⟨rfl,⟨_,rfl⟩,⟨_,rfl⟩⟩ (.cons ⟨rfl,⟨_,rfl⟩,⟨_,rfl⟩⟩ (.nil)),by trivial⟩,qr,⟨by first|rfl|decide,_,_,_,w_LENGTHS_sieves,⟨rfl,rfl,rfl⟩,rfl,.cons ⟨rfl,⟨_,rfl⟩,⟨_,rfl⟩⟩ (.cons ⟨rfl,⟨_,rfl⟩,⟨_,rfl⟩⟩ (.cons ⟨rfl,⟨_,rfl⟩,⟨_,rfl⟩⟩ (.cons ⟨rfl,⟨_,rfl⟩,⟨_,rfl⟩⟩ (.cons ⟨rfl,⟨_,rfl⟩,⟨_,rfl⟩⟩ (.cons ⟨rfl,⟨_,rfl⟩,⟨_,rfl⟩⟩ (.cons ⟨rfl,⟨_,rfl⟩,⟨_,rfl⟩⟩ (.cons ⟨rfl,⟨_,rfl⟩,⟨_,rfl⟩⟩ (.cons ⟨rfl,⟨_,rfl⟩,⟨_,rfl⟩⟩ (.nil))))))))),by trivial⟩,rG,⟨by first|rfl|decide,_,_,_,w_LENGTHS_deeds,⟨rfl,rfl,rfl⟩,rfl,.cons ⟨rfl,⟨_,rfl⟩,⟨_,rfl⟩⟩ (.cons ⟨rfl,⟨_,rfl⟩,⟨_,rfl⟩⟩ (.cons ⟨rfl,⟨_,rfl⟩,⟨_,rfl⟩⟩ (.nil))),by trivial⟩,YL,YM,AF,OJ,YN,YO,Uc,OL,Ud,Ue,YQ,YR,Mc,YS,YT,Cs,E1,cS,ia,bf,bM,fQ,dZ,bH,bz,bI,gG,Ct,t9,GO,xV,cg,dP,iD,kO,kP,mQ,cT,eJ,eE,dw,dy,eK,e8,cF,k_BadColumns_BadColumns,k_BadColumns_BadRow,k_BadColumns_BadOrder,k_BadColumns_BadSieve,k_BadColumns_BadDeed,k_BadOrder_BadColumns,k_BadOrder_BadRow,k_BadOrder_BadOrder,k_BadOrder_BadSieve,k_BadOrder_BadDeed,k_BadSieve_BadColumns,k_BadSieve_BadRow,k_BadSieve_BadOrder,k_BadSieve_BadSieve,k_BadSieve_BadDeed,k_BadDeed_BadColumns,k_BadDeed_BadRow,k_BadDeed_BadOrder,k_BadDeed_BadSieve,k_BadDeed_BadDeed,OE,aw,⟨OF,(EY 0 (by decide)).e.at_,(EY 0 (by decide)).e.fn,k_Shelf⟩,rH,vT,AG,OG,aU,⟨OH,(EZ 0 (by decide)).e.at_,(EZ 0 (by decide)).e.fn,k_Trail⟩,vU,vV,vW,u_,e0,qt,by simp,e1,ng,by simp,by simp,by simp,fun s v=>B2 s [v] rfl⟩⟩
