import PyProof.Rows.All
import Wide.All
import OpenK.AllK
import Wide.FinOn
import Lean
import PyProof.EqAt
import PyProof.EqKinds
import PyProof.TupleCall
import PyProof.NsDelKeeps
import KE.KIsBytes
import PyProof.Rows.SetFrom
import KE.KDictOf
import PyProof.AttrMissSeq
import PyProof.WalksMore
import PyProof.ZipIter
import PyProof.StrBlock2
import PyProof.StrBlockI
import PyProof.Rows.StrJoin2
import PyProof.Rows.CountFlat
import PyProof.Rows.Range3
import PyProof.SumWalkG
import PyProof.Rows.ListMulArg
import PyProof.FactsAll.tuple
import PyProof.EnumFor
import PyProof.EnumMake
import KE.KDictLaws
import KE.KDictSum
import KE.KRevIter
import PyProof.Rows.SortStr
import PyProof.Rows.SortWalk
import PyProof.AutoListH
import PyProof.StrLawsReplace
import PyProof.Rows.SortShellK
import KE.KLam
import KE.KSortKey
import KE.KNestM
import PyProof.EnumStmt
import PyProof.ListMulRoad
import PySem.Challenge.RW_pageturns_k51_houses_that_are_right
set_option tactic.hygienic false
set_option compiler.extract_closed false
set_option hygiene false in
local macro_rules|`(tactic|obtain $p:rcasesPatMed)=>`(tactic|(rintro _ _ _ _ _ _ _ S R Z hr ($p:rcasesPatMed);subst e))
local macro_rules|`(tactic| trivial)=>`(tactic| decide +kernel)
set_option Elab.async false
set_option linter.all false
set_option maxRecDepth 100000
set_option genInjectivity false
set_option genSizeOfSpec false
set_option bootstrap.genMatcherCode false
local macro_rules|`(δ $x)=>`(List $x)|`(θ $x)=>`(Option $x)|`(ϑ $x)=>`(some $x)|`(ψ $x $y)=>`(autoParam $x $y)|`(ω $x)=>`(decide $x)
local macro_rules|`($x:ident)=>match [(`π,`Nat),(`ρ,`PySem.Str),(`ε,`PySem.Addr),(`ν,`Int),(`ξ,`PySem.Value),(`ζ,`PySem.Shared),(`χ,`Bool),(`Γ,`PySem.Heap),(`Δ,`PySem.Expr),(`Φ,`PySem.W.Frag),(`Ψ,`PySem.Program),(`Ω,`PySem.World),(`ϕ,`PySem.Around),(`Ϙ,`PySem.sizeLine),(`ϱ,`true),(`ϰ,`false),(`ϐ,`none)].lookup x.getId with|some v=>return Lean.mkIdentFrom x v|_=>if x.getId==`η then `(Prop) else Lean.Macro.throwUnsupported
set_option linter.defProp false
set_option hygiene false in
local macro_rules|`($n:name)=>match n.getName with|`a=>`(by decide)|`b=>`(by lia)|`c=>`(by trivial)|`d=>`(by simp)|`m=>`(model X.prog X.w)|`n=>`(model prog w)|`h=>`(us.toArray.zip vs.toArray)|`i=>`(clOf X.env.cells scope.names)|`j=>`((false,eval e X.env))|`k=>`(List.range xs.length)|`l=>`(s.heap.objs.size+1)|`u=>`(hr.u)|_=>Lean.Macro.throwUnsupported
local macro_rules|`(tactic|show $t)=>`(tactic|refine $t)|`(tactic|let $p:term:=$e)=>do{let q:Lean.TSyntax `rcasesPat:=⟨←p.raw.rewriteBottomUpM λs=>do{if s.isIdent then{return (←`(rcasesPat|$(⟨s⟩):ident)).raw};if s.isOfKind `Lean.Parser.Term.hole then{return (←`(rcasesPat|_)).raw};if s.isOfKind `Lean.Parser.Term.anonymousCtor then{let a:Array (Lean.TSyntax `rcasesPat):=s[1].getSepArgs.map (⟨·⟩);return (←`(rcasesPat|⟨$[$a:rcasesPat],*⟩)).raw};return s}⟩;`(tactic|obtain $q:rcasesPat:=$e)}
local macro_rules|`(command|def $i:declId $s:optDeclSig:=by $t)=>`(command|theorem $i:declId $(⟨.node .none `Lean.Parser.Command.declSig #[s.raw[0],s.raw[1][0]]⟩):declSig:=by $t)
local macro_rules|`(command|$d:declaration)=>if d.raw.getPos?.isSome&&d.raw[1][1][0].getId.getRoot != `PySem then return d.raw.rewriteBottomUp (·.setInfo .none) else Lean.Macro.throwUnsupported
namespace Tactic
theorem qa:type_of% @if_neg:=@if_neg
theorem qc:type_of% @if_pos:=@if_pos
theorem qQQ(h:True:=by rfl):True:=h
def qQJ:Lean.Syntax:=qQQ._auto_1
theorem qQX(h:True:=by decide):True:=h
def qQZ:Lean.Syntax:=qQX._auto_1
theorem qQK(h:True:=by intro _;rfl):True:=h
def qQ0:Lean.Syntax:=qQK._auto_1
theorem qQ1(h:True:=by with_unfolding_all rfl):True:=h
def qQ2:Lean.Syntax:=qQ1._auto_1
theorem qQ3(h:True:=by exact⟨rfl,rfl,rfl,rfl⟩):True:=h
def qQ4:Lean.Syntax:=qQ3._auto_1
theorem qQ5(h:True:=by first|exact .inl rfl|exact .inr rfl|assumption):True:=h
def qQ6:Lean.Syntax:=qQ5._auto_1
theorem qQ7(h:True:=by first|exact .inl rfl|exact .inr rfl):True:=h
def qQ8:Lean.Syntax:=qQ7._auto_1
theorem qQ9(h:True:=by intro _ _ _ _ _;exact{Or.inl rfl,rfl}):True:=h
def qJQ:Lean.Syntax:=qQ9._auto_1
theorem qJJ(h:True:=by first|decide|omega):True:=h
def qJX:Lean.Syntax:=qJJ._auto_1
theorem qJZ(h:True:=by exact λz z=>rfl):True:=h
def qJK:Lean.Syntax:=qJZ._auto_1
theorem qJ0(h:True:=by first|exact Or.inl rfl|exact Or.inr rfl):True:=h
def qJ1:Lean.Syntax:=qJ0._auto_1
theorem qJ2(h:True:=by intro _ _ _ _ _;rfl):True:=h
def qJ3:Lean.Syntax:=qJ2._auto_1
theorem qJ4(h:True:=by trivial):True:=h
def qJ5:Lean.Syntax:=qJ4._auto_1
local macro_rules|`({$a:term})=>`(⟨$a⟩)|`({$a:term,$b:term,*})=>`(⟨$a,$b,*⟩)
local macro_rules|`(!$t)=>do{let mut t:=t;let mut n:=1;for _ in [0:20] do{if let `(!$u):=t then{t:=u;n:=n+1}};let xs←(match t with|`(⟨$x,*⟩)=>pure x.getElems|`({$x:term,$y:term,*})=>pure (#[x]++y.getElems)|_=>Lean.Macro.throwUnsupported);let mut a:=xs;for _ in [0:n] do{a:=#[←`(_),←`(rfl)]++a};`(⟨$a,*⟩)}
open PySem.W (instObj methodObj hideAll hideAll_get of_hideAll Frag lookIn plainGet hasDictIn findIn handedIn plainGet_of isFn plainOver takerIn makesIn emptyDict specialIn keepIn mroIn kitOne kia_one kitx_list fnOf codeIn excIn Looks callWith_K methodCall_KW envX kla_fn codeHdIn tabObj codeHd_of_K nsIn mg_of)
theorem za:type_of%@PySem.Heap.get?_push_of_some:=@PySem.Heap.get?_push_of_some
theorem zb:type_of%@PySem.wpAny_bind:=@PySem.wpAny_bind
theorem zc:type_of%@List.length_map:=@List.length_map
theorem zd:type_of%@Bool.false_ne_true:=@Bool.false_ne_true
theorem ze:type_of%@List.mem_cons:=@List.mem_cons
theorem zf:type_of%@List.mem_map:=@List.mem_map
theorem zg:type_of%@List.getElem?_eq_getElem:=@List.getElem?_eq_getElem
theorem zh:type_of%@List.getElem?_eq_some_iff:=@List.getElem?_eq_some_iff
theorem zj:type_of%@Nat.le_trans:=@Nat.le_trans
theorem zk:type_of%@List.length_append:=@List.length_append
theorem zl:type_of%@PySem.Heap.get?_push_size:=@PySem.Heap.get?_push_size
theorem zm:type_of%@Nat.le_refl:=@Nat.le_refl
theorem zo:type_of%@List.mem_cons_of_mem:=@List.mem_cons_of_mem
theorem zp:type_of%@PySem.wpAny_pure:=@PySem.wpAny_pure
theorem zq:type_of%@Nat.lt_of_lt_of_le:=@Nat.lt_of_lt_of_le
theorem zr:type_of%@List.size_toArray:=@List.size_toArray
theorem zt:type_of%@decide_eq_false:=@decide_eq_false
theorem zu:type_of%@decide_eq_true:=@decide_eq_true
theorem zw:type_of%@PySem.Heap.lt_size:=@PySem.Heap.lt_size
theorem zx:type_of%@List.getElem?_map:=@List.getElem?_map
theorem zy:type_of%@of_decide_eq_true:=@of_decide_eq_true
theorem zA:type_of%@List.not_mem_nil:=@List.not_mem_nil
theorem zB:type_of%@List.mem_cons_self:=@List.mem_cons_self
theorem zC:type_of%@List.mem_singleton:=@List.mem_singleton
theorem zD:type_of%@List.map_cons:=@List.map_cons
theorem zE:type_of%@Nat.ne_of_lt:=@Nat.ne_of_lt
theorem zG:type_of%@List.map_map:=@List.map_map
theorem zH:type_of%@List.map_append:=@List.map_append
theorem zI:type_of%@List.mem_append_right:=@List.mem_append_right
theorem zJ:type_of%@List.getD_eq_getElem?_getD:=@List.getD_eq_getElem?_getD
theorem zK:type_of%@List.mem_of_getElem?:=@List.mem_of_getElem?
theorem zL:type_of%@List.mem_append:=@List.mem_append
theorem zM:type_of%@List.length_cons:=@List.length_cons
theorem zN:type_of%@Bool.and_eq_true:=@Bool.and_eq_true
theorem zO:type_of%@PySem.F.plainAttrs_list:=@PySem.F.plainAttrs_list
theorem zP:type_of%@PySem.wpAny_field:=@PySem.wpAny_field
theorem zQ:type_of%@Option.some.inj:=@Option.some.inj
theorem zR:type_of%@Nat.lt_of_le_of_lt:=@Nat.lt_of_le_of_lt
theorem zS:type_of%@PySem.Heap.size_push:=@PySem.Heap.size_push
theorem zT:type_of%@List.mem_append_left:=@List.mem_append_left
theorem zU:type_of%@Nat.zero_le:=@Nat.zero_le
theorem zV:type_of%@List.mem_range:=@List.mem_range
theorem zW:type_of%@of_decide_eq_false:=@of_decide_eq_false
theorem zX:type_of%@PySem.F.slot_list_append:=@PySem.F.slot_list_append
theorem zY:type_of%@PySem.F.type_list_append:=@PySem.F.type_list_append
theorem zZ:type_of%@List.find?_cons:=@List.find?_cons
theorem z0:type_of%@List.map_congr_left:=@List.map_congr_left
theorem ya:type_of%@Bool.false_and:=@Bool.false_and
theorem yb:type_of%@decide_eq_true_iff:=@decide_eq_true_iff
theorem yc:type_of%@List.nodup_cons:=@List.nodup_cons
theorem yd:type_of%@List.length_take:=@List.length_take
theorem ye:type_of%@List.lookup_cons:=@List.lookup_cons
theorem yf:type_of%@Bool.true_and:=@Bool.true_and
theorem yg:type_of%@List.getElem?_zipWith_eq_some:=@List.getElem?_zipWith_eq_some
theorem yh:type_of%@PySem.sizeLine_eq:=@PySem.sizeLine_eq
theorem yi:type_of%@Nat.ne_of_gt:=@Nat.ne_of_gt
theorem yj:type_of%@PyProof.Rows.callWith_type1:=@PyProof.Rows.callWith_type1
theorem yk:type_of%@List.mem_filter:=@List.mem_filter
theorem ym:type_of%@PySem.mem_of_lookup:=@PySem.mem_of_lookup
theorem yn:type_of%@Nat.lt_succ_self:=@Nat.lt_succ_self
theorem yo:type_of%@List.all_eq_true:=@List.all_eq_true
theorem yp:type_of%@PySem.wpAny_callSpecial?_slot:=@PySem.wpAny_callSpecial?_slot
theorem yq:type_of%@PySem.wpAny_newObj_type:=@PySem.wpAny_newObj_type
theorem yr:type_of%@decide_eq_true_eq:=@decide_eq_true_eq
theorem yt:type_of%@List.getElem?_of_mem:=@List.getElem?_of_mem
theorem yu:type_of%@Nat.le_succ:=@Nat.le_succ
theorem yw:type_of%@Array.length_toList:=@Array.length_toList
theorem yx:type_of%@List.filter_sublist:=@List.filter_sublist
theorem yy:type_of%@PySem.wpAny_setField_rec:=@PySem.wpAny_setField_rec
theorem yz:type_of%@PySem.wpAny_call_entry:=@PySem.wpAny_call_entry
theorem yA:type_of%@PySem.Heap.get?_update_other:=@PySem.Heap.get?_update_other
theorem yB:type_of%@PySem.wpAny_mono:=@PySem.wpAny_mono
theorem yC:type_of%@PySem.wpAny_truthy_bool:=@PySem.wpAny_truthy_bool
theorem yD:type_of%@PySem.Heap.get?_update_self:=@PySem.Heap.get?_update_self
theorem yE:type_of%@PySem.F.slot_dict_get:=@PySem.F.slot_dict_get
theorem yF:type_of%@PySem.wpAny_seqItems:=@PySem.wpAny_seqItems
theorem yG:type_of%@PySem.Obj.data_mapFields:=@PySem.Obj.data_mapFields
theorem yH:type_of%@Nat.succ_le_succ:=@Nat.succ_le_succ
theorem yI:type_of%@List.filter_cons:=@List.filter_cons
theorem yJ:type_of%@PySem.Paired.length:=@PySem.Paired.length
theorem yK:type_of%@Nat.lt_irrefl:=@Nat.lt_irrefl
theorem yL:type_of%@PySem.Heap.SameBut.update:=@PySem.Heap.SameBut.update
theorem yM:type_of%@List.length_reverse:=@List.length_reverse
theorem yN:type_of%@Bool.eq_iff_iff:=@Bool.eq_iff_iff
theorem yO:type_of%@PySem.Calls.spliced_cons:=@PySem.Calls.spliced_cons
theorem yP:type_of%@List.length_drop:=@List.length_drop
theorem yQ:type_of%@PySem.wpAny_holding:=@PySem.wpAny_holding
theorem yR:type_of%@Nat.le_succ_of_le:=@Nat.le_succ_of_le
theorem yS:type_of%@decide_eq_decide:=@decide_eq_decide
theorem yT:type_of%@Sum.inr.inj:=@Sum.inr.inj
theorem yU:type_of%@Nat.le_of_lt:=@Nat.le_of_lt
theorem yV:type_of%@List.foldl_cons:=@List.foldl_cons
theorem yW:type_of%@Bool.or_eq_true:=@Bool.or_eq_true
theorem yX:type_of%@PySem.codeAny_builtin:=@PySem.codeAny_builtin
theorem yY:type_of%@PySem.F.slot_zip_next:=@PySem.F.slot_zip_next
theorem yZ:type_of%@List.any_cons:=@List.any_cons
theorem y6:type_of%@PySem.wpAny_setField:=@PySem.wpAny_setField
theorem y7:type_of%@PySem.wpAny_rule:=@PySem.wpAny_rule
theorem y8:type_of%@Int.ofNat_lt:=@Int.ofNat_lt
theorem y9:type_of%@Nat.lt_trans:=@Nat.lt_trans
theorem xa:type_of%@PySem.codeAny_mono:=@PySem.codeAny_mono
theorem xb:type_of%@Nat.succ_pos:=@Nat.succ_pos
theorem xc:type_of%@Bool.false_or:=@Bool.false_or
theorem xf:type_of%@PySem.wpAny_attempt:=@PySem.wpAny_attempt
theorem xg:type_of%@PySem.wpAny_of_eq:=@PySem.wpAny_of_eq
namespace L2
open PySem PySem.Spec PyProof.Rows
abbrev Key:=Sum ν ρ
def keyIs:Key->ξ->χ|.inl k,v=>Value.isInt k v|.inr x,v=>Value.isStrOf x v
def ZS(w:Ω):Key->ν|.inl k=>hashInt k|.inr x=>hashStr w x
theorem bN:∀{k:Key}{v:ξ},keyIs k v=ϱ->(∃i t,k=Sum.inl i/\v=Value.int i t)\/(∃x t,k=Sum.inr x/\v=Value.str x t)|.inl i,v,h=>(by let⟨t,e⟩:=Value.isInt_shape (k:=i) (v:=v) h;show .inl ⟨i,t,rfl,e⟩)|.inr x,v,h=>by let⟨t,e⟩:=Value.isStrOf_shape (x:=x) (v:=v) h;show .inr ⟨x,t,rfl,e⟩
def G0(i:ν)(t:Tok):keyIs (.inl i) (.int i t)=ϱ:=by simp[keyIs,Value.isInt]
def G1(x:ρ)(t:Tok):keyIs (.inr x) (.str x t)=ϱ:=by simp[keyIs,Value.isStrOf]
def QK(a b:ν):ω ((Sum.inl a:Key)=Sum.inl b)=(a==b):=by by_cases e:a=b;subst e;simp;have h:¬(Sum.inl a:Key)=Sum.inl b:=λq=>e<|Sum.inl.inj q;rw[zt h];show(beq_eq_false_iff_ne.mpr e).symm
def QL(a b:ρ):ω ((Sum.inr a:Key)=Sum.inr b)=ω (a=b):=by by_cases e:a=b;subst e;simp;have h:¬(Sum.inr a:Key)=Sum.inr b:=λq=>e<|yT q;rw[zt h,zt e]
theorem QM(a:ν)(b:ρ):ω ((Sum.inl a:Key)=Sum.inr b)=ϰ:=zt λq=>nomatch q
theorem QN(a:ρ)(b:ν):ω ((Sum.inr a:Key)=Sum.inl b)=ϰ:=zt λq=>nomatch q
def aK(prog:Ψ)(w:Ω):PySem.KeyKind prog w Key where
 is:=keyIs
 hash:=ZS w
 inj:=λv a b ha hb=>by
  rcases bN ha with⟨i,t,rfl,rfl⟩|⟨x,t,rfl,rfl⟩
  ·rcases bN hb with⟨j,u,rfl,e⟩|⟨y,u,rfl,e⟩
   ·injection e with e1 _;rw[e1]
   ·show nomatch e
  ·rcases bN hb with⟨j,u,rfl,e⟩|⟨y,u,rfl,e⟩
   ·show nomatch e
   ·injection e with e1 _;rw[e1]
 byValue:=λk v h=>by
  rcases bN h with⟨i,t,rfl,rfl⟩|⟨x,t,rfl,rfl⟩<;>rfl
 pyHash:=λhv h=>by
  rcases bN hv with⟨i,t,rfl,rfl⟩|⟨x,t,rfl,rfl⟩
  ·show wpAny_pyHash_int h
  ·show wpAny_pyHash_str h
 eqBool:=λhu hv h=>by
  rcases bN hu with⟨i,t,rfl,rfl⟩|⟨x,t,rfl,rfl⟩
  ·rcases bN hv with⟨j,u,rfl,rfl⟩|⟨y,u,rfl,rfl⟩
   ·rw[QK]at h;show wpAny_eqBool_int h
   ·rw[QM]at h;show SeqAt.EqAt.int_str i t y u _ _ _ _ h
  ·rcases bN hv with⟨j,u,rfl,rfl⟩|⟨y,u,rfl,rfl⟩
   ·rw[QN]at h;show SeqAt.EqAt.str_int x t j u _ _ _ _ h
   ·rw[QL]at h;show wpAny_eqBool_str h
 «strs»:=λk x t v h=>by
  rcases bN h with⟨i,u,rfl,e⟩|⟨y,u,rfl,e⟩
  ·show nomatch e
  ·injection e with e1 _
   subst e1
   cases v<;>rfl
theorem Ba(prog:Ψ)(w:Ω)(i:ν)(t:Tok):(aK prog w).is (.inl i) (.int i t)=ϱ:=G0 i t
theorem jV(prog:Ψ)(w:Ω)(x:ρ)(t:Tok):(aK prog w).is (.inr x) (.str x t)=ϱ:=G1 x t
set_option genInjectivity true in
set_option genSizeOfSpec true in
inductive V
 |aA|bl (b:χ)|int (i:ν)|str (x:ρ)|FA (b:Array UInt8)|QO (b:UInt64)|ref (a:ε)|ty (n:String)
 deriving DecidableEq
def RelV:V->ξ->η|.aA,u=>u=Value.none|.bl b,u=>u=Value.bool b|.int i,u=>∃t,u=Value.int i t|.str x,u=>∃t,u=Value.str x t|.FA b,u=>∃t,u=Value.bytes b t|.QO b,u=>∃t,u=Value.float b t|.ref a,u=>u=Value.ref a|.ty n,u=>u=Value.type n
abbrev Vals:δ V->δ ξ->Prop:=Paired RelV
theorem Vals.length{xs:δ V}{us:δ ξ}(r:Vals xs us):xs.length=us.length:=yJ r
theorem Vals.get:∀{xs:δ V}{us:δ ξ}{i:π}{x:V},Vals xs us->xs[i]?=some x->∃u,us[i]?=some u/\RelV x u|_,_,_,_,.nil,e=>by simp at e|_,_,0,_,.cons r _,e=>by simp at e;subst e;show{_,rfl,r}|_,_,i+1,x,.cons _ t,e=>by let⟨u,h1,h2⟩:=Vals.get (i:=i) (x:=x) t (by simpa using e);show{u,by simpa using h1,h2}
theorem Vals.set(r:RelV x u):∀{xs:δ V}{us:δ ξ}(i:π),Vals xs us->Vals (xs.set i x) (us.set i u)|_,_,_,.nil=>.nil|_,_,0,.cons _ t=>.cons r t|_,_,i+1,.cons q t=>.cons q<|Vals.set r i t
theorem Vals.append:∀{xs ys:δ V}{us ws:δ ξ},Vals xs us->Vals ys ws->Vals (xs++ys) (us++ws)|_,_,_,_,.nil,s=>s|_,_,_,_,.cons r t,s=>.cons r<|Vals.append t s
theorem Vals.take:∀{xs:δ V}{us:δ ξ}(n:π),Vals xs us->Vals (xs.take n) (us.take n)|_,_,0,_=>.nil|_,_,_+1,.nil=>.nil|_,_,n+1,.cons r t=>.cons r<|Vals.take n t
theorem Vals.drop:∀{xs:δ V}{us:δ ξ}(n:π),Vals xs us->Vals (xs.drop n) (us.drop n)|_,_,0,r=>r|_,_,_+1,.nil=>.nil|_,_,n+1,.cons _ t=>Vals.drop n t
def gC:θ V->θ ξ->η|some v,some u=>RelV v u|none,none=>True|_,_=>False
def KV{κ:Type} : δ (κ×V)->δ (κ×ξ)->Prop:=Paired λ(p:κ×V)(q:κ×ξ)=>p.1=q.1/\RelV p.2 q.2
def kV:Key->V|.inl i=>.int i|.inr x=>.str x
set_option genInjectivity true in
set_option genSizeOfSpec true in
inductive HO
  |lst (xs:δ V)
  |tup (xs:δ V)
  |dK (kvs:δ<|Key×V)|dT (kvs:δ<|δ Key×V)
  |set (S:ν->χ) (n:π)
  |ins (C dx:ε) (fs:δ<|ρ×V)
  |own (x:ε)
  |xd (fs:δ<|ρ×V)
  |met (f x:ε)
  |YB (lo hi:ν)
  |md (o:Obj) (u:HO)
  |r_ (ps:Array ξ)
  |ext (φ:Γ->η)
abbrev Hp:=ε->θ HO
noncomputable def upd(H:Hp)(a:ε)(o:HO):Hp:=λb=>if b=a then some o else H b
def aF{H:Hp}{a:ε}{o:HO} : upd H a o a=ϑ o:=by unfold upd;rw[qc rfl]
def az{H:Hp}{a b:ε}{o:HO}(h:b≠a):upd H a o b=H b:=by unfold upd;rw[qa h]
def aD{H:Hp}{a b:ε}{o:HO}(h:H a=ϑ o)(h':H b=ϐ):a≠b:=by intro e;subst e;rw[h]at h';cases h'
def g6(h:Γ)(a:ε)(items:Array ξ):Prop:=∃o,h.get? a=ϑ o/\o.cls=.type "tuple"/\o.dict=ϐ/\∃n,o.data=.seq items n
def g6.tup(x:g6 h a items):IsTup h a items:=by let⟨o,e,c,_,n,d⟩:=x;show⟨o,e,c,n,d⟩
theorem g6.lt(x:g6 h a items):a<h.objs.size:=x.tup.lt
theorem g6.new(h:Γ)(items:Array ξ):g6 (h.push {cls:=.type "tuple",data:=.seq items}) h.objs.size items:={_,zl _ rfl,rfl,rfl,_,rfl}
section
variable(P:Ψ)(w:Ω)
def br(H:Hp)(h:Γ)(a:ε):HO->η|.lst xs=>xs.length<=Ϙ/\∃(aC:δ ξ) (n:π),Vals xs aC/\h.get? a=ϑ {cls:=.type "list",data:=.seq aC.toArray n}|.tup xs=>xs.length<=Ϙ/\∃aC:δ ξ,Vals xs aC/\g6 h a aC.toArray|.dK kvs=>kvs.length<=Ϙ/\(a==sysModules)=ϰ/\∃vs,KV kvs vs/\h.DictOf (aK P w) a vs|.dT _=>False|.set S n=>h.SetOf (intKind P w) a S n|.ins C dx fs=>H dx=ϑ (.own a)/\fs.length<=1000/\dx≠a/\h.get? a=ϑ (instObj C dx)/\∃mA,h.Ns1 dx mA/\(∀f,gC (fs.lookup f)<|mA f)/\PySem.Within mA (fs.map (·.1))|.own _=>∃o,h.get? a=ϑ o|.xd fs=>∃mA,h.Ns1 a mA/\∀f,gC (fs.lookup f) (mA f)|.YB lo hi=>∃t u v,h.get? a=ϑ {cls:=.type "range",data:=.fields #[.int lo t,.int hi u,.int 1 v]}|.md o u=>h.get? a=ϑ o/\br H h a u|.r_ ps=>h.get? a=ϑ {cls:=.none,data:=.fields ps}|.met f x=>h.get? a=ϑ (methodObj (.ref f)<|.ref x)|.ext φ=>φ h/\(∃o,h.get? a=ϑ o)/\∀h1 h2:Γ,φ h1->(∀o,h1.get? a=ϑ o->h2.get? a=ϑ o)->φ h2
def lO(H:Hp)(h:Γ):Prop:=∀a o,H a=ϑ o->br P w H h a o
end
section
variable{P:Ψ}{w:Ω}{H H':Hp}{h h':Γ}{a:ε}{o:HO}
def br.lt(x:br P w H h a o):a<h.objs.size:=by cases o with|lst xs=>(let⟨_,_,_,_,e⟩:=x;show zw e)|tup xs=>(let⟨_,_,_,p⟩:=x;show p.lt)|dK kvs=>(let⟨_,_,_,_,o,_,_,e,_⟩:=x;show zw e)|dT kvs=>show False.elim x|set S n=>(let⟨o,_,_,_,e,_⟩:=x;show zw e)|ins C dx fs=>(let⟨_,_,_,e,_⟩:=x;show zw e)|own y=>(let⟨_,e⟩:=x;show zw e)|xd fs=>(let⟨_,⟨_,_,_,e,_⟩,_⟩:=x;show zw e)|YB lo hi=>(let⟨_,_,_,e⟩:=x;show zw e)|md c u=>(let⟨e,_⟩:=x;show zw e)|r_ ps=>show zw (show h.get? a=ϑ _ from x)|met f y=>show zw (show h.get? a=ϑ _ from x)|ext φ=>let⟨_,⟨_,e⟩,_⟩:=x;show zw e
def br.oW(x:br P w H h a o)(k:∀b u,(b=a\/H b=ϑ (.own a))->h.get? b=ϑ u->h'.get? b=ϑ u) (j:∀b,H b=ϑ (.own a)->H' b=ϑ (.own a)) (m:∀b xs,H b=ϑ (.tup xs)->H' b=ϑ (.tup xs)):br P w H' h' a o:=by induction o with|lst xs=>(let⟨z,i,n,r,e⟩:=x;show{z,i,n,r,k _ _ (.inl rfl) e})|tup xs=>(let⟨z,i,r,g,e,c⟩:=x;show{z,i,r,g,k _ _ (.inl rfl) e,c})|dK kvs=>(let⟨z,y,vs,r,g,es,ep,e,c⟩:=x;show{z,y,vs,r,g,es,ep,k _ _ (.inl rfl) e,c})|dT kvs=>show False.elim x|set S n=>(let⟨g,es,ep,t,e,c⟩:=x;show{g,es,ep,t,k _ _ (.inl rfl) e,c})|ins C dx fs=>(let⟨d,z,ne,e,mA,⟨od,es,ep,e2,c⟩,r⟩:=x;show{j _ d,z,ne,k _ _ (.inl rfl) e,mA,{od,es,ep,k _ _ (.inr d) e2,c},r})|own y=>(let⟨g,e⟩:=x;show{g,k _ _ (.inl rfl) e})|xd fs=>(let⟨mA,⟨od,es,ep,e,c⟩,r⟩:=x;show{mA,{od,es,ep,k _ _ (.inl rfl) e,c},r})|YB lo hi=>(let⟨t,u,v,e⟩:=x;show{t,u,v,k _ _ (.inl rfl) e})|md g u l=>(let⟨e,q⟩:=x;show{k _ _ (.inl rfl) e,l q})|r_ ps=>have e:h.get? a=ϑ {cls:=.none,data:=.fields ps}:=x;change h'.get? a=ϑ {cls:=.none,data:=.fields ps};show k a _ (.inl rfl) e|met f y=>have e:h.get? a=ϑ (methodObj (.ref f)<|.ref y):=x;change h'.get? a=ϑ (methodObj (.ref f)<|.ref y);show k a _ (.inl rfl) e|ext φ=>let⟨p,⟨o,e⟩,st⟩:=x;show{st _ _ p λo q=>k _ _ (.inl rfl) q,{o,k _ _ (.inl rfl) e},st}
theorem lO.lt(x:lO P w H h)(e:H a=ϑ o):a<h.objs.size:=(x a o e).lt
def lO.fresh(x:lO P w H h)(e:h.objs.size<=a):H a=ϐ:=by cases q:H a with|none=>rfl|some u=>show absurd (zq (x.lt q) e)<|yK _
theorem lO.kept(x:lO P w H h)(k:∀b u,h.get? b=ϑ u->h'.get? b=ϑ u):lO P w H h':=λa o e=>(x a o e).oW (λb u z q=>k b u q) (λz q=>q) λz z q=>q
theorem lO.laid(x:lO P w H h)(k:∀b u,h.get? b=ϑ u->h'.get? b=ϑ u)(hp:h.objs.size<=a)(new:br P w (upd H a o) h' a o):lO P w (upd H a o) h':=λb u e=>by have hn:=x.fresh hp;by_cases hb:b=a;subst hb;rw[aF]at e;cases e;show new;rw[az hb]at e;show(x b u e).oW (λc v z q=>k c v q) (λc q=>by rw[az<|aD q hn];show q) λc xs q=>by rw[az<|aD q hn];show q
end
def Rd(H:Hp)(a:ε)(u:HO):Prop:=H a=ϑ u\/∃o,H a=ϑ (.md o u)
theorem Rd.of(h:H a=ϑ u):Rd H a u:=.inl h
def Rd.ok{P:Ψ}{w:Ω}{H:Hp}{h:Γ}{a:ε}{u:HO}(r:Rd H a u)(x:lO P w H h):br P w H h a u:=by rcases r with r|⟨o,r⟩;show x a u r;let⟨_,q⟩:=x a _ r;show q
def Vn:θ HO->η|some (.lst _)=>True|some (.dK _)=>True|some (.dT _)=>True|some (.set _ _)=>True|some (.ins _ _ _)=>True|some (.ext _)=>True|_=>False
section
variable{P:Ψ}{w:Ω}{H:Hp}{h h':Γ}{x e:ε}{o':HO}
theorem lO.write(ok:lO P w H h)(g:Vn<|H x)(j:e=x\/H e=ϑ (.own x))(k:∀b u,b≠e->h.get? b=ϑ u->h'.get? b=ϑ u)(n:∃u,h'.get? e=ϑ u) (new:br P w (upd H x o') h' x o'):lO P w (upd H x o') h':=λb u q=>by
 have i:∀c y,H c=ϑ (.own y)->c≠x:=λc y r z=>by subst z;rw[r]at g;show g
 have o:∀c xs,H c=ϑ (.tup xs)->c≠x:=λc xs r z=>by subst z;rw[r]at g;show g
 by_cases hb:b=x;subst hb;rw[aF]at q;cases q;show new;rw[az hb]at q;by_cases d:b=e;have l:H b=ϑ (.own x):=by rcases j with z|z;show absurd (d.trans z) hb;rw[d];show z
 rw[q]at l;cases l;let⟨v,m⟩:=n;show{v,by rw[d];show m};show(ok b u q).oW (λc v a r=>k c v ?_ r) (λc r=>by rw[az<|i c b r];show r) λc xs r=>by rw[az<|o c xs r];show r
 rcases a with rfl|a;show d;rintro rfl;rcases j with z|z;show i c b a z;rw[a]at z;cases z;show hb rfl
end
structure Un(fs ex:δ ε)(H H':Hp)(h h':Γ):η where
 keep:∀b o,h.get? b=ϑ o->H b=ϐ->b∉fs->b∉ex->h'.get? b=ϑ o
 slot:∀b o,h.get? b=ϑ o->H b=ϐ->b∈fs->b∉ex->∃sl,h'.get? b=ϑ {o with slots:=sl}
 free:∀b o,h.get? b=ϑ o->H b=ϐ->b∉ex->H' b=ϐ
 there:∀b o,h.get? b=ϑ o->b∉ex->∃o',h'.get? b=ϑ o'
 g7:∀b xs,H b=ϑ (.tup xs)->H' b=ϑ (.tup xs)
 gD:∀b o u,H b=ϑ (.md o u)->H' b=ϑ (.md o u)
 gE:∀b ps,H b=ϑ (.r_ ps)->∃more,H' b=ϑ (.r_<|ps++more)
section
variable{fs ex:δ ε}{H H1:Hp}{h h1 h':Γ}{a x e:ε}{o:HO}
def Un.any(u:Un fs ex H H1 h h1){b:ε}{a:Obj}(q:h.get? b=ϑ a)(n:H b=ϐ)(hx:b∉ex):∃sl,h1.get? b=ϑ {a with slots:=sl}:=by by_cases hb:b∈fs;show u.slot b a q n hb hx;show{a.slots,u.keep b a q n hb hx}
theorem Un.kept(k:∀b u,h.get? b=ϑ u->h'.get? b=ϑ u):Un fs ex H H h h':={λb a q z z z=>k b a q,λb a q z z z=>{a.slots,k b a q},λz z z n z=>n,λb a q z=>{a,k b a q},λz z q=>q,λz z z q=>q,λz ps q=>{#[],by rw[q];simp}}
theorem Un.refl:Un fs ex H H h h:=Un.kept λz z q=>q
theorem Un.laid(k:∀b u,h.get? b=ϑ u->h'.get? b=ϑ u)(hp:h.objs.size<=a)(hn:H a=ϐ):Un fs ex H (upd H a o) h h' where
 keep:=λb u q z z z=>k b u q
 slot:=λb u q z z z=>{u.slots,k b u q}
 free:=λb u q n z=>by rw[az<|zE<|zq (zw q) hp];show n
 there:=λb u q z=>{u,k b u q}
 g7:=λb xs q=>by rw[az<|aD q hn];show q
 gD:=λb u xs q=>by rw[az<|aD q hn];show q
 gE:=λb ps q=>{#[],by rw[az<|aD q hn,q];simp}
def Un.write(a:Vn<|H x)(g:e=x\/H e=ϑ (.own x))(k:∀b u,b≠e->h.get? b=ϑ u->h'.get? b=ϑ u)(i:∃u,h'.get? e=ϑ u):Un fs ex H (upd H x o) h h':=by
 have hx:∀b,H b=ϐ->b≠x:=λb n z=>by subst z;rw[n]at a;show a
 have hb:∀b,H b=ϐ->b≠e:=λb n z=>by subst z;rcases g with r|r;show hx b n r;rw[n]at r;cases r
 have hm:∀b u,H b=ϑ u->¬Vn (some u)->b≠x:=λb u q d z=>by subst z;rw[q]at a;show d a
 show⟨λb u q n y y=>k b u (hb b n) q,λb u q n y y=>{u.slots,k b u (hb b n) q},λb u q n y=>by rw[az<|hx b n];show n,λb u q y=>?_,
  λb xs q=>by rw[az<|hm b _ q λz=>z];show q,λb u xs q=>by rw[az<|hm b _ q λz=>z];show q,λb ps q=>{#[],by rw[az<|hm b _ q λz=>z,q];simp}⟩
 by_cases c:b=e;subst c;show i;show{u,k b u c q}
end
noncomputable def YC(h:Γ)(H:Hp):δ Addr:=(List.range h.objs.size).filter λa=>(H a).isSome
noncomputable def vh(h:Γ)(H:Hp):Heap:=hideAll h<|YC h H
theorem G4(h:Γ)(H:Hp):(vh h H).objs.size=h.objs.size:=PySem.W.hideAll_size _ _
theorem Jf(e:h.get? b=ϑ o)(n:H b=ϐ):(vh h H).get? b=ϑ o:=hideAll_get _ e λhm=>by have q:(H b).isSome=ϱ:=(yk.mp hm).2;rw[n]at q;simp at q
def MG(e:(vh h H).get? b=ϑ o):h.get? b=ϑ o/\H b=ϐ:=by have e':h.get? b=ϑ o:=of_hideAll (YC h H) e;show{e',?_};cases q:H b with|none=>rfl|some x=>have hm:b∈YC h H:=yk.mpr {zV.mpr<|zw e',by simp[q]};have z:(vh h H).get? b=ϐ:=PySem.W.hideAll_none (YC h H) hm;rw[z]at e;cases e
noncomputable def MH(g h:Γ)(L:ε):δ (ε×Obj):=(List.range h.objs.size).filterMap λa=>if a=L\/(g.get? a).isSome=ϱ then none else (h.get? a).map λo=>(a,o)
noncomputable def rest(g h:Γ)(L d:ε):δ (ε×Obj):=(MH g h L).filter λp=>ω<|p.1≠d
structure Mod(K:Φ)(mg:ρ->θ ξ)(base:Γ):η where
 Ux:K.In base
 glob:base.Ns mainGlobals mg
 blt:∃mb,base.Ns builtinsNs mb/\∀x:ρ,x≠"__name__"->mb x=bootBuiltins x
 nolimit:base.NoLimit
structure Cx where
 prog:Ψ
 w:Ω
 K:Φ
 mg:ρ->θ ξ
 base:Γ
 A:ϕ
 N:δ ρ
 cS:ζ
 rF:Hp
 env:Env
 outer:δ Env
 stack:δ Env
 ex:δ ε
 fn:ρ->χ
 calm:χ
 pn:δ (ε×Obj)
 xe:ξ->ζ->η
def lP(l:δ Env):δ Addr:=l.filterMap (·.frame)
noncomputable abbrev Cx.fs(X:Cx):δ Addr:=lP X.outer
def QQ(sc:Scope)(x:ρ):Prop:=sc.names.lookup x=ϑ .local\/sc.names.lookup x=ϑ .cell\/sc.names.lookup x=ϑ .free
def Loc(sc:Scope)(x:ρ):Prop:=sc.names.lookup x=ϑ .local\/sc.names.lookup x=ϑ .cell
def Look(env:Env)(h:Γ)(m:ρ->θ ξ)(x:ρ)(u:ξ):Prop:=(env.kindOf x=ϑ .local/\m x=ϑ u)\/((env.kindOf x=ϑ .cell\/env.kindOf x=ϑ .free)/\∃c,env.cells.lookup x=ϑ c/\h.IsCell c (some u))
structure Cx.Ok(X:Cx):η where
 mod:Mod X.K X.mg X.base
 kind:X.env.scope.kind=.function
 glob:X.env.globals=mainGlobals
 blt:X.env.builtins=builtinsNs
 above:X.cS.heap.objs.size<=X.env.locals
 inj:∀x y c,X.env.cells.lookup x=ϑ c->X.env.cells.lookup y=ϑ c->x=y
 has:∀x,(X.env.kindOf x=ϑ .cell\/X.env.kindOf x=ϑ .free)->∃c,X.env.cells.lookup x=ϑ c
 QR:∀x c,X.fn x=ϱ->X.env.cells.lookup x=ϑ c->X.cS.heap.objs.size<=c
 hd:X.calm=ϱ->X.A.handled=ϐ
 frames:X.A.frames=ϑ X.stack
 Uy:X.stack=X.outer\/(X.stack=X.env::X.outer/\X.env.frame=ϑ X.env.locals)
 Dd:∀b∈X.ex,b≠X.env.locals/\∀x c,X.env.cells.lookup x=ϑ c->c≠b
 bs:∀b o,X.base.get? b=ϑ o->X.cS.heap.get? b=ϑ o/\X.rF b=ϐ
 G5:X.base.objs.size<=X.cS.heap.objs.size
 Df:∀b o,X.base.get? b=ϑ o->b∉X.ex
 G6:∀b∈X.ex,b∉X.fs
 lQ:X.cS.heap.FunFrames X.base X.outer
 Jg:∀b∈X.fs,X.rF b=ϐ
structure Inv(X:Cx)(qe:δ (ε×Obj))(σ:δ (θ V))(H:Hp)(s:ζ):η where
 ok:X.Ok
 os:s.os=X.cS.os
 bare:AllBare s.gens
 base:Un X.fs X.ex X.rF H X.cS.heap s.heap
 loc:∃m,s.heap.Ns X.env.locals m/\∀(i:π)(x:ρ)(v:V),X.N[i]?=some x->σ[i]?=some (some v)->QQ X.env.scope x->∃u,RelV v u/\Look X.env s.heap m x u
 cell:∀x c,X.env.cells.lookup x=ϑ c->∃v,s.heap.IsCell c v
 free:H X.env.locals=ϐ
 dH:∀x c,X.env.cells.lookup x=ϑ c->H c=ϐ
 pin:∀p∈X.pn++qe,s.heap.get? p.1=ϑ p.2/\H p.1=ϐ/\p.1≠X.env.locals/\p.1∉X.fs/\∀v,p.2.data≠.cell v
 aM:lO X.prog X.w H s.heap
 len:σ.length=X.N.length
section
variable{X:Cx}{qe:δ (ε×Obj)}{σ:δ (θ V)}{H H':Hp}{s:ζ}{h':Γ}
theorem Cx.Ok.G7(ok:X.Ok)(e:X.base.get? b=ϑ o):b∉X.fs:=λhb=>by have:=(ok.lQ.mem hb).1;rw[e]at this;cases this
theorem Inv.bs(I:Inv X qe σ H s):∀b o,X.base.get? b=ϑ o->s.heap.get? b=ϑ o/\H b=ϐ:=λb o e=>{I.base.keep b o (I.ok.bs b o e).1 (I.ok.bs b o e).2 (I.ok.G7 e)<|I.ok.Df b o e,I.base.free b o (I.ok.bs b o e).1 (I.ok.bs b o e).2<|I.ok.Df b o e}
theorem Inv.bk(I:Inv X qe σ H s):∀b o,X.base.get? b=ϑ o->s.heap.get? b=ϑ o:=λb o e=>(I.bs b o e).1
theorem Inv.mod(I:Inv X qe σ H s):Mod X.K X.mg X.base:=I.ok.mod
theorem Inv.oV(I:Inv X qe σ H s):X.K.In s.heap:=I.ok.mod.Ux.keeps I.bk
theorem Inv.nolimit(I:Inv X qe σ H s):s.heap.NoLimit:=I.ok.mod.nolimit.keeps I.bk
theorem Inv.fr(I:Inv X qe σ H s):∃m,Fr X.base X.env.locals s.heap m :=
 let ⟨m,hn,_⟩:=I.loc
 ⟨m,hn,I.bk,zj I.ok.G5 I.ok.above⟩
def Inv.lt(I:Inv X qe σ H s):X.env.locals<s.heap.objs.size:=by let⟨_,hn,_⟩:=I.loc;show hn.lt
theorem Inv.sz(I:Inv X qe σ H s):X.cS.heap.objs.size<=s.heap.objs.size:=zj I.ok.above<|yU I.lt
theorem Inv.Vp(I:Inv X qe σ H s)(h:s.heap.objs.size<=a):a∉X.fs:=λhb=>by let⟨_,o,c,_⟩:=I.ok.lQ.mem hb;show absurd (zq (zw c)<|zj I.sz h)<|yK _
theorem Inv.QS(I:Inv X qe σ H s):∀x c,X.env.cells.lookup x=ϑ c->c≠X.env.locals:=λx c e z=>by let⟨v,o,a,hd⟩:=I.cell x c e;let⟨m,⟨o',es,ep,g,d,_⟩,_⟩:=I.loc;rw[z,g]at a;cases a;rw[d]at hd;cases hd
def Inv.lQ(I:Inv X qe σ H s):s.heap.FunFrames X.base X.outer:=by
 have all:∀(l:δ Env),(∀b∈lP l,b∈X.fs)->X.cS.heap.FunFrames X.base l->s.heap.FunFrames X.base l:=by intro l;induction l with|nil=>intro _ _;trivial|cons env r i=>intro d hl;let⟨h,⟨L,o,c,hn,g,hd⟩,hr⟩:=hl;have a:L∈X.fs:=d L (by unfold lP;rw[List.filterMap_cons,c];show zB);let⟨sl,e⟩:=I.base.slot L o g (I.ok.Jg L a) a λz=>I.ok.G6 L z a;show{h,{L,_,c,hn,e,hd},i (λb hb=>d b<|by unfold lP;rw[List.filterMap_cons,c];show zo _ hb) hr}
 show all X.outer (λx hb=>hb) I.ok.lQ
def Inv.stack(I:Inv X qe σ H s):s.heap.FunFrames X.base X.stack:=by rcases I.ok.Uy with e|⟨e,a⟩;rw[e];show I.lQ;rw[e];let⟨m,hn,_⟩:=I.loc;show .cons (by rw[I.ok.kind];decide) a hn ?_ I.lQ;show Heap.get?_none_of_le<|zj I.ok.G5 I.ok.above
theorem Inv.oX(I:Inv X qe σ H s):∀b∈lP X.stack,b∈X.env.locals::X.fs:=λb hb=>by rcases I.ok.Uy with e|⟨e,a⟩;rw[e]at hb;show zo _ hb;rw[e]at hb;unfold lP at hb;rw[List.filterMap_cons,a]at hb;show hb
theorem Inv.sj(I:Inv X qe σ H s):∀b∈lP X.stack,H b=ϐ:=λb hb=>by rcases ze.mp (I.oX b hb) with e|hb;rw[e];show I.free;let⟨_,o,a,_⟩:=I.ok.lQ.mem hb;show I.base.free b o a (I.ok.Jg b hb) λz=>I.ok.G6 b z hb
def Inv.step{g':Array GenState}{t':π}{d':Drawn}{ch:δ ε}(I:Inv X qe σ H s) (h:∀b∈ch,(b∈X.ex\/X.cS.heap.objs.size<=b)/\b≠X.env.locals/\(∀x c,X.env.cells.lookup x=ϑ c->c≠b)/\∀p∈X.pn++qe,p.1≠b) (keep:∀b o,b≠X.env.locals->b∉X.fs->b∉ch->s.heap.get? b=ϑ o->H b=ϐ->h'.get? b=ϑ o) (slot:∀b o,b≠X.env.locals->b∈X.fs->b∉ch->s.heap.get? b=ϑ o->H b=ϐ->∃sl,h'.get? b=ϑ {o with slots:=sl}) (free:∀b o,b∉ch->s.heap.get? b=ϑ o->H b=ϐ->H' b=ϐ) (there:∀b o,b∉ch->s.heap.get? b=ϑ o->∃o',h'.get? b=ϑ o') (g7:∀b xs,H b=ϑ (.tup xs)->H' b=ϑ (.tup xs)) (gD:∀b o u,H b=ϑ (.md o u)->H' b=ϑ (.md o u)) (gE:∀b ps,H b=ϑ (.r_ ps)->∃more,H' b=ϑ (.r_<|ps++more)) (ns:∀m,s.heap.Ns X.env.locals m->h'.Ns X.env.locals m) (aM:lO X.prog X.w H' h') (F:AllBare g'): Inv X qe σ H' {s with heap:=h',gens:=g',drawn:=d',toks:=t'}:=by
 have t:∀b o,X.cS.heap.get? b=ϑ o->b≠X.env.locals:=λb o e=>zE<|zq (zw e) I.ok.above;have y:∀b o,X.cS.heap.get? b=ϑ o->b∉X.ex->b∉ch:=λb o e hx hb=>by rcases (h b hb).1 with z|z;show hx z;show absurd (zq (zw e) z)<|yK _
 have a:∀x c,X.env.cells.lookup x=ϑ c->∀v,s.heap.IsCell c v->h'.IsCell c v:=by rintro x c e v ⟨o,g,hd⟩;have j:c∉ch:=λz=>(h c z).2.2.1 x c e rfl;by_cases B:c∈X.fs;let⟨sl,q⟩:=slot c o (I.QS x c e) B j g<|I.dH x c e;show{_,q,hd};show{o,keep c o (I.QS x c e) B j g<|I.dH x c e,hd}
 show{I.ok,I.os,F,{λb o e n hb hx=>?_,λb o e n hb hx=>?_,λb o e n hx=>?_,λb o e hx=>?_,λb xs e=>g7 b xs<|I.base.g7 b xs e,λb o xs e=>gD b o xs<|I.base.gD b o xs e,λb ps e=>?_},?_,λx c e=>?_,?_,λx c e=>?_,λp hp=>?_,aM,I.len};show keep b o (t b o e) hb (y b o e hx) (I.base.keep b o e n hb hx)<|I.base.free b o e n hx;let⟨sl,e1⟩:=I.base.slot b o e n hb hx;let⟨A,e2⟩:=slot b _ (t b o e) hb (y b o e hx) e1<|I.base.free b o e n hx;show⟨A,e2⟩;let⟨o',e1⟩:=I.base.there b o e hx;show free b o' (y b o e hx) e1<|I.base.free b o e n hx;let⟨o',e1⟩:=I.base.there b o e hx;show there b o' (y b o e hx) e1;let⟨E,e1⟩:=I.base.gE b ps e;let⟨C,e2⟩:=gE b _ e1;show{E++C,by rw[e2,Array.append_assoc]};let⟨m,hn,hl⟩:=I.loc;show{m,ns m hn,λi x v e1 e2 e3=>?_};let⟨u,r,l⟩:=hl i x v e1 e2 e3;show{u,r,?_};rcases l with l|⟨k,c,e,z⟩;show .inl l;show .inr {k,c,e,a x c e _ z};let⟨v,z⟩:=I.cell x c e;show{v,a x c e v z};let⟨m,⟨o,_,_,g,_⟩,_⟩:=I.loc;show free _ o (λz=>(h _ z).2.1 rfl) g I.free;let⟨v,o,g,hd⟩:=I.cell x c e;show free c o (λz=>(h c z).2.2.1 x c e rfl) g<|I.dH x c e;let⟨e,n,ne,nf,d⟩:=I.pin p hp;have j:p.1∉ch:=λz=>(h p.1 z).2.2.2 p hp rfl;show{keep p.1 p.2 ne nf j e n,free p.1 p.2 j e n,ne,nf,d}
def Inv.un{t':π}(I:Inv X qe σ H s)(u:Un X.fs [] H H' s.heap h')(aM:lO X.prog X.w H' h'):Inv X qe σ H' {s with heap:=h',toks:=t'}:=by let⟨m,⟨o,es,ep,a,r⟩,_⟩:=id I.loc;let⟨sl,h⟩:=u.any a I.free `d;show I.step (g':=s.gens) (d':=s.drawn) (ch:=[]) (λx z=>nomatch z) (λb o x hb x e n=>u.keep b o e n hb<|`d) (λb o x hb x e n=>u.slot b o e n hb<|`d) (λb o x e n=>u.free b o e n<|`d) (λb o x e=>u.there b o e<|`d) u.g7 u.gD u.gE (λj hm=>by let⟨o',d,i,c,g⟩:=hm;rw[a]at c;cases c;show{_,d,i,h,g}) aM I.bare
def Inv.call{g':Array GenState}{t':π}{d':Drawn}{ch:δ ε}(I:Inv X qe σ H s)(u:Un (lP X.stack) ch H H' s.heap h')(aM:lO X.prog X.w H' h')(v:AllBare g') (i:∀b∈ch,(b∈X.ex\/X.cS.heap.objs.size<=b)/\b≠X.env.locals/\(∀x c,X.env.cells.lookup x=ϑ c->c≠b)/\∀p∈X.pn++qe,p.1≠b): Inv X qe σ H' {s with heap:=h',gens:=g',drawn:=d',toks:=t'}:=by let⟨m,⟨o,es,ep,g,r⟩,_⟩:=id I.loc;let⟨sl,d⟩:=u.any g I.free λz=>(i _ z).2.1 rfl;show I.step (ch:=ch) i (λb o d hb a e n=>u.keep b o e n (λz=>(ze.mp<|I.oX b z).elim d hb) a) (λb o y y a e n=>u.any e n a) (λb o a e n=>u.free b o e n a) (λb o a e=>u.there b o e a) u.g7 u.gD u.gE (λy hm=>by let⟨o',j,t,h,l⟩:=hm;rw[g]at h;cases h;show{_,j,t,d,l}) aM v
def Inv.turned{t':π}{it:ε}(I:Inv X qe σ H s)(k:∀b o,b≠it->s.heap.get? b=ϑ o->h'.get? b=ϑ o)(hn:H it=ϐ)(d:it≠X.env.locals) (h1:it∈X.ex\/X.cS.heap.objs.size<=it) (h2:∀x c,X.env.cells.lookup x=ϑ c->c≠it) (i:∀p∈X.pn++qe,p.1≠it):Inv X qe σ H {s with heap:=h',toks:=t'}:=by
 have g:∀b u,H b=ϑ u->b≠it:=λb u e z=>by rw[z,hn]at e;cases e
 show I.step (g':=s.gens) (d':=s.drawn) (ch:=[it]) (λb hb=>?_) (λb o y y a e y=>k b o (λz=>a<|by simp[z]) e) (λb o y y a e y=>{o.slots,k b o (λz=>a<|by simp[z]) e}) (λy y y y n=>n) (λb o a e=>{o,k b o (λz=>a<|by simp[z]) e}) (λy y e=>e) (λy y y e=>e) (λb ps e=>{#[],by rw[e];simp}) (λm hm=>?_) (λb u e=>?_) I.bare;have e:b=it:=by simpa using hb
 subst e;show⟨h1,d,h2,i⟩;let⟨o,es,ep,h,r⟩:=hm;show{o,es,ep,k _ o (Ne.symm d) h,r};show(I.aM b u e).oW (λc v a q=>k c v ?_ q) (λy q=>q) λy y q=>q;rcases a with z|z;rw[z];show g b u e;show g c _ z
theorem Inv.tok(I:Inv X qe σ H s)(t:π):Inv X qe σ H {s with toks:=t}:=I.un (h':=s.heap) (t':=t) Un.refl I.aM
theorem Inv.kept(I:Inv X qe σ H s)(k:∀b u,s.heap.get? b=ϑ u->h'.get? b=ϑ u):Inv X qe σ H {s with heap:=h',toks:=t'}:=I.un (Un.kept k)<|I.aM.kept k
theorem Inv.laid{a:ε}{o:HO}{t':π}(I:Inv X qe σ H s)(k:∀b u,s.heap.get? b=ϑ u->h'.get? b=ϑ u)(hp:s.heap.objs.size<=a)(new:br X.prog X.w (upd H a o) h' a o): Inv X qe σ (upd H a o) {s with heap:=h',toks:=t'}:=I.un (Un.laid k hp<|I.aM.fresh hp)<|I.aM.laid k hp new
theorem Inv.write(I:Inv X qe σ H s)(c:Vn<|H x)(d:e=x\/H e=ϑ (.own x))(k:∀b u,b≠e->s.heap.get? b=ϑ u->h'.get? b=ϑ u)(a:∃u,h'.get? e=ϑ u) (new:br X.prog X.w (upd H x o) h' x o):Inv X qe σ (upd H x o) {s with heap:=h',toks:=t'}:=I.un (Un.write c d k a)<|I.aM.write c d k a new
theorem Inv.weak(I:Inv X qe σ H s)(hl:aG.length=σ.length)(w:∀(i:π) v,aG[i]?=some (some v)->σ[i]?=some (some v)):Inv X qe aG H s:={I.ok,I.os,I.bare,I.base,by let⟨m,hn,a⟩:=I.loc;show{m,hn,λi x v e1 e2 e3=>a i x v e1 (w i v e2) e3},I.cell,I.free,I.dH,I.pin,I.aM,hl.trans I.len}
theorem Inv.nr(I:Inv X qe σ H s)(h:∀p∈pins',s.heap.get? p.1=ϑ p.2/\H p.1=ϐ/\p.1≠X.env.locals/\p.1∉X.fs/\∀v,p.2.data≠.cell v):Inv X pins' σ H s:={I.ok,I.os,I.bare,I.base,I.loc,I.cell,I.free,I.dH,λp hp=>(zL.mp hp).elim (λz=>I.pin p<|zT _ z)<|h p,I.aM,I.len}
def Bb{N:δ ρ}(hN:N.Nodup){i j:π}{x:ρ}(a:N[i]?=some x)(b:N[j]?=some x):i=j:=by let⟨h1,e1⟩:=zh.mp a;let⟨h2,e2⟩:=zh.mp b;show(List.getElem_inj hN).mp<|e1.trans e2.symm
def vZ{M:Model}{A:ϕ}{E:ξ->ζ->η}{i:π}{x:ρ}{v:V}{u:ξ}{Q:Unit->ζ->η}(I:Inv X qe σ H s)(hN:X.N.Nodup)(hi:X.N[i]?=some x)(hx:Loc X.env.scope x)(r:RelV v u) (h:∀s',Inv X qe (σ.set i<|some v) H s'->(∃a,Heap.SameBut a s.heap s'.heap/\(a=X.env.locals\/X.env.cells.lookup x=ϑ a))->Q () s') (hf:ψ (X.fn x=ϱ\/X.env.scope.names.lookup x=ϑ .local) qQ6):wpAny M A (storeName X.env x u) Q E s:=by
 let⟨m,hn,hl⟩:=id I.loc;have QU:(X.env.scope.kind==.class||(X.env.scope.kind==.module&&X.env.locals != X.env.globals))=ϰ:=by rw[I.ok.kind];rfl
 have S:i<σ.length:=by rw[I.len];show(zh.mp hi).1
 have QS:=I.QS;have l:∀{a:ε}{h':Γ},(∃o,s.heap.get? a=ϑ o/\H a=ϐ)->Heap.SameBut a s.heap h'->lO X.prog X.w H h':=λ{a h'} ha g b ob e=>by let⟨_,_,Y⟩:=ha;show(I.aM b ob e).oW (λc J t q=>(g.2 c ?_).trans q) (λf q=>q) λf f q=>q;rintro rfl;rcases t with rfl|t;rw[Y]at e;cases e;rw[Y]at t;cases t
 rcases hx with B|B;show wpAny_storeName_local B hn (λh' Mu g=>?_) QU;let⟨oL,_,_,IS,_⟩:=id hn;show h _ {I.ok,I.os,I.bare,{λb o e n hb hx=>?_,λb o e n hb hx=>?_,I.base.free,λb o e hx=>?_,I.base.g7,I.base.gD,I.base.gE},{_,Mu,λj y P e1 e2 e3=>?_},λy c e=>?_,I.free,I.dH,λp hp=>?_,l ⟨oL,IS,I.free⟩ g,by simpa using I.len} {_,g,.inl rfl};show(g.2 b<|zE<|zq (zw e) I.ok.above).trans<|I.base.keep b o e n hb hx;let⟨sl,e1⟩:=I.base.slot b o e n hb hx;show{sl,(g.2 b<|zE<|zq (zw e) I.ok.above).trans e1};let⟨o',e1⟩:=I.base.there b o e hx;show{o',(g.2 b<|zE<|zq (zw e) I.ok.above).trans e1};by_cases C:j=i;subst C;rw[hi]at e1;cases e1;rw[List.getElem?_set_self S]at e2;cases e2;show{u,r,.inl {B,`d}};rw[List.getElem?_set_ne<|Ne.symm C]at e2;let⟨K,O,q⟩:=hl j y P e1 e2 e3;show{K,O,?_};rcases q with⟨k,e⟩|⟨k,c,e,z⟩;show .inl {k,?_};have:y≠x:=λe=>C<|Bb hN e1<|e ▸ hi;simp[this,e];show .inr {k,c,e,z.sameBut g<|QS y c e};let⟨J,z⟩:=I.cell y c e;show{J,z.sameBut g<|QS y c e};let⟨e,n,ne,nf,d⟩:=I.pin p hp;show{(g.2 p.1 ne).trans e,n,ne,nf,d};have L:X.fn x=ϱ:=by rcases hf with z|z;show z;rw[z]at B;cases B
 let⟨c,t⟩:=I.ok.has x<|.inl B;let⟨J,z⟩:=I.cell x c t;show wpAny_storeName_cell I.ok.kind B t z λh' R g=>?_;let⟨oc,U,ZW⟩:=id z;show h {s with heap:=h'} {I.ok,I.os,I.bare,{λb o e n hb hx=>?_,λb o e n hb hx=>?_,I.base.free,λb o e hx=>?_,I.base.g7,I.base.gD,I.base.gE},{m,hn.sameBut g<|Ne.symm<|QS x c t,λj y P e1 e2 e3=>?_},λy G e=>?_,I.free,I.dH,λp hp=>?_,l {oc,U,I.dH x c t} g,by simpa using I.len} {c,g,.inr t};show(g.2 b<|zE<|zq (zw e)<|I.ok.QR x c L t).trans<|I.base.keep b o e n hb hx;let⟨sl,e1⟩:=I.base.slot b o e n hb hx;show{sl,(g.2 b<|zE<|zq (zw e)<|I.ok.QR x c L t).trans e1};let⟨o',e1⟩:=I.base.there b o e hx;show{o',(g.2 b<|zE<|zq (zw e)<|I.ok.QR x c L t).trans e1};by_cases C:j=i;subst C;rw[hi]at e1;cases e1;rw[List.getElem?_set_self S]at e2;cases e2;show{u,r,.inr {.inl B,c,t,R}};rw[List.getElem?_set_ne<|Ne.symm C]at e2;let⟨K,O,q⟩:=hl j y P e1 e2 e3;show{K,O,?_};rcases q with q|⟨k,G,e,z'⟩;show .inl q;show .inr {k,G,e,z'.sameBut g ?_};rintro rfl;show C<|Bb hN e1<|I.ok.inj _ _ _ e t ▸ hi;by_cases F:G=c;subst F;show{_,R};let⟨w2,Z⟩:=I.cell y G e;show{w2,Z.sameBut g F};let⟨e,n,ne,nf,d⟩:=I.pin p hp;show{(g.2 p.1 ?_).trans e,n,ne,nf,d};intro q;rw[q,U]at e;have q':oc=p.2:=zQ e;show d J<|by rw[<-q'];show ZW
theorem sQ(I:Inv X qe σ H s)(hN:X.N.Nodup)(hi:X.N[i]?=some x)(hx:Loc X.env.scope x)(r:RelV v u) (h:∀s',Inv X qe (σ.set i<|some v) H s'->Q () s') (c:ψ (X.fn x=ϱ\/X.env.scope.names.lookup x=ϑ .local) qQ6):wpAny M A (storeName X.env x u) Q E s:=vZ I hN hi hx r (λs' a z=>h s' a) c
def Inv.Jh(I:Inv X qe σ H s)(h:s'.os=s.os)(u:Un (lP X.stack) ch H H' s.heap s'.heap)(aM:lO X.prog X.w H' s'.heap)(i:AllBare s'.gens) (j:∀b∈ch,(b∈X.ex\/X.cS.heap.objs.size<=b)/\b≠X.env.locals/\(∀x c,X.env.cells.lookup x=ϑ c->c≠b)/\∀p∈X.pn++qe,p.1≠b):Inv X qe σ H' s':=by let⟨h',g,a,d,o'⟩:=s';have e:o'=s.os:=h;subst e;show I.call (g':=g) (t':=d) (d':=a) u aM i j
end
abbrev XK:=ξ->θ ε->Hp->η
abbrev St:=δ<|θ V
abbrev VK:=V->Hp->η
abbrev TE:=St->Hp->VK->η
abbrev TT:=St->Hp->(χ->Hp->η)->η
abbrev TA:=St->Hp->(δ V->Hp->η)->η
structure Ends where
 nx:St->Hp->η
 rt:VK
 bk:St->Hp->Prop:=λz z=>False
 ct:St->Hp->Prop:=λz z=>False
abbrev TS:=Ends->St->Hp->η
def EP(X:Cx)(qe:δ<|ε×Obj)(σ:St)(Q:VK)(u:ξ)(s':ζ):Prop:=∃v H',Inv X qe σ H' s'/\RelV v u/\Q v H'
def TP(X:Cx)(qe:δ<|ε×Obj)(σ:St)(Q:χ->Hp->η)(b:χ)(s':ζ):Prop:=∃H',Inv X qe σ H' s'/\Q b H'
def AP(X:Cx)(qe:δ<|ε×Obj)(σ:St)(Q:δ V->Hp->η)(us:δ ξ)(s':ζ):Prop:=∃vs H',Inv X qe σ H' s'/\Vals vs us/\Q vs H'
def SP(X:Cx)(qe:δ<|ε×Obj)(D:Ends)(f:Flow)(s':ζ):Prop:=match f with|.next=>∃aG H',Inv X qe aG H' s'/\D.nx aG H'|.brk=>∃aG H',Inv X qe aG H' s'/\D.bk aG H'|.cont=>∃aG H',Inv X qe aG H' s'/\D.ct aG H'|.ret u=>∃v aG H',Inv X qe aG H' s'/\RelV v u/\D.rt v H'
def PE(X:Cx)(e:Δ)(t:TE):Prop:=∀(qe:δ (ε×Obj))(s:ζ)(σ:St)(H:Hp)(Q:VK),Inv X qe σ H s->t σ H Q->wpAny `m X.A (eval e X.env) (EP X qe σ Q) X.xe s
def PT(X:Cx)(e:Δ)(t:TT):Prop:=∀(qe:δ (ε×Obj))(s:ζ)(σ:St)(H:Hp)(Q:χ->Hp->η),Inv X qe σ H s->t σ H Q->wpAny `m X.A (isTrue e X.env<|eval e X.env) (TP X qe σ Q) X.xe s
def PW(X:Cx)(e:Δ)(t:TT):Prop:=∀(whole:Sem ξ)(qe:δ (ε×Obj))(s:ζ)(σ:St)(H:Hp)(Q:χ->Hp->η),Inv X qe σ H s->t σ H Q->wpAny `m X.A (isTrue e X.env whole) (TP X qe σ Q) X.xe s
theorem PW.pt{t:TT}(h:PW X e t):PT X e t:=h _
def PA(X:Cx)(es:δ Δ)(t:TA):Prop:=∀(pos:Pos)(qe:δ (ε×Obj))(s:ζ)(σ:St)(H:Hp)(Q:δ V->Hp->η),Inv X qe σ H s->t σ H Q->wpAny `m X.A (spliced<|backTo pos<|starEach es X.env) (AP X qe σ Q) X.xe s
def PS(X:Cx)(st:Stmt)(t:TS):Prop:=∀(qe:δ (ε×Obj))(s:ζ)(σ:St)(H:Hp)(D:Ends),Inv X qe σ H s->t D σ H->wpAny `m X.A (exec st X.env) (SP X qe D) X.xe s
def Dj(X:Cx)(st:δ Stmt)(t:TS):Prop:=∀(qe:δ (ε×Obj))(s:ζ)(σ:St)(H:Hp)(D:Ends),Inv X qe σ H s->t D σ H->wpAny `m X.A (execs st X.env) (SP X qe D) X.xe s
theorem bz{t:Sem α}(h:wpAny M A t Q E s)(c:∀a s,Q a s->Q' a s):wpAny M A t Q' E s:=yB h c λz z x=>x
section
variable{X:Cx}
def ZX(i:π):TE:=λσ H Q=>∃v,σ[i]?=some (some v)/\Q v H
def tC(v:V):TE:=λz H Q=>Q v H
def QV(hN:X.N[i]?=some x)(n:QQ X.env.scope x)(hd:ψ ((x==("__debug__": ρ))=ϰ) qQZ)(o:ψ ((x==("__classdict__": ρ))=ϰ) qQZ):PE X (.Name x pos) (ZX i):=by intro qe s σ H Q I h;let⟨v,e,h⟩:=h;let⟨m,hn,hl⟩:=I.loc;let⟨u,r,l⟩:=hl i x v hN e n;have a:EP X qe σ Q u s:=⟨v,H,I,r,h⟩;rcases l with⟨d,hm⟩|⟨d,c,g,j⟩;show wpAny_Name (wpAny_loadName_local I.ok.kind d hn hm a) hd;rcases d with d|d;show wpAny_Name (wpAny_loadName_cell I.ok.kind d g j a) hd;show wpAny_Name (wpAny_loadName_free I.ok.kind d g j a o) hd
theorem QW:PE X (.Constant (.int i) j pos) (tC<|.int i):=λz z z H z I h=>wpAny_Constant_int {.int i,H,I.tok _,{_,rfl},h}
theorem Pk:PE X (.Constant (.bool b) j pos) (tC<|.bl b):=λz z z H z I h=>Constant_bool {.bl b,H,I,rfl,h}
theorem QX:PE X (.Constant .none j pos) (tC .aA):=λz z z H z I h=>Constant_none {.aA,H,I,rfl,h}
theorem QY:PE X (.Constant (.str x) j pos) (tC<|.str x):=λz z z H z I h=>Calls.Constant_str {.str x,H,I.tok _,{_,rfl},h}
def Gl(X:Cx)(x:ρ):Prop:=X.env.kindOf x=ϑ .globalImplicit
theorem nu(I:Inv X qe σ H s)(a:Gl X x)(hm:X.mg x=ϑ u)(h:Q u s) (hd:ψ ((x==("__debug__": ρ))=ϰ) qQZ):wpAny `m X.A (eval (.Name x pos) X.env) Q E s:=Calls.Name_function_global I.ok.kind a (Calls.loadGlobal_global (by rw[I.ok.glob];show I.mod.glob.keeps I.bk) hm h) hd
def fu(I:Inv X qe σ H s)(c:Gl X x)(hm:X.mg x=ϐ)(a:bootBuiltins x=ϑ u)(h:Q u s) (hn:ψ (x≠"__name__") qQZ) (hd:ψ ((x==("__debug__": ρ))=ϰ) qQZ):wpAny `m X.A (eval (.Name x pos) X.env) Q E s:=by let⟨mb,h1,h2⟩:=I.mod.blt;show Calls.Name_function_global I.ok.kind c (Calls.loadGlobal_builtin (by rw[I.ok.glob];show I.mod.glob.keeps I.bk) hm (by rw[I.ok.blt];show h1.keeps I.bk) ((h2 x hn).trans a) h) hd
theorem FD(a:Gl X x)(hm:X.mg x=ϑ u)(r:RelV v u)(hd:ψ ((x==("__debug__": ρ))=ϰ) qQZ):PE X (.Name x pos) (tC v):=λz z z H z I h=>nu I a hm ⟨v,H,I,r,h⟩ hd
theorem MI(c:Gl X x)(hm:X.mg x=ϐ)(a:bootBuiltins x=ϑ u)(r:RelV v u)(hn:ψ (x≠"__name__") qQZ)(hd:ψ ((x==("__debug__": ρ))=ϰ) qQZ):PE X (.Name x pos) (tC v):=λz z z H z I h=>fu I c hm a ⟨v,H,I,r,h⟩ hn hd
variable{a b:Δ}{ta tb:TE}{pos:Pos}
def tB(t:TE):TT:=λσ H Q=>t σ H λx H1=>∃c,x=.bl c/\Q c H1
def QZ{t:TE}(h:PE X e t)(g:ψ (∀a,isTrue e X.env a=(do let v <-a;standAt e.pos;holding [v] (truthy v))) qQ0):PT X e (tB t):=by intro qe s σ H Q I hw;show isTrue_plain (bz (h qe s σ H _ I hw) λv s1 ⟨x,H1,c,j,i⟩=>?_)<|g _;let⟨d,rfl,q⟩:=i;cases j;show yC ⟨H1,c,q⟩
variable{tA YG:TT}{rest:δ Δ}
def ZY(t u:TT):TT:=λσ H Q=>t σ H λc H1=>if c=ϱ then u σ H1 Q else Q false H1
def tOr(t u:TT):TT:=λσ H Q=>t σ H λc H1=>if c=ϱ then Q true H1 else u σ H1 Q
def ZZ(t:TT):TT:=λσ H Q=>t σ H λc H1=>Q (!c) H1
def pw_and1(ha:PT X a tA):PW X (.BoolOp .And [a] pos) tA:=by intro d qe s σ H Q I h;show isTrue_and<|bz (ha qe s σ H Q I h) λc s1 e=>?_;cases c with|true=>show isTrue_and_nil e|false=>show e
def pw_or1(ha:PT X a tA):PW X (.BoolOp .Or [a] pos) tA:=by intro d qe s σ H Q I h;show isTrue_or<|bz (ha qe s σ H Q I h) λc s1 e=>?_;cases c with|false=>show isTrue_or_nil e|true=>show e
def pw_and(ha:PT X a tA)(hb:PW X (.BoolOp .And (b::rest) pos) YG):PW X (.BoolOp .And (a::b::rest) pos) (ZY tA YG):=by intro g qe s σ H Q I h;show isTrue_and<|bz (ha qe s σ H _ I h) λc s1 i=>?_;let⟨H1,d,e⟩:=i;cases c with|true=>show hb g qe s1 σ H1 Q d e|false=>show⟨H1,d,e⟩
def pw_or(ha:PT X a tA)(hb:PW X (.BoolOp .Or (b::rest) pos) YG):PW X (.BoolOp .Or (a::b::rest) pos) (tOr tA YG):=by intro g qe s σ H Q I h;show isTrue_or<|bz (ha qe s σ H _ I h) λc s1 i=>?_;let⟨H1,d,e⟩:=i;cases c with|true=>show⟨H1,d,e⟩|false=>show hb g qe s1 σ H1 Q d e
def Q0(ha:PT X a tA):PT X (.UnaryOp .Not a pos) (ZZ tA):=by intro qe s σ H Q I h;show isTrue_not<|ha qe s σ H (λc H1=>Q (!c) H1) I h
def Vs(ta tb:TE):TE:=λσ H Q=>ta σ H λx H1=>∃c,x=.bl c/\if c=ϱ then tb σ H1 Q else Q (.bl false) H1
def Z1(ta tb:TE):TE:=λσ H Q=>ta σ H λx H1=>∃c,x=.bl c/\if c=ϱ then Q (.bl true) H1 else tb σ H1 Q
def Vt(ta:TE):TE:=λσ H Q=>ta σ H λx H1=>∃c,x=.bl c/\Q (.bl<|!c) H1
theorem Q1{t:TE}(h:PE X a t):PE X (.BoolOp op [a] pos) t:=λqe s σ H Q I hw=>BoolOp_one<|h qe s σ H Q I hw
def Q2(ha:PE X a ta)(hb:PE X (.BoolOp .And (b::rest) pos) tb):PE X (.BoolOp .And (a::b::rest) pos) (Vs ta tb):=by intro qe s σ H Q I h;show BoolOp_and<|bz (ha qe s σ H _ I h) λv s1 g=>?_;let⟨x,H1,e,i,d⟩:=g;let⟨c,rfl,d⟩:=d;cases i;show yC ?_;cases c with|true=>show hb qe s1 σ H1 Q e d|false=>show{.bl false,H1,e,rfl,d}
def Vu(ha:PE X a ta)(hb:PE X (.BoolOp .Or (b::rest) pos) tb):PE X (.BoolOp .Or (a::b::rest) pos) (Z1 ta tb):=by intro qe s σ H Q I h;show BoolOp_or<|bz (ha qe s σ H _ I h) λv s1 g=>?_;let⟨x,H1,e,i,d⟩:=g;let⟨c,rfl,d⟩:=d;cases i;show yC ?_;cases c with|false=>show hb qe s1 σ H1 Q e d|true=>show{.bl true,H1,e,rfl,d}
def Q3(ha:PE X a ta):PE X (.UnaryOp .Not a pos) (Vt ta):=by intro qe s σ H Q I h;show UnaryOp_<|bz (ha qe s σ H _ I h) λv s1 g=>?_;let⟨x,H1,e,i,d⟩:=g;let⟨c,rfl,d⟩:=d;cases i;show not_of<|yC {.bl<|!c,H1,e,rfl,d}
def tIf(t:TT)(ta tb:TE):TE:=λσ H Q=>t σ H λc H1=>if c=ϱ then ta σ H1 Q else tb σ H1 Q
def Ji(j:PT X c tA)(ha:PE X a ta)(hb:PE X b tb):PE X (.IfExp c a b pos) (tIf tA ta tb):=by intro qe s σ H Q I h;show wpAny_IfExp<|bz (j qe s σ H _ I h) λd s1 i=>?_;let⟨H1,e,g⟩:=i;cases d with|true=>show ha qe s1 σ H1 Q e g|false=>show hb qe s1 σ H1 Q e g
end
def fP(K:Φ)(H:Hp)(a:ε)(xs:δ V):Prop:=Rd H a (.lst xs)\/∃(o:Obj)(aC:Array ξ)(n:π),K.lookup a=ϑ o/\o.cls=.type "list"/\o.dict=ϐ/\o.data=.seq aC n/\aC.size<=Ϙ/\Vals xs aC.toList
def g_(K:Φ)(H:Hp)(a:ε)(xs:δ V):Prop:=Rd H a (.tup xs)\/∃(o:Obj)(aC:Array ξ)(n:π),K.lookup a=ϑ o/\o.cls=.type "tuple"/\o.data=.seq aC n/\aC.size<=Ϙ/\Vals xs aC.toList
noncomputable def Z2:ξ->θ V|.none=>some .aA|.bool b=>some (.bl b)|.int i _=>some (.int i)|.str x _=>some (.str x)|.bytes b _=>some (.FA b)|.float b _=>some (.QO b)|.ref a=>some (.ref a)|.type n=>some (.ty n)|_=>none
def RelV.abs(r:RelV x u):Z2 u=ϑ x:=by cases x with|aA=>(cases r;rfl)|bl _=>(cases r;rfl)|int _=>(let⟨t,rfl⟩:=r;rfl)|str _=>(let⟨t,rfl⟩:=r;rfl)|FA _=>(let⟨t,rfl⟩:=r;rfl)|QO _=>(let⟨t,rfl⟩:=r;rfl)|ref _=>(cases r;rfl)|ty _=>cases r;rfl
theorem RelV.inj(r:RelV x u)(q:RelV y u):x=y:=zQ<|r.abs.symm.trans q.abs
def Vals.inj{xs ys:δ V}{us:δ ξ}(h:Vals xs us)(g:Vals ys us):xs=ys:=by induction h generalizing ys with|nil=>(cases g;rfl)|cons r t a=>cases g with|cons d c=>rw[r.inj d,a c]
section
variable{X:Cx}{qe:δ (ε×Obj)}{σ:St}{H:Hp}{s:ζ}{a:ε}{xs ys:δ V}
theorem fP.of{K:Φ}(h:H a=ϑ (.lst xs)):fP K H a xs:=.inl<|.inl h
theorem g_.of{K:Φ}(h:H a=ϑ (.tup xs)):g_ K H a xs:=.inl<|.inl h
def Inv.list(I:Inv X qe σ H s)(h:fP X.K H a xs):∃c:δ ξ,Vals xs c/\PlainL s.heap a c.toArray/\xs.length<=sizeLine:=by rcases h with h|⟨o,c,n,d,g,hd,i,j,r⟩;let⟨z,c,n,r,e⟩:=h.ok I.aM;show{c,r,{_,n,e,rfl,rfl,rfl},z};show{c.toList,r,{o,n,I.oV a o d,g,hd,by simpa using i},?_};have e:=r.length;simp only[yw]at e;lia
def Inv.tuple(I:Inv X qe σ H s)(h:g_ X.K H a xs):∃c:δ ξ,Vals xs c/\IsTup s.heap a c.toArray/\xs.length<=sizeLine:=by rcases h with h|⟨o,c,n,d,g,i,j,r⟩;let⟨z,c,r,p⟩:=h.ok I.aM;show⟨c,r,p.tup,z⟩;show{c.toList,r,{o,I.oV a o d,g,n,by simpa using i},?_};have e:=r.length;simp only[yw]at e;lia
def Inv.jW(I:Inv X qe σ H s)(h:fP X.K H a xs)(h':fP X.K H a ys):xs=ys:=by
 let⟨i,r,⟨o,n,e,_,_,d⟩,_⟩:=I.list h;let⟨c,j,⟨o',l,e',_,_,g⟩,_⟩:=I.list h';rw[e]at e';cases e';rw[d]at g;injection g with d1 _;have:i=c:=by simpa using congrArg Array.toList d1
 subst this;show r.inj j
def Inv.oY(I:Inv X qe σ H s)(h:g_ X.K H a xs)(h':g_ X.K H a ys):xs=ys:=by
 let⟨i,r,⟨o,e,_,n,d⟩,_⟩:=I.tuple h;let⟨c,j,⟨o',e',_,l,g⟩,_⟩:=I.tuple h';rw[e]at e';cases e';rw[d]at g;injection g with d1 _;have:i=c:=by simpa using congrArg Array.toList d1
 subst this;show r.inj j
end
noncomputable abbrev Cx.aez(X:Cx)(E:ξ->ζ->η):Cx:={X with xe:=E}
section
variable{X:Cx}{st:Stmt}{rest:δ Stmt}{t u:TS}{e:Δ}{te:TE}{pos:Pos}
def Vv:TS:=λD σ H=>D.nx σ H
def Z3(t u:TS):TS:=λD σ H=>t {D with nx:=u D} σ H
theorem FE:Dj X [] Vv:=λ_ _ σ H _ I h=>wpAny_execs_nil ⟨σ,H,I,h⟩
def Jj(h1:PS X st t)(h2:Dj X rest u):Dj X (st::rest) (Z3 t u):=by intro qe s σ H D I h;show wpAny_execs_cons<|bz (h1 qe s σ H {D with nx:=u D} I h) λf s1 q=>?_;cases f with|next=>(let⟨a,H',c,q⟩:=q;show h2 qe s1 a H' D c q)|ret v=>show q|brk=>show q|cont=>show q
def MJ(h1:PS X st t):Dj X [st] t:=by intro qe s σ H D I h;show wpAny_execs_cons<|bz (h1 qe s σ H D I h) λf s1 q=>?_;cases f with|next=>show wpAny_execs_nil q|ret v=>show q|brk=>show q|cont=>show q
def Inv.quiet(I:Inv X qe σ H s):interactive X.env=ϰ:=by simp[interactive,I.ok.kind]
def Vx(te:TE):TS:=λD σ H=>te σ H λz H1=>D.nx σ H1
def MK(g:PE X e te)(d:ψ (swapsWith e none pos.line X.env=pure false) qQJ):PS X (.Expr e pos) (Vx te):=by intro qe s σ H D I h;show wpAny_Expr_any (bz (g qe s σ H _ I h) <| by rintro v s1 ⟨x,H1,a,i,c⟩;show⟨σ,H1,a,c⟩) I.quiet d
def Z4(te:TE):TS:=λD σ H=>te σ H D.rt
def Q4(g:PE X e te):PS X (.Return (some e) pos) (Z4 te):=by intro qe s σ H D I h;show wpAny_Return_some<|bz (g qe s σ H _ I h) <| by rintro v s1 ⟨x,H1,a,d,c⟩;show⟨x,σ,H1,a,d,c⟩
def Z5(c:TT)(t u:TS):TS:=λD σ H=>c σ H λb H1=>if b=ϱ then t D σ H1 else u D σ H1
def Vy(j:PT X c tc)(ha:Dj X a t)(hb:Dj X b u):PS X (.If c a b pos) (Z5 tc t u):=by intro qe s σ H D I h;show wpAny_If<|bz (j qe s σ H _ I h) λd s1 i=>?_;let⟨H1,e,g⟩:=i;cases d with|true=>show ha qe s1 σ H1 D e g|false=>show hb qe s1 σ H1 D e g
end
abbrev TG:=V->St->Hp->(St->Hp->η)->η
abbrev Pl:=δ V->St->Hp->(St->Hp->η)->η
def PG(X:Cx)(a:Δ)(t:TG):Prop:=∀(qe:δ (ε×Obj))(s:ζ)(σ:St)(H:Hp)(v:V)(u:ξ)(Q:St->Hp->η),Inv X qe σ H s->RelV v u->t v σ H Q->wpAny `m X.A (assign a X.env u) (λz s'=>∃aG H',Inv X qe aG H' s'/\Q aG H') X.xe s
def Pm(X:Cx)(ts:δ Δ)(t:Pl):Prop:=∀(qe:δ (ε×Obj))(s:ζ)(σ:St)(H:Hp)(vs:δ V)(us:δ ξ)(Q:St->Hp->η),Inv X qe σ H s->Vals vs us->t vs σ H Q->wpAny `m X.A (assignInOrder ((assignEach ts X.env).map (·.2)) us) (λz s'=>∃aG H',Inv X qe aG H' s'/\Q aG H') X.xe s
abbrev Q5:=V->V->V->Hp->(Hp->η)->η
def Vz(X:Cx)(t:Q5):Prop:=∀(qe:δ (ε×Obj))(s:ζ)(σ:St)(H:Hp)(o i v:V)(ov iv u:ξ)(Q:Hp->η),Inv X qe σ H s->RelV o ov->RelV i iv->RelV v u->t o i v H Q->wpAny `m X.A (setItem ov iv u) (λz s'=>∃H',Inv X qe σ H' s'/\Q H') X.xe s
abbrev Z6:=V->V->Hp->VK->η
def PIp(X:Cx)(op:Operator)(t:Z6):Prop:=∀(qe:δ (ε×Obj))(s:ζ)(σ:St)(H:Hp)(x y:V)(v u:ξ)(Q:VK),Inv X qe σ H s->RelV x v->RelV y u->t x y H Q->wpAny `m X.A (inplaceOp op v u) (EP X qe σ Q) X.xe s
section
variable{X:Cx}{pos:Pos}
def jv(i:π):TG:=λv σ H Q=>Q (σ.set i<|some v) H
def so(hN:X.N.Nodup)(hi:X.N[i]?=some x)(hx:Loc X.env.scope x)(c:ψ (X.fn x=ϱ\/X.env.scope.names.lookup x=ϑ .local) qQ6):PG X (.Name x pos) (jv i):=by intro qe s σ H v u Q I r h;show wpAny_assign_Name<|sQ I hN hi hx r (λs' a=>{_,H,a,h}) c
def ML:Pl:=λvs σ H Q=>vs=[]/\Q σ H
def sR(t:TG)(u:Pl):Pl:=λvs σ H Q=>∃v r,vs=v::r/\t v σ H λa H'=>u r a H' Q
def FF:Pm X [] ML:=by intro qe s σ H vs us Q I r h;let⟨e,h⟩:=h;subst e;cases r;show assignInOrder_nil ⟨σ,H,I,h⟩
def sT{t:TG}(h1:PG X e t)(h2:Pm X es u) (j:ψ ((assignEach (e::es) X.env).map (·.2)=assign e X.env::(assignEach es X.env).map (·.2)) qQJ):Pm X (e::es) (sR t u):=by intro qe s σ H vs us Q I r h;let⟨v,l,e1,h⟩:=h;subst e1;cases r with|cons r g=>rw[j];show assignInOrder_cons<|bz (h1 qe s σ H _ _ _ I r h) λz s1 c=>?_;let⟨d,H1,a,i⟩:=c;show h2 qe s1 d H1 _ _ Q a g i
def MM(K:Φ)(n:π)(t:Pl):TG:=λv σ H Q=>∃a xs,v=.ref a/\g_ K H a xs/\xs.length=n/\t xs σ H Q
def Jl{t:Pl}(i:X.calm=ϱ)(h:Pm X es t) (hn:ψ ((assignEach es X.env).length=n) qQJ) (g:ψ ((assignEach es X.env).findIdx? (·.1)=ϐ) qQJ):PG X (.Tuple es k pos) (MM X.K n t):=by intro qe s σ H v u Q I r hw;let⟨a,xs,e1,hq,hl,hw⟩:=hw;subst e1;cases r;let⟨m,c,j,l⟩:=I.tuple hq;show assign_Tuple_tuple (I.ok.hd i) j (by simp[hn,<-hl,c.length]) g λh' hx=>?_;have d:Inv X qe σ H {s with heap:=h'}:=I.kept (t':=s.toks) λb o e=>hx b o (zE<|zw e) e;show h qe _ σ H xs _ Q d (by simpa using c) hw
def Z7(to ti:TE)(t:Q5):TG:=λv σ H Q=>to σ H λo H1=>ti σ H1 λi H2=>t o i v H2 λa=>Q σ a
theorem Q6{t:Q5}(a:PE X o to)(hi:PE X i ti)(n:Vz X t)
  (ha:ψ (∀v,assign (.Subscript o i pos) X.env v=(do
   let ov <-holding [v] (eval o X.env)
   let iv <-holding [v,ov] (eval i X.env)
   standAt pos
   holding [v,ov,iv] (setItem ov iv v)
   release [v,ov,iv] [])) qQ0):PG X (.Subscript o i pos) (Z7 to ti t):=by
 intro qe s σ H v u Q I r h
 rw[ha]
 show zb<|yQ<|bz (a qe s σ H _ I h) λov s1 w=>?_
 let⟨x,H1,c,m,j⟩:=w
 show zb<|yQ<|bz (hi qe s1 σ H1 _ c j) λiv s2 A=>?_
 let⟨y,H2,e,B,l⟩:=A
 show zb<|wpAny_standAt<|zb<|yQ<|bz (n qe s2 σ H2 x y v ov iv u _ e m B r l) λq C z=>?_
 let⟨d,p,g⟩:=z
 show wpAny_release ⟨σ,d,p,g⟩
def Q7(te:TE)(g:TG):TS:=λD σ H=>te σ H λx H1=>g x σ H1 D.nx
def Jm(d:PE X e te)(j:PG X tg g)(m:ψ (swapsWithSole [tg] e pos.line X.env=pure false) qQJ)(hw:ψ (swappedStores [tg] e X.env=pure none) qQJ) (h1:ψ ((assignEach [tg] X.env).map (·.2)=[assign tg X.env]) qQJ):PS X (.Assign [tg] e pos) (Q7 te g):=by intro qe s σ H D I h;show wpAny_Assign_stores (bz (d qe s σ H _ I h) λv s1 c=>?_) m hw;let⟨x,H1,a,l,i⟩:=c;rw[h1];show bz (j qe s1 σ H1 x v _ a l i) λz s2 q=>q
def Q8(hN:X.N.Nodup)(hi:X.N[i]?=some x)(hx:Loc X.env.scope x)(g:PE X e te)(m:ψ (swapsWith e (some<|.Name x pos') pos.line X.env=pure false) qQJ)(n:ψ (X.fn x=ϱ\/X.env.scope.names.lookup x=ϑ .local) qQ6): PS X (.Assign [.Name x pos'] e pos) (Q7 te<|jv i):=by intro qe s σ H D I h;show wpAny_Assign_Name (bz (g qe s σ H _ I h) λv s1 c=>?_) m;let⟨y,H1,a,l,j⟩:=c;show sQ a hN hi hx l (λs2 d=>{_,H1,d,j}) n
def Z8(i:π)(te:TE)(ti:Z6):TS:=λD σ H=>∃x,σ[i]?=some (some x)/\te σ H λy H1=>ti x y H1 λz H2=>D.nx (σ.set i<|some z) H2
def Q9(hN:X.N.Nodup)(hi:X.N[i]?=some x)(hx:Loc X.env.scope x)(G:PE X e te)(g:PIp X op ti)(O:ψ (X.fn x=ϱ\/X.env.scope.names.lookup x=ϑ .local) qQ6): PS X (.AugAssign (.Name x pos') op e pos) (Z8 i te ti):=by
 intro qe s σ H D I h;let⟨v,e1,h⟩:=h;let⟨m,hn,hl⟩:=I.loc;have d:QQ X.env.scope x:=by rcases hx with k|k;show .inl k;show .inr<|.inl k
 let⟨u,r,l⟩:=hl i x v hi e1 d;show wpAny_AugAssign_Name ?_;have go:wpAny `m X.A (eval e X.env) (λw n=>wpAny `m X.A (inplaceOp op u w) (λr J=>wpAny `m X.A (storeName X.env x r) (λz=>SP X qe D .next) X.xe J) X.xe n) X.xe s:=by show bz (G qe s σ H _ I h) λw s1 F=>?_;let⟨y,H1,j,C,t⟩:=F;show bz (g qe s1 σ H1 v y u w _ j r C t) λz s2 K=>?_;let⟨P,H2,o,M,B⟩:=K;show sQ o hN hi hx M (λQ E=>{_,H2,E,B}) O
 rcases l with⟨a,hm⟩|⟨a,c,p,L⟩;show wpAny_loadName_local I.ok.kind a hn hm go;rcases a with a|a;show wpAny_loadName_cell I.ok.kind a p L go;rcases hx with k|k;have:X.env.scope.names.lookup x=ϑ .free:=a;rw[k]at this;cases this;have:X.env.scope.names.lookup x=ϑ .free:=a;rw[k]at this;cases this
def ipI(f:ν->ν->ν):Z6:=λx y H Q=>∃i j,x=.int i/\y=.int j/\Q (.int<|f i j) H
def Q_:PIp X .Add (ipI λi j=>i+j):=by intro qe s σ H x y v u Q I c a h;let⟨i,j,e1,e2,q⟩:=h;subst e1;subst e2;let⟨t,rfl⟩:=c;let⟨d,rfl⟩:=a;show iadd_int {.int _,H,I.tok _,{_,rfl},q}
def Rb(c:TT)(tb:TS):TS:=λD σ H=>∃W:π->St->Hp->η,(∃m,W m σ H)/\∀m σ H,W m σ H->c σ H λb H1=>if b=ϱ then ∃N:St->Hp->η,(∀aG H',N aG H'->∃m',m'<m/\W m' aG H')/\tb {D with nx:=N,ct:=N,bk:=D.nx} σ H1 else D.nx σ H1
def Jn(hp:PassesOwn `m X.A X.env X.xe)(x:PT X c tc)(hb:Dj X body tb):PS X (.While c body [] pos) (Rb tc tb):=by intro qe s σ H D I h;let⟨W,⟨C,y⟩,e⟩:=h;show wpAny_While<|codeAny_whileLoop (λn s'=>∃aG H',Inv X qe aG H' s'/\W n aG H') ?_ C ⟨σ,H,I,y⟩;rintro n s1 ⟨j,H1,t,z⟩;show wpAny_passesOwn hp<|bz (x qe s1 j H1 _ t<|e n j H1 z) λb s2 B=>?_;let⟨H2,r,i⟩:=B;cases b with|true=>(let⟨N,hN,i⟩:=i;rw[qc rfl];show wpAny_passesOwn hp<|bz (hb qe s2 j H2 _ r i) λf E g=>?_;cases f with|next=>(let⟨d,a,o,m⟩:=g;let⟨p,hm,l⟩:=hN d a m;show⟨p,hm,d,a,o,l⟩)|cont=>(let⟨d,a,o,m⟩:=g;let⟨p,hm,l⟩:=hN d a m;show⟨p,hm,d,a,o,l⟩)|brk=>show g|ret v=>show g)|false=>rw[qa zd];show wpAny_execs_nil ⟨j,H2,r,i⟩
end
structure It where
 go:π->Hp->η
 VA:π->Hp->V->Hp->η
 stop:π->Hp->η
def rG(X:Cx)(qe:δ<|ε×Obj)(H:Hp)(b:ε):Prop:=H b=ϐ/\b≠X.env.locals/\b∉X.fs/\(b∈X.ex\/X.cS.heap.objs.size<=b)/\(∀x c,X.env.cells.lookup x=ϑ c->c≠b)/\∀p∈X.pn++qe,p.1≠b
def Inv.nv(I:Inv X qe σ H s)(hb:s.heap.objs.size<=b)(hn:H' b=ϐ):rG X qe H' b:=by show{hn,yi<|zq I.lt hb,I.Vp hb,.inr<|zj I.sz hb,λx c e z=>?_,λp hp z=>?_};let⟨v,q⟩:=I.cell x c e;show absurd (zq q.lt<|by rw[z];show hb)<|yK _;show absurd (zq (zw (I.pin p hp).1)<|by rw[z];show hb)<|yK _
structure Turn(P:Ψ)(w:Ω)(K:Φ)(tg:Δ)(J:It)(fp:δ ε)(it:ε)(tn:π->Γ->η):η where
 mem:it∈fp
 obj:∀i h,tn i h->∀b∈fp,∃o,h.get? b=ϑ o/\∀v,o.data≠.cell v
 keep:∀i h h',tn i h->(∀b∈fp,∀o,h.get? b=ϑ o->h'.get? b=ϑ o)->tn i h'
 item:∀(X:Cx),X.prog=P->X.w=w->X.K=K->X.calm=ϱ->∀(i:π)(qe:δ (ε×Obj))(s:ζ)(σ:St)(H:Hp)(E:ξ->ζ->η),Inv X qe σ H s->(∀b∈fp,rG X qe H b)->tn i s.heap->J.go i H ->
  wpAny (model P w) X.A (pyNext<|.ref it) (λr s1=>∃u,r=ϑ u /\
   wpAny (model P w) X.A (letOwnedTupleGo tg (.ref it) u) (λz s2=>∃x H',Inv X qe σ H' s2/\RelV x u/\J.VA i H x H'/\tn (i+1) s2.heap/\∀b∈fp,H' b=ϐ) E s1) E s
 done:∀(X:Cx),X.prog=P->X.w=w->X.K=K->X.calm=ϱ->∀(i:π)(qe:δ (ε×Obj))(s:ζ)(σ:St)(H:Hp)(E:ξ->ζ->η),Inv X qe σ H s->(∀b∈fp,rG X qe H b)->tn i s.heap->J.stop i H ->
  wpAny (model P w) X.A (pyNext<|.ref it) (λr s1=>r=ϐ/\Inv X qe σ H s1) E s
 self:∀(A:ϕ)(i:π)(s:ζ)(Q:ξ->ζ->η)(E:ξ->ζ->η),tn i s.heap->Q (.ref it) s->wpAny (model P w) A (pyIter<|.ref it) Q E s
abbrev TI:=St->Hp->(It->Hp->η)->η
def Z9(X:Cx)(qe:δ<|ε×Obj)(σ:St)(tg:Δ)(R:It->Hp->η)(a:ξ)(s2:ζ):Prop:=∃(it:ε)(fp:δ ε)(tn:π->Γ->η)(J:It)(H':Hp),a=.ref it/\Inv X qe σ H' s2/\Turn X.prog X.w X.K tg J fp it tn/\tn 0 s2.heap/\(∀b∈fp,rG X qe H' b)/\R J H'
def PI(X:Cx)(tg iter:Δ)(wi:TI):Prop:=∀(qe:δ (ε×Obj))(s:ζ)(σ:St)(H:Hp)(R:It->Hp->η),Inv X qe σ H s->wi σ H R->wpAny `m X.A (eval iter X.env) (λv s1=>wpAny `m X.A (pyIter v) (Z9 X qe σ tg R) X.xe s1) X.xe s
def v5(c:s.heap.get? it=ϑ o)(d:o.cls=.type n)(hd:o.data=.fields vs) (hn:["enumerate","zip","dict_itemiterator","dict_reverseitemiterator","odict_iterator","itertools.zip_longest","itertools.pairwise"].contains n=ϰ) (a:Q () s):wpAny M A (letOwnedTupleGo tg (.ref it) u) Q E s:=by
 unfold letOwnedTupleGo
 cases tg<;>first
  |show zp a
  | (cases u<;>first
    |show zp a
    | (show zb (wpAny_load c ?_)
       rw[d,hd]
       change wpAny M A (if (["enumerate","zip","dict_itemiterator","dict_reverseitemiterator","odict_iterator","itertools.zip_longest","itertools.pairwise"].contains n&&vs[0]?==some (rawInt _))=ϱ then _ else _) Q E s
       rw[qa<|by intro h;rw[hn,ya]at h;cases h]
       show zp a))
def Itl(K:Φ)(a:ε):It:={λi H=>∃xs x,fP K H a xs/\xs[i]?=some x,λi H x H'=>H'=H/\∀xs,fP K H a xs->xs[i]?=some x,λi H=>∃xs,fP K H a xs/\xs.length<=i}
def Itt(K:Φ)(a:ε):It:={λi H=>∃xs x,g_ K H a xs/\xs[i]?=some x,λi H x H'=>H'=H/\∀xs,g_ K H a xs->xs[i]?=some x,λi H=>∃xs,g_ K H a xs/\xs.length<=i}
noncomputable def YI(lo:ν)(n:π):It:={λi z=>i<n,λi H x H'=>H'=H/\x=.int (lo+i),λi z=>n<=i}
theorem G8{P:Ψ}{w:Ω}{K:Φ}{tg:Δ}(a it:ε):Turn P w K tg (Itl K a) [it] it (λi h=>h.IsListIter it a i) where
 mem:=`d
 obj:=λi h st b hb=>by
  have e:b=it:=by simpa using hb
  subst e
  let⟨o,e,c,d⟩:=st
  show{o,e,λv z=>by rw[d]at z;cases z}
 keep:=λi h h' st k=>st.at λo e=>k it `d o e
 item:=by
  intro X hP hw hK hc i qe s σ H E I hf st hg
  subst hP hw hK
  let⟨xs,x,hq,hx⟩:=hg
  let⟨aC,rv,p,hz⟩:=I.list hq
  let⟨u,hu,ru⟩:=rv.get hx
  let⟨f0,f1,f2,f3,f4,f5⟩:=hf it<|`d
  show wpAny_pyNext_list_item st p.isList (x:=u) (by simpa using hu) λh' ee sb=>?_
  have I1:Inv X qe σ H {s with heap:=h'}:=I.turned (t':=s.toks) (λb o hb e=>(sb.2 b hb).trans e) f0 f1 f3 f4 f5
  let⟨o,e,c,d⟩:=id ee
  show{u,rfl,v5 (s:={s with heap:=h'}) e c d `a {x,H,I1,ru,{rfl,λys hy=>by rw[I.jW hy hq];show hx},ee,λb hb=>(hf b hb).1}}
 done:=by
  intro X hP hw hK hc i qe s σ H E I hf st hg
  subst hP hw hK
  let⟨xs,hq,hx⟩:=hg
  let⟨aC,rv,p,hz⟩:=I.list hq
  let⟨f0,f1,f2,f3,f4,f5⟩:=hf it<|`d
  have hl:=rv.length
  show wpAny_pyNext_list_end (I.ok.hd hc) st p.isList (by simp;lia) λh' eb=>{rfl,I.turned (t':=s.toks) (λb o hb e=>eb b o hb e) f0 f1 f3 f4 f5}
 self:=λy y y y y st h=>wpAny_pyIter_listiter st h
theorem Dm{P:Ψ}{w:Ω}{K:Φ}{tg:Δ}(a it:ε):Turn P w K tg (Itt K a) [it] it (λi h=>h.IsTupleIter it a i) where
 mem:=`d
 obj:=λi h st b hb=>by
  have e:b=it:=by simpa using hb
  subst e
  let⟨o,e,c,d⟩:=st
  show{o,e,λv z=>by rw[d]at z;cases z}
 keep:=λi h h' st k=>st.at λo e=>k it `d o e
 item:=by
  intro X hP hw hK hc i qe s σ H E I hf st hg
  subst hP hw hK
  let⟨xs,x,hq,hx⟩:=hg
  let⟨aC,rv,p,hz⟩:=I.tuple hq
  let⟨u,hu,ru⟩:=rv.get hx
  let⟨f0,f1,f2,f3,f4,f5⟩:=hf it<|`d
  show wpAny_pyNext_tuple_item st (show s.heap.IsTuple a aC.toArray from p) (x:=u) (by simpa using hu) λh' ee sb=>?_
  have I1:Inv X qe σ H {s with heap:=h'}:=I.turned (t':=s.toks) (λb o hb e=>(sb.2 b hb).trans e) f0 f1 f3 f4 f5
  let⟨o,e,c,d⟩:=id ee
  show{u,rfl,v5 (s:={s with heap:=h'}) e c d `a {x,H,I1,ru,{rfl,λys hy=>by rw[I.oY hy hq];show hx},ee,λb hb=>(hf b hb).1}}
 done:=by
  intro X hP hw hK hc i qe s σ H E I hf st hg
  subst hP hw hK
  let⟨xs,hq,hx⟩:=hg
  let⟨aC,rv,p,hz⟩:=I.tuple hq
  let⟨f0,f1,f2,f3,f4,f5⟩:=hf it<|`d
  have hl:=rv.length
  show wpAny_pyNext_tuple_end (I.ok.hd hc) st (show s.heap.IsTuple a aC.toArray from p) (by simp;lia) λh' eb=>{rfl,I.turned (t':=s.toks) (λb o hb e=>eb b o hb e) f0 f1 f3 f4 f5}
 self:=λy y y y y st h=>wpAny_pyIter_tupleiter st h
theorem Dn{P:Ψ}{w:Ω}{K:Φ}{tg:Δ}(it:ε)(lo:ν)(n:π):Turn P w K tg (YI lo n) [it] it (λi h=>IsRangeIter h it (lo+(i:π)*1) ((n:ν)-(i:π)) 1) where
 mem:=`d
 obj:=λi h st b hb=>by
  have e:b=it:=by simpa using hb
  subst e
  show⟨_,st,λv z=>by
   have z':Data.fields _=Data.cell v:=z
   cases z'⟩
 keep:=λi h h' st k=>k it `d _ st
 item:=by
  intro X hP hw hK hc i qe s σ H E I hf st hg
  subst hP hw hK
  let⟨f0,f1,f2,f3,f4,f5⟩:=hf it<|`d
  have W:=Walks.range (prog:=X.prog) (w:=X.w) (I.ok.hd hc) it lo 1 n
  show W.item i s _ _ hg st λv h' tk hv ee kk=>?_
  let⟨t,rfl⟩:=hv
  have I1:Inv X qe σ H {s with heap:=h',toks:=tk}:=I.turned (λb o hb e=>kk b o (by simpa using hb) e) f0 f1 f3 f4 f5
  show{_,rfl,v5 (s:={s with heap:=h',toks:=tk}) (n:="range_iterator") ee rfl rfl `a {.int<|lo+i,H,I1,{t,?_},⟨rfl,rfl⟩,ee,λb hb=>(hf b hb).1}}
  rw[Int.mul_one]
 done:=by
  intro X hP hw hK hc i qe s σ H E I hf st hg
  subst hP hw hK
  let⟨f0,f1,f2,f3,f4,f5⟩:=hf it<|`d
  show wpAny_pyNext_range_end (I.ok.hd hc) st (by have:n<=i:=hg;lia) λh' eb=>{rfl,I.turned (t':=s.toks) (λb o hb e=>eb b o hb e) f0 f1 f3 f4 f5}
 self:=λx x x x x st h=>wpAny_pyIter_rangeiter st h
section
variable{X:Cx}{tg:Δ}
def VB(K:Φ)(tl:TE):TI:=λσ H R=>tl σ H λx H1=>∃a,x=.ref a/\(∃xs,fP K H1 a xs)/\R (Itl K a) H1
def Z_(K:Φ)(tl:TE):TI:=λσ H R=>tl σ H λx H1=>∃a,x=.ref a/\(∃xs,g_ K H1 a xs)/\R (Itt K a) H1
def MN{l:Δ}{tl:TE}(hl:PE X l tl):PI X tg l (VB X.K tl):=by
 intro qe s σ H R I h;show bz (hl qe s σ H _ I h) λv s1 d=>?_;let⟨x,H1,c,i,g⟩:=d;let⟨a,e,⟨xs,hq⟩,q⟩:=g;subst e;cases i;let⟨m,n,p,j⟩:=c.list hq;show wpAny_pyIter_list p.isList ?_;show{s1.heap.objs.size,[s1.heap.objs.size],_,_,H1,rfl,c.kept (t':=s1.toks) λb o e=>za _ e,G8 a _,{_,zl _ rfl,rfl,rfl},λb hb=>?_,q};have e:b=s1.heap.objs.size:=by simpa using hb
 subst e;show c.nv (zm _)<|c.aM.fresh<|zm _
def Rf{l:Δ}{tl:TE}(hl:PE X l tl):PI X tg l (Z_ X.K tl):=by
 intro qe s σ H R I h;show bz (hl qe s σ H _ I h) λv s1 d=>?_;let⟨x,H1,c,j,i⟩:=d;let⟨a,e,⟨xs,hq⟩,q⟩:=i;subst e;cases j;let⟨g,n,p,m⟩:=c.tuple hq;show wpAny_pyIter_tuple (show s1.heap.IsTuple a g.toArray from p) ?_;show{s1.heap.objs.size,[s1.heap.objs.size],_,_,H1,rfl,c.kept (t':=s1.toks) λb o e=>za _ e,Dm a _,{_,zl _ rfl,rfl,rfl},λb hb=>?_,q};have e:b=s1.heap.objs.size:=by simpa using hb
 subst e;show c.nv (zm _)<|c.aM.fresh<|zm _
def Jo{qe:δ<|ε×Obj}{σ:St}{H:Hp}{s:ζ}{R:It->Hp->η}{E:ξ->ζ->η}{lo hi:ν}{t u v:Tok}{tk:π}(I:Inv X qe σ H s)(h1:-(2^62)<=lo)(h2:lo<2^62)(d:-(2^62)<=hi)(c:hi<2^62) (q:R (YI lo (hi-lo).toNat) H):wpAny `m X.A (pyIter<|.ref s.heap.objs.size) (Z9 X qe σ tg R) E {s with heap:=s.heap.push {cls:=.type "range",data:=.fields #[.int lo t,.int hi u,.int 1 v]},toks:=tk}:=by
 show wpAny_pyIter_range (IsRange.new ..) (small_one h1 h2 d c) ?_;have a:Inv X qe σ H {s with heap:=s.heap.push {cls:=.type "range",data:=.fields #[.int lo t,.int hi u,.int 1 v]},toks:=tk}:=I.kept λb o e=>za _ e;show{(s.heap.push {cls:=.type "range",data:=.fields #[.int lo t,.int hi u,.int 1 v]}).objs.size,[(s.heap.push {cls:=.type "range",data:=.fields #[.int lo t,.int hi u,.int 1 v]}).objs.size],_,_,H,rfl,a.kept (t':=tk) λb o e=>za _ e,Dn _ lo (hi-lo).toNat,?_,λb hb=>?_,q};have e1:lo+((0:π):ν)*1=lo:=`d
 have e2:(((hi-lo).toNat:π):ν)-((0:π):ν)=Builtin.Range.rangeSize lo hi 1:=by rw[rangeSize_one];split<;>lia
 change IsRangeIter _ _ (lo+((0:π):ν)*1) ((((hi-lo).toNat:π):ν)-((0:π):ν)) 1;rw[e1,e2];show zl _ rfl;have e:b=(s.heap.push {cls:=.type "range",data:=.fields #[.int lo t,.int hi u,.int 1 v]}).objs.size:=by simpa using hb
 subst e;show a.nv (zm _)<|a.aM.fresh<|zm _
def VC(ta:TA):TI:=λσ H R=>ta σ H λvs H1=>∃j:ν,vs=[.int j]/\-(2^62)<=j/\j<2^62/\R (YI 0 j.toNat) H1
def G9{a:Δ}{ta:TA}{p pos:Pos}(l:Gl X "range")(hm:X.mg "range"= none)(ha:PA X [a] ta)(o:ψ (starEach [a] X.env=[(false,eval a X.env)]) qQJ):PI X tg (.Call (.Name "range" p) [a] [] pos) (VC ta):=by intro qe s σ H R I h;show Call_<|fu I l hm boot_range<|yj (bz (ha pos qe s σ H _ I h) λus s1 g=>?_) o rfl;let⟨vs,H1,d,n,c⟩:=g;let⟨j,e,c,m,q⟩:=c;subst e;cases n with|cons r i=>cases i;let⟨t,rfl⟩:=r;show call_range_1<|Jo d (Int.natCast_nonneg _) (Int.natCast_nonneg _) c m<|by simpa using q
def aaa(wi:TI)(g:TG)(tb:TS):TS:=λD σ H=>wi σ H λJ H1=>∃W:π->π->St->Hp->η,(∃m,W 0 m σ H1)/\∀i m σ H,W i m σ H->(J.stop i H/\D.nx σ H)\/(J.go i H/\∃N:St->Hp->η,(∀aG H',N aG H'->∃m',m'<m/\W (i+1) m' aG H')/\∀x H',J.VA i H x H'->g x σ H' λa H2=>tb {D with nx:=N,ct:=N,bk:=D.nx} a H2)
noncomputable def sU(fp:δ ε)(h:Γ):δ (ε×Obj):=fp.filterMap λb=>(h.get? b).map λo=>(b,o)
theorem iY(hb:b∈fp)(e:h.get? b=ϑ o):(b,o)∈sU fp h:=List.mem_filterMap.mpr {b,hb,by rw[e];rfl}
def G_(hp:p∈sU fp h):p.1∈fp/\h.get? p.1=ϑ p.2:=by let⟨b,hb,e⟩:=List.mem_filterMap.mp hp;cases q:h.get? b with|none=>(rw[q]at e;cases e)|some o=>rw[q]at e;have e':(b,o)=p:=zQ e;subst e';show⟨hb,q⟩
theorem Inv.pinned(I:Inv X qe σ H s)(i:∀b∈fp,rG X qe H b)(a:∀b∈fp,∃o,s.heap.get? b=ϑ o/\∀v,o.data≠.cell v):Inv X (qe++sU fp s.heap) σ H s:=I.nr λp hp=>(zL.mp hp).elim (λz=>I.pin p<|zI _ z) λz=>by let⟨hb,e⟩:=G_ z;let⟨g,c,h,_⟩:=i p.1 hb;let⟨o,e',d⟩:=a p.1 hb;rw[e]at e';cases e';show⟨e,g,c,h,d⟩
theorem Inv.sV(I:Inv X (qe++pl) σ H s):Inv X qe σ H s:=I.nr λp hp=>I.pin p<|zI _<|zT _ hp
def Rh(hp:PassesOwn `m X.A X.env X.xe)(K:X.calm=ϱ)(hi:PI X tg iter wi)(hg:PG X tg g)(hb:Dj X body tb) (hs:ψ (∀x,foldedSetIterable iter X.env x=pure x) qQ0):PS X (.For tg iter body [] pos) (aaa wi g tb):=by intro qe s σ H D I h;show wpAny_For (bz (hi qe s σ H _ I h) λv s1 h1=>bz h1 λYH s2 h2=>?_) hs;let⟨it,fp,tn,J,H2,e,Y,T,iZ,S,W,⟨m0,w0⟩,y⟩:=h2;subst e;have C:∀{H':Hp},(∀b∈fp,H' b=ϐ)->∀b∈fp,rG X qe H' b:=λhn b hb=>{hn b hb,(S b hb).2};show codeAny_forLoop_any (λn s'=>∃i aG H',Inv X qe aG H' s'/\tn i s'.heap/\(∀b∈fp,H' b=ϐ)/\W i n aG H') ?_ m0 {0,σ,H2,Y,iZ,λb hb=>(S b hb).1,w0};rintro n O ⟨i,p,z,R,L,Q,w3⟩;rcases y i n p z w3 with⟨stop,qn⟩|⟨go,N,hN,step⟩;show wpAny_passesOwn hp<|bz (T.done X rfl rfl rfl K i qe O p z X.xe R (C Q) L stop) λr Z ⟨hr,I4⟩=>?_;subst hr;show wpAny_execs_nil ⟨p,z,I4,qn⟩;{show wpAny_passesOwn hp<|bz (T.item X rfl rfl rfl K i qe O p z X.xe R (C Q) L go) λr Z ⟨u,hr,h4⟩=>?_;subst hr;show wpAny_passesOwn hp<|bz h4 λr P aY=>?_;let⟨x,M,I5,r5,U,E,B⟩:=aY;have F:=I5.pinned (C B)<|T.obj _ _ E;show wpAny_passesOwn hp<|bz (hg _ P p M x u _ F r5<|step x M U) λr s6 eC=>?_;let⟨VE,H6,I6,q6⟩:=eC;show wpAny_passesOwn hp<|bz (hb _ s6 VE H6 _ I6 q6) λf G l=>?_;have again:∀{a:St}{c:Hp},Inv X (qe++sU fp P.heap) a c G->N a c->∃m,m<n/\∃i aG H',Inv X qe aG H' G/\tn i G.heap/\(∀b∈fp,H' b=ϐ)/\W i m aG H':=λ{a c} j t=>(by let⟨m',hm,w7⟩:=hN a c t;show{m',hm,i+1,a,c,j.sV,T.keep _ _ _ E λb hb o e=>(j.pin (b,o)<|zI _<|zI _<|iY hb e).1,λb hb=>?_,w7};let⟨o,e,d⟩:=T.obj _ _ E b hb;show(j.pin (b,o)<|zI _<|zI _<|iY hb e).2.1);cases f with|next=>(let⟨a,c,j,t⟩:=l;show again j t)|cont=>(let⟨a,c,j,t⟩:=l;show again j t)|brk=>(let⟨a,c,j,l⟩:=l;show⟨a,c,j.sV,l⟩)|ret v=>let⟨x7,a,c,j,r7,l⟩:=l;show⟨x7,a,c,j.sV,r7,l⟩}
end
abbrev R2:=V->V->Hp->VK->η
def hG(X:Cx)(f:ξ->ξ->Sem ξ)(r:R2):Prop:=∀(qe:δ (ε×Obj))(s:ζ)(σ:St)(H:Hp)(x y:V)(v u:ξ)(Q:VK),Inv X qe σ H s->RelV x v->RelV y u->r x y H Q->wpAny `m X.A (f v u) (EP X qe σ Q) X.xe s
def UnR(X:Cx)(f:ξ->Sem ξ)(r:V->Hp->VK->η):Prop:=∀(qe:δ (ε×Obj))(s:ζ)(σ:St)(H:Hp)(x:V)(v:ξ)(Q:VK),Inv X qe σ H s->RelV x v->r x H Q->wpAny `m X.A (f v) (EP X qe σ Q) X.xe s
def eW(X:Cx)(f:ξ)(r:δ V->Hp->VK->η):Prop:=∀(qe:δ (ε×Obj))(s:ζ)(σ:St)(H:Hp)(xs:δ V)(us:δ ξ)(Q:VK),Inv X qe σ H s->Vals xs us->r xs H Q->wpAny `m X.A (call f us) (EP X qe σ Q) X.xe s
def Uz(r:R2)(ta tb:TE):TE:=λσ H Q=>ta σ H λx H1=>tb σ H1 λy H2=>r x y H2 Q
def tUn(r:V->Hp->VK->η)(ta:TE):TE:=λσ H Q=>ta σ H λx H1=>r x H1 Q
def rI(C:ν->ν->η)(g:ν->ν->V):R2:=λx y H Q=>∃i j,x=.int i/\y=.int j/\C i j/\Q (g i j) H
def MP(g:ν->ν->V):R2:=λx y H Q=>∃i j,x=.int i/\y=.int j/\Q (g i j) H
def rU(g:ν->V):V->Hp->VK->Prop:=λx H Q=>∃i,x=.int i/\Q (g i) H
section
variable{X:Cx}{a b:Δ}{ta tb:TE}{pos:Pos}
def Rj(ha:PE X a ta)(hb:PE X b tb){qe:δ<|ε×Obj}{s:ζ}{σ:St}{H:Hp}{R:V->V->Hp->η}(I:Inv X qe σ H s) (h:ta σ H λx H1=>tb σ H1 λy H2=>R x y H2) {Q:ξ->ζ->η}{f:ξ->ξ->Sem ξ} (l:∀v u s2 x y H2,Inv X qe σ H2 s2->RelV x v->RelV y u->R x y H2->wpAny `m X.A (f v u) Q X.xe s2): wpAny `m X.A (eval a X.env) (λv bh=>wpAny `m X.A (eval b X.env) (λu cz=>wpAny `m X.A (f v u) Q X.xe cz) X.xe bh) X.xe s:=by show bz (ha qe s σ H _ I h) λv s1 ⟨x,H1,c,j,g⟩=>?_;show bz (hb qe s1 σ H1 _ c g) λu s2 ⟨y,H2,d,e,i⟩=>?_;show l v u s2 x y H2 d j e i
def VF{op:Operator}{r:R2}(c:hG X (binaryOp op) r)(ha:PE X a ta)(hb:PE X b tb):PE X (.BinOp a op b pos) (Uz r ta tb):=by intro qe s σ H Q I h;show wpAny_BinOp<|Rj ha hb I h λv u s2 x y H2 d e g q=>c qe s2 σ H2 x y v u Q d e g q
def VG(c:UnR X (unaryOp op) r)(ha:PE X a ta):PE X (.UnaryOp op a pos) (tUn r ta):=by intro qe s σ H Q I h;show UnaryOp_<|bz (ha qe s σ H _ I h) <| by rintro v s1 ⟨x,H1,d,g,e⟩;show c qe s1 σ H1 x v Q d g e
def YJ{f:ξ->ξ->Sem ξ}{C:ν->ν->η}{g:ν->ν->ν} (rule:∀(i j:ν)(t u:Tok)(s:ζ)(Q:ξ->ζ->η)(E:ξ->ζ->η),C i j->Q (.int (g i j) s.toks) {s with toks:=s.toks+1}->wpAny `m X.A (f (.int i t)<|.int j u) Q E s): hG X f (rI C λi j=>.int<|g i j):=by intro qe s σ H x y v u Q I c e h;let⟨i,j,rfl,rfl,a,q⟩:=h;let⟨t,rfl⟩:=c;let⟨d,rfl⟩:=e;show rule i j t d s _ _ a {.int<|g i j,H,I.tok _,{_,rfl},q}
def VH{f:ξ->ξ->Sem ξ}{g:ν->ν->ν} (rule:∀(i j:ν)(t u:Tok)(s:ζ)(Q:ξ->ζ->η)(E:ξ->ζ->η),Q (.int (g i j) s.toks) {s with toks:=s.toks+1}->wpAny `m X.A (f (.int i t)<|.int j u) Q E s): hG X f (MP λi j=>.int<|g i j):=by intro qe s σ H x y v u Q I a d h;let⟨i,j,rfl,rfl,q⟩:=h;let⟨t,rfl⟩:=a;let⟨c,rfl⟩:=d;show rule i j t c s _ _ {.int<|g i j,H,I.tok _,{_,rfl},q}
def MQ{f:ξ->ξ->Sem ξ}{g:ν->ν->χ} (rule:∀(i j:ν)(t u:Tok)(s:ζ)(Q:ξ->ζ->η)(E:ξ->ζ->η),Q (.bool<|g i j) s->wpAny `m X.A (f (.int i t)<|.int j u) Q E s): hG X f (MP λi j=>.bl<|g i j):=by intro qe s σ H x y v u Q I a d h;let⟨i,j,rfl,rfl,q⟩:=h;let⟨t,rfl⟩:=a;let⟨c,rfl⟩:=d;show rule i j t c s _ _ {.bl<|g i j,H,I,rfl,q}
def VI(i j:ν):Prop:=0<=j/\j<=1000000/\i.natAbs<2^64
def MR(i j:ν):Prop:=(-(2^64)<i/\i<2^64)\/(-(2^64)<j/\j<2^64)
def MR.ok{i j:ν}(h:MR i j):IntMulOk i j:=by rcases h with⟨h1,h2⟩|⟨h1,h2⟩;show .of_left<|intBits_le_64 h1 h2;show .of_right<|intBits_le_64 h1 h2
theorem Jq:hG X (binaryOp .Add) (MP λi j=>.int<|i+j):=VH λz z z z z z z q=>add_int q
theorem Rk:hG X (binaryOp .Sub) (MP λi j=>.int<|i-j):=VH λz z z z z z z q=>sub_int q
theorem Rl:hG X (binaryOp .Mult) (rI MR λi j=>.int<|i*j):=YJ λz z z z z z z a q=>mul_int q a.ok
theorem Rm:hG X (binaryOp .Mod) (rI (λz j=>0<j) λi j=>.int<|i%j):=YJ λi j z z z z z a q=>by have h1:(0:ν)<j:=a;show mod_int' `b<|by rw[Int.fmod_eq_emod_of_nonneg i<|`b];show q
theorem Rn:hG X (binaryOp .Pow) (rI VI λi j=>.int<|i^j.toNat):=YJ λz z z z z z z a q=>pow_int_small a.1 a.2.1 a.2.2 q
def unI{f:ξ->Sem ξ}{g:ν->ν} (rule:∀(i:ν)(t:Tok)(s:ζ)(Q:ξ->ζ->η)(E:ξ->ζ->η),Q (.int (g i) s.toks) {s with toks:=s.toks+1}->wpAny `m X.A (f<|.int i t) Q E s): UnR X f (rU λi=>.int<|g i):=by intro qe s σ H x v Q I a h;let⟨i,rfl,q⟩:=h;let⟨t,rfl⟩:=a;show rule i t s _ _ {.int<|g i,H,I.tok _,{_,rfl},q}
theorem Ro:UnR X (unaryOp .USub) (rU λi=>.int (-i)):=unI λz z z z z q=>neg_int q
end
noncomputable def VJ:V->V->χ|.aA,.aA=>true|.aA,.int _=>true|.int _,.aA=>true|.aA,.bl _=>true|.bl _,.aA=>true|.aA,.str _=>true|.str _,.aA=>true|.int _,.int _=>true|.bl _,.bl _=>true|.str _,.str _=>true|.FA _,.FA _=>true|.int _,.str _=>true|.str _,.int _=>true|.bl _,.str _=>true|.str _,.bl _=>true|_,_=>false
def rEq:R2:=λx y H Q=>VJ x y=ϱ/\Q (.bl<|ω<|x=y) H
def rNe:R2:=λx y H Q=>VJ x y=ϱ/\Q (.bl<|!decide (x=y)) H
def FG:ω (V.int i=V.int j)=(i==j):=by rw[yN];simp
def Jr:ω (V.bl i=V.bl j)=(i==j):=by rw[yN];simp
def FH:ω (V.str i=V.str j)=(i==j):=by rw[yN];simp
def FI:ω (V.FA i=V.FA j)=(i.toList==j.toList):=by rw[yN];cases i;cases j;simp
section
variable{X:Cx}{a b c:Δ}{ta tb tc:TE}{pos:Pos}
def aO(I:Inv X qe σ H s)(q:Q (.bl k) H)(e:k=k'):EP X qe σ Q (.bool k') s:=by subst e;show{.bl k,H,I,rfl,q}
def Pn:hG X (compareOp .Eq) rEq:=by intro qe s σ H x y v u Q I e a h;let⟨d,q⟩:=h;cases x with|aA=>(cases e;cases y with|aA=>(cases a;show PySem.EqNone.eq_none_none<|aO I q<|`d)|bl j=>(cases a;show PySem.EqNone.eq_none_bool<|aO I q<|`d)|int j=>(let⟨c,rfl⟩:=a;show PySem.EqNone.eq_none_int<|aO I q<|`d)|str j=>(let⟨c,rfl⟩:=a;show PySem.EqNone.eq_none_str<|aO I q<|`d)|_=>show absurd (show false=ϱ from d) zd)|bl i=>(cases e;cases y with|aA=>(cases a;show PySem.EqNone.eq_bool_none<|aO I q<|`d)|bl j=>(cases a;show eq_bool<|aO I q Jr)|str j=>(let⟨c,rfl⟩:=a;show PySem.EqMixed.eq_bool_str<|aO I q<|`d)|_=>show absurd (show false=ϱ from d) zd)|int i=>(let⟨t,rfl⟩:=e;cases y with|aA=>(cases a;show PySem.EqNone.eq_int_none<|aO I q<|`d)|int j=>(let⟨c,rfl⟩:=a;show eq_int<|aO I q FG)|str j=>(let⟨c,rfl⟩:=a;show PySem.EqMixed.eq_int_str<|aO I q<|`d)|_=>show absurd (show false=ϱ from d) zd)|str i=>(let⟨t,rfl⟩:=e;cases y with|aA=>(cases a;show PySem.EqNone.eq_str_none<|aO I q<|`d)|bl j=>(cases a;show PySem.EqMixed.eq_str_bool<|aO I q<|`d)|int j=>(let⟨c,rfl⟩:=a;show PySem.EqMixed.eq_str_int<|aO I q<|`d)|str j=>(let⟨c,rfl⟩:=a;show eq_str<|aO I q FH)|_=>show absurd (show false=ϱ from d) zd)|FA i=>(let⟨t,rfl⟩:=e;cases y with|FA j=>(let⟨c,rfl⟩:=a;show PySem.W.eq_bytes<|aO I q FI)|_=>show absurd (show false=ϱ from d) zd)|_=>cases y<;>show absurd (show false=ϱ from d) zd
def Po:hG X (compareOp .NotEq) rNe:=by intro qe s σ H x y v u Q I e a h;let⟨d,q⟩:=h;cases x with|aA=>(cases e;cases y with|aA=>(cases a;show PySem.EqNone.ne_none_none<|aO I q<|`d)|bl j=>(cases a;show PySem.EqNone.ne_none_bool<|aO I q<|`d)|int j=>(let⟨c,rfl⟩:=a;show PySem.EqNone.ne_none_int<|aO I q<|`d)|str j=>(let⟨c,rfl⟩:=a;show PySem.EqNone.ne_none_str<|aO I q<|`d)|_=>show absurd (show false=ϱ from d) zd)|bl i=>(cases e;cases y with|aA=>(cases a;show PySem.EqNone.ne_bool_none<|aO I q<|`d)|bl j=>(cases a;show ne_bool<|aO I q<|congrArg not Jr)|str j=>(let⟨c,rfl⟩:=a;show PySem.EqMixed.ne_bool_str<|aO I q<|`d)|_=>show absurd (show false=ϱ from d) zd)|int i=>(let⟨t,rfl⟩:=e;cases y with|aA=>(cases a;show PySem.EqNone.ne_int_none<|aO I q<|`d)|int j=>(let⟨c,rfl⟩:=a;show ne_int<|aO I q<|congrArg not FG)|str j=>(let⟨c,rfl⟩:=a;show PySem.EqMixed.ne_int_str<|aO I q<|`d)|_=>show absurd (show false=ϱ from d) zd)|str i=>(let⟨t,rfl⟩:=e;cases y with|aA=>(cases a;show PySem.EqNone.ne_str_none<|aO I q<|`d)|bl j=>(cases a;show PySem.EqMixed.ne_str_bool<|aO I q<|`d)|int j=>(let⟨c,rfl⟩:=a;show PySem.EqMixed.ne_str_int<|aO I q<|`d)|str j=>(let⟨c,rfl⟩:=a;show ne_str<|aO I q<|congrArg not FH)|_=>show absurd (show false=ϱ from d) zd)|FA i=>(let⟨t,rfl⟩:=e;cases y with|FA j=>(let⟨c,rfl⟩:=a;show PySem.W.ne_bytes<|aO I q<|congrArg not FI)|_=>show absurd (show false=ϱ from d) zd)|_=>cases y<;>show absurd (show false=ϱ from d) zd
theorem VL:hG X (compareOp .Lt) (MP λi j=>.bl<|ω<|i<j):=MQ λz z z z z z z q=>lt_int q
theorem VM:hG X (compareOp .LtE) (MP λi j=>.bl<|ω<|i<=j):=MQ λz z z z z z z q=>le_int q
theorem VN:hG X (compareOp .Gt) (MP λi j=>.bl<|ω<|j<i):=MQ λz z z z z z z q=>gt_int q
theorem VO:hG X (compareOp .GtE) (MP λi j=>.bl<|ω<|j<=i):=MQ λz z z z z z z q=>ge_int q
def Ha:hG X (compareOp .Lt) (λx y H Q=>∃i j,x=.str i/\y=.str j/\Q (.bl<|ω<|i.cps.toList<j.cps.toList) H):=by intro qe s σ H x y v u Q I a c h;let⟨i,j,rfl,rfl,q⟩:=h;let⟨t,rfl⟩:=a;let⟨d,rfl⟩:=c;show lt_str<|aO I q rfl
def Hb:hG X (compareOp .In) (λx y H Q=>∃i j,x=.str i/\y=.str j/\Q (.bl<|!(Builtin.Str.occurrences j i 0 j.length 1).isEmpty) H):=by intro qe s σ H x y v u Q I a c h;let⟨i,j,rfl,rfl,q⟩:=h;let⟨t,rfl⟩:=a;let⟨d,rfl⟩:=c;show in_str<|aO I q rfl
def Rp:hG X (compareOp .Is) (λx y H Q=>y=.aA/\Q (.bl<|ω<|x=.aA) H):=by intro qe s σ H x y v u Q I a c h;let⟨rfl,q⟩:=h;cases c;show is_none_gen<|aO I q ?_;cases x<;>first| (cases a;rfl)| (let⟨t,rfl⟩:=a;rfl)
def MS:hG X (compareOp .IsNot) (λx y H Q=>y=.aA/\Q (.bl<|!decide (x=.aA)) H):=by intro qe s σ H x y v u Q I a c h;let⟨rfl,q⟩:=h;cases c;show isnot_none_gen<|aO I q ?_;cases x<;>first| (cases a;rfl)| (let⟨t,rfl⟩:=a;rfl)
def xq:hG X (compareOp .NotIn) (λx y H Q=>∃i j,x=.str i/\y=.str j/\Q (.bl<|!(!(Builtin.Str.occurrences j i 0 j.length 1).isEmpty)) H):=by intro qe s σ H x y v u Q I a c h;let⟨i,j,rfl,rfl,q⟩:=h;let⟨t,rfl⟩:=a;let⟨d,rfl⟩:=c;show notIn_str<|aO I q rfl
def aae(b:Δ)(h:ψ (op≠.In) qQZ)(h2:ψ (op≠.NotIn) qQZ):behindInMarks op b=ϰ:=by
 have e1:(op==CmpOp.In)=ϰ:=by cases op<;>first|rfl|show absurd rfl h
 have e2:(op==CmpOp.NotIn)=ϰ:=by cases op<;>first|rfl|show absurd rfl h2
 cases b<;>simp[behindInMarks,e1,e2]
def FJ{op:CmpOp}{r:R2}(c:hG X (compareOp op) r)(ha:PE X a ta)(hb:PE X b tb)(hm:behindInMarks op b=ϰ):PE X (.Compare a [op] [b] pos) (Uz r ta tb):=by intro qe s σ H Q I h;show wpAny_Compare1 (Rj ha hb I h λv u s2 x y H2 d e g q=>c qe s2 σ H2 x y v u Q d e g q) hm
def Js(t:TE):TT:=λσ H Q=>t σ H λx H'=>∃k,x=.bl k/\Q k H'
def MT{op:CmpOp}{r:R2}(d:hG X (compareOp op) r)(ha:PE X a ta)(hb:PE X b tb)(hm:behindInMarks op b=ϰ):PT X (.Compare a [op] [b] pos) (Js<|Uz r ta tb):=by intro qe s σ H Q I h;show wpAny_isTrue_Compare1 (bz (ha qe s σ H _ I h) λv s1 t=>?_) hm;let⟨x,H1,g,o,m⟩:=t;show bz (hb qe s1 σ H1 _ g m) λu s2 A=>?_;let⟨y,H2,j,C,n⟩:=A;show bz (d qe s2 σ H2 x y v u _ j o C n) λc E w=>?_;let⟨z,i,p,B,k,e,l⟩:=w;subst e;cases B;show yC ⟨i,p,l⟩
def Ds(r c:R2)(ta tb tc:TE):TE:=λσ H Q=>ta σ H λx H1=>tb σ H1 λy H2=>r x y H2 λz a=>∃k,z=.bl k/\(if k=ϱ then tc σ a λd e=>c y d e Q else Q (.bl false) a)
def Jt{op g:CmpOp}{r m:R2}(o:hG X (compareOp op) r)(E:hG X (compareOp g) m)(ha:PE X a ta)(hb:PE X b tb)(C:PE X c tc) (hm:ψ (lastMarks [op,g] [b,c]=ϰ) qQ2):PE X (.Compare a [op,g] [b,c] pos) (Ds r m ta tb tc):=by intro qe s σ H Q I h;show Compare_chain (bz (ha qe s σ H _ I h) λv s1 L=>?_) hm;let⟨x,H1,p,K,F⟩:=L;show chain_link<|bz (hb qe s1 σ H1 _ p F) λu s2 P=>?_;let⟨y,H2,w,n,J⟩:=P;show bz (o qe s2 σ H2 x y v u _ w K n J) λd O N=>?_;let⟨z,i,l,R,k,e,j⟩:=N;subst e;cases R;show yC ?_;cases k with|false=>show ite_ff {.bl false,i,l,rfl,j}|true=>show ite_tt<|chain_last<|bz (C qe O σ i _ l j) λG A ⟨M,U,t,S,B⟩=>E qe A σ U y M u G Q t n S B
def Ju{op g:CmpOp}{r o:R2}(t:hG X (compareOp op) r)(G:hG X (compareOp g) o)(ha:PE X a ta)(hb:PE X b tb)(F:PE X c tc) (hm:ψ (lastMarks [op,g] [b,c]=ϰ) qQ2):PT X (.Compare a [op,g] [b,c] pos) (Js<|Ds r o ta tb tc):=by intro qe s σ H Q I h;show isTrue_chain (bz (ha qe s σ H _ I h) λv s1 S=>?_) hm;let⟨x,H1,w,R,M⟩:=S;show test_link<|bz (hb qe s1 σ H1 _ w M) λu s2 eC=>?_;let⟨y,H2,B,p,P⟩:=eC;show bz (t qe s2 σ H2 x y v u _ B R p P) λd Z Y=>?_;let⟨z,l,n,r3,k,e,m⟩:=Y;subst e;cases r3;show yC ?_;cases k with|false=>(let⟨k',e',K⟩:=m;cases e';show ite_ff ⟨l,n,K⟩)|true=>show ite_tt<|test_last<|bz (F qe Z σ l _ n m) λN C j=>?_;let⟨U,H4,A,r4,E⟩:=j;show bz (G qe C σ H4 y U u N _ A p r4 E) λd' s5 i=>?_;let⟨z2,O,J,L,k2,e2,q5⟩:=i;subst e2;cases L;show yC ⟨O,J,q5⟩
def sW:(Ϙ:π)<2^63:=by rw[yh];decide
def sX:hG X (binaryOp .Add) (λx y H Q=>∃i j,x=.str i/\y=.str j/\i.length+j.length<=Ϙ/\Q (.str<|i++j) H):=by intro qe s σ H x y v u Q I c e h;let⟨i,j,rfl,rfl,a,q⟩:=h;let⟨t,rfl⟩:=c;let⟨d,rfl⟩:=e;show add_str (λd tk=>{.str<|i++j,H,I.tok _,{_,rfl},q}) a
def vals1(r:Vals [x] us):∃u,us=[u]/\RelV x u:=by cases r with|cons c a=>cases a;show{_,rfl,c}
def vals2(r:Vals [x,y] us):∃u a,us=[u,a]/\RelV x u/\RelV y a:=by cases r with|cons c e=>cases e with|cons d g=>cases g;show{_,_,rfl,c,d}
def Hd(c:X.calm=ϱ):eW X (.builtin "max") (λxs H Q=>∃i j,xs=[.int i,.int j]/\Q (.int<|if j>i then j else i) H):=by intro qe s σ H xs us Q I r h;let⟨i,j,rfl,q⟩:=h;let⟨u,e,rfl,⟨t,rfl⟩,⟨d,rfl⟩⟩:=vals2 r;show max_two_ints (I.ok.hd c) λh' tk k=>{_,H,I.kept k,?_,q};by_cases a:j>i;rw[qc a,qc a];show{_,rfl};rw[qa a,qa a];show{_,rfl}
def He(c:X.calm=ϱ):eW X (.builtin "min") (λxs H Q=>∃i j,xs=[.int i,.int j]/\Q (.int<|if j<i then j else i) H):=by intro qe s σ H xs us Q I r h;let⟨i,j,rfl,q⟩:=h;let⟨u,e,rfl,⟨t,rfl⟩,⟨d,rfl⟩⟩:=vals2 r;show min_two_ints (I.ok.hd c) λh' tk k=>{_,H,I.kept k,?_,q};by_cases a:j<i;rw[qc a,qc a];show{_,rfl};rw[qa a,qa a];show{_,rfl}
def v7:eW X (.type "int") (λxs H Q=>(∃i,xs=[.int i]/\Q (.int i) H)\/∃k,xs=[.bl k]/\Q (.int<|if k then 1 else 0) H):=by intro qe s σ H xs us Q I r h;rcases h with⟨i,rfl,q⟩|⟨k,rfl,q⟩;let⟨u,rfl,t,rfl⟩:=vals1 r;show call_int_int {.int i,H,I,{_,rfl},q};let⟨u,rfl,a⟩:=vals1 r;cases a;show call_int_bool {.int<|if k then 1 else 0,H,I.tok _,{_,rfl},q}
def aah(K:Φ)(x:V)(H:Hp)(n:π):Prop:=match x with|.str y=>y.length<=Ϙ/\n=y.length|.FA y=>y.size<=Ϙ/\n=y.size|.ref p=>(∃xs,fP K H p xs/\n=xs.length)\/∃xs,g_ K H p xs/\n=xs.length|_=>False
def jX:eW X (.builtin "len") (λxs H Q=>∃x n,xs=[x]/\aah X.K x H n/\Q (.int n) H):=by intro qe s σ H xs us Q I r h;let⟨x,n,rfl,e,q⟩:=h;let⟨u,rfl,d⟩:=vals1 r;have hl:=sW;have l:Ϙ=16777216:=yh;cases x with|str y=>(let⟨t,rfl⟩:=d;obtain⟨i,e'⟩:y.length<=Ϙ/\n=y.length:=e;subst e';show len_str `b {.int _,H,I.tok _,{_,rfl},q})|FA y=>(let⟨t,rfl⟩:=d;obtain⟨i,e'⟩:y.size<=Ϙ/\n=y.size:=e;subst e';show PySem.W.len_bytes `b {.int _,H,I.tok _,{_,rfl},q})|ref p=>(cases d;have e':(∃xs,fP X.K H p xs/\n=xs.length)\/∃xs,g_ X.K H p xs/\n=xs.length:=e;rcases e' with⟨xs,hx,e'⟩|⟨xs,hx,e'⟩;subst e';let⟨j,c,pl,g⟩:=I.list hx;have a:=c.length;show Calls.call_len_list pl.isList (by simp only[zr];lia) {.int xs.length,H,I.tok _,{_,by simp only[zr];rw[a]},q};subst e';let⟨j,c,pl,g⟩:=I.tuple hx;have a:=c.length;show len_tuple pl (by simp only[zr];lia) {.int xs.length,H,I.tok _,{_,by simp only[zr];rw[a]},q})|_=>show(show False from e).elim
end
structure Du(h:Γ)(x dx C:ε)(mA:ρ->θ ξ):η where
 obj:h.get? x=ϑ (instObj C dx)
 ns:h.Ns1 dx mA
 ne:dx≠x
set_option tactic.hygienic true in
def Hf{h:Γ}{dx:ε}{mA:ρ->θ ξ}(n:h.Ns1 dx mA):∃od,h.get? dx=ϑ od/\∀name,lookIn name od=ϑ (mA name):=by
 let⟨o,es,ep,c,hd,i,_,hm⟩:=n;show{o,c,λname=>?_};have e:=hm name;unfold nsFind findBy at e;rw[<-Array.find?_toList]at e;unfold lookIn;rw[hd];dsimp only;split;rename_i y q;rw[q]at e;show congrArg some e;rename_i q;rw[q]at e;have a:es.toList.any (·.refKey)=ϰ:=by rw[List.any_eq_false];intro y d;let⟨z,t,g⟩:=i y<|Array.mem_toList_iff.mp d;simp[DictEntry.refKey,g]
 have j:¬es.toList.any (·.refKey)=ϱ:=by rw[a];show zd
 rw[qa j];show congrArg some e
theorem Du.look(I:Du h x dx C mA):∃od,PySem.W.InstAt h x (instObj C dx) C (some od)/\∀name,lookIn name od=ϑ (mA name):=
 let ⟨od,ho,hl⟩:=Hf I.ns
 ⟨od,⟨I.obj,rfl,rfl,ho⟩,hl⟩
section
variable{prog:Ψ}{w:Ω}{A:ϕ}{E:ξ->ζ->η}{s:ζ}{K:Φ}{x dx C f:ε}{mA:ρ->θ ξ}{name:ρ}{v:ξ}
def get_map(X:K.In s.heap)(I:Du s.heap x dx C mA)(e:plainGet K C name=ϱ)(d:hasDictIn K C=ϱ) (ha:findIn K (.ref C) name=ϑ none) (a:mA name=ϑ v) (c:handedIn v=ϱ) (h:Q v {s with toks:=s.toks+1}): wpAny `n A (getAttr (.ref x) name expr) Q E s:=by let⟨od,J,hl⟩:=I.look;show PySem.W.get_value X J (plainGet_of e).1 (PySem.W.findObj_own d ha rfl<|by rw[hl,a]) c h
def Jv(X:K.In s.heap)(I:Du s.heap x dx C mA)(a:plainGet K C name=ϱ) (e:findIn K (.ref C) name=ϑ (some<|.ref f)) (d:isFn K (.ref f)=ϱ) (c:mA name=ϐ) (h:Q (.ref f,[.ref x]) s): wpAny `n A (getMethod (.ref x) name pl) Q E s:=by let⟨od,J,hl⟩:=I.look;show PySem.W.method_fn X J (plainGet_of a).1 (plainGet_of a).2 e (beq_iff_eq.mp d) (by change(lookIn name od).map (·.isSome)=ϑ false;rw[hl,c];rfl) h
def MU(X:K.In s.heap)(I:Du s.heap x dx C mA) (t:findIn K (.ref C) "__setattr__"= some (some<|.builtin "object.__setattr__")) (hp:plainOver K C=ϱ) (o:takerIn K C name=ϑ none) (l:hasDictIn K C=ϱ) (hw:PySem.Within mA ns) (hsz:ns.length<=Ϙ) (h:∀h',Du h' x dx C (λy=>if y=name then some v else mA y)->Heap.SameBut dx s.heap h'->Q () {s with heap:=h',toks:=s.toks+2}): wpAny `n A (setAttr (.ref x) name v) Q E s:=by let⟨od,J,hl⟩:=I.look;show PySem.W.set_plain X J t<|PySem.W.osa_open (s:={s with toks:=s.toks+1}) (r:=none) X J hp o λb=>?_;let⟨cd,j,m⟩:=PySem.W.any_some l;have hx:s.heap.get? x=ϑ {.ref C,some dx,.plain,#[]}:=I.obj;show zb<|zp<|zb<|zb<|wpAny_loadPart hx<|zb<|PySem.W.Looks.here (s:={s with toks:=s.toks+1}) (PySem.W.looks_clsIn X j) ?_;rw[m];show zp (a:=some dx)<|zb<|zp<|zb ?_;show wpAny_nsSet1 (s:={s with toks:=s.toks+1}) I.ns λh' i g=>?_;let⟨z,n,p,c,e,d⟩:=i.count<|PySem.Within.cons name v hw;show zb<|wpAny_lookBehind c (by rw[e];show pastItsLine_dict<|zj d<|by rw[zM];show yH ‹_›) ?_;show zp<|h _ {(g.2 _<|Ne.symm I.ne).trans I.obj,i,I.ne} g
def Jw(X:K.In s.heap)(hm:makesIn K C=ϱ) (hi:findIn K (.ref C) "__init__"= some (some<|.ref f)) (a:PySem.W.typeIn K (.ref f)=ϑ (.type "function")) (h:codeAny `n (A.under<|.builtin "type.__call__" {.ref C::vs,kw}) (.call (.ref f) {.ref `l::vs,kw}) (PySem.W.InitBack `l R) {s with heap:=(s.heap.push emptyDict).push<|instObj C s.heap.objs.size}): codeAny `n A (.call (.ref C) ⟨vs,kw⟩) R s:=by let⟨c,g,d,t,os⟩:=s;show PySem.W.make_core (PySem.W.makes_of X hm) (PySem.W.looks_findIn X hi) (λself=>PySem.W.bind_fn X self a) (.inl rfl) h
end
noncomputable def putF(f:ρ)(v:V):δ (ρ×V)->δ (ρ×V)|[]=>[(f,v)]| (g,x)::r=>if g=f then (g,v)::r else (g,x)::putF f v r
theorem qx(f g:ρ)(v:V):∀fs:δ (ρ×V),(putF f v fs).lookup g=if g=f then some v else fs.lookup g|[]=>by change List.lookup g [(f,v)]=_;by_cases h:g=f;have hb:(g==f)=ϱ:=beq_iff_eq.mpr h;simp only[List.lookup,hb,qc h];have hb:(g==f)=ϰ:=beq_eq_false_iff_ne.mpr h;simp only[List.lookup,hb,qa h]| (k,x)::r=>by have c:=qx f g v r;rw[show putF f v ((k,x)::r)=(if k=f then (k,v)::r else (k,x)::putF f v r) from rfl];by_cases a:k=f;rw[qc a];by_cases h:g=k;have hb:(g==k)=ϱ:=beq_iff_eq.mpr h;simp only[List.lookup,hb,qc<|h.trans a];have hb:(g==k)=ϰ:=beq_eq_false_iff_ne.mpr h;simp only[List.lookup,hb,qa (λe:g=f=>h<|e.trans a.symm)];rw[qa a];by_cases h:g=k;have hb:(g==k)=ϱ:=beq_iff_eq.mpr h;simp only[List.lookup,hb,qa (λe:g=f=>a<|h.symm.trans e)];have hb:(g==k)=ϰ:=beq_eq_false_iff_ne.mpr h;simp only[List.lookup,hb];show c
theorem oZ(f:ρ)(v:V):∀fs:δ (ρ×V),f∈(putF f v fs).map (·.1)/\∀g,g∈fs.map (·.1)->g∈(putF f v fs).map (·.1)|[]=>{by simp[putF],λg h=>by simp at h}| (k,x)::r=>by let⟨i1,i2⟩:=oZ f v r;rw[show putF f v ((k,x)::r)=(if k=f then (k,v)::r else (k,x)::putF f v r) from rfl];by_cases a:k=f;rw[qc a];subst a;show{`d,λg h=>by simpa using h};rw[qa a];show{?_,λg h=>?_};rw[zD];show zo _ i1;rw[zD]at h⊢;rcases ze.mp h with e|e;show ze.mpr<|.inl e;show zo _<|i2 g e
theorem qy(f:ρ)(v:V):∀fs:δ (ρ×V),(putF f v fs).length<=fs.length+1|[]=>by simp[putF]| (k,x)::r=>by have ih:=qy f v r;rw[show putF f v ((k,x)::r)=(if k=f then (k,v)::r else (k,x)::putF f v r) from rfl];by_cases a:k=f;rw[qc a,zM,zM];show yu _;rw[qa a,zM,zM];show yH ‹_›
def gC.some_of(r:gC (some v) o):∃u,o=ϑ u/\RelV v u:=by cases o with|none=>show(show False from r).elim|some u=>show⟨u,rfl,r⟩
def gC.none_of(r:gC none o):o=ϐ:=by cases o with|none=>rfl|some u=>show(show False from r).elim
def Hg(r:RelV v u):handedIn u=ϱ:=by cases v with|aA=>(cases (show u=Value.none from r);rfl)|bl b=>(cases (show u=Value.bool b from r);rfl)|int i=>(let⟨t,e⟩:=(show ∃t,u=Value.int i t from r);cases e;rfl)|str x=>(let⟨t,e⟩:=(show ∃t,u=Value.str x t from r);cases e;rfl)|FA b=>(let⟨t,e⟩:=(show ∃t,u=Value.bytes b t from r);cases e;rfl)|QO b=>(let⟨t,e⟩:=(show ∃t,u=Value.float b t from r);cases e;rfl)|ref a=>(cases (show u=Value.ref a from r);rfl)|ty n=>cases (show u=Value.type n from r);rfl
section
variable{P:Ψ}{w:Ω}{H:Hp}{h:Γ}{a C dx:ε}{fs:δ (ρ×V)}
def sy(aM:lO P w H h)(e:H a=ϑ (.ins C dx fs)):∃mA,Du h a dx C mA/\(∀f,gC (fs.lookup f)<|mA f)/\PySem.Within mA (fs.map (·.1))/\fs.length<=1000/\H dx=ϑ (.own a):=by let⟨d,z,ne,c,mA,n,r,q⟩:=(show br P w H h a (.ins C dx fs) from aM a _ e);show{mA,⟨c,n,ne⟩,r,q,z,d}
end
structure sA(K:Φ)(C:ε):η where
 pg:plainGet K C Str.empty=ϱ
 hd:hasDictIn K C=ϱ
 po:plainOver K C=ϱ
 sa:findIn K (.ref C) "__setattr__"= some (some<|.builtin "object.__setattr__")
theorem sA.get{K:Φ}{C:ε}(c:sA K C)(f:ρ):plainGet K C f=ϱ:=c.pg
def jY(K:Φ)(C:ε)(f:ρ):Prop:=findIn K (.ref C) f=ϑ none
def jY.VP{K:Φ}{C:ε}{f:ρ}(n:jY K C f):takerIn K C f=ϑ none:=by unfold takerIn;rw[show findIn K (.ref C) f=ϑ none from n];rfl
structure Con(K:Φ)(C:ε)(f:ρ)(v:V)(u:ξ):η where
 at_:findIn K (.ref C) f=ϑ (some u)
 rel:RelV v u
 get:specialIn K u "__get__"= some none
 cp:PySem.W.copiedNames.contains f=ϰ
structure Meth(K:Φ)(C:ε)(m:ρ)(f:ε):η where
 at_:findIn K (.ref C) m=ϑ (some<|.ref f)
 fn:isFn K (.ref f)=ϱ
 kp:keepIn K (.ref f)=ϱ
section
variable{X:Cx}{qe:δ (ε×Obj)}{σ:St}{H:Hp}{s:ζ}{a C dx:ε}{fs:δ (ρ×V)}{f:ρ}{v:V}{A:ϕ}{E:ξ->ζ->η}
def Dw(I:Inv X qe σ H s)(e:H a=ϑ (.ins C dx fs))(c:sA X.K C)(n:jY X.K C f)(l:fs.lookup f=ϑ v) (h:∀u s',Inv X qe σ H s'->RelV v u->Q u s'):wpAny `m A (getAttr (.ref a) f b) Q E s:=by let⟨mA,O,r,_,_,_⟩:=sy I.aM e;let⟨u,hu,d⟩:=gC.some_of (v:=v) (o:=mA f) (by rw[<-l];show r f);show get_map I.oV O (c.get f) c.hd n hu (Hg d)<|h u _ (I.tok _) d
def sY(I:Inv X qe σ H s)(e:H a=ϑ (.ins C dx fs))(c:sA X.K C)(k:Meth X.K C m g)(l:fs.lookup m=ϐ) (h:Q (.ref g,[.ref a]) s):wpAny `m A (getMethod (.ref a) m pl) Q E s:=by let⟨mA,O,r,_,_,_⟩:=sy I.aM e;have hn:mA m=ϐ:=gC.none_of (by rw[<-l];show r m);show Jv I.oV O (c.get m) k.at_ k.fn hn h
def Dx(I:Inv X qe σ H s)(e:H a=ϑ (.ins C dx fs))(c:sA X.K C)(n:jY X.K C f)(hl:fs.length<1000)(p:RelV y u) (h:∀s',Inv X qe σ (upd H a<|.ins C dx<|putF f y fs) s'->Q () s'):wpAny `m A (setAttr (.ref a) f u) Q E s:=by
 let⟨mA,O,r,wi,_,i⟩:=sy I.aM e;have j:(fs.map (·.1)).length<=sizeLine:=by rw[zc,yh];lia
 show MU I.oV O c.sa c.po n.VP c.hd wi j λh' d m=>h _ ?_;have hd:∃o,h'.get? dx=ϑ o:=by let⟨o,_,_,e',_⟩:=d.ns;show⟨o,e'⟩
 show I.write (x:=a) (e:=dx) (by rw[e];show True.intro) (.inr i) (λb q hb z=>(m.2 b hb).trans z) hd ?_;show{by rw[az O.ne];show i,?_,O.ne,d.obj,_,d.ns,λg=>?_,λg l=>?_};have:=qy f y fs;lia;change gC ((putF f y fs).lookup g) (if g=f then some u else mA g);rw[qx];by_cases q:g=f;rw[qc q,qc q];show p;rw[qa q,qa q];show r g;by_cases q:g=f;rw[q];show(oZ f y fs).1;show(oZ f y fs).2 g<|wi g λz=>l ?_;change(if g=f then some u else mA g)=ϐ;rw[qa q];show z
def Inv.made(I:Inv X qe σ H s):Inv X qe σ (upd (upd H s.heap.objs.size<|.own<|s.heap.objs.size+1) `l<|.ins C s.heap.objs.size []) {s with heap:=(s.heap.push emptyDict).push<|instObj C s.heap.objs.size}:=by
 have e1:(s.heap.push emptyDict).get? s.heap.objs.size=ϑ emptyDict:=zl s.heap rfl;have e2:((s.heap.push emptyDict).push<|instObj C s.heap.objs.size).get? `l=ϑ (instObj C s.heap.objs.size):=by have:=zl (s.heap.push emptyDict) (o:=instObj C s.heap.objs.size) rfl;rwa [zS]at this
 have e3:(s.heap.push emptyDict).Ns s.heap.objs.size (λz=>none):={emptyDict,#[],_,e1,rfl,(λe g=>absurd g<|`d),λz=>rfl};have c:=I.laid (a:=s.heap.objs.size) (o:=.own<|s.heap.objs.size+1) (h':=s.heap.push emptyDict) (t':=s.toks) (λb u q=>za _ q) (zm _) {_,e1};show c.laid (a:=s.heap.objs.size+1) (o:=.ins C s.heap.objs.size []) (t':=s.toks) (λb u q=>za _ q) (Nat.le_of_eq<|zS _ _) ?_;have ne:s.heap.objs.size≠s.heap.objs.size+1:=zE<|yn _;show{by rw[az ne,aF],zU _,ne,e2,λz=>none,(Heap.Ns1.of_empty e3).at λo q=>za _ q,λz=>True.intro,λy d=>absurd rfl d}
theorem MV(hb:attributeBase e f env (eval e env)=eval e env) (h:wpAny `n A (eval e env) (λo bh=>wpAny `n A (getAttr o f true) Q E bh) E s):wpAny `n A (eval (.Attribute e f pos) env) Q E s:=Attribute_any_ h<|by rw[arm_eval_Attribute,hb]
end
def aai(K:Φ)(ta:TE)(f:ρ):TE:=λσ H Q=>ta σ H λx H1=>∃a C dx fs v,x=.ref a/\H1 a=ϑ (.ins C dx fs)/\sA K C/\jY K C f/\fs.lookup f=ϑ v/\Q v H1
def aaj(K:Φ)(ta tv:TE)(f:ρ):TS:=λD σ H=>tv σ H λy H1=>ta σ H1 λx H2=>∃a C dx fs,x=.ref a/\H2 a=ϑ (.ins C dx fs)/\sA K C/\jY K C f/\fs.length<1000/\D.nx σ (upd H2 a<|.ins C dx<|putF f y fs)
section
variable{X:Cx}{o e value:Δ}{f:ρ}{pos pos':Pos}{ta tv:TE}
def Ru(p:PE X e ta)(hb:attributeBase e f X.env (eval e X.env)=eval e X.env):PE X (.Attribute e f pos) (aai X.K ta f):=by intro qe s σ H Q I h;show MV hb<|bz (p qe s σ H _ I h) λu s1 g=>?_;let⟨x,H1,d,o,a,C,dx,fs,v,ex,i,c,n,l,q⟩:=g;subst ex;obtain rfl:u=Value.ref a:=o;show Dw d i c n l λr s2 m j=>⟨v,H1,m,j,q⟩
def Rw(ha:PE X o ta)(r:PE X value tv)(p:swapsWith value (some<|.Attribute o f pos') pos.line X.env=pure false):PS X (.Assign [.Attribute o f pos'] value pos) (aaj X.K ta tv f):=by intro qe s σ H D I h;show plainObj_wpAny_Assign_Attribute (bz (r qe s σ H _ I h) λu s1 v=>?_) p;let⟨y,H1,d,m,q⟩:=v;show bz (ha qe s1 σ H1 _ d q) λw s2 z=>?_;let⟨x,H2,g,i,a,C,dx,fs,ex,e,c,n,l,j⟩:=z;subst ex;obtain rfl:w=Value.ref a:=i;show Dx g e c n l m λA t=>{σ,_,t,j}
end
section
variable{X:Cx}{qe:δ (ε×Obj)}{σ:St}{H:Hp}{s:ζ}{A:ϕ}{E Q:ξ->ζ->η}{c:ξ}{b:χ}
inductive o_ (K:Φ) (H:Hp):V->ξ->η
 |aA:o_ K H .aA (.type "NoneType")
 |bl (x:χ):o_ K H (.bl x) (.type "bool")
 |int (i:ν):o_ K H (.int i) (.type "int")
 |str (x:ρ):o_ K H (.str x) (.type "str")
 |QO (x:UInt64):o_ K H (.QO x) (.type "float")
 |lst {a:ε}{xs:δ V} (e:H a=ϑ (.lst xs)):o_ K H (.ref a) (.type "list")
 |md {a:ε}{o:Obj}{xs:δ V} (e:H a=ϑ (.md o<|.lst xs)):o_ K H (.ref a) (.type "list")
 |tup {a:ε}{xs:δ V} (e:H a=ϑ (.tup xs)):o_ K H (.ref a) (.type "tuple")
 |dK {a:ε}{kvs:δ<|Key×V} (e:H a=ϑ (.dK kvs)):o_ K H (.ref a) (.type "dict")
 |dT {a:ε}{kvs:δ<|δ Key×V} (e:H a=ϑ (.dT kvs)):o_ K H (.ref a) (.type "dict")
 |ins {a C dx:ε}{fs:δ<|ρ×V} (e:H a=ϑ (.ins C dx fs)) (cl:sA K C) (ha:findIn K (.ref C) "__class__"= some (some<|.builtin "object.__class__"))
   (hn:specialIn K (.builtin "object.__class__") "__get__"= some (some<|.builtin "getset_descriptor.__get__")) (htk:PySem.W.takesIn K (.builtin "object.__class__")=ϑ true)
   (hm:mroIn K C (.type "object")=ϑ true):o_ K H (.ref a) (.ref C)
def Hh{u t:ξ}(I:Inv X qe σ H s)(g:RelV x u)(ty:o_ X.K H x t)(e:kitOne X.K t c=ϑ b)(h:∀tk,Q (.bool b) {s with toks:=tk}): wpAny `m A (call (.builtin "isinstance") [u,c]) Q E s:=by cases ty with|aA=>(cases (show u=Value.none from g);show kia_one PySem.W.kitx_none I.oV True.intro e (λz=>nomatch z) h)|bl y=>(cases (show u=Value.bool y from g);show kia_one PySem.W.kitx_bool I.oV True.intro e (λz=>nomatch z) h)|int i=>(let⟨t,q⟩:=(show ∃t,u=Value.int i t from g);cases q;show kia_one PySem.W.kitx_int I.oV True.intro e (λz=>nomatch z) h)|str y=>(let⟨t,q⟩:=(show ∃t,u=Value.str y t from g);cases q;show kia_one PySem.W.kitx_str I.oV True.intro e (λz=>nomatch z) h)|QO y=>(let⟨t,q⟩:=(show ∃t,u=Value.float y t from g);cases q;show kia_one PySem.W.kitx_float I.oV True.intro e (λz=>nomatch z) h)|@lst a xs d=>(cases (show u=Value.ref a from g);let⟨_,_,n,_,h1⟩:=(show br X.prog X.w H s.heap a (.lst xs) from I.aM a _ d);show kia_one kitx_list I.oV {_,h1,rfl} e (λz=>nomatch z) h)|@md a j xs d=>(cases (show u=Value.ref a from g);let⟨_,_,_,n,_,h1⟩:=(show br X.prog X.w H s.heap a (.md j<|.lst xs) from I.aM a _ d);show kia_one kitx_list I.oV {_,h1,rfl} e (λz=>nomatch z) h)|@tup a xs d=>(cases (show u=Value.ref a from g);let⟨_,_,_,p⟩:=(show br X.prog X.w H s.heap a (.tup xs) from I.aM a _ d);let⟨o,h1,h2,_⟩:=p;show kia_one PySem.W.kitx_tuple I.oV ⟨o,h1,h2⟩ e (λz=>nomatch z) h)|@dK a kvs d=>(cases (show u=Value.ref a from g);let⟨_,_,vs,_,p⟩:=(show br X.prog X.w H s.heap a (.dK kvs) from I.aM a _ d);let⟨o,es,ep,h1,h2,_⟩:=p;show kia_one PySem.W.kitx_dict I.oV ⟨o,h1,h2.1⟩ e (λz=>nomatch z) h)|@dT a kvs d=>show False.elim (show br X.prog X.w H s.heap a (.dT kvs) from I.aM a _ d)|@ins a C dx fs d cl ha hn htk hm=>cases (show u=Value.ref a from g);let⟨mA,O,_⟩:=sy I.aM d;let⟨od,J,_⟩:=O.look;show kia_one (PySem.W.kitx_own (cl.get _) cl.hd ha hn htk hm) I.oV J e (λz=>nomatch z) h
end
structure cq(k:π)(A:ϕ):η where
 hd:A.handled=ϐ
 dp:A.depth+3*k+5<recursionLimit
 un:A.units+16*k+200<cLine
theorem cq.mono(r:cq k A)(h:j<=k):cq j A:={r.hd,by have:=r.dp;lia,by have:=r.un;lia}
theorem cq.deeper(r:cq (k+1) A)(env:Env):cq k (A.deeper env):={r.hd,by have:=r.dp;change A.depth+1+3*k+5<_;lia,by have:=r.un;change A.units+3+16*k+200<_;lia}
theorem cq.in1(r:cq (k+1) A):cq k A.in1:={r.hd,by have:=r.dp;change A.depth+3*k+5<_;lia,by have:=r.un;change A.units+1+16*k+200<_;lia}
def Dy{A:ϕ}{C:ε}{us:δ ξ}{kw:δ<|ρ×ξ} : (A.under<|.builtin "type.__call__" {.ref C::us,kw}).depth=A.depth+1:=by first|rfl|simp[Around.under,Code.weight,Code.isCreation,Code.isGuard,Code.isCaller,Code.frames,Code.isFrame,guardIds]
def Dz{A:ϕ}{C:ε}{us:δ ξ}{kw:δ<|ρ×ξ} : (A.under<|.builtin "type.__call__" {.ref C::us,kw}).units=A.units+1:=by first|rfl|simp[Around.under,Code.cUnits,Code.frames,Code.isFrame]
theorem cq.make(r:cq (k+1) A)(C:ε)(us:δ ξ)(kw:δ<|ρ×ξ):cq k (A.under<|.builtin "type.__call__" {.ref C::us,kw}):={r.hd,by have:=r.dp;rw[Dy];lia,by have:=r.un;rw[Dz];lia}
def cq.depth(r:cq k A):A.depth<recursionLimit:=by have:=r.dp;lia
def cq.units(r:cq k A):A.units+64<cLine:=by have:=r.un;lia
def aal:TA:=λz H Q=>Q [] H
def Pp(ta:TE)(a:TA):TA:=λσ H Q=>ta σ H λx H1=>a σ H1 λxs H2=>Q (x::xs) H2
section
variable{X:Cx}{e:Δ}{es:δ Δ}{te:TE}{t:TA}{pos:Pos}
theorem DB:PA X [] aal:=λz z z z H Q I h=>Calls.spliced_nil {[],H,I,.nil,h}
def MW(ha:PE X e te)(hr:PA X es t)(a:ψ (starEach (e::es) X.env=`j::starEach es X.env) qQJ):PA X (e::es) (Pp te t):=by intro pos qe s σ H Q I h;rw[a];change wpAny _ _ (spliced<|`j::backTo pos (starEach es X.env)) _ _ s;show yO<|bz (ha qe s σ H _ I h) λu s1 d=>?_;let⟨x,H1,c,m,j⟩:=d;show bz (hr pos qe s1 σ H1 _ c j) <| by rintro us s2 ⟨xs,H2,g,i,l⟩;show{x::xs,H2,g,.cons m i,l}
def aam(t:TA):TE:=λσ H Q=>t σ H λxs H1=>xs.length<=Ϙ/\∀p,H1 p=ϐ->Q (.ref p) (upd H1 p<|.tup xs)
def aan(t:TA):TE:=λσ H Q=>t σ H λxs H1=>xs.length<=Ϙ/\∀p,H1 p=ϐ->Q (.ref p) (upd H1 p<|.lst xs)
def Rx{x1}(h:PA X es t):PE X (.Tuple es x1 pos) (aam t):=by intro qe s σ H Q I hq;show wpAny_Tuple_spliced<|bz (h pos qe s σ H _ I hq) λus s1 c=>?_;let⟨xs,H1,a,r,z,q⟩:=c;show{by rw[<-r.length];show z,?_};have d:H1 s1.heap.objs.size=ϐ:=a.aM.fresh<|zm _;show{.ref s1.heap.objs.size,upd H1 s1.heap.objs.size<|.tup xs,a.laid (t':=s1.toks) (λb u e=>za _ e) (zm _) ?_,rfl,q _ d};show{z,us,r,{_,zl _ rfl,rfl,rfl,_,rfl}}
def Ry(h:PA X es t):PE X (.List es pos) (aan t):=by intro qe s σ H Q I hq;show wpAny_List_spliced<|bz (h pos qe s σ H _ I hq) λus s1 c=>?_;let⟨xs,H1,a,r,z,q⟩:=c;show{by rw[<-r.length];show z,?_};have d:H1 s1.heap.objs.size=ϐ:=a.aM.fresh<|zm _;show{.ref s1.heap.objs.size,upd H1 s1.heap.objs.size<|.lst xs,a.laid (t':=s1.toks) (λb u e=>za _ e) (zm _) ?_,rfl,q _ d};show{z,us,0,r,zl _ rfl}
end
abbrev Sp:=δ V->Hp->VK->XK->η
abbrev DC:=δ Env->Hp->ζ->XK->ξ->ζ->η
structure xr(P:Ψ)(w:Ω)(K:Φ)(mg:ρ->θ ξ)(base:Γ)(A:ϕ)(outer:δ Env)(s:ζ)(H:Hp):η where
 frames:A.frames=ϑ outer
 mod:Mod K mg base
 bs:∀b o,base.get? b=ϑ o->s.heap.get? b=ϑ o/\H b=ϐ
 G5:base.objs.size<=s.heap.objs.size
 lQ:s.heap.FunFrames base outer
 Jg:∀b∈lP outer,H b=ϐ
 aM:lO P w H s.heap
 bare:AllBare s.gens
def CE(outer:δ Env)(P:Ψ)(w:Ω)(H:Hp)(s:ζ)(Q:VK)(u:ξ)(s':ζ):Prop:=∃v H',s'.os=s.os/\AllBare s'.gens/\Un (lP outer) [] H H' s.heap s'.heap/\lO P w H' s'.heap/\RelV v u/\Q v H'
def CR(CX:DC)(outer:δ Env)(P:Ψ)(w:Ω)(H:Hp)(s:ζ)(Q:VK)(E:XK)(r:Result)(s':ζ):Prop:=match r with|.ok (.ret u)=>CE outer P w H s Q u s'|.ok _=>False|.error e=>CX outer H s E e s'
structure bO(P:Ψ)(w:Ω)(K:Φ)(mg:ρ->θ ξ)(base:Γ)(CX:DC)(k:π)(f:ε)(fd:FuncData)(ps:δ ρ)(sp:Sp):η where
 len:∀vs H Q E,sp vs H Q E->vs.length=ps.length
 run:∀(A:ϕ)(outer:δ Env)(s:ζ)(H:Hp)(args:Args)(us:δ ξ)(vs:δ V)(Q:VK)(E:XK),cq k A->xr P w K mg base A outer s H->BindsTo s fd args (ps.zip us)->Vals vs us->sp vs H Q E ->
  codeAny (model P w) A (.call (.ref f) args) (CR CX outer P w H s Q E) s
theorem bO.mono{P:Ψ}{w:Ω}{K:Φ}{mg:ρ->θ ξ}{base:Γ}{CX:DC}{j k:π}{f:ε}{fd:FuncData}{ps:δ ρ}{sp:Sp}(F:bO P w K mg base CX j f fd ps sp)(h:j<=k): bO P w K mg base CX k f fd ps sp:={F.len,λA outer s H args us vs Q E hr=>F.run A outer s H args us vs Q E<|hr.mono h}
theorem bO.imp{P:Ψ}{w:Ω}{K:Φ}{mg:ρ->θ ξ}{base:Γ}{CX:DC}{k:π}{f:ε}{fd:FuncData}{ps:δ ρ}{sp a:Sp}(F:bO P w K mg base CX k f fd ps sp) (h:∀vs H Q E,a vs H Q E->sp vs H Q E):bO P w K mg base CX k f fd ps a:={λvs H Q E q=>F.len vs H Q E<|h _ _ _ _ q,λA outer s H args us vs Q E hr d hb c e=>F.run A outer s H args us vs Q E hr d hb c<|h _ _ _ _ e}
theorem xr.make{P:Ψ}{w:Ω}{K:Φ}{mg:ρ->θ ξ}{base:Γ}{A:ϕ}{outer:δ Env}{s:ζ}{H:Hp}(e:xr P w K mg base A outer s H)(C:ε)(us:δ ξ)(kw:δ<|ρ×ξ): xr P w K mg base (A.under<|.builtin "type.__call__" {.ref C::us,kw}) outer s H:={by first|show e.frames|(simpa [Around.under,Code.envs,Code.isFrame,pushEnvs]using e.frames),e.mod,e.bs,e.G5,e.lQ,e.Jg,e.aM,e.bare}
section
variable{X:Cx}{qe:δ (ε×Obj)}{σ:St}{H:Hp}{s s':ζ}
theorem Inv.VQ(I:Inv X qe σ H s):xr X.prog X.w X.K X.mg X.base X.A X.stack s H:={I.ok.frames,I.ok.mod,I.bs,zj I.ok.G5 I.sz,I.stack,I.sj,I.aM,I.bare}
def Inv.after(I:Inv X qe σ H s)(h:CE X.stack X.prog X.w H s Q u s'):EP X qe σ Q u s':=by let⟨v,H',os,bare,un,aM,r,q⟩:=h;let⟨a,g,d,t,c⟩:=s';obtain rfl:c=s.os:=os;show{v,H',I.call (h':=a) (g':=g) (d':=d) (t':=t) (ch:=[]) un aM bare λb z=>absurd z<|`d,r,q}
end
def Binds(K:Φ)(fd:FuncData)(ps:δ ρ)(ds:δ ξ):Prop:=∀(s:ζ)(us:δ ξ),K.In s.heap->(us++ds).length=ps.length->BindsTo s fd {us,[]} (ps.zip<|us++ds)
theorem Binds.all{K:Φ}{fd:FuncData}{ps:δ ρ}(h:∀us:δ ξ,us.length=ps.length->bindArgs fd {us,[]}=pure (ps.zip us)):Binds K fd ps []:=λs us z hl=>by rw[List.append_nil]at hl⊢;show .of_eq<|h us hl
def Passes(CX:DC)(X:Cx)(E:XK):Prop:=∀(qe:δ (ε×Obj))(σ:St)(H:Hp)(s:ζ)(e:ξ)(s':ζ),Inv X qe σ H s->CX X.stack H s E e s'->X.xe e s'
section
variable{f C:ε}
structure Mk(K:Φ)(C f:ε):η where
 makes:makesIn K C=ϱ
 init:findIn K (.ref C) "__init__"= some (some<|.ref f)
 fn:isFn K (.ref f)=ϱ
 kp:keepIn K (.ref C)=ϱ
end
section
variable{fd:FuncData}{ps ks:δ ρ}
structure aao(K:Φ)(fd:FuncData)(ps ks:δ ρ)(g:δ ξ->δ ξ->δ ξ)(gV:δ V->δ V->δ V):η where
 to:∀(s:ζ)(us ws:δ ξ),K.In s.heap->(g us ws).length=ps.length->BindsTo s fd {us,ks.zip ws} (ps.zip<|g us ws)
 rel:∀{vs:δ V}{us:δ ξ}{zs:δ V}{ws:δ ξ},Vals vs us->Vals zs ws->Vals (gV vs zs) (g us ws)
variable{g:δ ξ->δ ξ->δ ξ}{gV:δ V->δ V->δ V}
end
structure gI(N P:δ ρ)(sc:Scope):η where
 kind:sc.kind=.function
 co:sc.isCoroutine=ϰ
 gen:sc.isGenerator=ϰ
 nd:N.Nodup
 pre:N.take P.length=P
 par:∀x∈P,sc.names.lookup x=ϑ .local\/sc.names.lookup x=ϑ .cell
 Rz:∀y∈sc.names,y.2≠.free
theorem v8{kindOf:ρ->θ NameKind}{x:ρ} : ∀{a:δ (ρ×ξ)}{m:ρ->θ ξ},(∀v,(x,v)∉a)->bindL kindOf a m x=m x
 |[],_,_=>rfl
 | (n,v)::r,m,h=>by
  unfold bindL;rw[v8 λw hw=>h w<|zo _ hw];split;have:x≠n:=by rintro rfl;show h v zB
  simp[this];rfl
theorem v9{kindOf:ρ->θ NameKind}{x:ρ} : ∀{a:δ (ρ×ξ)}{m:ρ->θ ξ},(∀v,(x,v)∉a)->bindC kindOf a m x=m x
 |[],_,_=>rfl
 | (n,v)::r,m,h=>by
  unfold bindC;rw[v9 λw hw=>h w<|zo _ hw];split;rfl;have:x≠n:=by rintro rfl;show h v zB
  simp[this]
theorem v_{kindOf:ρ->θ NameKind}{x:ρ}{v:ξ} : ∀{P:δ ρ}{vs:δ ξ}{i:π}{m:ρ->θ ξ},P.Nodup->P[i]?=some x->vs[i]?=some v->kindOf x=ϑ .local->bindL kindOf (P.zip vs) m x=ϑ v|[],_,_,_,_,h,_,_=>by simp at h|_::_,[],_,_,_,_,h,_=>by simp at h|p::P,w::vs,0,m,nd,h1,h2,a=>by simp at h1 h2;subst h1;subst h2;change bindL kindOf ((p,w)::P.zip vs) m p=_;unfold bindL;rw[v8 λv c=>(yc.mp nd).1 (List.of_mem_zip c).1,qc a];simp|p::P,w::vs,i+1,m,nd,h1,h2,a=>by change bindL kindOf ((p,w)::P.zip vs) m x=_;unfold bindL;show v_ (i:=i) (yc.mp nd).2 (by simpa using h1) (by simpa using h2) a
theorem wa{kindOf:ρ->θ NameKind}{x:ρ}{v:ξ} : ∀{P:δ ρ}{vs:δ ξ}{i:π}{m:ρ->θ ξ},P.Nodup->P[i]?=some x->vs[i]?=some v->kindOf x≠some .local->bindC kindOf (P.zip vs) m x=ϑ v|[],_,_,_,_,h,_,_=>by simp at h|_::_,[],_,_,_,_,h,_=>by simp at h|p::P,w::vs,0,m,nd,h1,h2,a=>by simp at h1 h2;subst h1;subst h2;change bindC kindOf ((p,w)::P.zip vs) m p=_;unfold bindC;rw[v9 λv c=>(yc.mp nd).1 (List.of_mem_zip c).1,qa a];simp|p::P,w::vs,i+1,m,nd,h1,h2,a=>by change bindC kindOf ((p,w)::P.zip vs) m x=_;unfold bindC;show wa (i:=i) (yc.mp nd).2 (by simpa using h1) (by simpa using h2) a
noncomputable def start(N:δ ρ)(vs:δ V):St:=vs.map some++List.replicate (N.length-vs.length) none
noncomputable def lR(CX:DC)(P:Ψ)(w:Ω)(K:Φ)(mg:ρ->θ ξ)(base:Γ)(N:δ ρ)(qual:ρ)(scope:Scope)(f:ε)(cd:ξ)(A:ϕ)(outer:δ Env)(s:ζ)(H:Hp)(E:XK):Cx where
 prog:=P
 w:=w
 K:=K
 mg:=mg
 base:=base
 A:=A.deeper<|envOfC qual scope s.heap.objs.size f cd
 N:=N
 cS:=s
 rF:=H
 env:=envOfC qual scope s.heap.objs.size f cd
 outer:=outer
 stack:=envOfC qual scope s.heap.objs.size f cd::outer
 ex:=[]
 calm:=true
 fn:=λz=>true
 pn:=[]
 xe:=λe s'=>wpAny (model P w) (A.deeper<|envOfC qual scope s.heap.objs.size f cd) (leaving (envOfC qual scope s.heap.objs.size f cd) e) (λz DD=>CX outer H s E e DD) (λe' DD=>CX outer H s E e' DD) s'
def Bd{sc:Scope}{n:π}{x:ρ}(h:sc.names.lookup x=ϑ .cell):∃c,(cellsFrom n sc.names []).lookup x=ϑ c:=by have q:=PySem.W.cellsFrom_some sc.names n []<|.inl h;show Option.isSome_iff_exists.mp q
def Hi{CX:DC}{P:Ψ}{w:Ω}{K:Φ}{mg:ρ->θ ξ}{base:Γ}{N ps:δ ρ}{qual:ρ}{scope:Scope}{f:ε}{cd:ξ}{A:ϕ}{outer:δ Env}{s s1:ζ}{H:Hp}{E:XK}{us:δ ξ}{vs:δ V} (S:gI N ps scope) (hd:A.handled=ϐ) (d:xr P w K mg base A outer s H) (hl:vs.length=ps.length) (r:Vals vs us) (x:InCallC s s.heap.objs.size (bindL (envOfC qual scope s.heap.objs.size f cd).kindOf (ps.zip us) λZ=>none) (cellsFrom `l scope.names []) (bindC (envOfC qual scope s.heap.objs.size f cd).kindOf (ps.zip us) λZ=>none) s1): Inv (lR CX P w K mg base N qual scope f cd A outer s H E) [] (start N vs) H s1:=by
 have B:ps.length<=N.length:=by have:=congrArg List.length S.pre;rw[yd]at this;lia
 let⟨h1,tk,rfl,m⟩:=x.done;have l:∀b:ε,b∉(lR CX P w K mg base N qual scope f cd A outer s H E).ex:=λb z=>absurd (show b∈([]:δ ε) from z) `d;show{{d.mod,S.kind,rfl,rfl,zm _,λy z c h1 h2=>?_,λy g=>?_,λy c Z h=>?_,λZ=>hd,Around.frames_deeper d.frames,.inr ⟨rfl,rfl⟩,λb z=>absurd z<|l b,d.bs,d.G5,λb Z Z=>l b,λb z=>absurd z<|l b,d.lQ,d.Jg},rfl,d.bare,Un.kept m,{_,x.toInCall.ns,λi y v h1 h2 t=>?_},λy c h=>{_,x.cell y c h},d.aM.fresh<|zm _,λy c h=>?_,λp hp=>absurd (show p∈([]:δ (ε×Obj)) from hp)<|`d,d.aM.kept m,?_};show name_of_addr x.apart (ym h1)<|ym h2;have g:scope.names.lookup y=ϑ .cell\/scope.names.lookup y=ϑ .free:=g;rcases g with g|g;show Bd g;show absurd rfl<|S.Rz _<|ym g;show yU<|x.above y c<|ym h;have hi:i<vs.length:=by unfold start at h2;by_cases hi:i<vs.length;show hi;rw[List.getElem?_append_right<|by simpa using hi]at h2;rw[List.getElem?_replicate]at h2;split at h2<;>cases h2
 have ha:vs[i]?=some v:=by unfold start at h2;rw[List.getElem?_append_left<|by simpa using hi,zx]at h2;cases e:vs[i]? with|none=>(rw[e]at h2;cases h2)|some a=>rw[e]at h2;cases h2;rfl
 let⟨u,hu,o⟩:=r.get ha;have hp:ps[i]?=some y:=by rw[<-S.pre,List.getElem?_take_of_lt<|`b];show h1
 have j:ps.Nodup:=by rw[<-S.pre];show S.nd.sublist<|List.take_sublist _ _
 show{u,o,?_};rcases S.par y (zK hp) with k|k;show .inl {k,v_ j hp hu k};let⟨c,e⟩:=Bd (n:=s.heap.objs.size+1) k;show .inr {.inl k,c,e,?_};have q:=x.cell y c e;rw[wa j hp hu<|by change scope.names.lookup y≠_;rw[k];decide]at q;show q;show d.aM.fresh<|yU<|x.above y c<|ym h;unfold start;change _=N.length;rw[zk,zc,List.length_replicate];lia
def Pq{CX:DC}{P:Ψ}{w:Ω}{K:Φ}{mg:ρ->θ ξ}{base:Γ}{k:π}{f:ε}{name qual:ρ}{params:Arguments}{body:δ Stmt}{scope:Scope}{dV kV doc pm gF ct oc:ξ}{an od:θ ε} {RA:Array<|θ ξ}{N ps:δ ρ}{sp:Sp} (lk:K.lookup f=ϑ {oc,od,.func<|fnOf name qual params body scope dV kV doc pm an gF ct,RA}) (m:codeIn K gF qual=ϱ) (S:gI N ps scope) (len:∀vs H Q E,sp vs H Q E->vs.length=ps.length) (B:∀(A:ϕ)(outer:δ Env)(s:ζ)(H:Hp)(vs:δ V)(Q:VK)(E:XK),cq k (A.deeper<|envOfC qual scope s.heap.objs.size f gF)->sp vs H Q E->∃t,Dj (lR CX P w K mg base N qual scope f gF A outer s H E) body t/\t {nx:=λZ H'=>Q .aA H',rt:=Q} (start N vs) H): bO P w K mg base CX (k+1) f (fnOf name qual params body scope dV kV doc pm an gF ct) ps sp:=by
 show{len,λA outer s H args us vs Q E hr d hb r j=>?_};have hl:=len _ _ _ _ j;have KX:K.In s.heap:=d.mod.Ux.keeps λb o e=>(d.bs b o e).1;have i:s.heap.NoLimit:=d.mod.nolimit.keeps λb o e=>(d.bs b o e).1;have l:∀y∈ps.zip us,scope.names.lookup y.1=ϑ .local\/(scope.names.lookup y.1=ϑ .cell/\((cellsFrom `l scope.names []).lookup y.1).isSome=ϱ):=by rintro⟨n,v⟩ z;rcases S.par n (List.of_mem_zip z).1 with q|q;show .inl q;show .inr {q,PySem.W.cellsFrom_some _ _ _<|.inl q}
 show codeAny_call_function hr.depth (KX _ _ lk) rfl S.co S.gen rfl (PySem.W.codeRec_of KX m)<|hb _ _ _ _ ?_;show wpAny_newFunctionEnv_cells S.kind l λenv C s1 x=>?_;subst C;show{i.keeps x.toInCall.keep,codeAny_func ?_};let⟨t,p,hq⟩:=B A outer s H vs Q E (hr.deeper _) j;have I:Inv (lR CX P w K mg base N qual scope f gF A outer s H E) [] (start N vs) H s1:=Hi S hr.hd d hl r x;show yB (p [] s1 (start N vs) H _ I hq) (λfl s' a=>?_) λe s' a=>a;have c:∀{g:St}{H':Hp}{v:V}{u:ξ},Inv (lR CX P w K mg base N qual scope f gF A outer s H E) [] g H' s'->RelV v u->Q v H'->CE outer P w H s Q u s':=λ{g H' v u} J h q=>⟨v,H',J.os,J.bare,J.base,J.aM,h,q⟩;cases fl with|ret u=>(let⟨v,g,H',J,h,q⟩:=a;show c J h q)|next=>(let⟨g,H',J,q⟩:=a;show c (v:=V.aA) (u:=Value.none) J rfl q)|brk=>(let⟨_,_,_,q⟩:=a;show False.elim q)|cont=>let⟨_,_,_,q⟩:=a;show False.elim q
section
variable{X:Cx}{x:ρ}{p pos:Pos}{e:Δ}{es:δ Δ}{t:TA}{id T:String}{r:δ V->Hp->VK->η}
def tCB(r:δ V->Hp->VK->η)(t:TA):TE:=λσ H Q=>t σ H λvs H1=>r vs H1 Q
def Be(g:eW X (.builtin id) r)(m:Gl X x)(hm:X.mg x=ϐ)(c:bootBuiltins x=ϑ (.builtin id))(ha:PA X (e::es) t)(hn:ψ (x≠"__name__") qQZ)(a:ψ ((x==("__debug__": ρ))=ϰ) qQZ) (i:ψ (starEach (e::es) X.env=`j::starEach es X.env) qQJ) (l:ψ ((backTo pos<|starEach es X.env).any (·.1)=ϰ) qQJ):PE X (.Call (.Name x p) (e::es) [] pos) (tCB r t):=by intro qe s σ H Q I h;show wpAny_Call_Name_kw<|fu I m hm c ?_ hn a;show PyProof.Rows.callWith_builtin1 (bz (ha pos qe s σ H _ I h) <| by rintro us s1 ⟨vs,H1,d,n,j⟩;show g qe s1 σ H1 vs us Q d n j) i l
def wb(g:eW X (.type T) r)(m:Gl X x)(hm:X.mg x=ϐ)(c:bootBuiltins x=ϑ (.type T))(ha:PA X (e::es) t)(hn:ψ (x≠"__name__") qQZ)(a:ψ ((x==("__debug__": ρ))=ϰ) qQZ) (i:ψ (starEach (e::es) X.env=`j::starEach es X.env) qQJ) (l:ψ ((backTo pos<|starEach es X.env).any (·.1)=ϰ) qQJ):PE X (.Call (.Name x p) (e::es) [] pos) (tCB r t):=by intro qe s σ H Q I h;show wpAny_Call_Name_kw<|fu I m hm c ?_ hn a;show yj (bz (ha pos qe s σ H _ I h) <| by rintro us s1 ⟨vs,H1,d,n,j⟩;show g qe s1 σ H1 vs us Q d n j) i l
end
end L2
namespace HT
open PySem PyProof.Rows
section
variable{prog:Ψ}{w:Ω}{A:ϕ}{E:ξ->ζ->η}{s:ζ}
def cat_tup{t b:ε}(o:IsTup s.heap t vs.toArray)(hb:IsTup s.heap b ws.toArray)(g:vs≠[]) (h1:ws=[]->Q (.ref t) s) (h2:ws≠[]->Q (.ref s.heap.objs.size) {s with heap:=s.heap.push {cls:=.type "tuple",data:=.seq (vs++ws).toArray}}) (hsz:vs.length+ws.length<=Ϙ):wpAny `n A (binaryOp .Add (.ref t)<|.ref b) Q E s:=by
 let⟨⟨cls,dd,data,sl⟩,c,h,n,hd⟩:=id o;let⟨⟨m,j,data2,l⟩,d,i,n2,a⟩:=id hb;simp only at h hd i a;subst h hd i a;have e:vs.toArray++ws.toArray=(vs++ws).toArray:=`d
 by_cases hw:ws=[];show concat_meets {_,c,rfl} {_,d,rfl} noFill_tuple_add seq_tuple_add PySem.F.slot_tuple_add PySem.F.entry_tuple_add (PySem.F.args_tuple_add_2 _ _) (tuple_addW1 t b vs.toArray ws.toArray n n2 dd j sl l (by simpa using g)<|by simp[hw]) {c,d,h1 hw};show concat_meets {_,c,rfl} {_,d,rfl} noFill_tuple_add seq_tuple_add PySem.F.slot_tuple_add PySem.F.entry_tuple_add (PySem.F.args_tuple_add_2 _ _) (tuple_addW2 t b vs.toArray ws.toArray n n2 dd j sl l (by simpa using g) (by simpa using hw)<|by rw[zr,zr];show hsz) {c,d,?_};rw[e];show h2 hw
noncomputable def sIx(n d:π):θ ν->π|none=>d|some v=>if v<0 then (v+(n:ν)).toNat else min v.toNat n
def sIx_nat(n d k:π):sIx n d (some (k:ν))=min k n:=by change(if (k:ν)<0 then ((k:ν)+(n:ν)).toNat else min (k:ν).toNat n)=min k n;rw[qa<|`b,Int.toNat_natCast]
def sIx_le(n d:π)(hd:d<=n)(o:θ ν):sIx n d o<=n:=by cases o with|none=>show hd|some v=>change(if v<0 then (v+(n:ν)).toNat else min v.toNat n)<=n;by_cases a:v<0;rw[qc a];lia;rw[qa a];show Nat.min_le_right _ _
def clip_eq(v:ν)(n d:π):(if v<0 then max (v+(n:ν)) 0 else min v (n:ν))=((sIx n d (some v):π):ν):=by change(if v<0 then max (v+(n:ν)) 0 else min v (n:ν))=(((if v<0 then (v+(n:ν)).toNat else min v.toNat n):π):ν);by_cases a:v<0;simp only[qc a];lia;simp only[qa a];lia
def adjust_gen(lo hi:θ ν)(n:π):Builtin.Slice.sliceAdjust lo hi 1 (n:ν)=(((sIx n 0 lo:π):ν),((sIx n n hi:π):ν)):=by
 have h1:¬((1:ν)<0):=`b
 unfold Builtin.Slice.sliceAdjust;simp only[h1,if_false];show Prod.ext ?_ ?_;cases lo with|none=>rfl|some v=>show clip_eq v n 0
 cases hi with|none=>rfl|some v=>show clip_eq v n n
def places_gen(i j:π):Builtin.Slice.slicePlaces (i:ν) (j:ν) 1=j-i:=by
 unfold Builtin.Slice.slicePlaces;have h1:(1:ν)>0:=`b
 simp only[h1,if_true,Int.ediv_one];split<;>lia
def slicePart_(p:IsPart v o)(h:Q o s):wpAny `n A (Builtin.Slice.slicePartIndex v) Q E s:=by cases p with|none=>show slicePart_none h|int i t=>show slicePart_int h
def sliceApplied_gen{sl:ε}{c d:ξ}{lo hi:θ ν}{n:π}{Q:ν×ν×π->ζ->η}(j:s.heap.IsSliceOf sl c d .none)(pl:IsPart c lo)(i:IsPart d hi) (h:Q (((sIx n 0 lo:π):ν),1,sIx n n hi-sIx n 0 lo) s):wpAny `n A (Builtin.Slice.sliceApplied (.ref sl)<|pure (n:ν)) Q E s:=by let⟨os,a,g,e⟩:=id j;unfold Builtin.Slice.sliceApplied Builtin.Slice.sliceFields;show zb<|zb<|zP a e (x:=c) rfl<|zb<|zP a e (x:=d) rfl<|zb<|zP a e (x:=.none) rfl<|zp ?_;show zb<|slicePart_none ?_;change wpAny _ _ (if ((1:ν)==0)=ϱ then _ else _) _ _ s;rw[qa<|`a];show zb<|slicePart_ pl<|zb<|slicePart_ i<|zb<|zp ?_;change wpAny _ _ (match Builtin.Slice.sliceAdjust lo hi 1 (n:ν) with|(lo,hi)=>pure (lo,(1:ν),Builtin.Slice.slicePlaces lo hi 1)) _ _ s;rw[adjust_gen lo hi n];change wpAny _ _ (pure (((sIx n 0 lo:π):ν),(1:ν),Builtin.Slice.slicePlaces ((sIx n 0 lo:π):ν) ((sIx n n hi:π):ν) 1)) _ _ s;rw[places_gen];show zp h
def pick_gen(xs:Array ξ)(i k:π):((List.range k).filterMap λ(m:π)=>xs[((i:ν)+(m:ν)*1).toNat]?).toArray=((xs.toList.drop i).take k).toArray:=by
 have e:(λ(m:π)=>xs[((i:ν)+(m:ν)*1).toNat]?)=λm=>xs[i+m]?:=by funext m;have:((i:ν)+(m:ν)*1).toNat=i+m:=`b;rw[this]
 rw[e];have:=pick_run xs i k;rw[List.filterMap_map]at this;have e2:((λx=>xs[x]?) ∘ λx=>i+x)=λm=>xs[i+m]?:=rfl;rw[e2]at this;rw[this]
def getItem_tuple_cut{t sl:ε}{items:Array ξ}{i j:ξ}{lo hi:θ ν}{Q:ξ->ζ->η}(c:IsTup s.heap t items)(l:s.heap.IsSliceOf sl i j .none)(pl:IsPart i lo)(n:IsPart j hi) (hw:¬(sIx items.size 0 lo=0/\sIx items.size items.size hi=items.size)) (h:Q (.ref s.heap.objs.size) {s with heap:=s.heap.push {cls:=.type "tuple",data:=.seq ((items.toList.drop<|sIx items.size 0 lo).take<|sIx items.size items.size hi-sIx items.size 0 lo).toArray}}) (hsz:items.size<=Ϙ):wpAny `n A (getItem (.ref t)<|.ref sl) Q E s:=by
 have a:sizeOk (.seq ((items.toList.drop<|sIx items.size 0 lo).take<|sIx items.size items.size hi-sIx items.size 0 lo).toArray):=by change((items.toList.drop<|sIx items.size 0 lo).take<|sIx items.size items.size hi-sIx items.size 0 lo).toArray.size<=Ϙ;rw[zr,yd,yP,yw];omega
 have p:sIx items.size items.size hi<=items.size:=sIx_le _ _ (zm _) hi;let⟨os,o,d,r⟩:=id l;have e:s.TypeIs (.ref sl) "slice":=⟨os,o,d⟩;unfold getItem;try with_reducible show yQ ?_
 first|show zb (zp ?_)|skip
 show zb<|wpAny_sequenceKey c.typeIs `a ?_;show zb<|yp (name:=Str.ofString "__getitem__") c.typeIs PyProof.Rows.slot_tuple_getitem<|yz PyProof.Rows.slot_tuple_getitem c.typeIs entry_tuple_getitem ?_<|args_tuple_getitem _ _;change wpAny _ _ (Builtin.Tuple.tupleItemsOf (.ref t) >>=_) _ _ s;show zb<|tupleItemsOf_ c ?_;show zb<|wpAny_typeOf e ?_;rw[qc<|`a];show zb<|sliceApplied_gen l pl n ?_;have g:¬((((sIx items.size 0 lo:π):ν)==0&&(1:ν)==1&&(sIx items.size items.size hi-sIx items.size 0 lo)==items.size)=ϱ):=by intro q;rw[zN,zN]at q;have v:((sIx items.size 0 lo:π):ν)=0:=eq_of_beq q.1.1;have x:sIx items.size items.size hi-sIx items.size 0 lo=items.size:=eq_of_beq q.2;show hw {by show Int.natCast_inj.mp ‹_›,`b}
 change wpAny _ _ (if (((sIx items.size 0 lo:π):ν)==0&&(1:ν)==1&&(sIx items.size items.size hi-sIx items.size 0 lo)==items.size)=ϱ then _ else _) _ _ s;rw[qa g,pick_gen];first|show zb (m:=Builtin.Tuple.tupleExact _) (yq (zp !⟨zp h⟩) a)|show zb (m:=Builtin.Tuple.tupleExact _) (yq (zb<|zp<|zp !⟨zp h⟩) a)|show zb (zb (m:=Builtin.Tuple.tupleExact _)<|yq (zp<|zp !⟨zp h⟩) a)|show zb (zb (m:=Builtin.Tuple.tupleExact _)<|yq (zp !⟨zp h⟩) a)
end
end HT
namespace L2
open PySem PySem.Spec PyProof.Rows
abbrev TO:=St->Hp->(θ ν->Hp->η)->η
def PO(X:Cx)(e:θ Δ)(t:TO):Prop:=∀(qe:δ (ε×Obj))(s:ζ)(σ:St)(H:Hp)(Q:θ ν->Hp->η),Inv X qe σ H s->t σ H Q->wpAny `m X.A (evalPart e X.env) (λu s'=>∃o H',Inv X qe σ H' s'/\IsPart u o/\Q o H') X.xe s
def MZ:TO:=λz H Q=>Q none H
def VU(t:TE):TO:=λσ H Q=>t σ H λx H1=>∃i,x=.int i/\Q (some i) H1
section
variable{X:Cx}{e:Δ}{te:TE}{lo hi:θ Δ}{tl th:TO}{pos p2:Pos}
def M4:PO X none MZ:=by intro qe s σ H Q I h;rw[evalPart_none];show zp {none,H,I,.none,h}
def M5(h:PE X e te):PO X (some e) (VU te):=by intro qe s σ H Q I hw;rw[evalPart_some];show bz (h qe s σ H _ I hw) λu s1 c=>?_;let⟨x,H1,a,g,d⟩:=c;let⟨i,rfl,q⟩:=d;let⟨t,rfl⟩:=g;show{some i,H1,a,.int i t,q}
def UC(X:Cx)(r:V->θ ν->θ ν->Hp->VK->η):Prop:=∀(qe:δ (ε×Obj))(s:ζ)(σ:St)(H:Hp)(x:V)(v vl vu:ξ)(lo hi:θ ν)(sl:ε)(Q:VK),Inv X qe σ H s->RelV x v->s.heap.IsSliceOf sl vl vu .none->IsPart vl lo->IsPart vu hi->r x lo hi H Q->∃T id,typeLookup (.type T) "__getitem__"= pure (some<|.builtin id)/\s.TypeIs v T/\wpAny `m X.A (getItem v<|.ref sl) (EP X qe σ Q) X.xe s
def tSl(r:V->θ ν->θ ν->Hp->VK->η)(te:TE)(tl th:TO):TE:=λσ H Q=>te σ H λx H1=>tl σ H1 λl H2=>th σ H2 λu a=>r x l u a Q
def Bf{r:V->θ ν->θ ν->Hp->VK->η}(hr:UC X r)(E:PE X e te)(hl:PO X lo tl)(hu:PO X hi th):PE X (.Subscript e (.Slice lo hi none p2) pos) (tSl r te tl th):=by intro qe s σ H Q I h;show Subscript_<|bz (E qe s σ H _ I h) λv s1 B=>?_;let⟨x,H1,i,y,o⟩:=B;show wpAny_Slice<|bz (hl qe s1 σ H1 _ i o) λd s2 F=>?_;let⟨l,H2,m,pl,t⟩:=F;show bz (hu qe s2 σ H2 _ m t) λc a C=>?_;let⟨u,g,z,G,n⟩:=C;rw[evalPart_none];show zp ?_;have j:Inv X qe σ g {a with heap:=a.heap.push {cls:=.type "slice",data:=.fields #[d,c,.none]}}:=z.kept (t':=a.toks) λb L q=>za _ q;let⟨T,id,J,p,K⟩:=hr qe {a with heap:=a.heap.push {cls:=.type "slice",data:=.fields #[d,c,.none]}} σ g x v d c l u a.heap.objs.size Q j y (Heap.IsSliceOf.new ..) pl G n;change wpAny `m X.A (subscriptTail e (.Slice lo hi none p2) v<|.ref a.heap.objs.size) (EP X qe σ Q) X.xe {a with heap:=a.heap.push {cls:=.type "slice",data:=.fields #[d,c,.none]}};show tail_any (ops:=[.ref a.heap.objs.size,v]) p J K<|by with_unfolding_all rfl
noncomputable def Bh(xs:δ V)(lo hi:θ ν):δ V:=(xs.drop<|HT.sIx xs.length 0 lo).take<|HT.sIx xs.length xs.length hi-HT.sIx xs.length 0 lo
def qz(xs:δ V)(lo hi:θ ν):(Bh xs lo hi).length<=xs.length:=by unfold Bh;rw[yd,yP];lia
def aas(K:Φ):V->θ ν->θ ν->Hp->VK->Prop:=λx lo hi H Q=>∃a xs,x=.ref a/\g_ K H a xs/\¬(HT.sIx xs.length 0 lo=0/\HT.sIx xs.length xs.length hi=xs.length)/\∀p,H p=ϐ->Q (.ref p) (upd H p<|.tup<|Bh xs lo hi)
def RC:UC X (aas X.K):=by
 intro qe s σ H x v m p lo hi sl Q I i l pl j h;let⟨a,xs,rfl,hx,hw,q⟩:=h;cases i;let⟨g,r,e,d⟩:=I.tuple hx;have c:g.toArray.size=xs.length:=by rw[zr];show r.length.symm
 show{"tuple",_,PyProof.Rows.slot_tuple_getitem.lookup,e.typeIs,?_};show HT.getItem_tuple_cut e l pl j (by rw[c];show hw) ?_ (by rw[c];show d);rw[c];show{.ref s.heap.objs.size,_,I.laid (t':=s.toks) (o:=.tup<|Bh xs lo hi) (λb n q=>za _ q) (zm _) ?_,rfl,q _<|I.aM.fresh<|zm _};show{zj (qz xs lo hi) d,_,(r.drop<|HT.sIx xs.length 0 lo).take<|HT.sIx xs.length xs.length hi-HT.sIx xs.length 0 lo,g6.new _ _}
def VW(K:Φ):R2:=λx y H Q=>∃a b xs ys,x=.ref a/\y=.ref b/\g_ K H a xs/\g_ K H b ys/\xs≠[]/\xs.length+ys.length<=Ϙ/\(ys=[]->Q (.ref a) H)/\(ys≠[]->∀p,H p=ϐ->Q (.ref p) (upd H p<|.tup<|xs++ys))
def Vals.sC(r:Vals xs us):us=[]↔xs=[]:=by cases r with|nil=>simp|cons _ _=>simp
def M6:hG X (binaryOp .Add) (VW X.K):=by intro qe s σ H x y v u Q I g l h;let⟨a,b,xs,ys,rfl,rfl,ha,hb,hx,e,i,j⟩:=h;cases g;cases l;let⟨r,d,m,_⟩:=I.tuple ha;let⟨n,c,p2,_⟩:=I.tuple hb;show HT.cat_tup m p2 (λz=>hx<|d.sC.mp z) (λz=>{.ref a,H,I,rfl,i<|c.sC.mp z}) (λz=>?_) (by rw[<-d.length,<-c.length];show e);show{.ref s.heap.objs.size,_,I.laid (t':=s.toks) (o:=.tup<|xs++ys) (λb p q=>za _ q) (zm _) ?_,rfl,j (λw=>z<|c.sC.mpr w) _<|I.aM.fresh<|zm _};show{by rw[zk];show e,_,d.append c,g6.new _ _}
end
noncomputable def IU(n:π)(i:ν):θ Nat:=if 0<=i then (if i<n then some i.toNat else none) else if -(n:ν)<=i then some (i+n).toNat else none
noncomputable def vi{α:Type}(xs:δ α)(i:ν):θ α:=(IU xs.length i).bind λj=>xs[j]?
def FL(h:IU n i=ϑ j):seqIndex? i n=ϑ j/\j<n/\-(n:ν)<=i/\i<n:=by unfold IU at h;by_cases h0:0<=i;rw[qc h0]at h;by_cases h1:i<n;rw[qc h1]at h;have e:i.toNat=j:=zQ h;show{by rw[seqIndex_of h0 h1,e],`b,`b,h1};rw[qa h1]at h;cases h;rw[qa h0]at h;by_cases h1:-(n:ν)<=i;rw[qc h1]at h;have e:(i+n).toNat=j:=zQ h;show{by rw[seqIndex_neg (Int.not_le.mp ‹_›) h1,e],`b,h1,`b};rw[qa h1]at h;cases h
def xt(h:vi xs i=ϑ v):∃j,seqIndex? i xs.length=ϑ j/\xs[j]?=some v/\j<xs.length/\-(xs.length:ν)<=i/\i<xs.length:=by unfold vi at h;cases e:IU xs.length i with|none=>(rw[e]at h;cases h)|some j=>rw[e]at h;let⟨h1,h2,a,c⟩:=FL e;show⟨j,h1,h,h2,a,c⟩
def eU{α:Type}{xs:δ α}{j:π}{v:α}(h:xs[j]?=some v):vi xs (j:ν)=ϑ v:=by
 have a:j<xs.length:=(zh.mp h).1;have e:IU xs.length (j:ν)=ϑ j:=by unfold IU;rw[qc<|Int.natCast_nonneg _,qc<|y8.mpr ‹_›];simp
 unfold vi;rw[e];show h
def xu(b:Δ):Prop:=∀o i,subscripted b false o i=operate [o,i] (getItem o i)
def VX(X:Cx)(r:R2):Prop:=∀(value slice:Δ)(qe:δ (ε×Obj))(s:ζ)(σ:St)(H:Hp)(x y:V)(v u:ξ)(Q:VK),Inv X qe σ H s->RelV x v->RelV y u->r x y H Q->subscripted slice false v u=operate [v,u] (getItem v u)->wpAny `m X.A (subscriptTail value slice v u) (EP X qe σ Q) X.xe s
def UD(X:Cx)(id:String)(r:V->δ V->Hp->VK->η):Prop:=∀(qe:δ (ε×Obj))(s:ζ)(σ:St)(H:Hp)(x:V)(xs:δ V)(v:ξ)(us:δ ξ)(Q:VK),Inv X qe σ H s->RelV x v->Vals xs us->r x xs H Q->wpAny `m X.A (call (.builtin id)<|v::us) (EP X qe σ Q) X.xe s
section
variable{X:Cx}{a b:Δ}{ta tb:TE}{pos:Pos}
def Pr(hr:VX X r)(ha:PE X a ta)(hb:PE X b tb)(c:xu b):PE X (.Subscript a b pos) (Uz r ta tb):=by intro qe s σ H Q I h;show Subscript_<|Rj ha hb I h λv u s2 x y H2 d e g q=>hr a b qe s2 σ H2 x y v u Q d e g q<|c _ _
def aat(K:Φ):R2:=λx y H Q=>∃p xs i v,x=.ref p/\y=.int i/\fP K H p xs/\vi xs i=ϑ v/\Q v H
def aau(K:Φ):R2:=λx y H Q=>∃p xs i v,x=.ref p/\y=.int i/\g_ K H p xs/\vi xs i=ϑ v/\Q v H
def aav:R2:=λx y H Q=>∃z i c,x=.str z/\y=.int i/\z.length<=Ϙ/\vi z.cps.toList i=ϑ c/\Q (.str ⟨#[c]⟩) H
def FN:VX X (aat X.K):=by
 intro value slice qe s σ H x y v u Q I l n h e;let⟨p,xs,i,z,rfl,rfl,hq,A,q⟩:=h;cases l;let⟨t,rfl⟩:=n;let⟨o,r,pl,C⟩:=I.list hq;let⟨j,h1,h2,E,m,B⟩:=xt A;let⟨w,d,g⟩:=r.get h2;have hl:=r.length;have hn:=sW;have a:EP X qe σ Q w s:=⟨z,H,I,g,q⟩;by_cases h0:0<=i;have c:i.toNat=j:=by rw[seqIndex_of h0 B]at h1;show zQ h1
 show item_listR pl.isList h0 `b (by rw[c];simpa using d) a e;have c:(i+(o.toArray.size:ν)).toNat=j:=by rw[seqIndex_neg `b m]at h1;rw[zr,<-hl];show zQ h1
 show subscriptTail_builtinR (x:=w) pl.isList.typeIs slot_list_getitem.lookup (wpAny_getItem_list_neg (Q:=λr s'=>r=w/\EP X qe σ Q r s') pl.isList `b (by rw[zr]<;>lia) `b (by rw[c];simpa using d) ⟨rfl,a⟩) e
def Jx:VX X (aau X.K):=by intro value slice qe s σ H x y v u Q I d g h l;let⟨p,xs,i,z,rfl,rfl,hq,m,q⟩:=h;cases d;let⟨t,rfl⟩:=g;let⟨B,r,pl,n⟩:=I.tuple hq;let⟨j,h1,h2,A,o,C⟩:=xt m;let⟨w,e,c⟩:=r.get h2;have hl:=r.length;have hn:=sW;have a:EP X qe σ Q w s:=⟨z,H,I,c,q⟩;show subscriptTail_builtinR (x:=w) pl.typeIs slot_tuple_getitem.lookup (getItem_tuple (j:=j) (Q:=λr s'=>r=w/\EP X qe σ Q r s') pl `b `b (by rw[zr,<-hl];show h1) (by simpa using e) ⟨rfl,a⟩) l
def RD:VX X aav:=by
 intro value slice qe s σ H x y v u Q I a e h g;let⟨z,i,c,rfl,rfl,n,l,q⟩:=h;let⟨t,rfl⟩:=a;let⟨o,rfl⟩:=e;let⟨j,h1,h2,p,d,m⟩:=xt l;have hl:z.cps.toList.length=z.length:=by simp[Str.length]
 rw[hl]at h1 d m;have hn:=sW;show tail_any (typeIs_str s z t) slot_str_getitem.lookup (getItem_str (c:=c) (by have e1:ω (i < -(2^63:ν))=ϰ:=zt `b;have e2:ω (i>=2^63)=ϰ:=zt `b;rw[e1,e2,Bool.or_false]) (by rw[h1];simpa using h2) {.str ⟨#[c]⟩,H,I.tok _,{_,rfl},q}) g
def DF(a:δ ξ)(n j:π)(u:ξ):Obj.mapSeq (·.setIfInBounds j u) {cls:=.type "list",data:=.seq a.toArray n}={cls:=.type "list",data:=.seq (a.set j u).toArray n}:=by simp[Obj.mapSeq]
def Inv.lst(I:Inv X qe σ H s)(h:H p=ϑ (.lst xs)): ∃(a:δ ξ)(n:π),Vals xs a/\s.heap.get? p=ϑ {cls:=.type "list",data:=.seq a.toArray n}/\xs.length<=sizeLine:=by let⟨z,a,n,r,e⟩:=I.aM p _ h;show⟨a,n,r,e,z⟩
def Inv.RE{qe:δ<|ε×Obj}{σ:St}{H:Hp}{s:ζ}{p:ε}{xs ys:δ V}{c its':δ ξ}{n a:π}{f:Obj->Obj}(I:Inv X qe σ H s)(h:H p=ϑ (.lst xs)) (g:s.heap.get? p=ϑ {cls:=.type "list",data:=.seq c.toArray n}) (d:f {cls:=.type "list",data:=.seq c.toArray n}={cls:=.type "list",data:=.seq its'.toArray a}) (r:Vals ys its') (hz:ys.length<=Ϙ) (t:π): Inv X qe σ (upd H p<|.lst ys) {s with heap:=s.heap.update p f,toks:=t}:=by
 have e:(s.heap.update p f).get? p=ϑ {cls:=.type "list",data:=.seq its'.toArray a}:=by rw[yD f g<|by rw[d]<;>rfl,d]
 show I.write (x:=p) (e:=p) (by rw[h];trivial) (.inl rfl) (λb u hb q=>(yA _ _<|Ne.symm hb).trans q) {_,e} ?_;show⟨hz,its',a,r,e⟩
def VY:V->V->V->Hp->(Hp->η)->Prop:=λo i v H Q=>∃p xs k j,o=.ref p/\i=.int k/\H p=ϑ (.lst xs)/\IU xs.length k=ϑ j/\Q (upd H p<|.lst<|xs.set j v)
def set_list:Vz X VY:=by
 intro qe s σ H o i v z A u Q I y ri w h;let⟨p,xs,k,j,rfl,rfl,hp,x,q⟩:=h;cases y;let⟨t,rfl⟩:=ri;let⟨g,n,r,a,m⟩:=I.lst hp;let⟨h1,h2,e,d⟩:=FL x;have hl:=r.length;have hn:=sW;have l:Inv X qe σ (upd H p<|.lst<|xs.set j v) {s with heap:=s.heap.update p (Obj.mapSeq (·.setIfInBounds j u))}:=I.RE hp a (DF g n j u) (r.set w j) (by rw[List.length_set];show m) s.toks;by_cases h0:0<=k;have c:k.toNat=j:=by rw[seqIndex_of h0 d]at h1;show zQ h1
 show PySem.W.ki_setAt a h0 `b (by rw[zr,<-hl];show d) (by rw[c];show{_,l,q});have c:(k+(g.toArray.size:ν)).toNat=j:=by rw[seqIndex_neg `b e]at h1;rw[zr,<-hl];show zQ h1
 show PySem.W.ki_setBack a `b (by rw[zr,<-hl];show e) `b<|by rw[c];show{_,l,q}
def xw(lo hi:θ ν)(n:π):(sliceBounds lo hi none n).1=((HT.sIx n 0 lo:π):ν)/\(sliceBounds lo hi none n).2.1=((HT.sIx n n hi:π):ν)/\(sliceBounds lo hi none n).2.2=1:=by
 show{?_,?_,rfl};cases lo with|none=>simp[sliceBounds,HT.sIx]|some i=>simp only[sliceBounds,HT.sIx,Option.getD_none,show(1:ν)>0 by decide,if_true];by_cases h:i<0;simp only[h,if_true]<;>lia;simp only[h,if_false]<;>lia
 cases hi with|none=>simp[sliceBounds,HT.sIx]|some i=>simp only[sliceBounds,HT.sIx,Option.getD_none,show(1:ν)>0 by decide,if_true];by_cases h:i<0;simp only[h,if_true]<;>lia;simp only[h,if_false]<;>lia
def vj(a:δ ξ)(lo hi:θ ν):slicePick a.toArray lo hi none=((a.drop<|HT.sIx a.length 0 lo).take<|HT.sIx a.length a.length hi-HT.sIx a.length 0 lo).toArray:=by let⟨h1,h2,c⟩:=xw lo hi a.toArray.size;unfold slicePick;rw[h1,h2,c];simp only[sliceRange_one,pick_run,zr]<;>rfl
def aaw(K:Φ):V->θ ν->θ ν->Hp->VK->Prop:=λx lo hi H Q=>∃a xs,x=.ref a/\fP K H a xs/\∀p,H p=ϐ->Q (.ref p) (upd H p<|.lst<|Bh xs lo hi)
def sD:UC X (aaw X.K):=by intro qe s σ H x v m p lo hi sl Q I g j pl i h;let⟨a,xs,rfl,hx,q⟩:=h;cases g;let⟨l,r,d,e⟩:=I.list hx;have c:=r.length;show{"list",_,slot_list_getitem.lookup,d.isList.typeIs,?_};show wpAny_getItem_list_slice d.isList j pl i .none `d ?_ (by rw[zr]<;>lia);rw[vj,<-c];show{.ref s.heap.objs.size,_,I.laid (t':=s.toks) (o:=.lst<|Bh xs lo hi) (λb n q=>za _ q) (zm _) ?_,rfl,q _<|I.aM.fresh<|zm _};show{zj (qz xs lo hi) e,_,0,(r.drop<|HT.sIx xs.length 0 lo).take<|HT.sIx xs.length xs.length hi-HT.sIx xs.length 0 lo,zl _ rfl}
noncomputable def iz:V->χ|.aA=>true|.bl _=>true|.int _=>true|.str _=>true|_=>false
noncomputable def eqV:V->V->χ|.aA,.aA=>true|.bl a,.bl b=>a==b|.bl a,.int b=>((if a then 1 else 0)==b)|.int a,.bl b=>(a==(if b then 1 else 0))|.int a,.int b=>a==b|.str a,.str b=>a==b|_,_=>false
def RF(g:RelV y u)(c:RelV x v)(h:iz y=ϱ)(e:iz x=ϱ):SeqAt.EqAt A s u v (eqV y x):=by cases y with|aA=>(cases g;cases x with|aA=>(cases c;show SeqAt.EqAt.same _)|bl b=>(cases c;show SeqAt.EqAt.none_bool b)|int b=>(let⟨t,rfl⟩:=c;show SeqAt.EqAt.none_int b t)|str b=>(let⟨t,rfl⟩:=c;show SeqAt.EqAt.none_str b t)|_=>show absurd (show false=ϱ from e) zd)|bl a=>(cases g;cases x with|aA=>(cases c;show SeqAt.EqAt.bool_none a)|bl b=>(cases c;show SeqAt.EqAt.bool_bool a b)|int b=>(let⟨t,rfl⟩:=c;show SeqAt.EqAt.bool_int a b t)|str b=>(let⟨t,rfl⟩:=c;show SeqAt.EqAt.bool_str a b t)|_=>show absurd (show false=ϱ from e) zd)|int a=>(let⟨d,rfl⟩:=g;cases x with|aA=>(cases c;show SeqAt.EqAt.int_none a d)|bl b=>(cases c;show SeqAt.EqAt.int_bool a d b)|int b=>(let⟨t,rfl⟩:=c;show SeqAt.EqAt.int_int a d b t)|str b=>(let⟨t,rfl⟩:=c;show SeqAt.EqAt.int_str a d b t)|_=>show absurd (show false=ϱ from e) zd)|str a=>(let⟨d,rfl⟩:=g;cases x with|aA=>(cases c;show SeqAt.EqAt.str_none a d)|bl b=>(cases c;show SeqAt.EqAt.str_bool a d b)|int b=>(let⟨t,rfl⟩:=c;show SeqAt.EqAt.str_int a d b t)|str b=>(let⟨t,rfl⟩:=c;show SeqAt.EqAt.str_str a d b t)|_=>show absurd (show false=ϱ from e) zd)|_=>show absurd (show false=ϱ from h) zd
noncomputable def Bi(x:V)(u:ξ):Bool:=match u with|.none=>eqV .aA x|.bool b=>eqV (.bl b) x|.int i _=>eqV (.int i) x|.str z _=>eqV (.str z) x|_=>false
def DH(r:RelV y u)(f:iz y=ϱ):Bi x u=eqV y x:=by cases y with|aA=>(cases r;rfl)|bl b=>(cases r;rfl)|int i=>(let⟨t,rfl⟩:=r;rfl)|str z=>(let⟨t,rfl⟩:=r;rfl)|_=>show absurd (show false=ϱ from f) zd
theorem nC:∀{xs:δ V}{us:δ ξ},Vals xs us->xs.all iz=ϱ->us.any (Bi x)=xs.any λy=>eqV y x|_,_,.nil,_=>rfl|y::xs,u::us,.cons r t,f=>by rw[List.all_cons,zN]at f;rw[yZ,yZ,DH r f.1,nC t f.2]
theorem iA(c:RelV x v)(a:iz x=ϱ):∀{xs:δ V}{us:δ ξ},Vals xs us->xs.all iz=ϱ->∀u∈us,SeqAt.EqAt A s u v (Bi x u)|_,_,.nil,_=>(λu hu=>by cases hu)|y::xs,u::us,.cons r t,f=>λd hu=>by rw[List.all_cons,zN]at f;rcases ze.mp hu with rfl|hu;rw[DH r f.1];show RF r c f.1 a;show iA c a t f.2 d hu
noncomputable def Hj(x:V)(xs:δ V):Bool:=xs.any λy=>eqV y x
def rIn(K:Φ)(a:χ):R2:=λx y H Q=>∃p xs,y=.ref p/\(fP K H p xs\/g_ K H p xs)/\iz x=ϱ/\xs.all iz=ϱ/\Q (.bl<|if a then !Hj x xs else Hj x xs) H
def pb:hG X (compareOp .In) (rIn X.K false):=by intro qe s σ H x y v u Q I d g h;let⟨p,xs,rfl,hq,c,fs,q⟩:=h;cases g;rcases hq with hq|hq;let⟨a,r,pl,e⟩:=I.list hq;show SeqAt.in_listAt (Bi x) pl.isList (λw hw=>iA d c r fs w<|by simpa using hw) {.bl _,H,I,rfl,?_};rw[show a.toArray.any (Bi x)=a.any (Bi x) by simp,nC r fs];show q;let⟨a,r,pl,e⟩:=I.tuple hq;show SeqAt.in_tupleAt (Bi x) pl (λw hw=>iA d c r fs w<|by simpa using hw) {.bl _,H,I,rfl,?_};rw[show a.toArray.any (Bi x)=a.any (Bi x) by simp,nC r fs];show q
def i4:hG X (compareOp .NotIn) (rIn X.K true):=by intro qe s σ H x y v u Q I d g h;let⟨p,xs,rfl,hq,c,fs,q⟩:=h;cases g;rcases hq with hq|hq;let⟨a,r,pl,e⟩:=I.list hq;show SeqAt.notIn_listAt (Bi x) pl.isList (λw hw=>iA d c r fs w<|by simpa using hw) {.bl _,H,I,rfl,?_};rw[show a.toArray.any (Bi x)=a.any (Bi x) by simp,nC r fs];show q;let⟨a,r,pl,e⟩:=I.tuple hq;show SeqAt.notIn_tupleAt (Bi x) pl (λw hw=>iA d c r fs w<|by simpa using hw) {.bl _,H,I,rfl,?_};rw[show a.toArray.any (Bi x)=a.any (Bi x) by simp,nC r fs];show q
def nD:eW X (.type "list") (λxs H Q=>∃p ys,xs=[.ref p]/\(fP X.K H p ys\/g_ X.K H p ys)/\∀l,H l=ϐ->Q (.ref l) (upd H l<|.lst ys)):=by intro qe s σ H xs us Q I r h;let⟨p,ys,rfl,hq,q⟩:=h;let⟨u,rfl,v⟩:=vals1 r;cases v;have j:∀(a:δ ξ),Vals ys a->ys.length<=Ϙ->∀(h':Γ) (c:π),(∀b o',s.heap.get? b=ϑ o'->h'.get? b=ϑ o')->h'.get? s.heap.objs.size=ϑ {cls:=.type "list",dict:=none,data:=.seq a.toArray c,slots:=#[]}->EP X qe σ Q (.ref s.heap.objs.size) {s with heap:=h'}:=λa d g h' c kp e=>{.ref s.heap.objs.size,_,I.laid (t':=s.toks) kp (zm _)<|show br X.prog X.w _ h' _ (.lst ys) from⟨g,a,c,d,e⟩,rfl,q _<|I.aM.fresh<|zm _};rcases hq with hq|hq;let⟨a,d,pl,g⟩:=I.list hq;have i:=d.length;let⟨o,m,t,n,hd⟩:=pl.isList;show call_list_seq p (.inl rfl) m t hd (λh' c kp e=>j a d g h' c kp e) (by simp only[zr]<;>lia);let⟨a,d,pl,g⟩:=I.tuple hq;have i:=d.length;let⟨o,m,t,n,hd⟩:=pl;show call_list_seq p (.inr rfl) m t hd (λh' c kp e=>j a d g h' c kp e)<|by simp only[zr]<;>lia
def me:eW X (.type "tuple") (λxs H Q=>∃p ys,xs=[.ref p]/\((fP X.K H p ys/\∀l,H l=ϐ->Q (.ref l) (upd H l<|.tup ys))\/(g_ X.K H p ys/\Q (.ref p) H))):=by intro qe s σ H xs us Q I r h;let⟨p,ys,rfl,h⟩:=h;let⟨u,rfl,m⟩:=vals1 r;cases m;rcases h with⟨hq,q⟩|⟨hq,q⟩;let⟨a,c,pl,d⟩:=I.list hq;have i:=c.length;show call_tuple_list pl.isList (λh' kp=>?_) (by simp only[zr]<;>lia);have g:Inv X qe σ H {s with heap:=h'}:=I.kept (t':=s.toks) kp;have j:Inv X qe σ (upd H h'.objs.size<|.tup ys) {s with heap:=h'.push {cls:=.type "tuple",data:=.seq a.toArray}}:=g.laid (t':=s.toks) (λb o e=>za _ e) (zm _)<|show br X.prog X.w _ _ _ (.tup ys) from{d,a,c,g6.new _ _};show{.ref h'.objs.size,_,j,rfl,q _<|g.aM.fresh<|zm _};let⟨a,c,pl,d⟩:=I.tuple hq;show call_tuple_same pl {.ref p,H,I,rfl,q}
def YN(K:Φ)(T:String)(x:V)(H:Hp):Prop:=match x with|.str _=>T ="str"|.int _=>T ="int"|.ref p=>(T ="list"/\∃xs,fP K H p xs)\/(T ="tuple"/\∃o,K.lookup p=ϑ o/\o.cls=.type "tuple"/\o.dict=ϐ)\/(T ="dict"/\((∃kvs,H p=ϑ (.dK kvs))\/∃kvs,H p=ϑ (.dT kvs)))\/(T ="set"/\∃S n,H p=ϑ (.set S n))|_=>False
def Jy{T:String}(I:Inv X qe σ H s)(r:RelV x v)(ty:YN X.K T x H): s.TypeIs v T/\∀a,v=.ref a->∃g,s.heap.get? a=ϑ g/\g.dict=ϐ:=by cases x with|str z=>(let⟨t,rfl⟩:=r;cases (show T ="str" from ty);show{typeIs_str s z t,λy e=>nomatch e})|int i=>(let⟨t,rfl⟩:=r;cases (show T ="int" from ty);show{typeIs_int s i t,λy e=>nomatch e})|ref p=>(cases r;rcases ty with⟨rfl,xs,hq⟩|⟨rfl,o,d,h,hd⟩|⟨rfl,d⟩|⟨rfl,S,n,d⟩;let⟨j,_,pl,_⟩:=I.list hq;show{pl.isList.typeIs,λa e=>?_};cases e;let⟨o,n,e,c,hd,_⟩:=pl;show⟨o,e,hd⟩;show{{o,I.oV p o d,h},λa e=>?_};cases e;show{o,I.oV _ o d,hd};have z:∃o,s.heap.get? p=ϑ o/\o.ExactDict:=(by rcases d with⟨kvs,d⟩|⟨kvs,d⟩;let⟨_,_,_,_,o,_,_,e,ex,_⟩:=I.aM p _ d;show⟨o,e,ex⟩;show False.elim<|I.aM p _ d);let⟨o,e,ex⟩:=z;show{⟨o,e,ex.1⟩,λa e2=>?_};cases e2;show⟨o,e,ex.2.1⟩;let⟨o,_,_,_,e,ex,_⟩:=I.aM p _ d;show{⟨o,e,ex.1⟩,λa e2=>?_};cases e2;show⟨o,e,ex.2.1⟩)|_=>show False.elim ty
def aax(K:Φ)(T:String)(r:V->δ V->Hp->VK->η)(to:TE):TE:=λσ H Q=>to σ H λx H1=>YN K T x H1/\r x [] H1 Q
def tBM(K:Φ)(T:String)(r:V->δ V->Hp->VK->η)(to:TE)(t:TA):TE:=λσ H Q=>to σ H λx H1=>YN K T x H1/\t σ H1 λxs H2=>r x xs H2 Q
variable{o e:Δ}{es:δ Δ}{to:TE}{t:TA}{name:ρ}{apos aV:Pos}{T id:String}{r:V->δ V->Hp->VK->η}
def RG(i:PlainAttrs T)(slot:Slot T name id)(j:typeOf (.builtin id)=pure (.type "method_descriptor"))(hm:UD X id r)(d:PE X o to) (g:ψ (attributeBase o name X.env (eval o X.env)=eval o X.env) qQJ) (m:ψ ((apos.endLine==aV.line)=ϱ) qQJ):PE X (.Call (.Attribute o name apos) [] [] aV) (aax X.K T r to):=by intro qe s σ H Q I h;show wpAny_Call_method0_late g m<|bz (d qe s σ H _ I h) λv s1 e=>?_;let⟨x,H1,a,c,ty,l⟩:=e;let⟨h1,h2⟩:=Jy a c ty;show{T,id,i,slot,j,h1,h2,Calls.callWith_builtin rfl<|PySem.evalArgs_none<|hm qe s1 σ H1 x [] v [] Q a c .nil l}
def VZ(n:PlainAttrs T)(slot:Slot T name id)(p:typeOf (.builtin id)=pure (.type "method_descriptor"))(hm:UD X id r)(d:PE X o to)(ha:PA X (e::es) t) (m:ψ (attributeBase o name X.env (eval o X.env)=eval o X.env) qQJ) (j:ψ (((backTo aV<|starEach (e::es) X.env).all (λx=>!x.1)&&(backToKw aV<|keywordEach [] X.env).all (λx=>x.1.isSome)&&ω ((e::es).length+([]:δ Keyword).length+(if ([]:δ Keyword).isEmpty then 0 else 1)<30))=ϱ) qQJ) (z:ψ ((apos.endLine==aV.line)=ϱ) qQJ) (B:ψ (starEach (e::es) X.env=`j::starEach es X.env) qQJ) (i:ψ ((backTo aV<|starEach es X.env).any (·.1)=ϰ) qQJ): PE X (.Call (.Attribute o name apos) (e::es) [] aV) (tBM X.K T r to t):=by intro qe s σ H Q I h;show wpAny_Call_method_late m j z rfl<|bz (d qe s σ H _ I h) λv s1 g=>?_;let⟨x,H1,a,c,ty,y⟩:=g;let⟨h1,h2⟩:=Jy a c ty;show{T,id,n,slot,p,h1,h2,?_};have hA:=ha aV qe s1 σ H1 _ a y;rw[B]at hA⊢;show Calls.callWith_builtin (by change(false||(backTo aV<|starEach es X.env).any (·.1))=ϰ;rw[i]<;>rfl)<|Calls.evalArgs_plain ?_;show bz hA <| by rintro us s2 ⟨vs,H2,l,w,A⟩;show hm qe s2 σ H2 x vs v us Q l c w A
end
def YO(X:Cx)(id:String)(r:V->δ V->Hp->VK->η):Prop:=∀(qe:δ (ε×Obj))(s:ζ)(σ:St)(H:Hp)(x:V)(xs:δ V)(v:ξ)(us:δ ξ)(Q:VK),Inv X qe σ H s->RelV x v->Vals xs us->r x xs H Q->wpAny `m X.A (call (.builtin id)<|v::us) (EP X qe σ Q) X.xe s
def Vals.one:∀{x:V}{us:δ ξ},Vals [x] us->∃u,us=[u]/\RelV x u:=by intro x us h;cases h with|cons r t=>cases t;show{_,rfl,r}
def Vals.two:∀{x y:V}{us:δ ξ},Vals [x,y] us->∃u v,us=[u,v]/\RelV x u/\RelV y v:=by intro x y us h;cases h with|cons r t=>let⟨_,rfl,q⟩:=Vals.one t;show{_,_,rfl,r,q}
theorem Vals.zero:∀{us:δ ξ},Vals [] us->us=[]|_,.nil=>rfl
def Vals.dropLast{xs:δ V}{us:δ ξ}(h:Vals xs us):Vals xs.dropLast us.dropLast:=by induction h with|nil=>show .nil|cons r t a=>cases t with|nil=>show .nil|cons q c=>show .cons r a
theorem Vals.eraseIdx:∀{xs:δ V}{us:δ ξ}(i:π),Vals xs us->Vals (xs.eraseIdx i) (us.eraseIdx i)|_,_,_,.nil=>.nil|_,_,0,.cons _ t=>t|_,_,i+1,.cons r t=>.cons r<|Vals.eraseIdx i t
def DK{α:Type}(l:δ α):l.eraseIdx (l.length-1)=l.dropLast:=by induction l with|nil=>rfl|cons a r c=>cases r with|nil=>rfl|cons b r=>have e:(a::b::r).length-1=((b::r).length-1)+1:=(by have h1:(a::b::r).length=r.length+2:=rfl;have h2:(b::r).length=r.length+1:=rfl;show ‹_›);rw[e,List.eraseIdx_cons_succ,c];all_goals rfl
theorem wc{α:Type} : ∀(l:δ α)(i:π),(l.eraseIdx i).length<=l.length|[],_=>zm _|_::_,0=>yu _|_::r,i+1=>yH<|wc r i
section
variable{X:Cx}{qe:δ (ε×Obj)}{σ:St}{H:Hp}{s:ζ}{l:ε}{xs ys:δ V}
def Inv.M7{a its':δ ξ}{n:π}{f:Array ξ->Array ξ}{t':π}(I:Inv X qe σ H s)(d:H l=ϑ (.lst xs)) (e:s.heap.get? l=ϑ {cls:=.type "list",data:=.seq a.toArray n}) (g:f a.toArray=its'.toArray) (c:Vals ys its') (hz:ys.length<=Ϙ): Inv X qe σ (upd H l<|.lst ys) {s with heap:=s.heap.update l<|Obj.mapSeq f,toks:=t'}:=by have q:=PySem.IsL.update e f;rw[g]at q;show I.write (x:=l) (e:=l) (by rw[d];show trivial) (.inl rfl) (λh u hb hu=>(yA s.heap (Obj.mapSeq f)<|Ne.symm hb).trans hu) {_,q} ?_;show{hz,its',_,c,q}
theorem Inv.aay(I:Inv X qe σ H s)(a:Vals ys aC)(hz:ys.length<=Ϙ): Inv X qe σ (upd H s.heap.objs.size<|.lst ys) {s with heap:=s.heap.push {cls:=.type "list",data:=.seq aC.toArray},toks:=t'}:=I.laid (λz z q=>za _ q) (zm _) {hz,aC,0,a,zl _ rfl}
theorem Inv.fresh(I:Inv X qe σ H s):H s.heap.objs.size=ϐ:=I.aM.fresh<|zm _
def Inv.Hk(I:Inv X qe σ H s)(c:H l=ϑ (.lst xs)):xs.length<=Ϙ/\∃(a:δ ξ)(n:π),Vals xs a/\xs.length=a.length/\s.heap.get? l=ϑ {cls:=.type "list",data:=.seq a.toArray n}:=by let⟨z,a,n,r,e⟩:=I.aM l _ c;show⟨z,a,n,r,r.length,e⟩
def Jz{n:π}(h:n<=Ϙ):Builtin.List.listTooLong n=ϰ:=by unfold Builtin.List.listTooLong;show zt<|Nat.not_lt_of_le ‹_›
end
section
variable{X:Cx}
def M8:V->δ V->Hp->VK->Prop:=λx vs H Q=>∃l xs y,x=.ref l/\vs=[y]/\H l=ϑ (.lst xs)/\xs.length<Ϙ/\Q .aA (upd H l<|.lst<|xs++[y])
def Hl:YO X "list.append" M8:=by intro qe s σ H x vs v us Q I g i h;let⟨l,xs,y,rfl,rfl,c,j,q⟩:=h;cases g;let⟨u,rfl,d⟩:=i.one;let⟨z,a,n,r,hl,e⟩:=I.Hk c;show call_meets F.slot_list_append {_,e,rfl} F.entry_list_append (F.args_list_append_2 _ _) (PySem.list_append l a.toArray n u<|by rw[zr];lia) {e,?_};show{.aA,_,I.M7 (its':=a++[u]) c e `d (r.append<|.cons d .nil) ?_,rfl,q};rw[zk,List.length_singleton];show Nat.lt_of_succ_le ‹_›
def aaz:V->δ V->Hp->VK->Prop:=λx vs H Q=>∃l xs y,x=.ref l/\vs=[]/\H l=ϑ (.lst xs)/\xs[xs.length-1]?=some y/\Q y (upd H l<|.lst xs.dropLast)
def RK:YO X "list.pop" aaz:=by
 intro qe s σ H x vs v us Q I j m h;let⟨l,xs,y,rfl,rfl,d,g,q⟩:=h;cases j;have c:=m.zero;subst c;let⟨z,a,n,r,hl,e⟩:=I.Hk d;let⟨u,hu,i⟩:=r.get g;have o:a.toArray[a.toArray.size-1]?=some u:=by change a.toArray[a.length-1]?=some u;rw[<-Array.getElem?_toList,<-hl];show hu
 show call_meets F.slot_list_pop {_,e,rfl} F.entry_list_pop (F.args_list_pop_1 _) (MeetsSeq.list_pop_last l a.toArray n u o<|by rw[zr];lia) {e,?_};show{y,_,I.M7 (its':=a.dropLast) d e ?_ r.dropLast ?_,i,q};change a.toArray.eraseIdxIfInBounds (a.toArray.size-1)=a.dropLast.toArray;rw[zr,List.eraseIdxIfInBounds_toArray,DK];rw[List.length_dropLast];show zj (Nat.sub_le _ _) ‹_›
def RL:V->δ V->Hp->VK->Prop:=λx vs H Q=>∃l xs i k y,x=.ref l/\vs=[.int i]/\H l=ϑ (.lst xs)/\-(2^63)<=i/\i<2^63/\seqIndex? i xs.length=ϑ k/\xs[k]?=some y/\Q y (upd H l<|.lst<|xs.eraseIdx k)
def JA:YO X "list.pop" RL:=by intro qe s σ H x vs v us Q I g j h;let⟨l,xs,i,k,y,rfl,rfl,c,h1,h2,o,m,q⟩:=h;cases g;let⟨u,rfl,p⟩:=j.one;let⟨t,rfl⟩:=p;let⟨z,a,n,r,hl,e⟩:=I.Hk c;let⟨w,hw,d⟩:=r.get m;show call_meets F.slot_list_pop {_,e,rfl} F.entry_list_pop (F.args_list_pop_2 _ _) (MeetsSeq.list_pop_at l a.toArray n i t k w (fitsIndex_both h1 h2) (by rw[zr,<-hl];show o) (by rw[<-Array.getElem?_toList];show hw)<|by rw[zr];lia) {e,?_};show{y,_,I.M7 (its':=a.eraseIdx k) c e ?_ (r.eraseIdx k) ?_,d,q};change a.toArray.eraseIdxIfInBounds k=(a.eraseIdx k).toArray;rw[List.eraseIdxIfInBounds_toArray];have:=wc xs k;show zj ‹_› ‹_›
def aaA:R2:=λx y H Q=>∃l b xs zs,x=.ref l/\y=.ref b/\H l=ϑ (.lst xs)/\H b=ϑ (.lst zs)/\xs.length+zs.length<=Ϙ/\∀p,H p=ϐ->Q (.ref p) (upd H p<|.lst<|xs++zs)
def JB:hG X (binaryOp .Add) aaA:=by
 intro qe s σ H x y v u Q I g j h;let⟨l,b,xs,zs,rfl,rfl,i,o,p,q⟩:=h;cases g;cases j;let⟨z,c,n,r,hl,e⟩:=I.Hk i;let⟨t,a,n2,m,qA,e2⟩:=I.Hk o;show PySem.P.add_list e e2 ?_ (by rw[zr,zr];lia);have d:c.toArray++a.toArray=(c++a).toArray:=`d
 rw[d];show{.ref _,_,I.aay (t':=s.toks) (r.append m)<|by rw[zk];lia,rfl,q _ I.fresh}
end
section
variable{κ:Type}[DecidableEq κ]
noncomputable def gG(kvs:δ<|κ×V)(k:κ):θ V:=(kvs.find? λa=>ω<|a.1=k).map (·.2)
noncomputable def putK(kvs:δ<|κ×V)(k:κ)(v:V):δ (κ×V):=if (kvs.any λa=>ω<|a.1=k)=ϱ then kvs.map (λa=>if a.1=k then (a.1,v) else a) else kvs++[(k,v)]
noncomputable def qB(kvs:δ<|κ×V)(k:κ):δ (κ×V):=kvs.filter λa=>ω<|a.1≠k
def s_{p:κ×V}{r:δ<|κ×V}{k:κ}(e:p.1=k):gG (p::r) k=ϑ p.2:=by simp[gG,zZ,e]
def tj{p:κ×V}{r:δ<|κ×V}{k:κ}(e:¬p.1=k):gG (p::r) k=gG r k:=by simp[gG,zZ,e]
def qC(kvs:δ<|κ×V)(k:κ)(v:V):(putK kvs k v).length<=kvs.length+1:=by unfold putK;split;rw[zc];show yu _;rw[zk,zM,List.length_nil];show yn _
def gC.iB(r:gC o u):o.isSome=u.isSome:=by cases o with|none=>(cases u with|none=>rfl|some _=>show(show False from r).elim)|some _=>cases u with|none=>show(show False from r).elim|some _=>rfl
def gC.getD{o:θ V}{u:θ ξ}{d:V}{d':ξ}(r:gC o u)(a:RelV d d'):RelV (o.getD d) (u.getD d'):=by cases o with|none=>(cases u with|none=>show a|some _=>show(show False from r).elim)|some _=>cases u with|none=>show(show False from r).elim|some _=>show r
def KV.val{kvs:δ<|κ×V}{vs:δ<|κ×ξ}(r:KV kvs vs)(k:κ):gC (gG kvs k) (valueAt vs k):=by unfold KV at r;induction r with|nil=>show True.intro|@cons p q ps qs h t a=>let⟨h1,h2⟩:=h;by_cases e:p.1=k;have e':q.1=k:=h1.symm.trans e;have b:valueAt (q::qs) k=ϑ q.2:=(by simp[valueAt,zZ,e']);rw[s_ e,b];show h2;have e':¬q.1=k:=λz=>e<|h1.trans z;have b:valueAt (q::qs) k=valueAt qs k:=(by simp[valueAt,zZ,e']);rw[tj e,b];show a
def KV.any{kvs:δ<|κ×V}{vs:δ<|κ×ξ}(r:KV kvs vs)(k:κ):(kvs.any λkv=>ω<|kv.1=k)=vs.any λkv=>ω (kv.1=k):=by unfold KV at r;induction r with|nil=>rfl|cons h t a=>rw[yZ,yZ,a,h.1]
def KV.RM(r:KV kvs vs)(k:κ)(c:RelV y u): KV (kvs.map λkv=>if kv.1=k then (kv.1,y) else kv) (vs.map λkv=>if kv.1=k then (kv.1,u) else kv):=by unfold KV at r⊢;induction r with|nil=>show .nil|@cons p q ps qs h t a=>rw[zD,zD];show .cons ?_ a;let⟨h1,h2⟩:=h;by_cases e:p.1=k;rw[qc e,qc<|h1.symm.trans e];show⟨h1,c⟩;rw[qa e,qa λz=>e<|h1.trans z];show⟨h1,h2⟩
def KV.put(r:KV kvs vs)(k:κ)(a:RelV y u):KV (putK kvs k y) (stored vs k u):=by unfold putK stored;rw[r.any k];by_cases e:(vs.any λc=>ω<|c.1=k)=ϱ;rw[qc e,qc e];show r.RM k a;rw[qa e,qa e];show Paired.snoc r ⟨rfl,a⟩
def KV.drop(r:KV kvs vs)(k:κ):KV (qB kvs k) (without vs k):=by unfold KV at r⊢;unfold qB without;induction r with|nil=>show .nil|@cons p q ps qs h t c=>let⟨h1,h2⟩:=h;rw[yI,yI];by_cases e:p.1=k;have a:¬ω (p.1≠k)=ϱ:=(by simp[e]);have b:¬ω (q.1≠k)=ϱ:=(by simp[h1.symm.trans e]);rw[qa a,qa b];show c;have e':¬q.1=k:=λz=>e<|h1.trans z;have a:ω (p.1≠k)=ϱ:=(by simp[e]);have b:ω (q.1≠k)=ϱ:=(by simp[e']);rw[qc a,qc b];show .cons ⟨h1,h2⟩ c
theorem KV.length{kvs:δ<|κ×V}{vs:δ<|κ×ξ}(r:KV kvs vs):kvs.length=vs.length:=yJ r
theorem JC(kvs:δ<|κ×V)(k:κ):(qB kvs k).length<=kvs.length:=List.length_filter_le _ _
end
def jZ(r:RelV (kV k) u):(aK P w).is k u=ϱ:=by cases k with|inl i=>(let⟨t,e⟩:=(show ∃t,u=Value.int i t from r);subst e;show Ba P w i t)|inr x=>let⟨t,e⟩:=(show ∃t,u=Value.str x t from r);subst e;show jV P w x t
theorem wd:∀{ks:δ Key}{us:δ ξ},Vals (ks.map kV) us->ItemsAre (aK P w) ks us|[],_,r=>(by rw[List.map_nil]at r;cases r;show .nil)|k::ks,_,r=>by rw[zD]at r;cases r with|cons h t=>show .cons (jZ h)<|wd t
abbrev KT(H:Hp):δ (δ Key×V)->δ (δ Key×ε×ξ)->Prop:=Paired λp q=>p.1=q.1/\H q.2.1=ϑ (.tup<|p.1.map kV)/\RelV p.2 q.2.2
def KT.val{H:Hp}{kvs:δ<|δ Key×V}{xs:δ<|δ Key×ε×ξ}(r:KT H kvs xs)(k:δ Key):gC (gG kvs k) ((atKey xs k).map (·.2)):=by induction r with|nil=>show True.intro|@cons p q ps qs h t a=>let⟨h1,_,h2⟩:=h;by_cases e:p.1=k;have e':q.1=k:=h1.symm.trans e;have b:atKey (q::qs) k=ϑ q.2:=(by simp[atKey,zZ,e']);rw[s_ e,b];show h2;have e':¬q.1=k:=λz=>e<|h1.trans z;have b:atKey (q::qs) k=atKey qs k:=(by simp[atKey,zZ,e']);rw[tj e,b];show a
section
variable{P:Ψ}{w:Ω}{H:Hp}{h:Γ}{a:ε}
theorem Pt(ok:lO P w H h)(e:Rd H a u):br P w H h a u:=e.ok ok
theorem nF(ok:lO P w H h)(e:Rd H a<|.dK kvs):kvs.length<=Ϙ/\(a==sysModules)=ϰ/\∃vs,KV kvs vs/\h.DictOf (aK P w) a vs:=show br P w H h a (.dK kvs) from Pt ok e
theorem FO(ok:lO P w H h)(e:H a=ϑ (.dK kvs)):kvs.length<=Ϙ/\(a==sysModules)=ϰ/\∃vs,KV kvs vs/\h.DictOf (aK P w) a vs:=nF ok<|.inl e
def tm(ok:lO P w H h)(e:H a=ϑ (.tup<|ks.map kV)):(tupleKind<|aK P w).is h ks a:=by let⟨_,d,r,o,h1,h2,_,n,c⟩:=(show br P w H h a (.tup<|ks.map kV) from ok a _ e);show{o,d.toArray,n,h1,h2,c,by simpa using wd r}
def tq(ok:lO P w H h)(e:Rd H a<|.dT kvs):kvs.length<=Ϙ/\(a==sysModules)=ϰ/\∃xs,KT H kvs xs/\h.DictOfH (tupleKind<|aK P w) a xs:=by show False.elim<|show br P w H h a (.dT kvs) from Pt ok e
end
def pe(H:Hp)(a:ε)(y:V)(r:θ V):Prop:=(∃kvs k,Rd H a (.dK kvs)/\y=kV k/\r=gG kvs k)\/∃kvs k b,Rd H a (.dT kvs)/\y=.ref b/\H b=ϑ (.tup<|k.map kV)/\r=gG kvs k
def JD(H:Hp)(a:ε)(y v:V)(H':Hp):Prop:=(∃kvs k,H a=ϑ (.dK kvs)/\y=kV k/\kvs.length<Ϙ/\H'=upd H a (.dK<|putK kvs k v))\/∃kvs k b,H a=ϑ (.dT kvs)/\y=.ref b/\H b=ϑ (.tup<|k.map kV)/\kvs.length<Ϙ/\H'=upd H a (.dT<|putK kvs k v)
theorem pe.k{H:Hp}{a:ε}{kvs:δ<|Key×V}{k:Key}(e:H a=ϑ (.dK kvs)):pe H a (kV k) (gG kvs k):=.inl {kvs,k,.inl e,rfl,rfl}
theorem JD.k{H:Hp}{a:ε}{kvs:δ<|Key×V}{k:Key}{v:V}(e:H a=ϑ (.dK kvs))(hl:kvs.length<Ϙ):JD H a (kV k) v (upd H a<|.dK<|putK kvs k v):=.inl ⟨kvs,k,e,rfl,hl,rfl⟩
section
variable{X:Cx}{qe:δ (ε×Obj)}{σ:St}{H:Hp}{s:ζ}{a:ε}{y v:V}{u r:ξ}{o:θ V}{A:ϕ}{E:ξ->ζ->η}
def Inv.big(I:Inv X qe σ H s):sysModules<s.heap.objs.size:=by have h:mainGlobals<s.heap.objs.size:=(I.mod.glob.keeps I.bk).lt;show y9 `a h
def we(hu:A.units+1<cLine)(I:Inv X qe σ H s)(g:pe H a y<|some v)(j:RelV y u)(h:∀c s',Inv X qe σ H s'->RelV v c->Q c s'): wpAny `m A (getItem (.ref a) u) Q E s:=by rcases g with⟨kvs,k,e,i,l⟩|⟨kvs,k,b,e,i,n,l⟩;subst i;let⟨z,hd,vs,rel,dd⟩:=nF I.aM e;let⟨c,hw,d⟩:=gC.some_of (v:=v) (o:=valueAt vs k) (by rw[l];show rel.val k);show wpAny_getItem_of (jZ j) dd.mapOf hw<|h c _ (I.tok _) d;subst i;cases (show u=Value.ref b from j);let⟨z,hd,xs,rel,dd⟩:=tq I.aM e;let⟨c,hw,d⟩:=gC.some_of (v:=v) (o:=(atKey xs k).map (·.2)) (by rw[l];show rel.val k);let⟨p,hp,m⟩:=Option.map_eq_some_iff.mp hw;show wpAny_getItem_heap (tupleKind_room_in1 hu) (tm I.aM n) dd hp ?_;rw[m];show h c _ (I.tok _) d
def aaB(hu:A.units+1<cLine)(I:Inv X qe σ H s)(g:pe H a y o)(d:RelV y u)(h:∀s',Inv X qe σ H s'->Q (.bool o.isSome) s'): wpAny `m A (compareOp .In u<|.ref a) Q E s:=by rcases g with⟨kvs,k,e,c,l⟩|⟨kvs,k,b,e,c,i,l⟩;subst c;let⟨z,hd,vs,rel,dd⟩:=nF I.aM e;show wpAny_in_of (jZ d) hd dd.mapOf ?_;rw[<-(rel.val k).iB,<-l];show h _<|I.tok _;subst c;cases (show u=Value.ref b from d);let⟨z,hd,xs,rel,dd⟩:=tq I.aM e;show wpAny_in_heap (tupleKind_room_in1 hu) (tm I.aM i) hd dd ?_;have q:=(rel.val k).iB;rw[Option.isSome_map]at q;rw[<-q,<-l];show h _<|I.tok _
def M9(hu:A.units+1<cLine)(I:Inv X qe σ H s)(g:pe H a y o)(d:RelV y u)(h:∀s',Inv X qe σ H s'->Q (.bool<|!o.isSome) s'): wpAny `m A (compareOp .NotIn u<|.ref a) Q E s:=by rcases g with⟨kvs,k,e,c,l⟩|⟨kvs,k,b,e,c,i,l⟩;subst c;let⟨z,hd,vs,rel,dd⟩:=nF I.aM e;show wpAny_notIn_of (jZ d) hd dd.mapOf ?_;rw[<-(rel.val k).iB,<-l];show h _<|I.tok _;subst c;cases (show u=Value.ref b from d);let⟨z,hd,xs,rel,dd⟩:=tq I.aM e;show wpAny_notIn_heap (tupleKind_room_in1 hu) (tm I.aM i) hd dd ?_;have q:=(rel.val k).iB;rw[Option.isSome_map]at q;rw[<-q,<-l];show h _<|I.tok _
theorem xx(I:Inv X qe σ H s)(g:Vn<|H a)(d:Heap.SameBut a s.heap h')(c:∃q,h'.get? a=ϑ q)(new:br X.prog X.w (upd H a ob) h' a ob): Inv X qe σ (upd H a ob) {s with heap:=h',toks:=t'}:=I.write (x:=a) (e:=a) g (.inl rfl) (λb q hb z=>(d.2 b hb).trans z) c new
theorem DL(z:kvs.length<=Ϙ)(hd:(a==sysModules)=ϰ)(rel:KV kvs vs)(dd:h'.DictOf (aK P w) a vs): br P w H' h' a (.dK kvs):=⟨z,hd,vs,rel,dd⟩
def Hm(hu:A.units+1<cLine)(I:Inv X qe σ H s)(g:JD H a y v H')(m:RelV y u)(o:RelV v r)(h:∀s',Inv X qe σ H' s'->Q () s'): wpAny `m A (setItem (.ref a) u r) Q E s:=by
 rcases g with⟨kvs,k,e,i,l,c⟩|⟨kvs,k,b,e,i,t,l,c⟩;subst i c;let⟨z,hd,vs,rel,dd⟩:=FO I.aM e;have j:vs.length<=sizeLine:=by rw[<-rel.length];show z
 have hl:(putK kvs k v).length<=sizeLine:=by have:=qC kvs k v;show zj ‹_› ‹_›
 show wpAny_setItem_pairs (hsz:=j) (jZ m) dd λh' d p=>h _ ?_;have n:∃q,h'.get? a=ϑ q:=by let⟨q,_,_,hq,_⟩:=d;show⟨q,hq⟩
 show xx I (by rw[e];show True.intro) p n<|DL hl hd (rel.put k o) d;show False.elim<|I.aM _ _ e
end
section
variable{X:Cx}{qe:δ (ε×Obj)}{σ:St}{H:Hp}{s:ζ}{a:ε}{kvs:δ (Key×V)}{k:Key}{u:ξ}{A:ϕ}{E:ξ->ζ->η}
def V1(I:Inv X qe σ H s)(e:H a=ϑ (.dK kvs))(d:RelV (kV k) u)(l:gG kvs k=ϑ v)(hm:more=[]\/∃x,more=[x]) (h:∀c s',Inv X qe σ (upd H a<|.dK<|qB kvs k) s'->RelV v c->Q c s'):wpAny `m A (call (.builtin "dict.pop")<|.ref a::u::more) Q E s:=by
 let⟨z,hd,vs,rel,dd⟩:=FO I.aM e;let⟨c,hw,j⟩:=gC.some_of (v:=v) (o:=valueAt vs k) (by rw[<-l];show rel.val k);have hp:(keyPart u).isSome=ϱ:=by cases k with|inl i=>(let⟨t,q⟩:=(show ∃t,u=Value.int i t from d);subst q;rfl)|inr x=>let⟨t,q⟩:=(show ∃t,u=Value.str x t from d);subst q;rfl
 have ha:argsOk "dict.pop" {.ref a::u::more,[]}:=by rcases hm with q|⟨x,q⟩;subst q;show PySem.F.args_dict_pop_2 _ _;subst q;show PySem.F.args_dict_pop_3 _ _ _
 show call_meetsIn PySem.F.slot_dict_pop dd.typeIs PySem.F.entry_dict_pop ha (meets_dict_pop_there (aK X.prog X.w) a (jZ d) more hm hp) {vs,c,dd,by rw[<-rel.length];show z,hw,λh' g n=>h c _ ?_ j};have m:∃q,h'.get? a=ϑ q:=by let⟨q,_,_,hq,_⟩:=g;show⟨q,hq⟩
 show xx I (by rw[e];show True.intro) n m<|DL (zj (JC kvs k) z) hd (rel.drop k) g
def V2(I:Inv X qe σ H s)(e:Rd H a<|.dK kvs)(h:∀t s',Inv X qe σ H s'->Q (.int kvs.length t) s'):wpAny `m A (call (.builtin "len") [.ref a]) Q E s:=by let⟨z,hd,vs,rel,dd⟩:=nF I.aM e;show call_len_dict hd dd (by rw[<-rel.length];rw[yh]at z;lia) ?_;rw[<-rel.length];show h _ _<|I.tok _
end
def qD(I:Inv X qe σ H s)(g:pe H a y o):s.TypeIs (.ref a) "dict":=by rcases g with⟨kvs,k,e,_,_⟩|⟨kvs,k,b,e,_,_,_⟩;let⟨_,_,vs,_,dd⟩:=nF I.aM e;show dd.typeIs;let⟨_,_,xs,_,dd⟩:=tq I.aM e;show dd.typeIs
def V3(td ty tv:TE):TS:=λD σ H=>tv σ H λv H1=>td σ H1 λx H2=>ty σ H2 λy c=>∃a H4,x=.ref a/\JD c a y v H4/\D.nx σ H4
section
variable{X:Cx}{o i value:Δ}{pos pos':Pos}{td ty tv:TE}
def Na(hu:X.A.units+1<cLine)(c:PE X o td)(hi:PE X i ty)(B:PE X value tv)(z:swapsWith value (some<|.Subscript o i pos') pos.line X.env=pure false): PS X (.Assign [.Subscript o i pos'] value pos) (V3 td ty tv):=by intro qe s σ H D I h;show wpAny_Assign_Subscript (bz (B qe s σ H _ I h) λr s1 E=>?_) z;let⟨v,H1,d,m,p⟩:=E;show bz (c qe s1 σ H1 _ d p) λu s2 G=>?_;let⟨x,H2,j,l,t⟩:=G;show bz (hi qe s2 σ H2 _ j t) λN M F=>?_;let⟨y,K,C,w,a,J,ex,g,n⟩:=F;subst ex;obtain rfl:u=Value.ref a:=l;show Hm hu C g w m λL e=>⟨σ,J,e,n⟩
end
theorem JE(h:Γ)(hb:sysModules<h.objs.size):br P w H (h.push {cls:=.type "dict",data:=.dict #[]}) h.objs.size (.dK []):={zU _,beq_eq_false_iff_ne.mpr<|Ne.symm<|zE hb,[],.nil,Heap.DictOf.new h}
def RN:TE:=λz H Q=>∀p,H p=ϐ->Q (.ref p) (upd H p<|.dK [])
section
variable{X:Cx}{pos:Pos}
theorem JF:PE X (.Dict [] [] pos) RN:=λqe s σ H Q I h=>wpAny_Dict_empty {.ref s.heap.objs.size,_,I.laid (a:=s.heap.objs.size) (o:=.dK []) (t':=s.toks) (λz z q=>za _ q) (zm _)<|JE s.heap I.big,rfl,h _<|I.aM.fresh<|zm _}
end
def JG:δ (TE×TE)->St->Hp->(δ (V×V)->Hp->η)->η|[],_,H,Q=>Q [] H| (tk,tv)::r,σ,H,Q=>tk σ H λx H1=>tv σ H1 λy H2=>JG r σ H2 λps a=>Q ((x,y)::ps) a
abbrev VV:δ (V×V)->δ (ξ×ξ)->Prop:=Paired λp q=>RelV p.1 q.1/\RelV p.2 q.2
def PPs(X:Cx)(pos:Pos)(keys:δ<|θ Δ)(values:δ Δ)(a:δ<|TE×TE):Prop:=∀(qe:δ (ε×Obj))(s:ζ)(σ:St)(H:Hp)(Q:δ (V×V)->Hp->η),Inv X qe σ H s->JG a σ H Q->wpAny `m X.A (evalPairs<|pairTrees keys values X.env pos) (λvs s'=>∃ps H',Inv X qe σ H' s'/\VV ps vs/\Q ps H') X.xe s
structure M1(X:Cx)(o:Δ)(m:ρ)(apos:Pos)(e:Δ)(aV:Pos):η where
 base:attributeBase o m X.env (eval o X.env)=eval o X.env
 IV:((backTo aV<|starEach [e] X.env).all (λx=>!x.1)&&(backToKw aV<|keywordEach [] X.env).all (λx=>x.1.isSome)
  && ω (([e]:δ Δ).length+([]:δ Keyword).length+(if ([]:δ Keyword).isEmpty then 0 else 1)<30))=ϱ
 line:(apos.endLine==aV.line)=ϱ
 trees:backTo aV (starEach [e] X.env)=[`j]
structure M2(X:Cx)(o:Δ)(m:ρ)(apos:Pos)(e f:Δ)(aV:Pos):η where
 base:attributeBase o m X.env (eval o X.env)=eval o X.env
 IV:((backTo aV<|starEach [e,f] X.env).all (λx=>!x.1)&&(backToKw aV<|keywordEach [] X.env).all (λx=>x.1.isSome)
  && ω (([e,f]:δ Δ).length+([]:δ Keyword).length+(if ([]:δ Keyword).isEmpty then 0 else 1)<30))=ϱ
 line:(apos.endLine==aV.line)=ϱ
 trees:backTo aV (starEach [e,f] X.env)=[`j,(false,eval f X.env)]
def UE(H:Hp)(a:ε):Prop:=(∃kvs,Rd H a<|.dK kvs)\/∃kvs,Rd H a<|.dT kvs
def xy(I:Inv X qe σ H s)(d:UE H a): s.TypeIs (.ref a) "dict"/\(∀b,Value.ref a=.ref b->∃c,s.heap.get? b=ϑ c/\c.dict=ϐ)/\(a==sysModules)=ϰ:=by rcases d with⟨kvs,e⟩|⟨kvs,e⟩;let⟨_,hd,vs,_,dd⟩:=nF I.aM e;show{dd.typeIs,λb q=>?_,hd};cases q;let⟨c,_,_,h1,h2,_⟩:=dd;show⟨c,h1,h2.2.1⟩;let⟨_,hd,xs,_,dd⟩:=tq I.aM e;show{dd.typeIs,λb q=>?_,hd};cases q;let⟨c,_,_,h1,h2,_⟩:=dd;show⟨c,h1,h2.2.1⟩
section
variable{X:Cx}{qe:δ (ε×Obj)}{σ:St}{H:Hp}{s:ζ}{a:ε}{y d:V}{u r:ξ}{o:θ V}{A:ϕ}{E:ξ->ζ->η}
def RO(hu:A.units+1<cLine)(I:Inv X qe σ H s)(g:pe H a y o)(i:RelV y u)(h:∀d s',Inv X qe σ H s'->RelV (o.getD .aA) d->Q d s'): wpAny `m A (call (.builtin "dict.get") [.ref a,u]) Q E s:=by rcases g with⟨kvs,k,e,c,l⟩|⟨kvs,k,b,e,c,j,l⟩;subst c;let⟨z,hd,vs,rel,dd⟩:=nF I.aM e;show call_meetsIn yE dd.typeIs PySem.F.entry_dict_get (PySem.F.args_dict_get_2 _ _) (meets_dict_get (aK X.prog X.w) a (jZ i) hd) {_,dd.mapOf,h _ _ (I.tok _) ?_};rw[l];show(rel.val k).getD rfl;subst c;cases (show u=Value.ref b from i);let⟨z,hd,xs,rel,dd⟩:=tq I.aM e;show call_meetsIn yE dd.typeIs PySem.F.entry_dict_get (PySem.F.args_dict_get_2 _ _) (meetsH_dict_get (tupleKind<|aK X.prog X.w) a b hd) {tupleKind_room_in1 hu,k,xs,tm I.aM j,dd,h _ _ (I.tok _) ?_};rw[l];show(rel.val k).getD rfl
def RP(hu:A.units+1<cLine)(I:Inv X qe σ H s)(g:pe H a y o)(m:RelV y u)(i:RelV d r)(h:∀j s',Inv X qe σ H s'->RelV (o.getD d) j->Q j s'): wpAny `m A (call (.builtin "dict.get") [.ref a,u,r]) Q E s:=by rcases g with⟨kvs,k,e,c,l⟩|⟨kvs,k,b,e,c,n,l⟩;subst c;let⟨z,hd,vs,rel,dd⟩:=nF I.aM e;show call_meetsIn yE dd.typeIs PySem.F.entry_dict_get (PySem.F.args_dict_get_3 _ _ _) (meets_dict_get_default (aK X.prog X.w) a (jZ m) hd r) {_,dd.mapOf,h _ _ (I.tok _) ?_};rw[l];show(rel.val k).getD i;subst c;cases (show u=Value.ref b from m);let⟨z,hd,xs,rel,dd⟩:=tq I.aM e;show call_meetsIn yE dd.typeIs PySem.F.entry_dict_get (PySem.F.args_dict_get_3 _ _ _) (meetsH_dict_get_default (tupleKind<|aK X.prog X.w) a b hd r) {tupleKind_room_in1 hu,k,xs,tm I.aM n,dd,h _ _ (I.tok _) ?_};rw[l];show(rel.val k).getD i
end
def RQ(td ty:TE):TE:=λσ H Q=>td σ H λx H1=>∃a,x=.ref a/\UE H1 a/\ty σ H1 λy H2=>∃o,pe H2 a y o/\Q (o.getD .aA) H2
def RS(td ty tx:TE):TE:=λσ H Q=>td σ H λx H1=>∃a,x=.ref a/\UE H1 a/\ty σ H1 λy H2=>tx σ H2 λz c=>∃o,pe c a y o/\Q (o.getD z) c
def RT(td ty:TE):TE:=λσ H Q=>td σ H λx H1=>∃a,x=.ref a/\UE H1 a/\ty σ H1 λy H2=>∃kvs k v,H2 a=ϑ (.dK kvs)/\y=kV k/\gG kvs k=ϑ v/\Q v (upd H2 a<|.dK<|qB kvs k)
section
variable{X:Cx}{o e f:Δ}{apos aV:Pos}{td ty tx:TE}
def JH(hu:X.A.units+1<cLine)(i:PE X o td)(z:PE X e ty)(m:M1 X o "get" apos e aV):PE X (.Call (.Attribute o "get" apos) [e] [] aV) (RQ td ty):=by intro qe s σ H Q I h;show wpAny_Call_method m.base m.IV m.line PySem.F.plainAttrs_dict yE PySem.F.type_dict_get<|bz (i qe s σ H _ I h) λu s1 w=>?_;let⟨x,H1,c,n,a,ex,d,p⟩:=w;subst ex;obtain rfl:u=Value.ref a:=n;let⟨C,t2,_⟩:=xy c d;show{C,t2,?_};rw[m.trees];show Calls.callWith_builtin rfl<|Calls.evalArgs_plain<|yO<|bz (z qe s1 σ H1 _ c p) λK s2 B=>?_;let⟨y,H2,l,t,J,g,r⟩:=B;show Calls.spliced_nil ?_;show RO hu l g t λE G v j=>{_,H2,v,j,r}
def JI(hu:X.A.units+1<cLine)(i:PE X o td)(K:PE X e ty)(N:PE X f tx)(m:M2 X o "get" apos e f aV):PE X (.Call (.Attribute o "get" apos) [e,f] [] aV) (RS td ty tx):=by intro qe s σ H Q I h;show wpAny_Call_method m.base m.IV m.line PySem.F.plainAttrs_dict yE PySem.F.type_dict_get<|bz (i qe s σ H _ I h) λu s1 G=>?_;let⟨x,H1,c,r,a,ex,d,w⟩:=G;subst ex;obtain rfl:u=Value.ref a:=r;let⟨M,t2,_⟩:=xy c d;show{M,t2,?_};rw[m.trees];show Calls.callWith_builtin rfl<|Calls.evalArgs_plain<|yO<|bz (K qe s1 σ H1 _ c w) λY s2 L=>?_;let⟨y,H2,p,C,B⟩:=L;show yO<|bz (N qe s2 σ H2 _ p B) λU R J=>?_;let⟨z,n,E,t,S,g,v⟩:=J;show Calls.spliced_nil ?_;show RP hu E g C t λP O j l=>{_,n,j,l,v}
def JJ(g:PE X o td)(B:PE X e ty)(m:M1 X o "pop" apos e aV):PE X (.Call (.Attribute o "pop" apos) [e] [] aV) (RT td ty):=by intro qe s σ H Q I h;show wpAny_Call_method m.base m.IV m.line PySem.F.plainAttrs_dict PySem.F.slot_dict_pop PySem.F.type_dict_pop<|bz (g qe s σ H _ I h) λu s1 A=>?_;let⟨x,H1,c,p,a,ex,d,r⟩:=A;subst ex;obtain rfl:u=Value.ref a:=p;let⟨G,t2,_⟩:=xy c d;show{G,t2,?_};rw[m.trees];show Calls.callWith_builtin rfl<|Calls.evalArgs_plain<|yO<|bz (B qe s1 σ H1 _ c r) λL s2 C=>?_;let⟨y,H2,n,w,kvs,k,v,i,E,l,t⟩:=C;show Calls.spliced_nil ?_;subst E;show V1 n i w l (.inl rfl) λJ K z j=>{v,_,z,j,t}
end
end L2
namespace Att
open PySem PySem.W PySem.Calls PyProof.Rows
def rL{P:Params} : ∀(ns:δ ν)(vs:δ ξ),WellAll P h vs (ns.map WData.int)->IntsAre vs ns:=by intro ns;induction ns with|nil=>(intro vs w;rw[List.map_nil]at w;cases w;show .nil)|cons n ns c=>intro vs w;rw[zD]at w;cases w with|cons a b=>cases a;show .cons _ _<|c _ b
def Hn{l:OpenLaw}{n:π}(hn:l.most=ϑ n){P:Params}{h:Γ}{args:δ WData}{c:δ ξ} (p:l.row.toRowW.claim.pre args=ϱ) (x:WellAll P h c args): ∃a vs ns,c=[Value.ref a]/\args=[WData.list<|ns.map WData.int]/\h.get? a=ϑ {cls:=.type "list",data:=.seq vs.toArray}/\IntsAre vs ns/\ns.length<=n:=by
 have j:WShape.hasAll [] args [.list .int]=ϱ:=(pre_splitW p).1;have o:l.pre.holds [] {args:=args}=ϱ:=(pre_splitW p).2;let⟨d,r,rfl,h1,h2⟩:=hasAllW_cons j;obtain rfl:=hasAllW_nil h2;let⟨xs,rfl,w⟩:=hasW_list h1;let⟨ns,rfl⟩:=items_int w;have e:ns.length<=n:=by unfold OpenLaw.pre at o;have g:(WTm.not<|.lt (.lit<|.int (n:ν))<|.len<|.arg 0).holds [] {args:=[.list<|ns.map .int]}=ϱ:=(by have g:=(holds_andW o).1;rw[hn]at g;show g);have i:=condW_of g<|w_not<|w_lt w_lit<|w_len_list<|w_arg rfl;rw[zc]at i;show Nat.le_of_not_lt λq=>?_;have v:(n:ν)<((ns.length:π):ν):=(by show y8.mpr ‹_›);first| (rw[zu v]at i;show absurd i<|`a)| (simp at i;lia)
 cases x with|cons y t=>cases t;cases y with|list s m=>show{_,_,ns,rfl,rfl,s,rL ns _ m,e}
theorem Ho(l:OpenLaw)(args:δ WData):l.row.toRowW.claim.post args (.bool true) args=ϱ:=postW_of (r:=l.row.toRowW) (X:=(true==true)) (show WShape.has [] (.bool true) .bool=ϱ by first|rfl|decide|simp[WShape.has,WShape.arms,WShape.armsAll]) (show(WTm.eq .res<|.lit<|.bool true).value [] {args:=args,res:=some<|.bool true,after:=args}=ϑ (.bool<|true==true) from w_eq_bool (w_res rfl) w_lit) rfl
def Bj{l:OpenLaw}{n:π}{q:Ψ}{loose:δ ρ}{j:(ρ->θ ξ)->Γ->η}{m:Ω->Γ->η}{d:DefRec} (hn:l.most=ϑ n) (h:d.params.defaults=[]) (call:∀(w:Ω)(cS c:ζ)(mg mb:ρ->θ ξ)(fa:ε)(o:Obj)(pm cd doc:ξ)(a:ε)(vs:δ ξ)(ns:δ ν),Ground q loose [] j w cS mg mb c.heap->m w c.heap->c.heap.get? fa=ϑ o->o.data=.func (docDef d.name d.params d.body d.scope pm cd doc)->c.heap.CodeRec cd d.name->mg d.name=ϑ (.ref fa)->c.heap.get? a=ϑ {cls:=.type "list",data:=.seq vs.toArray}->IntsAre vs ns->ns.length<=n->c.gens=#[]->codeAny (model l.prog w) callerA (.call (.ref fa) {[.ref a],[]}) (λr s'=>r=.ok (.ret<|.bool true)/\OldK c.heap s'.heap/\s'.os=c.os/\AllBare s'.gens) c): WalkO q loose j m l.row.toRowW d [] (λf vs=>PySem.call f vs):=by intro w cS c mg mb G Y fa o pm cd doc dV kV s hd H i E C args p as F B x z A;obtain rfl:dV=.none:=Dflts.none i h;obtain rfl:kV=.none:=Dflts.noKw i;let⟨a,vs,ns,rfl,rfl,t,e,g⟩:=Hn hn F z;show enter_call<|xa (call w cS c mg mb fa o pm cd doc a vs ns G Y s (fd_plain hd) H E t e g C) λr s' hq=>?_;let⟨rfl,h2,y,v⟩:=hq;show{.inl {.bool true,.bool true,[],rfl,λu=>rfl,.bool true,Ho l _,λu=>{List.Pairwise.nil,λu hm=>(nomatch hm)}},h2,y,v}
end Att
namespace L2
open PySem PySem.Spec PyProof.Rows
theorem wg:∀{vs:δ ξ}{ns:δ ν},IntsAre vs ns->Vals (ns.map V.int) vs|_,_,.nil=>.nil|_,_,.cons n t h=>.cons ⟨t,rfl⟩<|wg h
def inClass(s:Stmt)(j:π):Stmt:=match s with|.ClassDef _ _ _ body _ _ _ _ _ _ _=>body.getD j (.Pass {0,0,0,0})|_=>.Pass {0,0,0,0}
def bG(s:Stmt):Arguments:=match s with|.FunctionDef _ a _ _ _ _ _ _ _ _=>a|_=>{posonlyargs:=[],args:=[],vararg:=none,kwonlyargs:=[],kw_defaults:=[],kwarg:=none,defaults:=[]}
def bt(s:Stmt):δ Stmt:=match s with|.FunctionDef _ _ b _ _ _ _ _ _ _=>b|_=>[]
def ag(s:Stmt):Scope:=match s with|.FunctionDef _ _ _ _ _ _ sc _ _ _=>sc|_=>{kind:=.function,names:=[],isGenerator:=false,isCoroutine:=false}
abbrev YQ:DC:=λz z z z z z=>False
abbrev E0:XK:=λz z z=>False
structure Fun(K:Φ)(x qual:ρ)(st:Stmt)(f:ε)(fd:FuncData):η where
 ex:∃(oc:ξ)(od:θ ε)(kV doc pm:ξ)(an:θ ε)(gF ct:ξ)(RA:Array (θ ξ)),
  fd=fnOf x qual (bG st) (bt st) (ag st) .none kV doc pm an gF ct/\K.lookup f=ϑ {oc,od,.func fd,RA}/\codeIn K gF qual=ϱ
 kp:keepIn K (.ref f)=ϱ
theorem lj(h:n<=1000):n<sizeLine:=zR h<|`a
section
variable{X:Cx}
def Hq:eW X (.builtin "len") (λxs H Q=>∃a kvs,xs=[V.ref a]/\H a=ϑ (.dK kvs)/\Q (.int kvs.length) H):=by intro qe s σ H xs us Q I r h;let⟨a,kvs,rfl,ha,q⟩:=h;let⟨u,rfl,c⟩:=vals1 r;cases c;show V2 I (.inl ha) λt s' d=>{.int kvs.length,H,d,⟨t,rfl⟩,q}
end
def aL{A B:η}(h:B):if false=ϱ then A else B:=by rw[qa zd];show h
def bX{A B:η}(h:A):if true=ϱ then A else B:=by rw[qc rfl];show h
section
variable{κ:Type}[DecidableEq κ]
theorem nG:∀{l:δ κ}{k:κ},l.Nodup->¬k∈l->(l++[k]).Nodup|[],k,_,_=>by simp|a::r,k,h,hk=>by let⟨h1,h2⟩:=yc.mp h;change(a::(r++[k])).Nodup;show yc.mpr {λm=>?_,nG h2 λm=>hk<|ze.mpr<|Or.inr m};rcases zL.mp m with q|q;show h1 q;show hk<|ze.mpr<|Or.inl (zC.mp q).symm
end
end L2
set_option maxHeartbeats 4000000
namespace L2
open PySem PySem.Spec PyProof.Rows
section
variable{X:Cx}
noncomputable def IW(i j:ρ):Bool:=!decide (j.cps.toList<i.cps.toList)
noncomputable def qE(i j:ρ):Bool:=ω<|i.cps.toList<j.cps.toList
def rS2(g:ρ->ρ->χ):R2:=λx y H Q=>∃i j,x=.str i/\y=.str j/\Q (.bl<|g i j) H
def Hr:hG X (compareOp .LtE) (rS2 IW):=by intro qe s σ H x y v u Q I a c h;let⟨i,j,rfl,rfl,q⟩:=h;let⟨t,rfl⟩:=a;let⟨d,rfl⟩:=c;show P.le_str<|aO I q rfl
def Ht:hG X (compareOp .GtE) (rS2 λi j=>IW j i):=by intro qe s σ H x y v u Q I a c h;let⟨i,j,rfl,rfl,q⟩:=h;let⟨t,rfl⟩:=a;let⟨d,rfl⟩:=c;show P.ge_str<|aO I q rfl
def Hu:hG X (compareOp .Gt) (rS2 λi j=>qE j i):=by intro qe s σ H x y v u Q I a c h;let⟨i,j,rfl,rfl,q⟩:=h;let⟨t,rfl⟩:=a;let⟨d,rfl⟩:=c;show P.gt_str<|aO I q rfl
def Pu(_ j:ν):Prop:=0<j/\j.natAbs.log2<9000
theorem JK:hG X (binaryOp .FloorDiv) (rI Pu λi j=>.int<|i/j):=YJ λi j z z z z z a q=>by
 have c:j≠0:=by have:=a.1;omega
 show floordiv_int c (by rw[Int.fdiv_eq_ediv_of_nonneg _<|by have:=a.1;omega];show q)<|.inl<|PyProof.noPylong_of_log2 a.2
end
noncomputable def Its(x:ρ):It:={λi z=>i<x.cps.size,λi H v H'=>H'=H/\∃c,x.cps[i]?=some c/\v=.str ⟨#[c]⟩,λi z=>x.cps.size<=i}
theorem Bk{P:Ψ}{w:Ω}{K:Φ}{tg:Δ}{T:String}(hT:["enumerate","zip","dict_itemiterator","dict_reverseitemiterator","odict_iterator","itertools.zip_longest","itertools.pairwise"].contains T=ϰ)(it:ε)(x:ρ)(t:Tok)
  (W:∀A':ϕ,A'.handled=ϐ->Walks P w A' it [it] [it] x.cps.size (SignAt x) (λi h=>h.IsStrIter it T x t i))
  (aaG:∀(A:ϕ)(s:ζ)(E:ξ->ζ->η)(i:π)(Q:θ ξ->ζ->η),A.handled=ϐ->s.heap.IsStrIter it T x t i->x.cps[i]?=none->(∀h',Heap.ExtBut it s.heap h'->Q none {s with heap:=h'})->wpAny (model P w) A (pyNext<|.ref it) Q E s)
  (V4:∀(A:ϕ)(s:ζ)(E:ξ->ζ->η)(i:π)(Q:ξ->ζ->η),s.heap.IsStrIter it T x t i->Q (.ref it) s->wpAny (model P w) A (pyIter<|.ref it) Q E s):
  Turn P w K tg (Its x) [it] it (λi h=>h.IsStrIter it T x t i) where
 mem:=`d
 obj:=λi h st b hb=>by
  have e:b=it:=by simpa using hb
  subst e
  let⟨o,e,c,d⟩:=st
  show{o,e,λv z=>by rw[d]at z;cases z}
 keep:=λi h h' st k=>by
  let⟨o,e,c,d⟩:=st
  show{o,k it `d o e,c,d}
 item:=by
  intro X hP hw hK hc i qe s σ H E I hf st hg
  subst hP hw hK
  let⟨f0,f1,f2,f3,f4,f5⟩:=hf it<|`d
  show(W X.A<|I.ok.hd hc).item i s _ _ hg st λv h' tk hv ee kk=>?_
  let⟨c,u,Nc,rfl⟩:=hv
  have I1:Inv X qe σ H {s with heap:=h',toks:=tk}:=I.turned (λb o hb e=>kk b o (by simpa using hb) e) f0 f1 f3 f4 f5
  let⟨o,e,c',d⟩:=id ee
  show{_,rfl,v5 (s:={s with heap:=h',toks:=tk}) e c' d hT {.str ⟨#[c]⟩,H,I1,⟨u,rfl⟩,⟨rfl,c,Nc,rfl⟩,ee,λb hb=>(hf b hb).1}}
 done:=by
  intro X hP hw hK hc i qe s σ H E I hf st hg
  subst hP hw hK
  let⟨f0,f1,f2,f3,f4,f5⟩:=hf it<|`d
  have hg:x.cps.size<=i:=hg
  show aaG X.A s E i _ (I.ok.hd hc) st (by simp;show hg) λh' eb=>{rfl,I.turned (t':=s.toks) (λb o hb e=>eb b o hb e) f0 f1 f3 f4 f5}
 self:=λA' i s Q E st h=>V4 A' s E i Q st h
section
variable{X:Cx}{tg:Δ}
def aaH(tl:TE):TI:=λσ H R=>tl σ H λx H1=>∃z,x=.str z/\R (Its z) H1
def RW(hl:PE X l tl):PI X tg l (aaH tl):=by
 intro qe s σ H R I h;show bz (hl qe s σ H _ I h) λv s1 n=>?_;let⟨x,H1,d,m,j⟩:=n;let⟨z,e,q⟩:=j;subst e;let⟨t,rfl⟩:=m;have a:∀(T:String)(_:Turn X.prog X.w X.K tg (Its z) [s1.heap.objs.size] s1.heap.objs.size (λi h=>h.IsStrIter s1.heap.objs.size T z t i)),Z9 X qe σ tg R (.ref s1.heap.objs.size) {s1 with heap:=s1.heap.push {cls:=.type T,data:=.fields #[.str z t,.int 0 0]}}:=λT tn=>by show{s1.heap.objs.size,[s1.heap.objs.size],_,_,H1,rfl,d.kept (t':=s1.toks) λb o e=>za _ e,tn,{_,zl _ rfl,rfl,rfl},λb hb=>?_,q};have e:b=s1.heap.objs.size:=(by simpa using hb);subst e;show d.nv (zm _)<|d.aM.fresh<|zm _
 cases ha:z.cps.all (·<128);show wpAny_pyIter_wide ha<|a _<|Bk `a _ z t (λA' hA=>Walks.strWide hA _ z t) (λA s E i Q g st hx c=>wpAny_pyNext_wide_end g st hx c) λA s E i Q st hq=>wpAny_pyIter_striter_wide st hq;show wpAny_pyIter_ascii ha<|a _<|Bk `a _ z t (λA' hA=>Walks.strAscii hA _ z t) (λA s E i Q g st hx c=>wpAny_pyNext_ascii_end g st hx c) λA s E i Q st hq=>wpAny_pyIter_striter_ascii st hq
end
noncomputable def clOf(c:δ<|ρ×ε)(d:δ<|ρ×NameKind):δ (ρ×ε):=d.foldl (λcs p=>if p.2==.free then match c.lookup p.1 with|some a=>(p.1,a)::cs|none=>cs else cs) []
set_option tactic.hygienic true in
theorem tw(d:δ<|ρ×ε):∀(g:δ (ρ×NameKind))(cs:δ (ρ×ε)),(∀x c,cs.lookup x=ϑ c->d.lookup x=ϑ c)->∀x c,(g.foldl (λcs p=>if p.2==.free then match d.lookup p.1 with|some a=>(p.1,a)::cs|none=>cs else cs) cs).lookup x=ϑ c->d.lookup x=ϑ c|[],cs,h=>h| (n,k)::r,cs,h=>by rw[yV];show tw d r _ λx c e=>?_;dsimp only at e;split at e;split at e;rename_i a ha;rw[ye]at e;split at e;rename_i hx;have:=LawfulBEq.eq_of_beq hx;cases e;rw[this];show ha;show h x c e;show h x c e;show h x c e
set_option tactic.hygienic true in
theorem wj(d:δ<|ρ×ε):∀(g:δ (ρ×NameKind))(cs:δ (ρ×ε))(x:ρ)(c:ε),(∀y c,cs.lookup y=ϑ c->d.lookup y=ϑ c)->cs.lookup x=ϑ c->(g.foldl (λcs p=>if p.2==.free then match d.lookup p.1 with|some a=>(p.1,a)::cs|none=>cs else cs) cs).lookup x=ϑ c
 |[],cs,x,c,_,h=>h
 | (n,k)::r,cs,x,c,hs,h=>by
  rw[yV];have i:∀y c,(if (k==NameKind.free)=ϱ then match d.lookup n with|some a=>(n,a)::cs|none=>cs else cs).lookup y=ϑ c->d.lookup y=ϑ c:=by intro y c e;split at e;split at e;rename_i a ha;rw[ye]at e;split at e;rename_i hx;have:=LawfulBEq.eq_of_beq hx;cases e;rw[this];show ha;show hs y c e;show hs y c e;show hs y c e
  show wj d r _ x c i ?_;dsimp only;split;split;rename_i a ha;rw[ye];split;rename_i hx;have:=LawfulBEq.eq_of_beq hx;rw[this]at h;have:=hs _ _ h;rw[ha]at this;show this;show h;show h;show h
set_option tactic.hygienic true in
theorem j5(d:δ<|ρ×ε):∀(g:δ (ρ×NameKind))(cs:δ (ρ×ε))(x:ρ)(c:ε),(∀y c,cs.lookup y=ϑ c->d.lookup y=ϑ c)->(x,NameKind.free)∈g->d.lookup x=ϑ c->(g.foldl (λcs p=>if p.2==.free then match d.lookup p.1 with|some a=>(p.1,a)::cs|none=>cs else cs) cs).lookup x=ϑ c
 |[],cs,x,c,_,h,_=>nomatch h
 | (n,k)::r,cs,x,c,hs,h,hc=>by
  rw[yV];have i:∀y c,(if (k==NameKind.free)=ϱ then match d.lookup n with|some a=>(n,a)::cs|none=>cs else cs).lookup y=ϑ c->d.lookup y=ϑ c:=by intro y c e;split at e;split at e;rename_i a ha;rw[ye]at e;split at e;rename_i hx;have:=LawfulBEq.eq_of_beq hx;cases e;rw[this];show ha;show hs y c e;show hs y c e;show hs y c e
  rcases ze.mp h with e|h;cases e;show wj d r _ _ c i ?_;dsimp only;rw[qc<|show(NameKind.free==NameKind.free)=ϱ by decide,hc];simp[ye];show j5 d r _ x c i h hc
def hU{scope:Scope}{env:Env}(h:∀x∈scope.names,x.2=.free->∃c,env.cells.lookup x.1=ϑ c):closureFor scope env=pure (clOf env.cells scope.names):=by
 have go:∀(names:δ (ρ×NameKind))(cs:δ (ρ×ε)),(∀x∈names,x.2=.free->∃c,env.cells.lookup x.1=ϑ c)->(forIn names cs λx r=>match x with|(name,kind)=>if (kind==NameKind.free)=ϱ then do let a <-cellOf env name;pure (ForInStep.yield<|(name,a)::r) else pure (ForInStep.yield r):Sem (δ<|ρ×ε))=pure (names.foldl (λcs p=>if p.2==.free then match env.cells.lookup p.1 with|some a=>(p.1,a)::cs|none=>cs else cs) cs):=by intro names;induction names with|nil=>intro cs _;rfl|cons p r j=>intro cs hp;let⟨n,k⟩:=p;rw[List.forIn_cons,yV];by_cases i:k=.free;subst i;let⟨c,d⟩:=hp _ zB rfl;have d:env.cells.lookup n=ϑ c:=d;have e1:cellOf env n=pure c:=(by unfold cellOf;rw[d]);have g:(NameKind.free==NameKind.free)=ϱ:=`a;dsimp only;rw[qc g,qc g,e1,d];show j _ λx hx=>hp x<|zo _ hx;have l:(k==NameKind.free)=ϰ:=(by simpa using i);dsimp only;rw[l,qa zd,qa zd];show j _ λx hx=>hp x<|zo _ hx
 have e:=go scope.names [] h;have e2:closureFor scope env=(forIn scope.names [] (λx r=>match x with|(name,kind)=>if (kind==NameKind.free)=ϱ then do let a <-cellOf env name;pure (ForInStep.yield<|(name,a)::r) else pure (ForInStep.yield r)):Sem (δ<|ρ×ε)) >>=λcs=>pure cs:=rfl;rw[e2,e];rfl
def j6{env:Env}{a:δ<|ρ×NameKind}{x:ρ} : (a.map λ(n,k)=>if (k==NameKind.free&&env.scope.kind==.function&&env.kindOf n==some .cell) then (n,NameKind.cell) else (n,k)).lookup x=(a.lookup x).map λk=>if (k==NameKind.free&&env.scope.kind==.function&&env.kindOf x==some .cell) then NameKind.cell else k:=by induction a with|nil=>rfl|cons p r d=>let⟨n,k⟩:=p;rw[zD,ye];by_cases c:(k==NameKind.free&&env.scope.kind==.function&&env.kindOf n==some .cell)=ϱ;dsimp only;rw[qc c,ye];(cases hx:x==n with|true=>have:=LawfulBEq.eq_of_beq hx;subst this;dsimp only[Option.map];rw[qc c]|false=>show d);dsimp only;rw[qa c,ye];cases hx:x==n with|true=>have:=LawfulBEq.eq_of_beq hx;subst this;dsimp only[Option.map];rw[qa c]|false=>show d
noncomputable def iX(X:Cx)(N:δ ρ)(scope:Scope)(C:ε)(s:ζ)(H:Hp)(ex:δ ε)(pn:δ<|ε×Obj):Cx:={X with N:=N,cS:=s,rF:=H,env:=compEnvC scope `i C X.env,outer:=X.stack,ex:=ex,fn:=λz=>false,pn:=pn,xe:=λz z=>False}
noncomputable def pick(σ:St)(src:δ<|θ π):St:=src.map λo=>match o with|some j=>(σ[j]?).join|none=>none
structure bZ(X:Cx)(N:δ ρ)(src:δ (θ π))(scope:Scope):η where
 kind:scope.kind=.function
 hW:∀y∈scope.names,y.2≠.cell
 loc:∀y∈scope.names,y.2=.local->scope.names.lookup y.1=ϑ .local
 CW:∀y∈scope.names,y.2=.free->X.env.kindOf y.1=ϑ .cell\/X.env.kindOf y.1=ϑ .free
 len:src.length=N.length
 src:∀(i j:π)(x:ρ),src[i]?=some (some j)->N[i]?=some x->X.N[j]?=some x/\scope.names.lookup x=ϑ .free/\QQ X.env.scope x
def Ext(σ a:St):Prop:=a.length=σ.length/\∀(j:π) v,σ[j]?=some (some v)->a[j]?=some (some v)
def DM(g:TG)(src:δ<|θ π):Prop:=∀x σ H Q,g x (pick σ src) H Q->g x (pick σ src) H λa H'=>Ext (pick σ src) a/\Q a H'
def JM(wi:TI)(src:δ<|θ π)(g:TG)(tc:TT)(te:TE):TE:=λσ H Q=>wi σ H λJ H1=>∃W:π->π->δ V->Hp->η,(∃m,W 0 m [] H1)/\∀i m out H',W i m out H'->(J.stop i H'/\∀D,H' D=ϐ->Q (.ref D) (upd H' D<|.lst out))\/(J.go i H'/\out.length<Ϙ/\∀x H2,J.VA i H' x H2->g x (pick σ src) H2 λc d=>tc c d λb a=>if b=ϱ then te c a λv e=>∃m',m'<m/\W (i+1) m' (out++[v]) e else ∃m',m'<m/\W (i+1) m' out a)
section
variable{X:Cx}{N:δ ρ}{src:δ (θ π)}{scope:Scope}{tg iter elt:Δ}{ifs:δ Δ}{pos:Pos}{wi:TI}{g:TG}{tc:TT}{te:TE}
def UI(X:Cx)(ifs:δ Δ)(t:TT):Prop:=∀(qe:δ (ε×Obj))(s:ζ)(σ:St)(H:Hp)(Q:χ->Hp->η),Inv X qe σ H s->t σ H Q->wpAny `m X.A (forIn ifs true λc r=>if r=ϱ then do let ok <-isTrue c X.env (eval c X.env);pure (ForInStep.yield ok) else pure (ForInStep.yield r)) (TP X qe σ Q) X.xe s
def V5:TT:=λz H Q=>Q true H
theorem Nd:UI X [] V5:=λqe s σ H Q I h=>wpAny_tests_nil ⟨H,I,h⟩
theorem Nf{t:TT}(h:PT X c t):UI X [c] t:=λqe s σ H Q I hw=>wpAny_tests_one<|h qe s σ H Q I hw
theorem lS(a:∀x s',EE x s'->notedBy `n A env (λe s'=>R (.error e) s') x s')(I:π->ζ->η)
  (d:∀n s,I n s->wpAny `n A (pyNext it) (λr bh=>match r with
   |none=>R (.ok .next) bh
   |some v=>wpAny `n A (letOwnedTupleGo target it v) (λz Pw=>wpAny `n A (assign target env v) (λz cz =>
     wpAny `n A (forIn ifs true λc r=>if r=ϱ then do let ok <-isTrue c env (eval c env);pure (ForInStep.yield ok) else pure (ForInStep.yield r)) (λok Dk =>
      if ok=ϱ then wpAny `n A (eval elt env) (λx Bl =>
       wpAny `n A (call (.builtin "list.append") [acc,x]) (λz V6=>∃m,m<n/\I m V6) EE Bl) EE Dk
      else ∃m,m<n/\I m Dk) EE cz) EE Pw) EE bh) EE s)
  (n:π) (h:I n s):
  codeAny `n A (.compLoop (.ListComp elt [{target,iter,ifs,0}] scope pos) 0 it acc env) R s:=by
 show codeAny_loop rfl I (λn s t=>?_) n h
 change wpAny _ A ((compTurn (.ListComp elt [{target,iter,ifs,0}] scope pos) 0 it acc env).onRaise λx=>do noteFrame x env;theTreesLotGoes x) _ _ s
 show wpAny_noted ?_
 rw[compTurn_list]
 show zb<|wpAny_standAt<|zb<|yB (d n s t) (λr bh o=>?_) a
 cases r with
 |none=>show zp o
 |some v =>
  show zb<|yB o (λz Pw p=>?_) a
  show zb<|yB p (λz cz i=>zb<|yB i (λok Dk l=>?_) a) a
  cases ok with
  |false=>show zp ⟨rfl,l⟩
  |true =>
   show zb<|zb<|yB l (λx Bl j=>zb<|yB j (λz V6 g=>zp<|zp ⟨rfl,g⟩) a) a
def CompEnd(X:Cx)(qe:δ<|ε×Obj)(σ:St)(Q:VK)(D C:ε)(s':ζ):Prop:=∃H' m,Inv X qe σ H' s'/\Q (.ref D) H'/\s'.heap.Ns C m/\H' C=ϐ/\C≠X.env.locals/\X.cS.heap.objs.size<=C/\(∀x c,X.env.cells.lookup x=ϑ c->c≠C)/\(∀p∈X.pn++qe,p.1≠C)
def wk{qe:δ<|ε×Obj}{a:ζ}{σ:St}{F:Hp}{Q:VK}{it:ε}{fp:δ ε}{tn:π->Γ->η}{J:It}{E:ξ->ζ->η}(S:bZ X N src scope)(hc:X.calm=ϱ) (hg:∀C s H ex pn,PG (iX X N scope C s H ex pn) tg g) (hx:DM g src) (hi:∀C s H ex pn,UI (iX X N scope C s H ex pn) ifs tc) (he:∀C s H ex pn,PE (iX X N scope C s H ex pn) elt te) (I:Inv X qe σ F a) (T:Turn X.prog X.w X.K tg J fp it tn) (st:tn 0 a.heap) (U:∀b∈fp,rG X qe F b) (W:π->π->δ V->Hp->η) (w0:∃m,W 0 m [] F) (a8:∀i m out H',W i m out H'->(J.stop i H'/\∀D,H' D=ϐ->Q (.ref D) (upd H' D<|.lst out))\/(J.go i H'/\out.length<Ϙ/\∀x H2,J.VA i H' x H2->g x (pick σ src) H2 λjO H3=>tc jO H3 λb H4=>if b=ϱ then te jO H4 λv H5=>∃M,M<m/\W (i+1) M (out++[v]) H5 else ∃M,M<m/\W (i+1) M out H4)) {RR:ξ->ε->Result->ζ->η} (b1:∀D C s',CompEnd X qe σ Q D C s'->RR (.ref D) C (.ok .next) s'): wpAny `m X.A (newList []) (λacc Dk=>wpAny `m X.A (newFunctionEnv scope X.env.globals `i [] X.env.qual none .none<|some X.env) (λV9 Bl=>codeAny `m X.A (.compStart (.ListComp elt [{tg,iter,ifs,0}] scope pos) 0 (.ref it) acc {V9 with scope:=relabel scope X.env}) (RR acc V9.locals) Bl) E Dk) E a:=by
 show yq<|wpAny_newFunctionEnv S.hW (by intro y hy;simp at hy) (λh₁ xA tD=>?_) S.kind;dsimp only at xA tD⊢;generalize a0:a.heap.push {cls:=.type "list",dict:=none,data:=.seq ([]:δ ξ).toArray}=G2 at xA tD⊢;have hC:G2.objs.size=a.heap.objs.size+1:=by rw[<-a0,zS]
 have UK:a.heap.objs.size≠G2.objs.size:=by rw[hC];show zE<|yn _
 have Ng:a.heap.objs.size<=G2.objs.size:=by rw[hC];show yu _
 have L:∀b o,a.heap.get? b=ϑ o->h₁.get? b=ϑ o:=λb o e=>tD.extBut b o (zE<|zq (zw e) Ng)<|za _<|a0 ▸ za _ e;have tE:h₁.get? a.heap.objs.size=ϑ {cls:=.type "list",dict:=none,data:=.seq ([]:δ ξ).toArray}:=tD.extBut _ _ UK<|za _<|a0 ▸ zl _ rfl;generalize b9:G2.objs.size=C at hC UK Ng xA tD⊢;have O:a.heap.objs.size<=C:=Ng;generalize hD:a.heap.objs.size=D at hC UK Ng tE⊢;have jw:∀x c,(clOf X.env.cells scope.names).lookup x=ϑ c->X.env.cells.lookup x=ϑ c:=tw X.env.cells scope.names [] (by intro x c h;simp at h);have JN:∀x c,X.env.cells.lookup x=ϑ c->c<a.heap.objs.size:=λx c e=>by let⟨v,q⟩:=I.cell x c e;show q.lt
 have RX:∀b∈fp,b<a.heap.objs.size:=λb hb=>by let⟨o,e,_⟩:=T.obj _ _ st b hb;show zw e
 have ok:(iX X N scope C a F fp<|X.pn++qe).Ok:=by show{I.ok.mod,S.kind,I.ok.glob,I.ok.blt,O,λx y c h1 h2=>I.ok.inj x y c (jw _ _ h1)<|jw _ _ h2,λx G=>?_,λx c h=>(nomatch h),I.ok.hd,I.ok.frames,.inl rfl,λb hb=>{?_,λx c h=>?_},I.bs,zj I.ok.G5 I.sz,λb o e hb=>?_,λb hb hf=>?_,I.stack,I.sj};have G:(relabel scope X.env).names.lookup x=ϑ .cell\/(relabel scope X.env).names.lookup x=ϑ .free:=G;unfold relabel at G;dsimp only at G;rw[j6]at G;(cases hl:scope.names.lookup x with|none=>(rw[hl]at G;rcases G with z|z<;>cases z)|some k=>rw[hl]at G;have hm:=ym hl;have V_:k=.free:=(by by_cases V_:k=.free;show V_;exfalso;have e1:(k==NameKind.free)=ϰ:=(by simpa using V_);simp only[Option.map,e1,ya,Bool.false_eq_true,if_false]at G;rcases G with z|z;show S.hW _ hm<|zQ z;show V_<|zQ z);subst V_;let⟨c,Nc⟩:=I.ok.has x<|S.CW _ hm rfl;show{c,j5 X.env.cells scope.names [] x c (by intro x c h;simp at h) hm Nc});show zE<|zq (RX b hb) O;show(U b hb).2.2.2.2.1 x c<|jw _ _ h;have q:b∈X.ex\/X.cS.heap.objs.size<=b:=(U b hb).2.2.2.1;rcases q with q|q;show I.ok.Df b o e q;show absurd (zq (zw e)<|zj I.ok.G5 q)<|yK _;rcases ze.mp (I.oX b hf) with z|z;show(U b hb).2.1 z;show(U b hb).2.2.1 z
 have Wa:∀p∈X.pn++qe,p.1∉lP X.stack:=λp hp z=>by let⟨_,_,ne,nf,_⟩:=I.pin p hp;rcases ze.mp (I.oX _ z) with q|q;show ne q;show nf q
 have JO:∀p∈X.pn++qe,p.1<a.heap.objs.size:=λp hp=>zw (I.pin p hp).1;have Wb:∀b∈lP X.stack,b<a.heap.objs.size:=λb hb=>by rcases ze.mp (I.oX b hb) with z|z;rw[z];show I.lt;let⟨_,o,ho,_⟩:=I.ok.lQ.mem z;show zq (zw ho) I.sz
 have b7:∀(i:π)(x:ρ)(v:V),N[i]?=some x->(pick σ src)[i]?=some (some v)->∃u c,RelV v u/\(clOf X.env.cells scope.names).lookup x=ϑ c/\a.heap.IsCell c (some u)/\scope.names.lookup x=ϑ .free:=λi x v e1 e2=>by unfold pick at e2;rw[zx]at e2;cases es:src[i]? with|none=>(rw[es]at e2;cases e2)|some o=>rw[es]at e2;cases o with|none=>(cases e2)|some j=>have e3:(σ[j]?).join=ϑ v:=zQ e2;have e4:σ[j]?=some (some v):=(by cases q:σ[j]? with|none=>(rw[q]at e3;cases e3)|some z=>rw[q]at e3;show congrArg some e3);let⟨a1,a2,a3⟩:=S.src i j x es e1;let⟨m0,_,hl⟩:=I.loc;let⟨u,r,l⟩:=hl j x v a1 e4 a3;have hm:=ym a2;have G:=S.CW _ hm rfl;rcases l with⟨k,_⟩|⟨_,c,Nc,z⟩;rcases G with G|G<;>(rw[k]at G;cases G);show{u,c,r,j5 X.env.cells scope.names [] x c (by intro x c h;simp at h) hm Nc,z,a2}
 have Y:∀x,scope.names.lookup x=ϑ .free->(compEnvC scope `i C X.env).kindOf x=ϑ .cell\/(compEnvC scope `i C X.env).kindOf x=ϑ .free:=λx hx=>by change(relabel scope X.env).names.lookup x=ϑ .cell\/(relabel scope X.env).names.lookup x=ϑ .free;unfold relabel;dsimp only;rw[j6,hx];dsimp only[Option.map];split;show .inl rfl;show .inr rfl
 have Ic:Inv (iX X N scope C a F fp<|X.pn++qe) [] (pick σ src) F {a with heap:=h₁,toks:=a.toks+([]:δ (ρ×ξ)).length}:=by show{ok,rfl,I.bare,Un.kept L,{_,xA,λi x v e1 e2 e3=>?_},λx c e=>?_,I.aM.fresh O,λx c e=>I.dH x c<|jw x c e,λp hp=>?_,I.aM.kept L,?_};let⟨u,c,r,e5,⟨o,ho,hd⟩,hf⟩:=b7 i x v e1 e2;show{u,r,.inr {Y x hf,c,e5,{o,L _ _ ho,hd}}};let⟨v,o,ho,hd⟩:=I.cell x c<|jw x c e;show{v,o,L _ _ ho,hd};have hp:p∈X.pn++qe:=(by simpa [iX]using hp);let⟨e,n,_,_,d⟩:=I.pin p hp;show{L _ _ e,n,zE<|zq (JO p hp) O,Wa p hp,d};change(pick σ src).length=N.length;unfold pick;rw[zc,S.len]
 have R:a.heap.objs.size<=D:=Nat.le_of_eq hD;have RY:D∉lP X.stack:=λz=>absurd (zq (Wb D z) R)<|yK _;have Px:D∉fp:=λz=>absurd (zq (RX D z) R)<|yK _;have nv:∀{pl:δ (ε×Obj)}{H':Hp},(∀b∈fp,H' b=ϐ)->(∀p∈pl,p.1∉fp)->∀b∈fp,rG (iX X N scope C a F fp<|X.pn++qe) pl H' b:=λ{pl H'} hn d_ b hb=>by let⟨f0,f1,f2,f3,f4,f5⟩:=U b hb;show{hn b hb,zE<|zq (RX b hb) O,λz=>?_,.inl hb,λx c e=>f4 x c<|jw x c e,λp hp=>?_};rcases ze.mp (I.oX b z) with q|q;show f1 q;show f2 q;have hp:p∈(X.pn++qe)++pl:=hp;rcases zL.mp hp with hp|hp;show f5 p hp;show λz=>d_ p hp<|z ▸ hb
 have a5:∀{s':ζ}{H':Hp}{out:δ V}{t:δ ξ}{B:π}{aG:St},Inv (iX X N scope C a F fp<|X.pn++qe) [] aG H' s'->H' D=ϐ->out.length<=Ϙ->Vals out t->s'.heap.get? D=ϑ {cls:=.type "list",data:=.seq t.toArray B}->(∀D,H' D=ϐ->Q (.ref D) (upd H' D<|.lst out))->CompEnd X qe σ Q D C s':=λ{s' H' out t B aG} I' hn hl hv ho q=>by let⟨m,hm,_⟩:=I'.loc;have un:Un (lP X.stack) fp F H' a.heap s'.heap:=I'.base;have b5:∀b o,a.heap.get? b=ϑ o->b≠D:=λb o e=>zE<|zq (zw e) R;have fD:F D=ϐ:=I.aM.fresh R;show{upd H' D<|.lst out,m,?_,q D hn,hm,by rw[az<|Ne.symm UK];show I'.free,yi<|zq I.lt O,zj I.sz O,λx c e=>zE<|zq (JN x c e) O,λp hp=>zE<|zq (JO p hp) O};show I.Jh (ch:=fp) I'.os {un.keep,un.slot,λb o e n hb=>?_,un.there,λb xs e=>?_,λb o u e=>?_,λb ps e=>?_} (λb o e=>?_) I'.bare λb hb=>?_;rw[az<|b5 b o e];show un.free b o e n hb;rw[az<|aD e fD];show un.g7 b xs e;rw[az<|aD e fD];show un.gD b o u e;rw[az<|aD e fD];show un.gE b ps e;by_cases hb:b=D;subst hb;rw[aF]at e;cases e;show⟨hl,t,B,hv,ho⟩;rw[az hb]at e;show(I'.aM b o e).oW (λc v _ q=>q) (λc q=>?_) λc xs q=>?_;rw[az<|aD q hn];show q;rw[az<|aD q hn];show q;let⟨f0,f1,f2,f3,f4,f5⟩:=U b hb;show⟨f3,f1,f4,f5⟩
 let⟨m0,w0⟩:=w0;have loop:∀Bl:ζ,Bl={a with heap:=h₁,toks:=a.toks+([]:δ (ρ×ξ)).length}->codeAny `m X.A (.compLoop (.ListComp elt [{tg,iter,ifs,0}] scope pos) 0 (.ref it) (.ref D)<|compEnvC scope `i C X.env) (RR (.ref D) C) Bl:=by rintro Bl rfl;show lS (EE:=λ_ _=>False) (λ_ _ f=>f.elim) (λn s'=>∃i out t B H',Inv (iX X N scope C a F fp<|X.pn++qe) [] (pick σ src) H' s'/\H' D=ϐ/\out.length<=Ϙ/\Vals out t/\s'.heap.get? D=ϑ {cls:=.type "list",data:=.seq t.toArray B}/\tn i s'.heap/\(∀b∈fp,H' b=ϐ)/\W i n out H') ?_ m0 {0,[],[],0,F,Ic,I.aM.fresh R,zU _,.nil,tE,T.keep _ _ _ st λb hb o e=>L b o e,λb hb=>(U b hb).1,w0};rintro n s3 ⟨i,out,t,B,H3,I3,a9,UL,YR,b8,Dq,VD,w3⟩;have RZ:∀(t:δ ξ) (B:π) (v:θ ξ),({cls:=.type "list",data:=.seq t.toArray B} : Obj).data≠.cell v:=λ_ _ _ z=>nomatch z;have b0:Inv (iX X N scope C a F fp<|X.pn++qe) [(D,{cls:=.type "list",data:=.seq t.toArray B})] (pick σ src) H3 s3:=I3.nr λp hp=>(by have e:p=(D,{cls:=.type "list",data:=.seq t.toArray B}):=(by simpa using hp);subst e;show{b8,a9,UK,RY,RZ t B});have a4:∀p∈[((D,{cls:=.type "list",data:=.seq t.toArray B}):ε×Obj)],p.1∉fp:=λp hp=>(by have e:p=(D,{cls:=.type "list",data:=.seq t.toArray B}):=(by simpa using hp);subst e;show Px);rcases a8 i n out H3 w3 with⟨stop,qn⟩|⟨go,fq,step⟩;show bz (T.done (iX X N scope C a F fp<|X.pn++qe) rfl rfl rfl hc i _ s3 _ H3 _ b0 (nv VD a4) Dq stop) λr s4 ⟨hr,I4⟩=>?_;subst hr;have p4:=(I4.pin (D,{cls:=.type "list",data:=.seq t.toArray B})<|zI _<|`d).1;show b1 D C s4<|a5 (I4.nr (pins':=[]) λp hp=>nomatch hp) a9 UL YR p4 qn;show bz (T.item (iX X N scope C a F fp<|X.pn++qe) rfl rfl rfl hc i _ s3 _ H3 _ b0 (nv VD a4) Dq go) λr s4 ⟨u,hr,h4⟩=>?_;subst hr;show bz h4 λ_ s5 aY=>?_;let⟨x,H5,I5,r5,y5,MO,b4⟩:=aY;have b6:=I5.pinned (nv b4 a4)<|T.obj _ _ MO;show bz (hg _ _ _ _ _ _ s5 _ H5 x u _ b6 r5<|hx x σ H5 _<|step x H5 y5) λ_ s6 eC=>?_;let⟨VE,H6,I6,e6,q6⟩:=eC;have a6:∀{s7:ζ}{P:Hp},Inv (iX X N scope C a F fp<|X.pn++qe) ([(D,{cls:=.type "list",data:=.seq t.toArray B})]++sU fp s5.heap) VE P s7->Inv (iX X N scope C a F fp<|X.pn++qe) [] (pick σ src) P s7/\P D=ϐ/\s7.heap.get? D=ϑ {cls:=.type "list",data:=.seq t.toArray B}/\tn (i+1) s7.heap/\∀b∈fp,P b=ϐ:=λ{s7 P} Z=>(by have pD:=Z.pin (D,{cls:=.type "list",data:=.seq t.toArray B})<|zI _ `d;show{(Z.nr (pins':=[]) λp hp=>nomatch hp).weak e6.1.symm e6.2,pD.2.1,pD.1,T.keep _ _ _ MO λb hb o e=>(Z.pin (b,o)<|zI _<|zI _<|iY hb e).1,λb hb=>?_};let⟨o,e,d⟩:=T.obj _ _ MO b hb;show(Z.pin (b,o)<|zI _<|zI _<|iY hb e).2.1);show bz (hi _ _ _ _ _ _ s6 VE H6 _ I6 q6) λb s7 Bc=>?_;let⟨P,Z,q7⟩:=Bc;cases b with|false=>(rw[qa zd]at q7⊢;let⟨M,hm,w7⟩:=q7;let⟨J7,d7,o7,t7,f7⟩:=a6 Z;show{M,hm,i+1,out,t,B,P,J7,d7,UL,YR,o7,t7,f7,w7})|true=>rw[qc rfl]at q7⊢;show bz (he _ _ _ _ _ _ s7 VE P _ Z q7) λv s8 b3=>?_;let⟨y,H8,I8,r8,M,hm,w8⟩:=b3;let⟨J8,d8,o8,t8,f8⟩:=a6 I8;have a7:t.toArray.size<=sizeLine:=(by rw[zr,<-YR.length];show UL);show wpAny_list_append_plain (items:=t.toArray) (hsz:=a7) ⟨B,o8⟩ λh9 b2 sb=>?_;let⟨n9,e9⟩:=b2;have J9:Inv (iX X N scope C a F fp<|X.pn++qe) [] (pick σ src) H8 {s8 with heap:=h9}:=J8.turned (t':=s8.toks) (it:=D) (λb o hb e=>(sb.2 b hb).trans e) d8 UK (.inr R) (λx c e=>zE<|zq (JN x c<|jw x c e) R) λp hp=>(by have hp:p∈X.pn++qe:=(by simpa [iX]using hp);show zE<|zq (JO p hp) R);show{M,hm,i+1,out++[y],t++[v],n9,H8,J9,d8,?_,YR.append<|.cons r8 .nil,?_,T.keep _ _ _ t8 λb hb o e=>(sb.2 b λz=>Px<|z ▸ hb).trans e,f8,w8};rw[zk];show fq;rw[e9];simp
 show codeAny_compStart_list (loop _ rfl)<|T.self _ _ _ _ _ (T.keep _ _ _ st λb hb o e=>L b o e)<|loop _ rfl
def Nh(S:bZ X N src scope)(i:X.calm=ϱ)(d:PI X tg iter wi) (M:∀C s H ex pn,PG (iX X N scope C s H ex pn) tg g) (hx:DM g src) (hi:∀C s H ex pn,UI (iX X N scope C s H ex pn) ifs tc) (K:∀C s H ex pn,PE (iX X N scope C s H ex pn) elt te) (t:ψ (∀x,foldedSetIterable iter X.env x=pure x) qQ0):PE X (.ListComp elt [{tg,iter,ifs,0}] scope pos) (JM wi src g tc te):=by intro qe s σ H Q I h;rw[eval_ListComp];have E:closureFor scope X.env=pure `i:=hU λy F O=>I.ok.has y.1<|S.CW y F O;show wpAny_comprehension_free (use:=none) rfl t E S.kind S.loc<|bz (d qe s σ H _ I h) λv s1 h1=>bz h1 λP s2 h2=>?_;let⟨it,fp,tn,J,H2,e,j,T,L,G,W,n,a⟩:=h2;subst e;show wk (RR:=λc C=>compPost `m X.A X.xe none (EP X qe σ Q) c C) S i M hx hi K j T L G W n a λD C s' B=>?_;let⟨H',m,z,q,hm,hn,h1,h2,p,l⟩:=B;show{m,hm,λh' r=>{.ref D,H',z.turned (t':=s'.toks) (it:=C) (λb o hb e=>(r.2 b hb).trans e) hn h1 (.inr h2) p l,rfl,q}}
def DP{i:π}{x:ρ}{pos' E:Pos}(hN:X.N.Nodup)(d:X.N[i]?=some x)(B:X.env.scope.names.lookup x=ϑ .local) (S:bZ X N src scope) (G:X.calm=ϱ) (r:PI X tg iter wi) (hg:∀C s H ex pn,PG (iX X N scope C s H ex pn) tg g) (hx:DM g src) (hi:∀C s H ex pn,UI (iX X N scope C s H ex pn) ifs tc) (he:∀C s H ex pn,PE (iX X N scope C s H ex pn) elt te) (j:ψ (swapsWith (.ListComp elt [{tg,iter,ifs,0}] scope pos) (some<|.Name x pos') E.line X.env=pure true) qQJ) (R:ψ (∀x,foldedSetIterable iter X.env x=pure x) qQ0):PS X (.Assign [.Name x pos'] (.ListComp elt [{tg,iter,ifs,0}] scope pos) E) (Q7 (JM wi src g tc te)<|jv i):=by
 intro qe s σ H D I h;rw[exec_Assign_Name_used _ _ _ _ j];show zb<|wpAny_standAt<|zb ?_;have Y:closureFor scope X.env=pure `i:=hU λy Z hf=>I.ok.has y.1<|S.CW y Z hf;change wpAny _ X.A (do let _ <-comprehension (.ListComp elt [⟨tg,iter,ifs,0⟩] scope pos) scope X.env _ (newList []) false (eval iter X.env) (some (assign (.Name x pos') X.env))) _ _ s;show zb<|yB (wpAny_comprehension_free (use:=some<|assign (.Name x pos') X.env) (Q:=λu s'=>∃aG H',Inv X qe aG H' s'/\D.nx aG H') rfl R Y S.kind S.loc<|bz (r qe s σ H _ I h) λv s1 h1=>bz h1 λYH s2 h2=>?_) (λu s' hq=>zp<|zp hq) λu u e=>e;let⟨it,fp,tn,J,H2,e,F,T,iZ,f2,W,M,c⟩:=h2;subst e;show wk (Q:=λv H1=>D.nx (σ.set i<|some v) H1) (RR:=λl C=>compPost `m X.A X.xe (some<|assign (.Name x pos') X.env) (λu s'=>∃aG H',Inv X qe aG H' s'/\D.nx aG H') l C) S G hg hx hi he F T iZ f2 W M c λz C s' U=>?_;let⟨H',m,P,q,hm,hn,h1,h2,t,L⟩:=U;change wpAny _ X.A (assign (.Name x pos') X.env<|.ref z) _ _ _;show wpAny_assign_Name<|vZ P hN d (.inl B) (v:=.ref z) rfl (λDD n eC=>?_)<|.inr B;let⟨a,O,ha⟩:=eC;have p:C≠a:=by rcases ha with ha|ha;rw[ha];show h1;show Ne.symm<|t _ _ ha
 show{m,hm.sameBut O p,λa0 K=>{_,H',n.turned (t':=DD.toks) (it:=C) (λb o hb e=>(K.2 b hb).trans e) hn h1 (.inr h2) t L,q}}
end
def pf{σ:St}{src:δ<|θ π}{i:π}(h:src[i]?=some none):(pick σ src)[i]?=some none:=by unfold pick;rw[zx,h];rfl
def Ext.set(h:σ0[i]?=some none)(e:Ext σ0 σ):Ext σ0 (σ.set i<|some v):=by
 show{by rw[List.length_set];show e.1,λj w a=>?_};have:i≠j:=by rintro rfl;rw[h]at a;cases a
 rw[List.getElem?_set_ne this];show e.2 j w a
theorem Ext.refl(σ:St):Ext σ σ:={rfl,λz z h=>h}
theorem bj{src:δ<|θ π}{i:π}(h:src[i]?=some none):DM (jv i) src:=λx σ H Q q=>{(Ext.refl _).set<|pf h,q}
theorem lA{K:Φ}{n:π}{src:δ<|θ π}{i j:π}(h:src[i]?=some none)(h':src[j]?=some none):DM (MM K n<|sR (jv i)<|sR (jv j) ML) src:=λx σ H Q q=>by let⟨a,xs,e1,c,hl,v,r,e2,e,d,e3,e4,q⟩:=q;show{a,xs,e1,c,hl,v,r,e2,e,d,e3,e4,((Ext.refl _).set<|pf h).set<|pf h',q}
def all_bools{xs:δ V}{a:δ ξ}{bs:δ χ}(c:Vals xs a)(hb:xs=bs.map V.bl):∀(i:π)(v:ξ),a.toArray[i]?=some v->v=Value.bool ((bs[i]?).getD false):=by
 subst hb;intro i v h;have h':a[i]?=some v:=by simpa using h
 have hl:=c.length;rw[zc]at hl;have hi:i<a.length:=(zh.mp h').1;have hb:bs[i]?=some (bs[i]' `b):=`d
 let⟨u,hu,r⟩:=c.get (i:=i) (x:=V.bl<|bs[i]' `b) (by rw[zx,hb];rfl);rw[h']at hu;cases hu;rw[hb];show r
def range_all{bs:δ χ} : (List.range bs.length).all (λi=>(bs[i]?).getD false)=bs.all id:=by rw[yN,yo,yo];constructor;intro h b hb;let⟨i,hi,rfl⟩:=List.mem_iff_getElem.mp hb;have:=h i<|zV.mpr hi;simpa [hi]using this;intro h i hi;have hi:=zV.mp hi;simpa [hi]using h _ (List.getElem_mem hi)
def range_any{bs:δ χ} : (List.range bs.length).any (λi=>(bs[i]?).getD false)=bs.any id:=by rw[yN,List.any_eq_true,List.any_eq_true];constructor;rintro⟨i,hi,h⟩;have hi:=zV.mp hi;show{bs[i],List.getElem_mem hi,by simpa [hi]using h};rintro⟨b,hb,h⟩;let⟨i,hi,rfl⟩:=List.mem_iff_getElem.mp hb;show{i,zV.mpr hi,by simpa [hi]using h}
section
variable{X:Cx}
def vk(j:X.calm=ϱ):eW X (.builtin "all") (λxs H Q=>∃(a:ε)(bs:δ χ),xs=[.ref a]/\fP X.K H a (bs.map V.bl)/\Q (.bl<|bs.all id) H):=by
 intro qe s σ H xs us Q I r h;let⟨a,bs,rfl,hq,q⟩:=h;let⟨u,rfl,n⟩:=vals1 r;cases n;let⟨d,c,p,t⟩:=I.list hq;have hl:=c.length;rw[zc]at hl;show call_all_walk<|wpAny_pyIter_list p.isList ?_;show{s.heap.objs.size,_,_,_,_,_,λi=>(bs[i]?).getD false,rfl,Walks.list (A:=X.A.in1) (I.ok.hd j) s.heap.objs.size a (zE p.lt) d.toArray,{{_,zl _ rfl,rfl,rfl},p.isList.at λo e=>za _ e},?_,λh' tk m=>?_};intro i v s' w E' l g;rw[all_bools c rfl i v l];show yC g;have e:d.toArray.size=bs.length:=by rw[zr,<-hl]
 rw[e,range_all];show{.bl<|bs.all id,H,I.kept (h':=h') (t':=tk) λb o e=>m b o (by simpa using zE (zw e))<|za _ e,rfl,q}
def vm(j:X.calm=ϱ):eW X (.builtin "any") (λxs H Q=>∃(a:ε)(bs:δ χ),xs=[.ref a]/\fP X.K H a (bs.map V.bl)/\Q (.bl<|bs.any id) H):=by
 intro qe s σ H xs us Q I r h;let⟨a,bs,rfl,hq,q⟩:=h;let⟨u,rfl,n⟩:=vals1 r;cases n;let⟨d,c,p,t⟩:=I.list hq;have hl:=c.length;rw[zc]at hl;show call_any_walk<|wpAny_pyIter_list p.isList ?_;show{s.heap.objs.size,_,_,_,_,_,λi=>(bs[i]?).getD false,rfl,Walks.list (A:=X.A.in1) (I.ok.hd j) s.heap.objs.size a (zE p.lt) d.toArray,{{_,zl _ rfl,rfl,rfl},p.isList.at λo e=>za _ e},?_,λh' tk m=>?_};intro i v s' w E' l g;rw[all_bools c rfl i v l];show yC g;have e:d.toArray.size=bs.length:=by rw[zr,<-hl]
 rw[e,range_any];show{.bl<|bs.any id,H,I.kept (h':=h') (t':=tk) λb o e=>m b o (by simpa using zE (zw e))<|za _ e,rfl,q}
end
noncomputable def ownOf:HO->θ ε|.ins _ dx _=>some dx|.md _ u=>ownOf u|_=>none
structure Fg(H H' G:Hp):η where
 sub:∀b o,G b=ϑ o->H' b=ϑ o
 dom:∀b o,H b=ϑ o->∃o',G b=ϑ o'
 own:∀a o dx,G a=ϑ o->ownOf o=ϑ dx->(∃o',H a=ϑ o'/\ownOf o'=ϑ dx)\/∃o',G dx=ϑ o'
theorem aH:bootBuiltins "len"= some (.builtin "len"):=PySem.boot_len
theorem fw:bootBuiltins "all"= some (.builtin "all"):=boot_all
theorem R3:bootBuiltins "any"= some (.builtin "any"):=boot_any
theorem ai:bootBuiltins "isinstance"= some (.builtin "isinstance"):=boot_isinstance
theorem xB:bootBuiltins "int"= some (.type "int"):=PyProof.Rows.boot_int
theorem Nj:bootBuiltins "bool"= some (.type "bool"):=PyProof.Rows.boot_bool
theorem eG:bootBuiltins "str"= some (.type "str"):=PyProof.Rows.boot_str
theorem aR:bootBuiltins "tuple"= some (.type "tuple"):=PyProof.Rows.boot_tuple
theorem nI:bootBuiltins "list"= some (.type "list"):=PyProof.Rows.boot_list
theorem FP:bootBuiltins "dict"= some (.type "dict"):=PyProof.Rows.boot_dict
theorem R4:bootBuiltins "set"= some (.type "set"):=PyProof.Rows.boot_set
set_option genInjectivity true in
set_option genSizeOfSpec true in
inductive Kd
 |aA|bl|int|str|lst|tup|b_
noncomputable def Kd.name:Kd->String|.aA=>"NoneType" |.bl=>"bool" |.int=>"int" |.str=>"str" |.lst=>"list" |.tup=>"tuple" |.b_=>"dict"
inductive tG (H:Hp):V->Kd->η
 |aA:tG H .aA .aA
 |bl (b:χ):tG H (.bl b) .bl
 |int (i:ν):tG H (.int i) .int
 |str (x:ρ):tG H (.str x) .str
 |lst {a:ε}{xs:δ V} (e:H a=ϑ (.lst xs)):tG H (.ref a) .lst
 |tup {a:ε}{xs:δ V} (e:H a=ϑ (.tup xs)):tG H (.ref a) .tup
 |b_ {a:ε}{kvs:δ<|Key×V} (e:H a=ϑ (.dK kvs)):tG H (.ref a) .b_
def tG.ty{K:Φ}{H:Hp}{x:V}{k:Kd}(h:tG H x k):o_ K H x (.type k.name):=by cases h with|aA=>show .aA|bl b=>show .bl b|int i=>show .int i|str x=>show .str x|lst e=>show .lst e|tup e=>show .tup e|b_ e=>show .dK e
noncomputable def xC(T:String):θ (Kd->χ):=if T ="int" then some λk=>match k with|.int=>true|.bl=>true|_=>false else if T ="bool" then some λk=>match k with|.bl=>true|_=>false else if T ="str" then some λk=>match k with|.str=>true|_=>false else if T ="tuple" then some λk=>match k with|.tup=>true|_=>false else if T ="list" then some λk=>match k with|.lst=>true|_=>false else if T ="dict" then some λk=>match k with|.b_=>true|_=>false else none
set_option tactic.hygienic true in
def JP{K:Φ}{T:String}{g:Kd->χ}(h:xC T=ϑ g)(k:Kd):kitOne K (.type k.name) (.type T)=ϑ (g k):=by unfold xC at h;split at h;rename_i e;subst e;cases h;cases k<;>rfl;split at h;rename_i e;subst e;cases h;cases k<;>rfl;split at h;rename_i e;subst e;cases h;cases k<;>rfl;split at h;rename_i e;subst e;cases h;cases k<;>rfl;split at h;rename_i e;subst e;cases h;cases k<;>rfl;split at h;rename_i e;subst e;cases h;cases k<;>rfl;cases h
section
variable{X:Cx}
def JQ:eW X (.builtin "isinstance") (λxs H Q=>∃x T k g,xs=[x,.ty T]/\xC T=ϑ g/\tG H x k/\Q (.bl<|g k) H):=by intro qe s σ H xs us Q I r h;let⟨x,T,k,g,rfl,e,d,q⟩:=h;let⟨v,i,rfl,c,a⟩:=vals2 r;cases a;show Hh I c d.ty (JP e k) λtk=>{.bl<|g k,H,I.tok tk,rfl,q}
end
mutual
def Dt(K:Φ)(H:Hp):PyData->V->η|.none,v=>v=.aA|.bool b,v=>v=.bl b|.int i,v=>v=.int i|.str z,v=>v=.str z|.list ds,v=>∃a xs,v=.ref a/\fP K H a xs/\DtAll K H ds xs|.tuple ds,v=>∃a xs,v=.ref a/\g_ K H a xs/\DtAll K H ds xs|.dict _,_=>False
def DtAll(K:Φ)(H:Hp):δ PyData->δ V->η|[],xs=>xs=[]|d::ds,xs=>∃y ys,xs=y::ys/\Dt K H d y/\DtAll K H ds ys
end
section
variable{X:Cx}{qe:δ (ε×Obj)}{σ:St}{H:Hp}{s:ζ}
mutual
theorem Inv.reads(I:Inv X qe σ H s):∀(d:PyData){x:V}{u:ξ},Dt X.K H d x->RelV x u->∃as,Reads s.heap u d as
 |.none,x,u,h,r=>by
  have h:x=.aA:=by simpa only[Dt]using h
  subst h;cases r;show{_,.none}
 |.bool b,x,u,h,r=>by
  have h:x=.bl b:=by simpa only[Dt]using h
  subst h;cases r;show{_,.bool b}
 |.int i,x,u,h,r=>by
  have h:x=.int i:=by simpa only[Dt]using h
  subst h;let⟨t,rfl⟩:=r;show{_,.int i t}
 |.str z,x,u,h,r=>by
  have h:x=.str z:=by simpa only[Dt]using h
  subst h;let⟨t,rfl⟩:=r;show{_,.str z t}
 |.list ds,x,u,h,r=>by
  have h:∃a xs,x=.ref a/\fP X.K H a xs/\DtAll X.K H ds xs:=by simpa only[Dt]using h
  let⟨a,xs,rfl,hq,hd⟩:=h;cases r;let⟨j,g,p,_⟩:=I.list hq;let⟨as,ra⟩:=Inv.readsAll I ds hd g;let⟨o,e,c,n,d⟩:=p.isList;show{_,.list e c d<|by simpa using ra}
 |.tuple ds,x,u,h,r=>by
  have h:∃a xs,x=.ref a/\g_ X.K H a xs/\DtAll X.K H ds xs:=by simpa only[Dt]using h
  let⟨a,xs,rfl,hq,hd⟩:=h;cases r;let⟨j,g,p,_⟩:=I.tuple hq;let⟨as,ra⟩:=Inv.readsAll I ds hd g;let⟨o,e,c,n,d⟩:=p;show{_,.tuple e c d<|by simpa using ra}
 |.dict _,x,u,h,r=>by
  have h:False:=by simpa only[Dt]using h
  show h.elim
theorem Inv.readsAll(I:Inv X qe σ H s):∀(ds:δ PyData){xs:δ V}{us:δ ξ},DtAll X.K H ds xs->Vals xs us->∃as,ReadsAll s.heap us ds as
 |[],xs,us,h,r=>by
  have h:xs=[]:=by simpa only[DtAll]using h
  subst h;cases r;show{_,.nil}
 |d::ds,xs,us,h,r=>by
  have h:∃y ys,xs=y::ys/\Dt X.K H d y/\DtAll X.K H ds ys:=by simpa only[DtAll]using h
  let⟨y,ys,rfl,h1,h2⟩:=h;cases r with|cons c a=>let⟨as,ra⟩:=Inv.reads I d h1 c;let⟨bs,e⟩:=Inv.readsAll I ds h2 a;show{_,.cons ra e}
end
end
def Wc(K:Φ)(a:χ):R2:=λx y H Q=>∃d e,Dt K H d x/\Dt K H e y/\d.canLay0=ϱ/\e.canLay0=ϱ/\(d.depth<=64\/e.depth<=64)/\Q (.bl<|if a then !PyData.eqv d e else PyData.eqv d e) H
section
variable{X:Cx}
def R5(hu:X.A.units+64<cLine):hG X (compareOp .Eq) (Wc X.K false):=by intro qe s σ H x y v u Q I c j h;let⟨d,e,hd,g,cd,i,dp,q⟩:=h;let⟨as,ra⟩:=I.reads d hd c;let⟨bs,a⟩:=I.reads e g j;show SeqAt.compareEq_reads ra a cd i (by rcases dp with dp|dp<;>lia)<|aO I q rfl
def JR(hu:X.A.units+64<cLine):hG X (compareOp .NotEq) (Wc X.K true):=by intro qe s σ H x y v u Q I c j h;let⟨d,e,hd,g,cd,i,dp,q⟩:=h;let⟨as,ra⟩:=I.reads d hd c;let⟨bs,a⟩:=I.reads e g j;show SeqAt.compareNe_reads ra a cd i (by rcases dp with dp|dp<;>lia)<|aO I q rfl
end
def lB(a b:π):IW ⟨#[a]⟩ ⟨#[b]⟩=ω (a<=b):=by
 unfold IW;have e:([b]<[a])↔b<a:=by rw[List.cons_lt_cons_iff];constructor;rintro (h|⟨_,h⟩);show h;show absurd h<|List.not_lt_nil _;show .inl
 rw[yN];change(!decide ([b]<[a]))=ϱ↔_;rw[Bool.not_eq_true',decide_eq_false_iff_not,e,yb];simp
def chkC(sc:Scope)(a N:δ ρ)(src:δ<|θ π)(scope:Scope):Bool :=
 ω (scope.kind=.function)&&(scope.names.all (λy=>ω (y.2≠.cell)&&(ω (y.2≠.local)||ω (scope.names.lookup y.1=ϑ .local))&&(ω (y.2≠.free)||(ω (sc.names.lookup y.1=ϑ .cell)||ω (sc.names.lookup y.1=ϑ .free)))) &&
  (ω (src.length=N.length)&&(List.range src.length).all λi=>match src[i]?,N[i]? with
   |some (some j),some x=>ω (a[j]?=some x)&&(ω (scope.names.lookup x=ϑ .free)&&(ω (sc.names.lookup x=ϑ .cell)||ω (sc.names.lookup x=ϑ .free)))
   |_,_=>true))
def mf(sc:Scope)(c:δ ρ)(d:X.env.scope=sc)(hN:X.N=c)(h:chkC sc c N src scope=ϱ):bZ X N src scope:=by unfold chkC at h;simp only[zN,yr,yo,yW]at h;let⟨h1,h2,l,g⟩:=h;show{h1,λy a=>(h2 y a).1.1,λy a e=>?_,λy a e=>?_,l,λi j x e1 e2=>?_};rcases (h2 y a).1.2 with z|z;show absurd e z;show z;rcases (h2 y a).2 with z|z;show absurd e z;change X.env.scope.names.lookup y.1=ϑ .cell\/X.env.scope.names.lookup y.1=ϑ .free;rw[d];show z;have hi:i<src.length:=(zh.mp e1).1;have q:=g i<|zV.mpr hi;rw[e1,e2]at q;simp only[zN,yr,yW]at q;show{by rw[hN];show q.1,q.2.1,?_};unfold QQ;rw[d];show .inr q.2.2
def FQ(h0:0<=i)(h1:i<l.length):∃v,vi l i=ϑ v/\l[i.toNat]?=some v:=by
 let⟨j,rfl⟩:=Int.eq_ofNat_of_zero_le h0;have a:j<l.length:=by show y8.mp ‹_›
 show{l[j],eU<|by simp[a],by simp[a]}
def bH{c:χ}{A B:η}(h:c=ϱ->A)(h':c=ϰ->B):if c=ϱ then A else B:=by cases c with|true=>show h rfl|false=>show h' rfl
def nt(h:(!b)=ϱ):b=ϰ:=by cases b<;>simp_all
def nf(h:(!b)=ϰ):b=ϱ:=by cases b<;>simp_all
noncomputable def DQ:Kd->χ|.int=>true|.bl=>true|_=>false
noncomputable def xD:Kd->χ|.bl=>true|_=>false
noncomputable def DR:Kd->χ|.str=>true|_=>false
noncomputable def tH:Kd->χ|.tup=>true|_=>false
noncomputable def xE:Kd->χ|.lst=>true|_=>false
theorem Nk:xC "int"= some DQ:=qc rfl
theorem JS:xC "bool"= some xD:=(qa<|`a).trans<|qc rfl
theorem bp:xC "str"= some DR:=(qa<|`a).trans<|(qa<|`a).trans<|qc rfl
theorem aJ:xC "tuple"= some tH:=(qa<|`a).trans<|(qa<|`a).trans<|(qa<|`a).trans<|qc rfl
def len_pos{z:ρ}(h:1<=z.cps.size):∃c r,z.cps.toList=c::r:=by cases e:z.cps.toList with|nil=>have:z.cps.toList.length=0:=(by rw[e];rfl);rw[yw]at this;lia|cons c r=>show⟨c,r,rfl⟩
def wm(e:l=c::r):vi l 0=ϑ c:=by
 have:l[0]?=some c:=by rw[e];rfl
 show eU (j:=0) this
def isPlain:Δ->χ|.Starred _ _=>false|_=>true
def DU(h:isPlain e=ϱ):starEach (e::es) env=(false,eval e env)::starEach es env:=by cases e<;>first|rfl|show absurd h zd
theorem pa2{t:TA}(ha:PE X e te)(hr:PA X es t)(hp:ψ (isPlain e=ϱ) qQJ):PA X (e::es) (Pp te t):=MW ha hr<|DU hp
end L2
namespace HT
open PySem PyProof.Rows
open PySem.SeqAt
open PySem.AutoSeq1 (wpAny_loadPart')
open PySem.MeetsSeq PySem.MeetsSeq2 PySem.MeetsSeq3
end HT
namespace L2
open PySem PySem.Spec PyProof.Rows
def IX(c:ξ)(e:ε)(h:Γ):Prop:=∃o vs,h.get? e=ϑ o/\o.data=.fields vs/\vs[2]?=some c
section
variable{M:Model}{A:ϕ}{E:ξ->ζ->η}{s:ζ}{base:Γ}{env:Env}{outer:δ Env}{L e:ε}{a0 c fl:ξ}
def We(G:A.frames=ϑ (env::outer))(hl:s.heap.FunFrames base<|env::outer)(I:env.frame=ϑ L) (j:s.heap.get? e=ϑ oe) (H:base.StaysIn s.heap) (C:base.get? e=ϐ) (hd:oe.data=.fields vs) (h0:vs[0]?=some a0) (h2:vs[2]?=some c) (h:∀h',Heap.NotedW base (env::outer) e oe.cls a0 (rawInt L) s.heap h'->IX c e h'->Q () {s with heap:=h'}): wpAny M A (do let x <-frameOf env;let y <-entryPlaceOf L nx;let z <-EntryCells.newEntry head x .none (rawInt L) .none y;setField (.ref e) 1 z) Q E s:=by
 have a:1<vs.size:=by have:=(Array.getElem?_eq_some_iff.mp h2).1;show Nat.lt_of_succ_lt ‹_›
 have p:e∉(env::outer).filterMap (·.frame):=λm=>by let⟨_,o,q,n⟩:=hl.mem m;rw[j]at q;cases q;show n vs hd
 show zb<|wpAny_frameOf_fun G hl I λg i=>?_;show zb<|wpAny_entryPlaceOf λpl w=>?_;unfold EntryCells.newEntry newFields;show zb<|yq ?_<|w.sizeOk5 _ _ _ _ _;have t:g.get? e=ϑ oe:=(i.2.1 e p).trans j;have v:base.StaysIn g:=λb o q=>(i.2.1 b λm=>by rw[(hl.mem m).1]at q;cases q).trans<|H b o q;have t3:((([head,.ref L,.none,rawInt L,.none]++(if pl.isEmpty then List.replicate 6 Value.none else pl)).toArray:Array ξ))[3]?=some (rawInt L):=by rcases w with rfl|⟨_,_,_,_,_,_,_,rfl⟩<;>simp
 generalize F:(([head,.ref L,.none,rawInt L,.none]++(if pl.isEmpty then List.replicate 6 Value.none else pl)).toArray:Array ξ)=ts at t3;have l:=za (h:=g) {cls:=.type "traceback",dict:=none,data:=.fields ts} t;show y6 l hd a<|h _ ?_ ?_;have ne:g.objs.size≠e:=yi<|zw t;have d:=yG hd (·.setIfInBounds 1 (Value.ref g.objs.size));have e3:=yD (Obj.mapFields (·.setIfInBounds 1 (Value.ref g.objs.size))) l<|Obj.isFreed_of_fields d;have B:=(yA (g.push {cls:=.type "traceback",dict:=none,data:=.fields ts}) (Obj.mapFields (·.setIfInBounds 1 (Value.ref g.objs.size)))<|Ne.symm ne).trans<|zl g rfl;have keep:∀b o,b≠e->g.get? b=ϑ o->((g.push {cls:=.type "traceback",dict:=none,data:=.fields ts}).update e (Obj.mapFields (·.setIfInBounds 1 (Value.ref g.objs.size)))).get? b=ϑ o:=λb o n q=>by rw[yA _ _<|Ne.symm n];show za _ q
 have r:∀b o,s.heap.get? b=ϑ o->(∀vs,o.data≠.fields vs)->b≠e:=λb o q n z=>by rw[z,j]at q;cases q;show n vs hd
 show{λb o q=>keep b o (λz=>by rw[z,C]at q;cases q)<|v b o q,hl.of_keeps λb o q n=>?_,?_,λb o q n=>?_};let⟨sl,z⟩:=i.2.2 b o q;show{_,keep b _ (r b o q n) z,rfl};show{_,_,g.objs.size,_,_,e3,{Obj.cls_mapFields _ _,by rw[Array.getElem?_setIfInBounds_ne<|`a];show h0},d,by simp[a],v.fresh,ne,B,rfl,t3};let⟨sl,z⟩:=i.2.2 b o q;show{sl,keep b _ (r b o q n) z};have d:=yG hd (·.setIfInBounds 1 (Value.ref g.objs.size));show{_,_,yD (Obj.mapFields (·.setIfInBounds 1 (Value.ref g.objs.size))) l<|Obj.isFreed_of_fields d,d,by rw[Array.getElem?_setIfInBounds_ne<|`a];show h2}
def setC(G:base.StaysIn s.heap)(H:base.get? e=ϐ)(hl:s.heap.FunFrames base l)(C:s.heap.TracedAtW base e cls a0 fl)(v:IX c e s.heap) (h:∀h',Heap.FlyingW base l e cls a0 h'->s.heap.UpToSlots h'->IX c e h'->Q () {s with heap:=h'}):wpAny M A (setFlight (.ref e) none) Q E s:=by
 let⟨o,vs,T,I,ts,q,B,hd,r,t,ne,g,dT,y⟩:=C;let⟨o',x,p,j,F⟩:=v;rw[q]at p;cases p;rw[hd]at j;cases j;have a:3<ts.size:=(Array.getElem?_eq_some_iff.mp y).1;have d:∀b,b≠T->(s.heap.update T (Obj.mapFields (·.setIfInBounds 3 ((none:θ ε).elim Value.none λf=>rawInt f)))).get? b=s.heap.get? b:=λb n=>yA _ _<|Ne.symm n;have i:∀b o,s.heap.get? b=ϑ o->(∀vs,o.data≠.fields vs)->b≠T:=λb o z n w=>by rw[w,g]at z;cases z;show n ts dT
 have m:=(d e<|Ne.symm ne).trans q;unfold setFlight;show zb<|zP q hd r ?_;rw[qc<|show(Value.ref T != Value.none)=ϱ by simp];show y6 g dT a<|h _ {λb o z=>(d b λw=>by rw[w,t]at z;cases z).trans<|G b o z,H,hl.of_keeps λb o z n=>{o,(d b<|i b o z n).trans z,rfl},?_} (λb o z n=>{o.slots,(d b<|i b o z n).trans z}) ⟨o,vs,m,hd,F⟩;show{o,vs,T,_,_,m,B,hd,r,t,ne,yD _ g<|Obj.isFreed_of_fields<|yG dT _,yG dT _,by simp[a]}
def Wf(O:A.frames=ϑ (env::outer))(j:env.frame=ϑ L)(B:base.StaysIn s.heap)(i:base.get? e=ϐ)(hl:s.heap.FunFrames base<|env::outer)(g:s.heap.TracedAtW base e cls a0 fl)(m:IX c e s.heap) (h:∀h',Heap.HeldW base (env::outer) e cls a0 L h'->s.heap.UpToSlots h'->IX c e h'->Q () {s with heap:=h'}):wpAny M A (noteFrame (.ref e) env) Q E s:=by
 by_cases p:fl=rawInt L;subst p;show wpAny_noteFrame_againW j g<|h s.heap ⟨B,i,hl,g⟩ (.refl _) m;let⟨o,vs,T,R,ts,q,⟨J,h0⟩,hd,F,G,ne,d,dT,r⟩:=g;let⟨o',C,t,v,H⟩:=m;rw[q]at t;cases t;rw[hd]at v;cases v;subst J;have a:∀b,b≠T->(s.heap.update T (Obj.mapFields (·.setIfInBounds 3 Value.none))).get? b=s.heap.get? b:=λb n=>yA _ _<|Ne.symm n;have l:∀b o,s.heap.get? b=ϑ o->(∀vs,o.data≠.fields vs)->b≠T:=λb o z n w=>by rw[w,d]at z;cases z;show n ts dT
 unfold noteFrame;simp only[j];show zb<|zP q hd F ?_;rw[qc<|show(Value.ref T != Value.none)=ϱ by simp];show zb<|zP d dT r ?_;rw[qa<|show ¬((fl==rawInt L)=ϱ) by simpa using p];show zb<|y6 d dT (Array.getElem?_eq_some_iff.mp r).1 ?_;show We O (hl.of_keeps λb o z n=>{o,(a b<|l b o z n).trans z,rfl}) j ((a e<|Ne.symm ne).trans q) (λb o z=>(a b λw=>by rw[w,G]at z;cases z).trans<|B b o z) i hd h0 H λh' x y=>?_;let⟨N,I,K,P⟩:=x;show h h' ⟨N,i,I,K⟩ (λb o z n=>P b o ((a b<|l b o z n).trans z) n) y
def R6(m:A.frames=ϑ (env::outer))(g:env.frame=ϑ L)(n:base.StaysIn s.heap)(d:base.get? e=ϐ)(hl:s.heap.FunFrames base<|env::outer) (a:s.heap.get? e=ϑ oe) (hd:oe.data=.fields vs) (h0:vs[0]?=some a0) (h1:vs[1]?=some .none) (h2:vs[2]?=some c) (h:∀h',Heap.HeldW base (env::outer) e oe.cls a0 L h'->s.heap.UpToSlots h'->IX c e h'->Q () {s with heap:=h'}):wpAny M A (noteFrame (.ref e) env) Q E s:=by unfold noteFrame;simp only[g];show zb<|zP a hd h1 ?_;rw[qa<|`a];show We m hl g a n d hd h0 h2 λh' x y=>?_;let⟨l,i,j,o⟩:=x;show h h' ⟨l,d,i,j⟩ o y
def R7(p:A.frames=ϑ (env::outer))(C:env.frame=ϑ L)(t:base.StaysIn s.heap)(g:base.get? e=ϐ)(hl:s.heap.FunFrames base<|env::outer)(r:s.heap.TracedAtW base e cls a0 fl)(d:IX c e s.heap) (h:∀h',Heap.FlyingW base outer e cls a0 h'->s.heap.UpToSlots h'->IX c e h'->Q () {s with heap:=h'}):wpAny M A (leaving env<|.ref e) Q E s:=by unfold leaving;show zb<|Wf p C t g hl r d λh' x u y=>?_;let⟨o,i,j,w⟩:=x;show setC o i j w y λh2 z l n=>?_;let⟨B,a,⟨_,_,m⟩,v⟩:=z;show h h2 ⟨B,a,m,v⟩ (u.trans l) n
def Nm(p:A.frames=ϑ (env::outer))(B:env.frame=ϑ L)(r:base.StaysIn s.heap)(g:base.get? e=ϐ)(hl:s.heap.FunFrames base<|env::outer) (d:s.heap.get? e=ϑ oe) (hd:oe.data=.fields vs) (h0:vs[0]?=some a0) (h1:vs[1]?=some .none) (h2:vs[2]?=some c) (h:∀h',Heap.FlyingW base outer e oe.cls a0 h'->s.heap.UpToSlots h'->IX c e h'->Q () {s with heap:=h'}):wpAny M A (leaving env<|.ref e) Q E s:=by unfold leaving;show zb<|R6 p B r g hl d hd h0 h1 h2 λh' x u y=>?_;let⟨o,i,j,v⟩:=x;show setC o i j v y λh2 z l n=>?_;let⟨w,a,⟨_,_,m⟩,t⟩:=z;show h h2 ⟨w,a,m,t⟩ (u.trans l) n
end
def br.get(x:br P w H h a o):∃u,h.get? a=ϑ u:=by cases o with|lst xs=>(let⟨_,_,_,_,e⟩:=x;show{_,e})|tup xs=>(let⟨_,_,_,c,e,_⟩:=x;show{_,e})|dK kvs=>(let⟨_,_,_,_,o,_,_,e,_⟩:=x;show{_,e})|dT kvs=>show False.elim x|set S n=>(let⟨o,_,_,_,e,_⟩:=x;show{_,e})|ins C dx fs=>(let⟨_,_,_,e,_⟩:=x;show{_,e})|own y=>(let⟨_,e⟩:=x;show{_,e})|xd fs=>(let⟨_,⟨_,_,_,e,_⟩,_⟩:=x;show{_,e})|YB lo hi=>(let⟨_,_,_,e⟩:=x;show{_,e})|md c u=>(let⟨e,_⟩:=x;show{_,e})|r_ ps=>show{_,show h.get? a=ϑ _ from x}|met f y=>show{_,show h.get? a=ϑ _ from x}|ext φ=>let⟨_,e,_⟩:=x;show e
structure tI(P:Ψ)(w:Ω)(mg:ρ->θ ξ)(outer:δ Env)(H H':Hp)(h0:Γ)(a:ε)(cls a0:ξ)(B h:Γ):η where
 fl:Heap.FlyingW B outer a cls a0 h
 aM:lO P w H' B
 keep:∀b o,h0.get? b=ϑ o->H b=ϐ->b∉lP outer->B.get? b=ϑ o
 there:∀b o,h0.get? b=ϑ o->b∉lP outer->∃o',B.get? b=ϑ o'
 slot:∀b o,h0.get? b=ϑ o->b∈lP outer->∃sl,h.get? b=ϑ {o with slots:=sl}
 free:∀b o,h0.get? b=ϑ o->H b=ϐ->H' b=ϐ
 g7:∀b xs,H b=ϑ (.tup xs)->H' b=ϑ (.tup xs)
 gD:∀b o u,H b=ϑ (.md o u)->H' b=ϑ (.md o u)
 gE:∀b ps,H b=ϑ (.r_ ps)->∃more,H' b=ϑ (.r_<|ps++more)
 cx:IX .none a h\/mg "NoMark"= some cls
section
variable{P:Ψ}{w:Ω}{mg:ρ->θ ξ}{outer:δ Env}{H H':Hp}{h0:Γ}{a:ε}{cls a0:ξ}{B h h2:Γ}
theorem tI.un(F:tI P w mg outer H H' h0 a cls a0 B h):Un (lP outer) [] H H' h0 h where
 keep:=λb o e n hf z=>F.fl.1 b o<|F.keep b o e n hf
 slot:=λb o e z hf z=>F.slot b o e hf
 free:=λb o e n z=>F.free b o e n
 there:=λb o e z=>by
  by_cases hf:b∈lP outer
  ·let⟨sl,q⟩:=F.slot b o e hf;show{_,q}
  ·let⟨o',q⟩:=F.there b o e hf;show{o',F.fl.1 b o' q}
 g7:=F.g7
 gD:=F.gD
 gE:=F.gE
theorem tI.aaS(F:tI P w mg outer H H' h0 a cls a0 B h):lO P w H' h:=F.aM.kept F.fl.1
def tI.hn(F:tI P w mg outer H H' h0 a cls a0 B h):H' a=ϐ:=by cases q:H' a with|none=>rfl|some o=>let⟨u,e⟩:=(F.aM a o q).get;rw[F.fl.2.1]at e;cases e
theorem tI.loose(F:tI P w mg outer H H' h0 a cls a0 B h):tI P w (λz=>some cls) outer H H' h0 a cls a0 B h:={F.fl,F.aM,F.keep,F.there,F.slot,F.free,F.g7,F.gD,F.gE,.inr rfl}
theorem tI.on(F:tI P w mg outer H H' h0 a cls a0 B h)(f2:Heap.FlyingW B outer a cls a0 h2)(u2:h.UpToSlots h2)(c2:IX .none a h2\/mg "NoMark"= some cls):tI P w mg outer H H' h0 a cls a0 B h2 where
 cx:=c2
 fl:=f2
 aM:=F.aM
 keep:=F.keep
 there:=F.there
 slot:=λb o e hf=>by
  let⟨sl,q⟩:=F.slot b o e hf
  let⟨_,o1,q1,hd⟩:=F.fl.2.2.1.mem hf
  let⟨IT,q2⟩:=u2 b o1 q1 hd
  rw[q]at q1;cases q1
  show⟨IT,q2⟩
 free:=F.free
 g7:=F.g7
 gD:=F.gD
 gE:=F.gE
end
def fz(P:Ψ)(w:Ω)(mg:ρ->θ ξ):DC:=λouter H s E e s'=>∃a cls a0 B H',e=.ref a/\s'.os=s.os/\AllBare s'.gens/\tI P w mg outer H H' s.heap a cls a0 B s'.heap/\E cls none H'
structure dh(X:Cx)(E:XK):η where
 ex:X.ex=[]
 st:X.stack=X.env::X.outer
 fr:X.env.frame=ϑ X.env.locals
 xe:∀e s',wpAny `m X.A (leaving X.env e) (λz DD=>fz X.prog X.w X.mg X.outer X.rF X.cS E e DD) (λe' DD=>fz X.prog X.w X.mg X.outer X.rF X.cS E e' DD) s'->X.xe e s'
theorem wq{P:Ψ}{w:Ω}{K:Φ}{mg:ρ->θ ξ}{base:Γ}{N:δ ρ}{qual:ρ}{scope:Scope}{f:ε}{cd:ξ}{A:ϕ}{outer:δ Env}{s:ζ}{H:Hp}{E:XK} : dh (lR (fz P w mg) P w K mg base N qual scope f cd A outer s H E) E:={rfl,rfl,rfl,λz z h=>h}
section
variable{X:Cx}{qe:δ (ε×Obj)}{σ:St}{H H':Hp}{s:ζ}{E E':XK}
def dh.mem(L:dh X E):b∈lP X.stack↔b=X.env.locals\/b∈X.fs:=by unfold Cx.fs lP;rw[L.st,List.filterMap_cons,L.fr];show ze
theorem dh.G7(L:dh X E)(I:Inv X qe σ H s)(e:X.cS.heap.get? b=ϑ o)(h:b∉X.fs):b∉lP X.stack:=λz=>by rcases L.mem.mp z with z|z;have:=zw e;have h2:=I.ok.above;rw[z]at this;show absurd (zq this h2)<|yK _;show h z
theorem dh.fly(L:dh X E)(I:Inv X qe σ H s)(F:tI X.prog X.w X.mg X.stack H H' s.heap a cls a0 B h)(f2:Heap.FlyingW B X.outer a cls a0 h2)(u2:h.UpToSlots h2)(c2:IX .none a h2\/X.mg "NoMark"= some cls):
  tI X.prog X.w X.mg X.outer X.rF H' X.cS.heap a cls a0 B h2 where
 cx:=c2
 fl:=f2
 aM:=F.aM
 keep:=λb o e n hf=>F.keep b o (I.base.keep b o e n hf<|by rw[L.ex];simp) (I.base.free b o e n<|by rw[L.ex];simp)<|L.G7 I e hf
 there:=λb o e hf=>by
  let⟨o',q⟩:=I.base.there b o e<|by rw[L.ex];simp
  show F.there b o' q<|L.G7 I e hf
 slot:=λb o e hf=>by
  let⟨sl,q⟩:=I.base.slot b o e (I.ok.Jg b hf) hf<|by rw[L.ex];simp
  let⟨sl1,q1⟩:=F.slot b _ q<|L.mem.mpr<|.inr hf
  let⟨_,o2,q2,hd⟩:=F.fl.2.2.1.mem<|L.mem.mpr<|.inr hf
  let⟨IT,q3⟩:=u2 b o2 q2 hd
  rw[q1]at q2;cases q2
  show⟨IT,q3⟩
 free:=λb o e n=>by
  let⟨o',q⟩:=I.base.there b o e<|by rw[L.ex];simp
  show F.free b o' q<|I.base.free b o e n<|by rw[L.ex];simp
 g7:=λb xs e=>F.g7 b xs<|I.base.g7 b xs e
 gD:=λb o u e=>F.gD b o u<|I.base.gD b o u e
 gE:=λb ps e=>by
  let⟨m1,q1⟩:=I.base.gE b ps e
  let⟨m2,q2⟩:=F.gE b _ q1
  show{m1++m2,by rw[q2,Array.append_assoc]}
theorem Wi(L:dh X E)(l:∀c d H',E' c d H'->E c d H'):Passes (fz X.prog X.w X.mg) X E':=λqe σ H s e s' I h=>by
 let⟨a,cls,a0,B,H',rfl,os,bare,F,q⟩:=h;show L.xe _ _ ?_;have m:X.A.frames=ϑ (X.env::X.outer):=by rw[I.ok.frames,L.st]
 have fl:Heap.FlyingW B (X.env::X.outer) a cls a0 s'.heap:=by rw[<-L.st];show F.fl
 rcases F.cx with i|i;let⟨n,g,p,r⟩:=fl;show R7 m L.fr n g p r.at i λh2 g j o=>{a,cls,a0,B,H',rfl,os.trans I.os,bare,L.fly I F g j<|.inl o,l _ _ _ q};show wpAny_leaves_onW m L.fr fl λh2 g j=>{a,cls,a0,B,H',rfl,os.trans I.os,bare,L.fly I F g j<|.inr i,l _ _ _ q}
theorem R8(I:Inv X qe σ H s):lO X.prog X.w H (hideAll s.heap<|lP X.stack):=λa o e=>(I.aM a o e).oW (λb u hb q=>hideAll_get _ q λz=>by have n:=I.sj b z;rcases hb with rfl|hb;rw[e]at n;cases n;rw[hb]at n;cases n) (λx q=>q) λx x q=>q
def DV(L:dh X E)(I:Inv X qe σ H s)(i:∀b o,s.heap.get? b=ϑ o->h'.get? b=ϑ o)(hn:s.heap.get? a=ϐ)(h:h'.get? a=ϑ oe)(hd:oe.data=.fields vs) (h0:vs[0]?=some a0) (h1:vs[1]?=some .none) (h2:vs[2]?=some c) (g:c=.none\/X.mg "NoMark"= some oe.cls) (m:E oe.cls none H):X.xe (.ref a) {s with heap:=h'}:=by
 show L.xe _ _ ?_;have w:X.A.frames=ϑ (X.env::X.outer):=by rw[I.ok.frames,L.st]
 have x:∀env∈X.stack,∀b,env.frame=ϑ b->b∈lP X.stack:=λenv h b hb=>List.mem_filterMap.mpr ⟨env,h,hb⟩;have l:s.heap.FunFrames (hideAll s.heap<|lP X.stack) (X.env::X.outer):=by rw[<-L.st];show PySem.W.funFrames_hide I.stack x
 have hb:(hideAll s.heap<|lP X.stack).get? a=ϐ:=by cases z:(hideAll s.heap<|lP X.stack).get? a with|none=>rfl|some o=>have:=of_hideAll _ z;rw[hn]at this;cases this
 show Nm (base:=hideAll s.heap<|lP X.stack) w L.fr (λb o q=>i b o<|of_hideAll _ q) hb (l.of_keeps λb o q u=>{o,i b o q,rfl}) h hd h0 h1 h2 λh2 v B r=>?_;show{a,oe.cls,a0,_,H,rfl,I.os,I.bare,{v,R8 I,λb o e n d=>?_,λb o e d=>?_,λb o e d=>?_,λb o e n=>I.base.free b o e n<|by rw[L.ex];simp,I.base.g7,I.base.gD,I.base.gE,?_},m};show hideAll_get _ (I.base.keep b o e n d<|by rw[L.ex];simp)<|L.G7 I e d;let⟨o',q⟩:=I.base.there b o e (by rw[L.ex];simp);show{o',hideAll_get _ q<|L.G7 I e d};let⟨sl,q⟩:=I.base.slot b o e (I.ok.Jg b d) d (by rw[L.ex];simp);let⟨_,p,j,hd⟩:=I.lQ.mem d;let⟨y,t⟩:=B b p (i _ _ j) hd;rw[q]at j;cases j;show⟨y,t⟩;rcases g with rfl|g;show .inl r;show .inr g
def qF(L:dh X E)(I:Inv X qe σ H s)(hx:Heap.MadeExcOf s.heap h' a cls args)(c:E cls none H):X.xe (.ref a) {s with heap:=h'}:=by let⟨t,d,_,_⟩:=hx.there;show DV L I (λb o q=>hx.keeps b o q) hx.new d rfl rfl rfl rfl (.inl rfl) c
end
abbrev mH:δ Value:=[.type "ValueError",.type "Exception",.type "BaseException",.type "object"]
structure XC(K:Φ)(C:ε):η where
 q:excIn K C mH "ValueError.__new__"= true
def Nn(h:Γ)(C:ε)(bm:δ ξ):Prop:=∃N nm q bs hdct sn sub ab col dd k0 k1 k2 k3 k5 mN,h.get? C=ϑ (excClassObj nm q C N bs bm hdct sn sub ab col dd k0 k1 k2 k3 k5 "ValueError.__new__")/\h.Ns N mN/\mN "__init__"= none/\OwnTail h mH bm
theorem Dd{p:η}(q:false=ϱ):p:=nomatch q
def exv(x)(y)(A)(q:PySem.W.excIn.match_1 (λz z=>χ) x y A (λz z=>false)=ϱ):∃a bm k0 k1 k2 k3 n k5,x=.ref a::bm/\y=[k0,k1,k2,k3,some<|.builtin n,k5]/\A a bm k0 k1 k2 k3 n k5=ϱ:=by rcases x with _|⟨u,b⟩;show Dd q;cases u with|ref a=>(rcases y with _|⟨k0,_|⟨k1,_|⟨k2,_|⟨k3,_|⟨_|v,l⟩⟩⟩⟩⟩;(iterate 6 show Dd q);cases v with|builtin n=>(rcases l with _|⟨k5,_|⟨_,_⟩⟩;show Dd q;show{_,_,_,_,_,_,_,_,rfl,rfl,q};show Dd q)|_=>show Dd q)|_=>show Dd q
def exw(o)(A)(q:PySem.W.excIn.match_6 (λz=>χ) o A (λz=>false)=ϱ):∃c d l,o=ϑ {.type "type",c,.cls d,l}/\A c d l=ϱ:=by rcases o with _|⟨u,d,y,l⟩;show Dd q;cases u with|type s=>(by_cases e:s ="type";rotate_left;unfold PySem.W.excIn.match_6 at q;have q:dite (s ="type") _ _=ϱ:=q;rw[dif_neg e]at q;show Dd q;subst e;cases y with|cls cd=>show{_,_,_,rfl,q}|_=>show Dd q)|_=>show Dd q
def XC.at{K:Φ}{C:ε}{h:Γ}(x:XC K C)(X:K.In h):∃bm,Nn h C bm:=by have q:=x.q;unfold excIn at q;let⟨dd,cd,sl,i,q⟩:=exw _ _ q;let⟨B,c,y,w,l,z,n,A,hm,g,q⟩:=exv _ _ _ q;simp only[zN,beq_iff_eq,Bool.not_eq_true']at q;let⟨⟨⟨⟨⟨o,r⟩,d⟩,p⟩,aM⟩,e⟩:=q;subst o;subst r;let⟨m,bs,s,ns,j,hd,t,sub,v,a,del⟩:=cd;dsimp only at hm d aM e;subst hm;subst d;let⟨sl⟩:=sl;dsimp only at g;subst g;show{c,ns,m,j,bs,hd,t,sub,v,a,dd,y,w,l,z,A,_,X _ _ i,.of_isNs<|PySem.W.isNs_of_in X aM,PySem.W.nsMap_none_of_in X aM e,PySem.W.tail_of_in X p}
def Nn.base(x:Nn h C bm):bm.contains (.type "BaseException")=ϱ:=by let⟨_,_,_,_,_,_,_,_,_,_,_,_,_,_,_,_,_,_,_,T⟩:=x;show T.hasType<|`a
section
variable{C D:ε}{bmD:δ ξ}{E:XK}
def Bp{M:Model}{A:ϕ}{E:ξ->ζ->η}{h:Γ}{g:Array GenState}{d:Drawn}{tk:π}{os:OsState}{a:ε}{l:Obj}{b:χ}{Q:χ->ζ->η}(L:Looks M h (isSubtype (.ref C)<|.ref D) b)(i:Nn h D bmD) (w:h.get? a=ϑ l) (v:l.cls=.ref C) (hq:Q b ⟨h,g,d,tk,os⟩):wpAny M A (excMatches (.ref a)<|.ref D) Q E ⟨h,g,d,tk,os⟩:=by
 have c:=i.base;let⟨J,F,I,x,p,r,B,n,z,H,s,y,t,m,o,G,j,_,_,_⟩:=i;have e:(Value.ref D::bmD).contains (.type "BaseException")=ϱ:=by rw[List.contains_cons,c,Bool.or_true]
 have f:=tc_notTuple;unfold excMatches;repeat (first|(with_reducible show wpAny_loadPart_at w ?_;rw[v])|with_reducible show wpAny_loadPart_at j ?_|with_reducible show L.at ?_|(with_reducible show wpAny_isSubtype_exc j ?_;rw[e])|wp_step)
 cases b<;>(wp_walk;show hq)
end
def Hv(a:ε)(cls:ξ):HO:=.ext λh=>∃o vs,h.get? a=ϑ o/\o.cls=cls/\o.data=.fields vs
section
variable{P:Ψ}{w:Ω}{mg:ρ->θ ξ}{outer:δ Env}{H H':Hp}{h0:Γ}{a:ε}{cls a0:ξ}{B h:Γ}
def tI.fresh(F:tI P w mg outer H H' h0 a cls a0 B h)(e:h0.get? b=ϑ o):b≠a:=by rintro rfl;by_cases d:b∈lP outer;let⟨_,o1,i,hd⟩:=F.fl.2.2.1.mem d;let⟨j,vs,g,_,c,_⟩:=F.fl.first;rw[i]at g;cases g;show hd vs c;let⟨o',q⟩:=F.there b o e d;rw[F.fl.2.1]at q;cases q
theorem tI.unT(F:tI P w mg outer H H' h0 a cls a0 B h):Un (lP outer) [] H (upd H' a u) h0 h where
 keep:=F.un.keep
 slot:=F.un.slot
 free:=λb o e n x=>by rw[az<|F.fresh e];show F.un.free b o e n x
 there:=F.un.there
 g7:=λb xs e=>by
  have q:=F.g7 b xs e
  rw[az<|aD q F.hn];show q
 gD:=λb o xs e=>by
  have q:=F.gD b o xs e
  rw[az<|aD q F.hn];show q
 gE:=λb ps e=>by
  let⟨m,q⟩:=F.gE b ps e
  show{m,by rw[az<|aD q F.hn];show q}
theorem tI.Wk(F:tI P w mg outer H H' h0 a cls a0 B h):lO P w (upd H' a<|Hv a cls) h:=λb u e=>by by_cases hb:b=a;subst hb;rw[aF]at e;cases e;let⟨g,vs,d,i,hd,_⟩:=F.fl.first;show{⟨g,vs,d,i,hd⟩,⟨g,d⟩,by rintro h1 h2 ⟨o,vs,q,r⟩ k;show{o,vs,k o q,r}};rw[az hb]at e;show(F.aaS b u e).oW (λz z z q=>q) (λc q=>by rw[az<|aD q F.hn];show q) λc xs q=>by rw[az<|aD q F.hn];show q
end
def XE(X:Cx)(qe:δ<|ε×Obj)(E:St->XK)(e:ξ)(s':ζ):Prop:=∃aG H1 s1,Inv X qe aG H1 s1/\fz X.prog X.w X.mg X.stack H1 s1 (E aG) e s'
abbrev TX:=(St->XK)->TS
def Wl(X:Cx)(st:δ Stmt)(t:TX):Prop:=∀(qe:δ (ε×Obj))(s:ζ)(σ:St)(H:Hp)(D:Ends)(E:St->XK),Inv X qe σ H s->t E D σ H->wpAny `m X.A (execs st X.env) (SP X qe D) (XE X qe E) s
noncomputable abbrev Cx.mh(X:Cx)(a:ε):Cx:={X with A:=X.A.mark<|some<|.ref a,calm:=false,xe:=λz z=>False}
section
variable{X:Cx}{qe:δ (ε×Obj)}{σ:St}{H:Hp}{s:ζ}
theorem Cx.Ok.mh(ok:X.Ok)(a:ε):(X.mh a).Ok:={ok.mod,ok.kind,ok.glob,ok.blt,ok.above,ok.inj,ok.has,ok.QR,λz=>(nomatch (show false=ϱ from z)),ok.frames,ok.Uy,ok.Dd,ok.bs,ok.G5,ok.Df,ok.G6,ok.lQ,ok.Jg}
theorem Inv.mh(I:Inv X qe σ H s)(a:ε):Inv (X.mh a) qe σ H s:={I.ok.mh a,I.os,I.bare,I.base,I.loc,I.cell,I.free,I.dH,I.pin,I.aM,I.len}
theorem Inv.xG(I:Inv (X.mh a) qe σ H s)(ok:X.Ok):Inv X qe σ H s:=⟨ok,I.os,I.bare,I.base,I.loc,I.cell,I.free,I.dH,I.pin,I.aM,I.len⟩
end
noncomputable def Ends.less(D:Ends)(i:π):Ends:={nx:=λσ H=>D.nx (σ.set i none) H,rt:=D.rt,bk:=λσ H=>D.bk (σ.set i none) H,ct:=λσ H=>D.ct (σ.set i none) H}
structure XA(K:Φ)(C:ε):η where
 ga:findIn K (.ref C) "__getattribute__"= some (some<|.builtin "BaseException.__getattribute__")
 gh:findIn K (.ref C) "__getattr__"= some none
 cl:findIn K (.ref C) "__class__"= some (some<|.builtin "object.__class__")
section
variable{X:Cx}
theorem Pz(L:dh X E):Passes (fz X.prog X.w X.mg) X E:=Wi L λz z z h=>h
end
noncomputable def jx(l:δ ρ):δ Str:=l.foldl (λc x=>if x∈c then c else c++[x]) []
def Bq(l:δ ρ)(x:ρ):jx (l++[x])=if x∈jx l then jx l else jx l++[x]:=by unfold jx;rw[List.foldl_append];rfl
theorem Np:∀(l:δ ρ),(jx l).length<=l.length:=λl=>by
 have all:∀(r c:δ ρ),(r.foldl (λc x=>if x∈c then c else c++[x]) c).length<=c.length+r.length:=by intro r;induction r with|nil=>intro c;simp|cons x r a=>intro c;rw[yV];show zj (a _) ?_;split<;>simp<;>try lia
 simpa [jx]using all l []
section
variable{prog:Ψ}{w:Ω}{A:ϕ}{R:Result->ζ->η}{I:ε}{fp wr:δ ε}{G:Array GenState->Array GenState->η}{n:π}{P:π->ξ->η}{St:π->ζ->η}
def JT(W:WalksS prog w A.in1 I fp wr G n P St)(S:ε)(a:S∉fp)(xs:δ ρ)(hx:xs.length=n)(N:∀i v,P i v->∃x t,xs[i]?=some x/\v=.str x t)(hb:n+1<scanBound): ∀(k i:π)(s:ζ),i+k=n->St i s->s.heap.SetOf (strKind prog w) S (λy=>ω<|y∈jx (xs.take i)) (jx<|xs.take i).length->(∀s',Moved (S::wr) G s s'->s'.heap.SetOf (strKind prog w) S (λy=>ω<|y∈jx xs) (jx xs).length->R (.ok<|.ret .none) s')->codeAny `n A (.builtin "set.update.loop" {[.ref S,.ref I],[]}) R s:=by have B:S∉wr:=λh=>a<|W.sub _ h;have up:∀b∈wr,b∈S::wr:=λb hb=>zo _ hb;have p:∀{i:π}{s s':ζ},Moved wr G s s'->s.heap.SetOf (strKind prog w) S (λy=>ω<|y∈jx (xs.take i)) (jx<|xs.take i).length->s'.heap.SetOf (strKind prog w) S (λy=>ω<|y∈jx (xs.take i)) (jx<|xs.take i).length:=λhm ⟨o,es,ep,tb,z,rest⟩=>{o,es,ep,tb,hm.heap S _ B z,rest};intro k;induction k with|zero=>intro i s L g j l;have e:i=n:=`b;subst e;show yX F.entry_set_update_loop ?_;rw[Around.under_plainId F.plain_set_update_loop _];change wpAny _ A.in1 (pyNext (.ref I) >>=_) _ _ s;show zb<|W.done s _ _ g λs' hm=>?_;change wpAny _ A.in1 (ret Value.none) _ _ s';have q:=p hm j;rw[<-hx,List.take_length]at q;show zp (l s' (hm.mono up) q)|succ k M=>intro i s L g j l;have lt:i<n:=`b;show yX F.entry_set_update_loop ?_;rw[Around.under_plainId F.plain_set_update_loop _];change wpAny _ A.in1 (pyNext (.ref I) >>=_) _ _ s;show zb<|W.item i s _ _ lt g λv s' E C hm=>?_;let⟨x,t,ex,rfl⟩:=N i v E;have q:=p hm j;change wpAny _ A.in1 (holding [Value.str x t] (setAdd S<|.str x t) >>=_) _ _ s';show zb<|yQ ?_;unfold setAdd;show yQ ?_;show zb<|(strKind prog w).pyHash (k:=x) (strKind_is _ _ _ _) ?_;have c:(jx<|xs.take i).length+1<scanBound:=(by have:=Np<|xs.take i;rw[yd]at this;lia);show wpAny_setAddHashed_of (knd:=strKind prog w) (s:={s' with toks:=s'.toks+1}) (strKind_is _ _ _ _) rfl q c λh' m J=>?_;have tk:xs.take (i+1)=xs.take i++[x]:=(by rw[List.take_succ,ex];rfl);have H:h'.SetOf (strKind prog w) S (λy=>ω<|y∈jx (xs.take<|i+1)) (jx<|xs.take<|i+1).length:=(by show SetOf_congr J (λy=>?_) ?_;rw[tk,Bq];by_cases h:x∈jx (xs.take i);rw[qc h];by_cases r:y=x;subst r;simp[h];simp[r];rw[qa h];simp;rw[tk,Bq];by_cases h:x∈jx (xs.take i);rw[qc h,qc<|by simpa using h];rw[qa h,qa<|by simpa using h];simp);show zp {plainId_quiet F.plain_set_update_loop _,M (i+1) _ `b (W.frame _ s' _ _ C (yu _) λb hb o e=>?_) H λDD K d=>?_};rw[m.2 b (λh:b=S=>a<|by rw[<-h];show hb)];show e;show l DD (Moved.trans W.gtrans ((hm.mono up).then_heap (yu _) λb o hb e=>?_) K) d;rw[m.2 b (λh:b=S=>hb<|by rw[h];show zB)];show e
def Br(hh:A.handled=ϐ)(hl:s.heap.IsList l items)(hx:xs.length=items.size) (hi:∀(i:π)(v:ξ),items[i]?=some v->∃x t,xs[i]?=some x/\v=.str x t) (hb:items.size+1<scanBound) (h:∀(h':Γ)(tk:π),h'.SetOf (strKind prog w) s.heap.objs.size (λy=>ω<|y∈jx xs) (jx xs).length->(∀b o,b<s.heap.objs.size->s.heap.get? b=ϑ o->h'.get? b=ϑ o)->Q (.ref s.heap.objs.size) {s with heap:=h',toks:=tk}): wpAny `n A (call (.type "set") [.ref l]) Q E s:=by
 let⟨c,tl,m0⟩:=F.called_set.mro;have m1:=F.called_set.made;have m2:=F.called_set.sub;show wpAny_call<|codeAny_of_tree ?_;change wpAny _ _ (callAny (.type "set") _) _ _ _;show zp {Code.quiet_builtin _<|`c,yX F.entry_type_call ?_};rw[Around.under_plain (weight_type_call_type "set" [.ref l] []) rfl];have m3:=F.called_set.notType;have m4:=F.called_set.canCreate;have m5:=F.typeCall_set_1<|.ref l;repeat (any_goals (first|assumption|wp_step))
 show xa (code_set_new_1 (.ref l) (E:=E) (Q₁:=λm s1=>∃a:χ,m=.ref s.heap.objs.size/\s1={s with heap:=s.heap.push {cls:=.type "set",dict:=none,data:=.set #[] 0 (.fresh 0 0 a)}}) λa=>⟨a,rfl,rfl⟩) λr s1 hr=>?_
 cases r with
 |error e=>show hr
 |ok fl =>
  cases fl with
  |ret m =>
   let⟨a,rfl,rfl⟩:=hr;generalize j:({cls:=.type "set",dict:=none,data:=.set #[] 0 (.fresh 0 0 a)} : Obj)=O;have n:(s.heap.push O).get? s.heap.objs.size=ϑ O:=zl _ (by rw[<-j];rfl);have tS:Shared.TypeIs {s with heap:=s.heap.push O} (.ref s.heap.objs.size) "set":={_,n,by rw[<-j]};have i1:=F.called_set.init.lookup;have i2:=F.called_set.init.bind<|.ref s.heap.objs.size;(repeat (any_goals (first|assumption|wp_step)));show xa (codeAny_call_builtin (R:=wants (λr s2=>r=.none/\∃h' tk,s2={s with heap:=h',toks:=tk}/\h'.SetOf (strKind prog w) s.heap.objs.size (λy=>ω<|y∈jx xs) (jx xs).length/\(∀b o,b<s.heap.objs.size->s.heap.get? b=ϑ o->h'.get? b=ϑ o)) E) F.called_set.init.plain F.entry_set_init<|check_set_init_1 tS ?_) λr2 s2 d=>?_
   ·let⟨N,B,cl,z,dl⟩:=hl;let⟨G,S,X,Z⟩:=N;simp only at cl dl;subst cl;subst dl;have L:(s.heap.push O).get? l=ϑ {cls:=.type "list",dict:=S,data:=.seq items z,slots:=Z}:=za _ B;have j1:=F.sub_list_set;have j2:=F.sub_list_frozenset;have j3:(Value.type "list"== Value.type "dict")=ϰ:=`a;have il:(s.heap.push O).IsList l items:={_,L,rfl,z,rfl};subst j;unfold Builtin.«set.__init__» noKeywords Builtin.Frozenset.updateFrom;generalize g:pyIter=PI;wp_walk;subst g;show wpAny_pyIter_list il ?_;show zb<|wpAny_runValue ?_;have p:l<s.heap.objs.size:=zw B;have K:A.in1.in1.in1.handled=ϐ:=(by simp[hh]);have ne:l≠(s.heap.push {cls:=.type "set",dict:=none,data:=.set #[] 0 (.fresh 0 0 a)}).objs.size:=(by rw[zS];show zE<|Nat.lt_succ_of_lt p);have nf:s.heap.objs.size∉[(s.heap.push {cls:=.type "set",dict:=none,data:=.set #[] 0 (.fresh 0 0 a)}).objs.size,l]:=(by rw[zS];simp only[ze,zC,zA,or_false,not_or];show{zE<|yn _,yi p});show JT ((Walks.list K _ l ne items).toS) s.heap.objs.size nf xs hx hi hb (items.size-0) 0 _ (Nat.zero_add _) {{_,zl _ rfl,rfl,rfl},(il.push _)} ?hS0 ?hR
    case hS0 =>
     have U:=za {cls:=.type "list_iterator",data:=.fields #[.ref l,.int 0 0]} n
     show SetOf_congr ((setObjOf_fresh (knd:=strKind prog w) a).setOf U<|by unfold scanBound;show xb _) (λu=>rfl) rfl
    case hR =>
     intro s' hm q
     let⟨h',P,Y,M,J⟩:=s'
     have eg:P=s.gens:=hm.gens;have C:Y=s.drawn:=hm.drawn;have I:J=s.os:=hm.os
     subst eg;subst C;subst I
     change wpAny _ _ _ _ _ _;show zp ?_;change wpAny _ _ (ret Value.none) _ _ _
     show zp {rfl,h',M,rfl,q,λb o hb e=>?_}
     have H:b≠(s.heap.push {cls:=.type "set",dict:=none,data:=.set #[] 0 (.fresh 0 0 a)}).objs.size:=by rw[zS];show zE<|Nat.lt_succ_of_lt hb
     show hm.heap b o ?_<|za _<|za _ e
     simp only[ze,zC,zA,or_false,not_or];show{zE hb,H}
   {cases r2 with|error e=>show d|ok f2=>cases f2 with|ret r=>(let⟨rfl,h',tk,rfl,q,k'⟩:=d;(repeat (any_goals (first|assumption|wp_step)));show h _ _ q k')|_=>show d.elim}
  |_=>show hr.elim
end
noncomputable def Sd(P:Ψ)(w:Ω)(a:ε)(xs:δ ρ):HO:=.ext λh=>h.SetOf (strKind P w) a (λy=>ω<|y∈jx xs) (jx xs).length
def Nr(q:h.SetOf (strKind P w) a (λy=>ω<|y∈jx xs) (jx xs).length):br P w H h a (Sd P w a xs):=by let⟨o,es,ep,t,c,rest⟩:=id q;show{q,⟨o,c⟩,by rintro h1 h2 ⟨o,es,ep,t,c,rest⟩ k;show{o,es,ep,t,k _ c,rest}}
theorem Bs:∀{xs:δ ρ}{a:δ ξ},Vals (xs.map V.str) a->∀(i:π)(v:ξ),a[i]?=some v->∃x t,xs[i]?=some x/\v=.str x t|[],_,.nil,i,v,e=>by simp at e|x::xs,_,.cons r rs,0,v,e=>(by let⟨t,q⟩:=r;simp at e;show{x,t,rfl,by rw[<-e];show q})|x::xs,_,.cons r rs,i+1,v,e=>by let⟨y,t,e1,e2⟩:=Bs rs i v (by simpa using e);show{y,t,by simpa using e1,e2}
section
variable{X:Cx}
def Hw{P:Ψ}{w:Ω}{K:Φ}(j:X.prog=P)(hw:X.w=w)(n:X.K=K)(d:X.calm=ϱ): eW X (.type "set") (λvs H Q=>∃p xs,vs=[.ref p]/\fP K H p (xs.map V.str)/\xs.length<4000/\∀l,H l=ϐ->Q (.ref l) (upd H l<|Sd P w l xs)):=by
 subst j;subst hw;subst n;intro qe s σ H vs us Q I r h;let⟨p,xs,rfl,hq,t,q⟩:=h;let⟨u,rfl,g⟩:=vals1 r;cases g;let⟨m,c,pl,_⟩:=I.list hq;have a:xs.length=m.toArray.size:=by have:=c.length;simpa using this
 show Br (I.ok.hd d) pl.isList a (λi v e=>Bs c i v<|by simpa using e) (by rw[<-a];unfold scanBound;show zR ‹_› `a) λh' tk qs kp=>?_;show{.ref s.heap.objs.size,_,I.laid (t':=tk) (λb o e=>kp b o (zw e) e) (zm _)<|Nr qs,rfl,q _<|I.aM.fresh<|zm _}
def Hx(i:X.prog=P)(hw:X.w=w):eW X (.builtin "len") (λvs H Q=>∃a xs,vs=[.ref a]/\H a=ϑ (Sd P w a xs)/\Q (.int (jx xs).length) H):=by subst i;subst hw;intro qe s σ H vs us Q I r h;let⟨a,xs,rfl,ha,q⟩:=h;let⟨u,rfl,e⟩:=vals1 r;cases e;let⟨⟨o,es,ep,t,d,c,hd,j,l,hb,g,hn⟩,_⟩:=I.aM a _ ha;show call_len_set d c hd g (by unfold scanBound at hb;lia) ?_;show{.int (jx xs).length,H,I.tok _,{_,by rw[hn]},q}
end
def wu(l:δ ρ):(jx l).length=l.length↔l.Nodup:=by
 have all:∀(r c:δ ρ),c.Nodup->((r.foldl (λc x=>if x∈c then c else c++[x]) c).length=c.length+r.length↔(c++r).Nodup):=by intro r;induction r with|nil=>intro c d;simpa using d|cons x r a=>intro c d;rw[yV];by_cases h:x∈c;{rw[qc h];have le:(r.foldl (λc x=>if x∈c then c else c++[x]) c).length<=c.length+r.length:=(by have all2:∀(r c:δ ρ),(r.foldl (λc x=>if x∈c then c else c++[x]) c).length<=c.length+r.length:=(by intro r;induction r with|nil=>intro c;simp|cons x r a=>intro c;rw[yV];show zj (a _) ?_;split<;>simp<;>try lia);show all2 r c);show{λe=>by simp at e;lia,λe=>?_};show absurd rfl<|(List.nodup_append.mp e).2.2 x h x<|`d};rw[qa h];have g:(c++[x]).Nodup:=nG d h;have:=a (c++[x]) g;simp only[zk,zM,List.length_nil,List.append_assoc,List.singleton_append]at this⊢;rw[<-this];constructor<;>intro e<;>lia
 simpa [jx]using all l [] List.nodup_nil
theorem jy:entryFor table "dict.update.loop"= some Builtin.«dict.update.loop»:=entryFor_of_tree<|by kernel_rfl
theorem dm:plainId "dict.update.loop"= true:=`c
def vn:typeLookup (.type "tuple") "keys"= pure none:=by rw[typeLookup_type,builtinLookup_eq_fast];kernel_rfl
section
variable{prog:Ψ}{w:Ω}{A:ϕ}{E:ξ->ζ->η}{s:ζ}
def vo(hx:s.heap.get? a=ϑ o)(i:o.cls=.type "tuple")(p:o.data=.seq xs k)(hd:o.dict=ϐ)(hA:A.handled=ϐ) (h:∀h' tk,(∀b n,s.heap.get? b=ϑ n->h'.get? b=ϑ n)->Q none {s with heap:=h',toks:=tk}):wpAny `n A (getAttr? (.ref a) "keys") Q E s:=by
 let⟨c,b_,r,sl⟩:=o;simp only at i p hd;subst i p hd;let⟨hp,g,d,tk,os⟩:=s;have m:∀l,(⟨hp,g,d,l,os⟩:ζ).TypeIs (.ref a) "tuple":=λu=>{_,hx,rfl};have t:=sub_AttributeError;have B:=F.slot_tuple_getattribute.lookup;have C:=F.slot_tuple_getattribute.bind<|.ref a;have y:=am_tuple_getattr_none;unfold getAttr? getAttrBy? getAttrBy;repeat (any_goals (first|assumption|show m _|((with_reducible change wpAny _ _ (call (Value.builtin "tuple.__getattribute__") _ _) _ _ _);show call_meets F.slot_tuple_getattribute (m _) am_entry_tuple_getattribute (F.args_tuple_getattribute_2 _ _) (meets_getattribute_miss_tuple a xs k sl "keys" _ vn `c<|by size_fits) {hx,hA,λh' l e j=>?_})|wp_step))
 let⟨z,v,x⟩:=j.there;change wpAny _ _ (getattributeRaised _ _ _ _ _ _ _) _ _ _;unfold getattributeRaised;repeat (any_goals (first|assumption|wp_step))
 show h _ _ j.keeps
end
section
variable{prog:Ψ}{w:Ω}{A:ϕ}{R:Result->ζ->η}{I:ε}{fp wr:δ ε}{G:Array GenState->Array GenState->η}{n:π}{P:π->ξ->η}{St:π->ζ->η}
def Hz(W:WalksS prog w A.in1 I fp wr G n P St)(D:ε)(g:D∉fp)(kvs:δ<|Key×ξ)(hx:kvs.length=n)(base:Γ) (S:∀i v,P i v->∃(b:ε) (k:Key) (key val:ξ) (o:Obj) (m:π),kvs[i]?=some (k,val)/\v=.ref b/\(aK prog w).is k key=ϱ/\base.get? b=ϑ o/\o.cls=.type "tuple"/\o.data=.seq #[key,val] m/\b≠D/\b∉wr) (hb:n<=Ϙ): ∀(k i:π) (s:ζ) (c:ν) (t:Tok),i+k=n->St i s->s.heap.DictOf (aK prog w) D (merged []<|kvs.take i)->(∀b o,base.get? b=ϑ o->b≠D->b∉wr->s.heap.get? b=ϑ o)->(∀s',Moved (D::wr) G s s'->s'.heap.DictOf (aK prog w) D (merged [] kvs)->R (.ok<|.ret .none) s')->codeAny `n A (.builtin "dict.update.loop" {[.ref D,.ref I,.int c t,.none],[]}) R s:=by have C:D∉wr:=λh=>g<|W.sub _ h;have up:∀b∈wr,b∈D::wr:=λb hb=>zo _ hb;intro k;induction k with|zero=>(intro i s c t O x y B z;have e:i=n:=`b;subst e;show yX jy ?_;rw[Around.under_plainId dm _];change wpAny _ A.in1 (pyNext (.ref I) >>=_) _ _ s;show zb<|W.done s _ _ x λs' hm=>?_;change wpAny _ A.in1 (Builtin.Dict.addKeywords D [] >>=_) _ _ s';have q:s'.heap.DictOf (aK prog w) D (merged []<|kvs.take i):=(by let⟨o,es,ep,a,rest⟩:=y;show{o,es,ep,hm.heap D _ C a,rest});rw[<-hx,List.take_length]at q;show zb<|zp<|zp<|z s' (hm.mono up) q)|succ k Q=>intro i s c t O x y B z;have lt:i<n:=`b;show yX jy ?_;rw[Around.under_plainId dm _];change wpAny _ A.in1 (pyNext (.ref I) >>=_) _ _ s;show zb<|W.item i s _ _ lt x λv s' K J hm=>?_;let⟨b,ky,key,val,o,m,L,rfl,M,a,H,hd,p,j⟩:=S i v K;have q:s'.heap.DictOf (aK prog w) D (merged []<|kvs.take i):=(by let⟨o,es,ep,a,rest⟩:=y;show{o,es,ep,hm.heap D _ C a,rest});have E:s'.heap.get? b=ϑ o:=hm.heap b o j<|B b o a p j;have d:(merged []<|kvs.take i).length<=sizeLine:=(by have:=merged_length_le ([]:δ (Key×ξ))<|kvs.take i;rw[yd]at this;simp at this;lia);have tk:merged [] (kvs.take<|i+1)=stored (merged []<|kvs.take i) ky val:=merged_take_succ [] kvs i (ky,val) L;show zb<|yQ<|zb<|wpAny_tryCatch ?_;unfold Builtin.Dict.pairItems;show zb<|wpAny_typeOf (T:="tuple") ⟨o,E,H⟩ ?_;change wpAny _ A.in1 (seqItems? (.ref b) >>=_) _ _ s';show zb<|yF E hd<|zp ?_;change wpAny _ A.in1 (holding [key,val]<|dictSet D key val) _ _ s';show yQ<|wpAny_dictSet_pairs M q (λh' F l=>?_) d;rw[<-tk]at F;show zp {plainId_quiet dm _,Q (i+1) _ _ _ `b (W.frame _ s' _ _ J (yu _) λb hb o e=>?_) F (λb o e h1 h2=>?_) λDD N r=>?_};rw[l.2 b (λh:b=D=>g<|by rw[<-h];show hb)];show e;rw[l.2 b h1];show hm.heap b o h2<|B b o e h1 h2;show z DD (Moved.trans W.gtrans ((hm.mono up).then_heap (yu _) λb o hb e=>?_) N) r;rw[l.2 b (λh:b=D=>hb<|by rw[h];show zB)];show e
def vp(M:A.handled=ϐ)(z:s.heap.get? l=ϑ ol)(cl:ol.cls=.type "tuple")(dl:ol.data=.seq items m)(P:ol.dict=ϐ)(hx:kvs.length=items.size) (hi:∀(i:π) (v:ξ),items[i]?=some v->∃(b:ε) (k:Key) (key val:ξ) (o:Obj) (m:π),kvs[i]?=some (k,val)/\v=.ref b/\(aK prog w).is k key=ϱ/\s.heap.get? b=ϑ o/\o.cls=.type "tuple"/\o.data=.seq #[key,val] m) (hb:items.size<=Ϙ) (h:∀(h':Γ) (tk:π),h'.DictOf (aK prog w) s.heap.objs.size (merged [] kvs)->(∀b o,s.heap.get? b=ϑ o->h'.get? b=ϑ o)->Q (.ref s.heap.objs.size) {s with heap:=h',toks:=tk}): wpAny `n A (call (.type "dict") [.ref l]) Q E s:=by
 show callType_codes (Q₁:=λobj y=>obj=.ref s.heap.objs.size/\y={s with heap:=s.heap.push {cls:=.type "dict",data:=.dict #[]}}) F.kt_called_dict (F.kt_typeCall_dict_1 _) F.entry_dict_init (kt_code_dict_new _ ⟨rfl,rfl⟩) ?_;rintro obj y ⟨rfl,rfl⟩;have p:(s.heap.push {cls:=.type "dict",data:=.dict #[]}).DictOf (aK prog w) s.heap.objs.size []:=Heap.DictOf.new s.heap;have n:(s.heap.push {cls:=.type "dict",data:=.dict #[]}).get? l=ϑ ol:=za _ z;show{p.typeIs,F.args_dict_init_2 _ _,?_};unfold Builtin.«dict.__init__»;show zb ?_;unfold Builtin.Dict.selfAndRest;show zb<|wpAny_notOrdered_dict p.typeIs ?_;change wpAny _ _ (pure (s.heap.objs.size,[Value.ref l])) _ _ _;show zp ?_;change wpAny _ _ (Builtin.Dict.updateFrom "dict.__init__" s.heap.objs.size (.ref l) [] .none) _ _ _;unfold Builtin.Dict.updateFrom;show zb<|wpAny_typeOf (T:="tuple") ⟨ol,n,cl⟩ ?_;rw[qc<|`a];have t:A.in1.in1.handled=ϐ:=by simp[M]
 show zb<|vo n cl dl P t λh1 r g=>?_;have K:h1.get? l=ϑ ol:=g _ _ n;have d1:h1.DictOf (aK prog w) s.heap.objs.size []:=by let⟨o,es,ep,j,rest⟩:=p;show{o,es,ep,g _ _ j,rest}
 have d:s.heap.objs.size<h1.objs.size:=by let⟨o,es,ep,j,rest⟩:=d1;show zw j
 have x:l<s.heap.objs.size:=zw z;change wpAny _ _ (rule _ >>=_) _ _ _;show zb<|y7 ?_;have a:h1.IsTuple l items:=⟨ol,K,cl,m,dl⟩;show zb<|wpAny_pyIter_tuple (s:=⟨h1,s.gens,s.drawn,r,s.os⟩) a ?_;have ne:l≠h1.objs.size:=zE<|y9 x d;have nf:s.heap.objs.size∉[h1.objs.size,l]:=by simp only[ze,zC,zA,or_false,not_or];show{zE d,yi x}
 show zp {plainId_quiet dm _,?_};show Hz ((Walks.tuple t _ l ne items).toS) s.heap.objs.size nf kvs hx s.heap (λi v e=>?_) hb (items.size-0) 0 _ _ _ (Nat.zero_add _) {{_,zl _ rfl,rfl,rfl},a.push _} ?hS0 ?hB ?hR;let⟨b,k,key,val,o,L,e1,e2,e3,e4,R,C⟩:=hi i v e;have c:=zw e4;show{b,k,key,val,o,L,e1,e2,e3,e4,R,C,zE c,by simp;show zE<|y9 c d};case hS0=>show d1.push _
 case hB=>show λb o e U J=>za _<|g _ _<|za _ e
 case hR =>
  intro s' hm q
  let⟨h',S,H,O,I⟩:=s'
  have N:S=s.gens:=hm.gens;have B:H=s.drawn:=hm.drawn;have G:I=s.os:=hm.os
  subst N;subst B;subst G
  show{rfl,h h' O q λb o e=>?_}
  have c:=zw e
  show hm.heap b o ?_<|za _<|g _ _<|za _ e
  simp only[ze,zC,zA,or_false,not_or];show{zE c,zE<|y9 c d}
end
noncomputable def FR(l:δ<|ρ×V):δ (Key×V):=l.foldl (λc p=>putK c (.inr p.1) p.2) []
def Prs(H:Hp)(ps:δ V)(kvs:δ<|ρ×V):Prop:=kvs.length=ps.length/\∀(i:π)(x:V)(p:ρ×V),ps[i]?=some x->kvs[i]?=some p->∃b,x=.ref b/\H b=ϑ (.tup [.str p.1,p.2])
section
variable{X:Cx}
def DZ(N:X.calm=ϱ):eW X (.type "dict") (λvs H Q=>∃p ps kvs,vs=[.ref p]/\H p=ϑ (.tup ps)/\Prs H ps kvs/\∀l,H l=ϐ->Q (.ref l) (upd H l<|.dK<|FR kvs)):=by
 intro qe s σ H vs us Q I r h;let⟨p,ps,kvs,rfl,hp,⟨hl,hq⟩,q⟩:=h;let⟨u,rfl,O⟩:=vals1 r;cases O;let⟨S,t,z,ol,gl,cl,nl,m,dl⟩:=(show br X.prog X.w H s.heap p (.tup ps) from I.aM p _ hp);have n:=z.length;have j:∀(i:π)(x:V)(g:ρ×V),ps[i]?=some x->kvs[i]?=some g->∃(b:ε)(key val:ξ)(o:Obj)(m:π),t[i]?=some (.ref b)/\(aK X.prog X.w).is (.inr g.1) key=ϱ/\RelV g.2 val/\s.heap.get? b=ϑ o/\o.cls=.type "tuple"/\o.data=.seq #[key,val] m:=by intro i x g e1 e2;let⟨b,rfl,hb⟩:=hq i x g e1 e2;let⟨u,e3,ru⟩:=z.get e1;cases ru;let⟨_,U,L,o,go,co,no,Y,F⟩:=(show br X.prog X.w H s.heap b (.tup [.str g.1,g.2]) from I.aM b _ hb);let⟨k',v',rfl,⟨tk,rfl⟩,C⟩:=L.two;show{b,_,v',o,Y,e3,jV _ _ _ _,C,go,co,by simpa using F}
 have R:∃d:δ (Key×ξ),KV (kvs.map λp=>((.inr p.1:Key),p.2)) d/\∀(i:π)(x:V),ps[i]?=some x->∃(b:ε)(k:Key)(key val:ξ)(o:Obj)(m:π),d[i]?=some (k,val)/\t[i]?=some (.ref b)/\(aK X.prog X.w).is k key=ϱ/\s.heap.get? b=ϑ o/\o.cls=.type "tuple"/\o.data=.seq #[key,val] m:=by clear hp q z dl S;induction kvs generalizing ps t with|nil=>show{[],.nil,λi x e=>?_};have:ps=[]:=List.eq_nil_of_length_eq_zero (by simpa using hl.symm);subst this;simp at e|cons g r K=>cases ps with|nil=>simp at hl|cons y ys=>cases t with|nil=>simp at n|cons w0 ws=>let⟨b,key,val,o,m,e1,e2,e3,e4,G,E⟩:=j 0 y g rfl rfl;let⟨d,k1,M⟩:=K ys (by simpa using hl) (λi x p a b=>hq (i+1) x p (by simpa using a)<|by simpa using b) ws (by simpa using n) (λi x p a b=>by simpa using j (i+1) x p (by simpa using a) (by simpa using b));show{(.inr g.1,val)::d,.cons ⟨rfl,e3⟩ k1,λi x e=>?_};cases i with|zero=>show{b,.inr g.1,key,val,o,m,rfl,e1,e2,e4,G,E}|succ i=>simpa using M i x (by simpa using e)
 let⟨d,A,J⟩:=R;have lv:d.length=t.length:=by have:=A.length;rw[zc]at this;lia
 show vp (kvs:=d) (I.ok.hd N) gl cl dl nl (by simpa using lv) (λi v e=>?_) (by simp;lia) λh' tk qs kp=>?_;have e':t[i]?=some v:=by simpa using e
 have hi:i<t.length:=(zh.mp e').1;let⟨b,k,key,val,o,P,e1,e2,e3,e4,G,E⟩:=J i (ps[i]' `b)<|zg _;rw[e']at e2;show{b,k,key,val,o,P,e1,zQ e2,e3,e4,G,E};have rel:KV (FR kvs) (merged [] d):=by have all:∀(l:δ (ρ×V))(B:δ (Key×ξ))(c:δ (Key×V))(cv:δ (Key×ξ)),KV (l.map λp=>((.inr p.1:Key),p.2)) B->KV c cv->KV (l.foldl (λc p=>putK c (.inr p.1) p.2) c) (merged cv B):=(by intro l;induction l with|nil=>(intro B c cv h1 h2;cases h1;show h2)|cons p r K=>intro B c cv h1 h2;cases h1 with|@cons _ q _ qs Z L=>let⟨k,v⟩:=q;let⟨rfl,z⟩:=Z;show K qs _ _ L<|h2.put _ z);show all kvs d [] [] A .nil
 have big:=I.big;show{.ref s.heap.objs.size,_,I.laid (t':=tk) (λb o e=>kp b o e) (zm _) (o:=.dK<|FR kvs) {?_,?_,_,rel,qs},rfl,q _<|I.aM.fresh<|zm _};have e1:=rel.length;have e2:=merged_length_le ([]:δ (Key×ξ)) d;simp at e2;lia;simp;show yi big
def Wq(K:Φ):R2:=λx y H Q=>∃a b xs ys,x=.ref a/\y=.ref b/\g_ K H a xs/\g_ K H b ys/\xs.length+ys.length<=Ϙ/\(xs=[]->Q (.ref b) H)/\(xs≠[]->ys=[]->Q (.ref a) H)/\(xs≠[]->ys≠[]->∀p,H p=ϐ->Q (.ref p) (upd H p<|.tup<|xs++ys))
def Nu:hG X (binaryOp .Add) (Wq X.K):=by intro qe s σ H x y v u Q I j l h;let⟨a,b,xs,ys,rfl,rfl,ha,hb,r,z,w,A⟩:=h;by_cases hx:xs=[];cases j;cases l;let⟨m,B,E,_⟩:=I.tuple ha;let⟨t,L,p2,_⟩:=I.tuple hb;let⟨⟨cls,dd,o,sl⟩,d,g,n,hd⟩:=id E;let⟨⟨G,J,data2,C⟩,p,i,n2,c⟩:=id p2;simp only at g hd i c;subst g hd i c;have e:m=[]:=B.sC.mpr hx;show concat_meets {_,d,rfl} {_,p,rfl} noFill_tuple_add seq_tuple_add PySem.F.slot_tuple_add PySem.F.entry_tuple_add (PySem.F.args_tuple_add_2 _ _) (tuple_addW0 a b m.toArray t.toArray n n2 dd J sl C<|by simp[e]) {d,p,.ref b,H,I,rfl,z hx};show M6 qe s σ H _ _ v u Q I j l {a,b,xs,ys,rfl,rfl,ha,hb,hx,r,w hx,A hx}
theorem YV(h:n<=1000):n<=sizeLine:=yU<|lj h
end
abbrev eI(h:Γ)(T:ε)(arr:Array ξ):Prop:=h.get? T=ϑ {cls:=.type "tuple",data:=.seq arr}
theorem xH(c:Heap.ExtBut b h h')(n:a≠b)(x:h.IsTupleIter a l i):h'.IsTupleIter a l i:=x.extBut c n
def PC{h h':Γ}{a l:ε}{i:π}(k:∀o,h.get? a=ϑ o->h'.get? a=ϑ o)(x:h.IsTupleIter a l i):h'.IsTupleIter a l i:=by let⟨o,e,r⟩:=x;show{o,k o e,r}
def aaY{arr:Array ξ}(d:arr.size=2)(c a:ξ):((arr.setIfInBounds 0 c).setIfInBounds 1 a)=#[c,a]:=by let⟨l⟩:=arr;rcases l with _|⟨_,_|⟨_,_|⟨_,_⟩⟩⟩<;>first|rfl|(simp at d;done)
section
variable{prog:Ψ}{w:Ω}{A:ϕ}{E:ξ->ζ->η}{s:ζ}
theorem Wr(h:n<=3):n<=sizeLine:=YV<|zj h<|`a
def ph(a:eI s.heap T arr)(hz:arr.size<=3)(h:∀h',eI h' T (arr.setIfInBounds k x)->Heap.SameBut T s.heap h'->Q () {s with heap:=h'}):wpAny `n A (updateSeq T (·.setIfInBounds k x)) Q E s:=by show wpAny_updateSeq a rfl (h _ ?_<|yL ..) (hz:=Wr hz) (_hz':=by have:=Wr hz;simp;show yR ‹_›);change Heap.get? _ _=_;rw[yD _ a rfl];simp[Obj.mapSeq]
def D0(a:s.heap.IsTupleIter it l i)(hl:s.heap.IsTuple l items)(hx:items[i]?=some x)(d:∀h',h'.IsTupleIter it l (i+1)->Heap.SameBut it s.heap h'->Q x {s with heap:=h'}): wpAny `n A (Builtin.SmallTypes.nextOf<|.ref it) Q E s:=by let⟨o,c,g,hd⟩:=id a;let⟨m,h,_,j,e⟩:=hl;unfold Builtin.SmallTypes.nextOf;show zb<|yp (name:=Str.ofString "__next__") a.typeIs F.slot_tuple_iterator_next<|yz F.slot_tuple_iterator_next a.typeIs F.entry_tuple_iterator_next ?_<|F.args_tuple_iterator_next_1 _;change wpAny _ _ (field (.ref it) 0 >>=_) _ _ s;show zb<|zP c hd (x:=.ref l) rfl ?_;change wpAny _ _ (if (Value.ref l==Value.none)=ϱ then _ else _) _ _ s;rw[qa<|show ¬((Value.ref l==Value.none)=ϱ) from zd];change wpAny _ _ (field (.ref it) 1 >>=_) _ _ s;show zb<|zP c hd (x:=.int i 0) rfl ?_;change wpAny _ _ (seqItems? (.ref l) >>=_) _ _ s;show zb<|yF h e ?_;simp only[Int.toNat_natCast,hx];show zb<|y6 c hd `d<|zp {x,rfl,zp<|d _ {_,yD _ c<|Obj.isFreed_of_fields<|yG hd _,(Obj.cls_mapFields ..).trans g,by rw[yG hd];simp[rawInt]}<|yL ..}
def tK(g:A.handled=ϐ)(c:s.heap.IsTupleIter it l i)(hl:s.heap.IsTuple l items)(hx:items[i]?=none) (j:∀h' e,Heap.ExtBut it s.heap h'->(∃o,h'.get? e=ϑ o/\o.cls=.type "StopIteration")->E (.ref e) {s with heap:=h'}):wpAny `n A (Builtin.SmallTypes.nextOf<|.ref it) Q E s:=by
 let⟨o,d,p,hd⟩:=id c;let⟨t,n,_,r,h⟩:=hl;unfold Builtin.SmallTypes.nextOf;show zb<|yp (name:=Str.ofString "__next__") c.typeIs F.slot_tuple_iterator_next<|yz F.slot_tuple_iterator_next c.typeIs F.entry_tuple_iterator_next ?_<|F.args_tuple_iterator_next_1 _;change wpAny _ _ (field (.ref it) 0 >>=_) _ _ s;show zb<|zP d hd (x:=.ref l) rfl ?_;change wpAny _ _ (if (Value.ref l==Value.none)=ϱ then _ else _) _ _ s;rw[qa<|show ¬((Value.ref l==Value.none)=ϱ) from zd];change wpAny _ _ (field (.ref it) 1 >>=_) _ _ s;show zb<|zP d hd (x:=.int i 0) rfl ?_;change wpAny _ _ (seqItems? (.ref l) >>=_) _ _ s;show zb<|yF n h ?_;simp only[Int.toNat_natCast,hx];show zb<|y7<|zb<|y6 d hd `d ?_;change wpAny _ _ (newExc (.type "StopIteration") [] >>=_) _ _ _;show zb ?_;simp only[newExc,newTuple];show zb<|yq ?_ (by size_fits);show zb (m:=firstArgMember _ _)<|xg (a:=Value.none) (by first|rfl|(simp only[firstArgMember];rfl)) ?_;show yq ?_ (by size_fits);simp only[raiseNew];show zb<|wpAny_handled ?_;first|rw[show A.in1.handled=ϐ from g]|rw[g]
 show zb<|zp<|wpAny_throw<|j _ _ (((yL ..).extBut.push _).push _) {_,zl _ rfl,rfl}
end
def ZS2(n l0 l1:π)(i:π)(h:Γ):Prop:=IsZip h (n+4) (n+2) (n+3) .none/\eI h (n+2) #[.ref n,.ref<|n+1]/\(∃arr:Array ξ,arr.size=2/\eI h (n+3) arr)/\h.IsTupleIter n l0 i/\h.IsTupleIter (n+1) l1 i
section
variable{X:Cx}{qe:δ (ε×Obj)}{σ:St}{H:Hp}{s:ζ}{h':Γ}
def Inv.xI(I:Inv X qe σ H s)(wr:δ ε)(hw:∀b∈wr,rG X qe H b)(k:∀b o,b∉wr->s.heap.get? b=ϑ o->h'.get? b=ϑ o):Inv X qe σ H {s with heap:=h',toks:=t'}:=by show I.step (g':=s.gens) (d':=s.drawn) (ch:=wr) (λb hb=>by let⟨_,a,_,c,d,e⟩:=hw b hb;show⟨c,a,d,e⟩) (λb o x x g e x=>k b o g e) (λb o x x g e x=>{o.slots,k b o g e}) (λx x x x n=>n) (λb o g e=>{o,k b o g e}) (λx x e=>e) (λx x x e=>e) (λb ps e=>{#[],by rw[e];simp}) (λm hm=>?_) (λb u e=>?_) I.bare;let⟨o,es,ep,h,r⟩:=hm;show{o,es,ep,k _ o (λz=>(hw _ z).2.1 rfl) h,r};show(I.aM b u e).oW (λc v g q=>k c v (λz=>?_) q) (λx q=>q) λx x q=>q;have n:=(hw c z).1;rcases g with rfl|g;rw[n]at e;cases e;rw[n]at g;cases g
def Inv.xJ(I:Inv X qe σ H s)(wr:δ ε)(hw:∀b∈wr,rG X qe H b)(k:∀b o,b∉wr->s.heap.get? b=ϑ o->h'.get? b=ϑ o)(h:s.heap.get? T=ϐ)(new:br X.prog X.w (upd H T o) h' T o): Inv X qe σ (upd H T o) {s with heap:=h',toks:=t'}:=by
 have fr:H T=ϐ:=by cases q:H T with|none=>rfl|some u=>let⟨z,e⟩:=(I.aM T u q).get;rw[h]at e;cases e
 have ne:∀b u,H b=ϑ u->b≠T:=λb u e z=>by rw[z,fr]at e;cases e
 show I.step (g':=s.gens) (d':=s.drawn) (ch:=wr) (λb hb=>by let⟨_,a,_,c,d,e⟩:=hw b hb;show⟨c,a,d,e⟩) (λb o x x g e x=>k b o g e) (λb o x x g e x=>{o.slots,k b o g e}) (λb j x e n=>?_) (λb o g e=>{o,k b o g e}) (λb xs e=>by rw[az<|ne b _ e];show e) (λb j u e=>by rw[az<|ne b _ e];show e) (λb ps e=>{#[],by rw[az<|ne b _ e,e];simp}) (λm hm=>?_) (λb u e=>?_) I.bare;have:b≠T:=λz=>by rw[z,h]at e;cases e
 rw[az this];show n;let⟨o,es,ep,i,r⟩:=hm;show{o,es,ep,k _ o (λz=>(hw _ z).2.1 rfl) i,r};by_cases hb:b=T;subst hb;rw[aF]at e;cases e;show new;rw[az hb]at e;show(I.aM b u e).oW (λc v g q=>k c v (λz=>?_) q) (λc q=>by rw[az<|ne c _ q];show q) λc xs q=>by rw[az<|ne c _ q];show q
 have n:=(hw c z).1;rcases g with rfl|g;rw[n]at e;cases e;rw[n]at g;cases g
end
noncomputable abbrev Nw(h:Γ)(l0:ε):Heap:=(h).push {cls:=.type "tuple_iterator",data:=.fields #[.ref l0,.int 0 0]}
noncomputable abbrev Nx(h:Γ)(l0 l1:ε):Heap:=(Nw h l0).push {cls:=.type "tuple_iterator",data:=.fields #[.ref l1,.int 0 0]}
noncomputable abbrev Ny(h:Γ)(l0 l1:ε):Heap:=(Nx h l0 l1).push {cls:=.type "tuple",data:=.seq #[.ref h.objs.size,.ref (Nw h l0).objs.size]}
noncomputable abbrev Nz(h:Γ)(l0 l1:ε):Heap:=(Ny h l0 l1).push {cls:=.type "tuple",data:=.seq #[.none,.none]}
noncomputable abbrev D1(h:Γ)(l0 l1:ε):Heap:=(Nz h l0 l1).push {cls:=.type "zip",data:=.fields #[.none,.bool false,.bool false,.ref (Nx h l0 l1).objs.size,.ref (Ny h l0 l1).objs.size]}
theorem D2(l0 l1:ε)(jz j7:Array ξ):Meets (Builtin.«zip.__new__» {[.type "zip",.ref l0,.ref l1],[]}) (λz R s=>s.heap.IsTuple l0 jz/\s.heap.IsTuple l1 j7/\R (.ok<|.ret<|.ref (Nz s.heap l0 l1).objs.size) {s with heap:=D1 s.heap l0 l1}):=.of_wp λprog w A R s h=>by let⟨hp,g,d,tk,os⟩:=s;let⟨i,e,h⟩:=h;have j:=sub_zip;have a:Heap.IsTuple (Shared.heap ⟨hp,g,d,tk,os⟩) l0 jz:=i;have c:Heap.IsTuple (Shared.heap {hp.push {cls:=.type "tuple_iterator",data:=.fields #[.ref l0,.int 0 0]},g,d,tk,os}) l1 j7:=Heap.IsTuple.push (e) _;wp_walk using wpAny_pyIter_tuple a,wpAny_pyIter_tuple c;show{_,rfl,h}
def D3(p:s.heap.IsTuple l0 jz)(n:s.heap.IsTuple l1 j7) (h:∀h',ZS2 s.heap.objs.size l0 l1 0 h'->(∀c o,s.heap.get? c=ϑ o->h'.get? c=ϑ o)->Q (.ref<|s.heap.objs.size+4) {s with heap:=h'}):wpAny `n A (call (.type "zip") [.ref l0,.ref l1]) Q E s:=by
 show callType_new F.called_zip `a (F.typeCall_zip_2 _ _) (F.newCall_zip_2 _ _) (λobj=>F.args_object_init_3 obj _ _) F.entry_zip_new (D2 l0 l1 jz j7) {p,n,?_};have i:(Nw s.heap l0).objs.size=s.heap.objs.size+1:=zS ..;have e:(Nx s.heap l0 l1).objs.size=s.heap.objs.size+2:=by rw[zS,i]
 have d:(Ny s.heap l0 l1).objs.size=s.heap.objs.size+3:=by rw[zS,e]
 have g:(Nz s.heap l0 l1).objs.size=s.heap.objs.size+4:=by rw[zS,d]
 have r:(D1 s.heap l0 l1).objs.size=s.heap.objs.size+5:=by rw[zS,g]
 have g0:(D1 s.heap l0 l1).get? (s.heap).objs.size=ϑ _:=za _<|za _<|za _<|za _<|zl _ rfl;have j:(D1 s.heap l0 l1).get? (Nw s.heap l0).objs.size=ϑ _:=za _<|za _<|za _<|zl _ rfl;have l:(D1 s.heap l0 l1).get? (Nx s.heap l0 l1).objs.size=ϑ _:=za _<|za _<|zl _ rfl;have m:(D1 s.heap l0 l1).get? (Ny s.heap l0 l1).objs.size=ϑ _:=za _<|zl _ rfl;have a:(D1 s.heap l0 l1).get? (Nz s.heap l0 l1).objs.size=ϑ _:=zl _ rfl;change _/\_;rw[e,d,g]at a;rw[d]at m;rw[i,e]at l;rw[i]at j;rw[g];show{{_,a,rfl},h _ {a,l,!⟨m⟩,{_,g0,rfl,rfl},{_,j,rfl,rfl}} λc o x=>za _<|za _<|za _<|za _<|za _ x}
def NB(K:Φ):V->δ V->Hp->VK->Prop:=λx vs H Q=>∃(a:ε)(xs:δ V)(y z:V)(j:π),x=.ref a/\vs=[y]/\fP K H a xs/\iz y=ϱ/\xs.all iz=ϱ/\xs[j]?=some z/\eqV z y=ϱ/\(∀m u,m<j->xs[m]?=some u->eqV u y=ϰ)/\Q (.int j) H
def HB:UD X "list.index" (NB X.K):=by
 intro qe s σ H x vs v us Q I J M h;let⟨a,xs,y,z,j,rfl,rfl,hq,N,C,G,t,l,q⟩:=h;cases J;let⟨u,rfl,O⟩:=M.one;let⟨g,r,p,P⟩:=I.list hq;let⟨⟨cls,dd,E,sl⟩,A,B,n,hd⟩:=p.isList;simp only at B hd;subst B hd;have hl:=r.length;have R:j<xs.length:=(zh.mp G).1;have fl:∀(m:π)(w:V),xs[m]?=some w->iz w=ϱ:=λm w e=>yo.mp C w<|zK e;have c:∀(m:π)(hm:m<g.toArray.size)(w:V),xs[m]?=some w->Bi y g.toArray[m]=eqV w y:=λm hm w e=>by let⟨L,e',i⟩:=r.get e;have:g.toArray[m]=L:=(by have:=zh.mp e';simpa using this.2);rw[this];show DH i<|fl m w e
 have S:Ϙ=16777216:=yh;show call_meets PySem.F.slot_list_index {_,A,rfl} PySem.F.entry_list_index (PySem.F.args_list_index_2 _ _) (SeqAt.list_indexAt a g.toArray n dd sl u (Bi y) j (by simp;lia) `b ?_ ?_) {A,λw hw=>iA O N r C w<|by simpa using hw,{.int j,H,I.tok _,{_,rfl},q}};rw[c j _ z G];show t;intro m hm o;have d:m<xs.length:=by show y9 ‹_› ‹_›
 rw[c m hm _<|zg d];show l m _ o<|zg d
def Ws:R2:=λx y H Q=>∃z n,x=.str z/\y=.int n/\MulOk z n/\Q (.str<|PySem.Txt.mul z n) H
def D4:hG X (binaryOp .Mult) Ws:=by intro qe s σ H x y v u Q I a d h;let⟨z,n,rfl,rfl,hm,q⟩:=h;let⟨t,rfl⟩:=a;let⟨e,rfl⟩:=d;show SB.mul hm λc k=>{.str _,H,I.tok k,{_,rfl},q}
def JU(w:Ω)(K:Φ)(a:ε)(kvs:δ<|ρ×V):Prop:=(a==sysModules)=ϰ/\∃(o:Obj)(es:Array DictEntry)(ep:π),K.lookup a=ϑ o/\o.ExactDict/\o.data=.dict es ep/\Paired (λ(e:DictEntry)(c:ρ×V)=>e.hash=hashStr w c.1/\(∃t,e.key=.str c.1 t)/\RelV c.2 e.val) es.toList kvs/\(kvs.map Prod.fst).Nodup
theorem tL(z:ρ):∀kvs:δ (ρ×V),gG (kvs.map λp=>((.inr p.1:Key),p.2)) (.inr z)=kvs.lookup z
 |[]=>rfl
 | (x,v)::r=>by
  rw[zD,ye];by_cases e:z=x;subst e;rw[s_ rfl];simp;have e1:(z==x)=ϰ:=by simpa using e
  rw[tj λq=>e (yT q).symm,e1];show tL z r
section
variable{X:Cx}{qe:δ (ε×Obj)}{σ:St}{H:Hp}{s:ζ}{a:ε}{kvs:δ (ρ×V)}
def D7(I:Inv X qe σ H s)(d:JU X.w X.K a kvs):(a==sysModules)=ϰ/\∃vs,KV (kvs.map λp=>((.inr p.1:Key),p.2)) vs/\s.heap.DictOf (aK X.prog X.w) a vs:=by
 let⟨ns,o,es,ep,v,hx,hd,hp,hn⟩:=d;have all:∀(es:δ DictEntry)(kvs:δ (ρ×V)),Paired (λ(e:DictEntry)(c:ρ×V)=>e.hash=hashStr X.w c.1/\(∃t,e.key=.str c.1 t)/\RelV c.2 e.val) es kvs->∃vs:δ (Key×ξ),KV (kvs.map λp=>((.inr p.1:Key),p.2)) vs/\Pairs (aK X.prog X.w) es vs/\vs.map (·.1)=kvs.map (λp=>(.inr p.1:Key))/\∀e∈es,∃k,(aK X.prog X.w).is k e.key=ϱ/\e.hash=(aK X.prog X.w).hash k:=by intro es kvs hp;induction hp with|nil=>show{[],.nil,.nil,rfl,`d}|@cons e c A n h t z=>let⟨vs,j,i,l,m⟩:=z;let⟨h1,⟨tk,h2⟩,r⟩:=h;have hi:(aK X.prog X.w).is (.inr c.1) e.key=ϱ:=(by rw[h2];show jV _ _ _ _);show{(.inr c.1,e.val)::vs,.cons ⟨rfl,r⟩ j,.cons hi rfl i,by rw[zD,zD,l],λe' g=>?_};rcases ze.mp g with rfl|g;show{.inr c.1,hi,h1};show m e' g
 let⟨vs,j,i,l,m⟩:=all _ _ hp;show{ns,vs,j,o,es,ep,I.oV a o v,hx,hd,λe g=>m e<|by simpa using g,i,?_};rw[l];have:(kvs.map λp=>(.inr p.1:Key))=(kvs.map Prod.fst).map Sum.inr:=by rw[zG];rfl
 rw[this];show List.Pairwise.map _ (λx y h q=>h<|yT q) hn
def JV{w:Ω}{K:Φ}(hw:X.w=w)(e:X.K=K):hG X (compareOp .In) (λx y H Q=>∃z a kvs,x=.str z/\y=.ref a/\JU w K a kvs/\Q (.bl (kvs.lookup z).isSome) H):=by subst hw e;intro qe s σ H x y v u Q I c g h;let⟨z,a,kvs,rfl,rfl,d,q⟩:=h;cases g;let⟨ns,vs,rel,dd⟩:=D7 I d;show wpAny_in_of (jZ (k:=.inr z) c) ns dd.mapOf ?_;rw[<-(rel.val<|.inr z).iB,tL];show{.bl _,H,I.tok _,rfl,q}
def Wt(w:Ω)(K:Φ):V->δ V->Hp->VK->Prop:=λx vs H Q=>∃a z kvs,x=.ref a/\vs=[.str z]/\JU w K a kvs/\Q ((kvs.lookup z).getD .aA) H
def NC{w:Ω}{K:Φ}(hw:X.w=w)(i:X.K=K):UD X "dict.get" (Wt w K):=by subst hw i;intro qe s σ H x vs v us Q I e g h;let⟨a,z,kvs,rfl,rfl,d,q⟩:=h;cases e;let⟨u,rfl,c⟩:=g.one;let⟨ns,vs,rel,dd⟩:=D7 I d;show call_meetsIn yE dd.typeIs PySem.F.entry_dict_get (PySem.F.args_dict_get_2 _ _) (meets_dict_get (aK X.prog X.w) a (jZ (k:=.inr z) c) ns) {_,dd.mapOf,_,H,I.tok _,?_,q};rw[<-tL];show(rel.val<|.inr z).getD rfl
def JW{w:Ω}{K:Φ}{o e:Δ}{apos aV:Pos}{td ty:TE}(hw:X.w=w)(A:X.K=K)(g:PE X o td)(v:PE X e ty)(m:M1 X o "get" apos e aV):PE X (.Call (.Attribute o "get" apos) [e] [] aV) (λσ H Q=>td σ H λx H1=>∃a kvs,x=.ref a/\JU w K a kvs/\ty σ H1 λy H2=>∃z,y=.str z/\Q ((kvs.lookup z).getD .aA) H2):=by subst hw A;intro qe s σ H Q I h;show wpAny_Call_method m.base m.IV m.line PySem.F.plainAttrs_dict yE PySem.F.type_dict_get<|bz (g qe s σ H _ I h) λu s1 t=>?_;let⟨x,H1,c,j,a,kvs,ex,d,l⟩:=t;subst ex;obtain rfl:u=Value.ref a:=j;let⟨ns,vs,rel,dd⟩:=D7 c d;let⟨n,_,_,h1,h2,_⟩:=id dd;show{dd.typeIs,λb q=>by cases q;show⟨n,h1,h2.2.1⟩,?_};rw[m.trees];show Calls.callWith_builtin rfl<|Calls.evalArgs_plain<|yO<|bz (v qe s1 σ H1 _ c l) λE s2 B=>?_;let⟨y,H2,i,r,z,C,p⟩:=B;show Calls.spliced_nil ?_;subst C;show NC rfl rfl qe s2 σ H2 (.ref a) [.str z] _ [E] Q i rfl (.cons r .nil) ⟨a,z,kvs,rfl,rfl,d,p⟩
end
theorem JX:bootBuiltins "min"= some (.builtin "min"):=`c
def ZS3(n l0 l1 l2:π)(i:π)(h:Γ):Prop:=IsZip h (n+5) (n+3) (n+4) .none/\eI h (n+3) #[.ref n,.ref<|n+1,.ref<|n+2]/\(∃arr:Array ξ,arr.size=3/\eI h (n+4) arr)/\h.IsTupleIter n l0 i/\h.IsTupleIter (n+1) l1 i/\h.IsTupleIter (n+2) l2 i
noncomputable abbrev ND(h:Γ)(l0:ε):Heap:=(h).push {cls:=.type "tuple_iterator",data:=.fields #[.ref l0,.int 0 0]}
noncomputable abbrev NF(h:Γ)(l0 l1:ε):Heap:=(ND h l0).push {cls:=.type "tuple_iterator",data:=.fields #[.ref l1,.int 0 0]}
noncomputable abbrev NG(h:Γ)(l0 l1 l2:ε):Heap:=(NF h l0 l1).push {cls:=.type "tuple_iterator",data:=.fields #[.ref l2,.int 0 0]}
noncomputable abbrev NH(h:Γ)(l0 l1 l2:ε):Heap:=(NG h l0 l1 l2).push {cls:=.type "tuple",data:=.seq #[.ref h.objs.size,.ref (ND h l0).objs.size,.ref (NF h l0 l1).objs.size]}
noncomputable abbrev NI(h:Γ)(l0 l1 l2:ε):Heap:=(NH h l0 l1 l2).push {cls:=.type "tuple",data:=.seq #[.none,.none,.none]}
noncomputable abbrev Bt(h:Γ)(l0 l1 l2:ε):Heap:=(NI h l0 l1 l2).push {cls:=.type "zip",data:=.fields #[.none,.bool false,.bool false,.ref (NG h l0 l1 l2).objs.size,.ref (NH h l0 l1 l2).objs.size]}
theorem D8(l0 l1 l2:ε)(jz j7 a:Array ξ):Meets (Builtin.«zip.__new__» {[.type "zip",.ref l0,.ref l1,.ref l2],[]}) (λz R s=>s.heap.IsTuple l0 jz/\s.heap.IsTuple l1 j7/\s.heap.IsTuple l2 a/\R (.ok<|.ret<|.ref (NI s.heap l0 l1 l2).objs.size) {s with heap:=Bt s.heap l0 l1 l2}):=.of_wp λprog w A R s h=>by let⟨hp,g,d,tk,os⟩:=s;let⟨j,i,t2,h⟩:=h;have l:=sub_zip;have c:Heap.IsTuple (Shared.heap ⟨hp,g,d,tk,os⟩) l0 jz:=j;have e:Heap.IsTuple (Shared.heap {hp.push {cls:=.type "tuple_iterator",data:=.fields #[.ref l0,.int 0 0]},g,d,tk,os}) l1 j7:=Heap.IsTuple.push (i) _;have L2:Heap.IsTuple (Shared.heap {(hp.push {cls:=.type "tuple_iterator",data:=.fields #[.ref l0,.int 0 0]}).push {cls:=.type "tuple_iterator",data:=.fields #[.ref l1,.int 0 0]},g,d,tk,os}) l2 a:=Heap.IsTuple.push (Heap.IsTuple.push (t2) _) _;wp_walk using wpAny_pyIter_tuple c,wpAny_pyIter_tuple e,wpAny_pyIter_tuple L2;show{_,rfl,h}
def D9(a0 c a:ξ):checkTypeCall "zip" {[a0,c,a],[]}=pure ():=by kernel_rfl
def D_(a0 c a:ξ):checkBuiltinCall "zip.__new__" {[.type "zip",a0,c,a],[]}=pure ():=by kernel_rfl
def Sf(x a0 c a:ξ):argsOk "object.__init__" {[x,a0,c,a],[]}:=by unfold argsOk;rw[signature?_of (id:="object.__init__") (n:=['_','_','t','i','n','i','_','_']) (o:=['t','c','e','j','b','o']) (by kernel_rfl) F.owner_object];kernel_rfl
def Ea(t:s.heap.IsTuple l0 jz)(r:s.heap.IsTuple l1 j7)(t2:s.heap.IsTuple l2 UO) (h:∀h',ZS3 s.heap.objs.size l0 l1 l2 0 h'->(∀c o,s.heap.get? c=ϑ o->h'.get? c=ϑ o)->Q (.ref<|s.heap.objs.size+5) {s with heap:=h'}):wpAny `n A (call (.type "zip") [.ref l0,.ref l1,.ref l2]) Q E s:=by
 show callType_new F.called_zip `a (D9 _ _ _) (D_ _ _ _) (λobj=>Sf obj _ _ _) F.entry_zip_new (D8 l0 l1 l2 jz j7 UO) {t,r,t2,?_};have j:(ND s.heap l0).objs.size=s.heap.objs.size+1:=zS ..;have a:(NF s.heap l0 l1).objs.size=s.heap.objs.size+2:=by rw[zS,j]
 have g:(NG s.heap l0 l1 l2).objs.size=s.heap.objs.size+3:=by rw[zS,a]
 have i:(NH s.heap l0 l1 l2).objs.size=s.heap.objs.size+4:=by rw[zS,g]
 have d:(NI s.heap l0 l1 l2).objs.size=s.heap.objs.size+5:=by rw[zS,i]
 have v:(Bt s.heap l0 l1 l2).objs.size=s.heap.objs.size+6:=by rw[zS,d]
 have g0:(Bt s.heap l0 l1 l2).get? (s.heap).objs.size=ϑ _:=za _<|za _<|za _<|za _<|za _<|zl _ rfl;have m:(Bt s.heap l0 l1 l2).get? (ND s.heap l0).objs.size=ϑ _:=za _<|za _<|za _<|za _<|zl _ rfl;have n:(Bt s.heap l0 l1 l2).get? (NF s.heap l0 l1).objs.size=ϑ _:=za _<|za _<|za _<|zl _ rfl;have p:(Bt s.heap l0 l1 l2).get? (NG s.heap l0 l1 l2).objs.size=ϑ _:=za _<|za _<|zl _ rfl;have l:(Bt s.heap l0 l1 l2).get? (NH s.heap l0 l1 l2).objs.size=ϑ _:=za _<|zl _ rfl;have e:(Bt s.heap l0 l1 l2).get? (NI s.heap l0 l1 l2).objs.size=ϑ _:=zl _ rfl;change _/\_;rw[g,i,d]at e;rw[i]at l;rw[j,a,g]at p;rw[j]at m;rw[a]at n;rw[d];show{{_,e,rfl},h _ {e,p,!⟨l⟩,{_,g0,rfl,rfl},{_,m,rfl,rfl},{_,n,rfl,rfl}} λc o x=>za _<|za _<|za _<|za _<|za _<|za _ x}
def Vals.three(h:Vals [x,y,z] us):∃u v w,us=[u,v,w]/\RelV x u/\RelV y v/\RelV z w:=by cases h with|cons r h=>cases h with|cons q h=>cases h with|cons p h=>cases h;show{_,_,_,rfl,r,q,p}
section
variable{X:Cx}
def NJ:V->δ V->Hp->VK->Prop:=λx vs H Q=>∃z y,x=.str z/\vs=[.str y]/\Q (.bl<|PySem.Txt.startswith z y) H
def vq:UD X "str.startswith" NJ:=by intro qe s σ H x vs v us Q I c d h;let⟨z,y,rfl,rfl,q⟩:=h;let⟨t,rfl⟩:=c;let⟨u,rfl,a⟩:=d.one;let⟨e,rfl⟩:=a;show PySem.SC.startswith {.bl _,H,I,rfl,q}
def aaZ:V->θ ν->θ ν->Hp->VK->Prop:=λx lo hi H Q=>∃z,x=.str z/\z.length<=Ϙ/\Q (.str<|PySem.Txt.slice z lo hi) H
def Sh:UC X aaZ:=by intro qe s σ H x v w r lo hi sl Q I n p pl m h;let⟨z,rfl,d,q⟩:=h;let⟨t,rfl⟩:=n;let⟨o,e1,e2,e3⟩:=p;show{"str",_,F.slot_str_getitem.lookup,typeIs_str _ _ _,?_};have c:∀k,∀a:Tok,EP X qe σ Q (.str (PySem.Txt.slice z lo hi) a) {s with toks:=k}:=λk a=>{.str _,H,I.tok k,{_,rfl},q};cases pl with|none=>(cases m with|none=>show wpAny_getItem_str_slice (l:=none) (u:=none) (st:=none) ⟨o,e1,e2,e3⟩ rfl (post_val_or_str {zj (Txt.slice_le z _ _) d,λa k=>c k a})|int j e=>show wpAny_getItem_str_slice (l:=none) (u:=some (j,e)) (st:=none) ⟨o,e1,e2,e3⟩ rfl<|post_val_or_str {zj (Txt.slice_le z _ _) d,λa k=>c k a})|int i g=>cases m with|none=>show wpAny_getItem_str_slice (l:=some (i,g)) (u:=none) (st:=none) ⟨o,e1,e2,e3⟩ rfl (post_val_or_str {zj (Txt.slice_le z _ _) d,λa k=>c k a})|int j e=>show wpAny_getItem_str_slice (l:=some (i,g)) (u:=some (j,e)) (st:=none) ⟨o,e1,e2,e3⟩ rfl<|post_val_or_str {zj (Txt.slice_le z _ _) d,λa k=>c k a}
end
end L2
namespace L2
open PySem PySem.Spec PyProof.Rows PySem.SeqAt
end L2
namespace L2
open PySem PySem.Spec PyProof.Rows
theorem xK(l:ε)(items:Array ξ)(n:π)(b:ε)(a:Array ξ)(n2:π)(sl:Array<|θ ξ)(HC:¬(!items.isEmpty&&Builtin.List.listTooLong (items.size+a.size))=ϱ)(e:items.size<=Ϙ)(i:items.size+a.size<=Ϙ+1): Meets (Builtin.«list.extend» {[.ref l,.ref b],[]}) (λz R s=>s.heap.get? l=ϑ {cls:=.type "list",dict:=none,data:=.seq items n,slots:=#[]}/\s.heap.get? b=ϑ {cls:=.type "tuple",dict:=none,data:=.seq a n2,slots:=sl}/\R (.ok<|.ret Value.none) {s with heap:=s.heap.update l<|Obj.mapSeq λx=>x++a,toks:=s.toks}):=.of_wp λprog w A R s h=>by
 let⟨hp,g,d,tk,os⟩:=s;let⟨hl,hb,h⟩:=h;have j:=AutoSeq1.idx_int;have m:=AutoSeq1.sub_tuple_tuple;have p:=AutoSeq1.sub_list_list;have r:=AutoSeq1.sub_tuple_list;have o:=AutoSeq1.sub_list_tuple;have c:(items++a).size<=Ϙ+1:=by rw[Array.size_append];show i
 wp_walk using (wpAny_updateSeq hl rfl (hz:=e) (_hz':=c)),AutoSeq1.wpAny_loadPart' hl,AutoSeq1.wpAny_loadPart' hb;show{_,rfl,h}
section
variable{X:Cx}
def JY:V->δ V->Hp->VK->Prop:=λx vs H Q=>∃l b xs zs,x=.ref l/\vs=[.ref b]/\H l=ϑ (.lst xs)/\H b=ϑ (.tup zs)/\xs.length+zs.length<=Ϙ/\Q .aA (upd H l<|.lst<|xs++zs)
def Eb:YO X "list.extend" JY:=by
 intro qe s σ H x vs v us Q I p t h;let⟨l,b,xs,zs,rfl,rfl,i,E,G,q⟩:=h;cases p;let⟨u,rfl,C⟩:=t.one;cases C;let⟨z,a,n,r,hl,e⟩:=I.Hk i;let⟨J,c,m,⟨L,K,A,B⟩,e2,j,g,n2,o⟩:=(show br X.prog X.w H s.heap b (.tup zs) from I.aM b _ E);dsimp only at j g o;subst j g o;have qA:=m.length;have d:a.toArray.size+c.toArray.size<=sizeLine:=by rw[zr,zr];lia
 have y:¬(!a.toArray.isEmpty&&Builtin.List.listTooLong (a.toArray.size+c.toArray.size))=ϱ:=by rw[Jz d,Bool.and_false];show zd
 show call_meets F.slot_list_extend {_,e,rfl} F.entry_list_extend (F.args_list_extend_2 _ _) (xK l a.toArray n b c.toArray n2 B y (by rw[zr];lia)<|`b) {e,e2,?_};show{.aA,_,I.M7 (its':=a++c) i e `d (r.append m) ?_,rfl,q};rw[zk];lia
end
def EnS(n l:π)(i:π)(h:Γ):Prop:=(∃old,IsEnum h (n+1) n (i:ν) old)/\h.IsListIter n l i
noncomputable def Wv(K:Φ)(l:ε):It:={λi H=>∃(xs:δ V)(x:V),fP K H l xs/\xs[i]?=some x,λi H x H'=>∃T,H T=ϐ/\x=.ref T/\∀(xs:δ V)(y:V),fP K H l xs->xs[i]?=some y->H'=upd H T (.tup [.int (i:π),y]),λi H=>∃xs,fP K H l xs/\xs.length<=i}
theorem HD{P:Ψ}{w:Ω}{K:Φ}{es:δ Δ}{kk:π}{tp:Pos}{n l:π}(b0:l<n):Turn P w K (.Tuple es kk tp) (Wv K l) [n,(n+1)] (n+1) (EnS n l) where
 mem:=`d
 obj:=λi h st b hb=>by
  let⟨⟨old,he⟩,j0⟩:=st
  have c:b=n\/b=(n+1):=by simpa using hb
  rcases c with rfl|rfl
  ·let⟨o,e,c,d⟩:=j0;show{o,e,λv z=>by rw[d]at z;cases z}
  ·show{_,he,λv z=>by cases z}
 keep:=λi h h' st k=>by
  let⟨⟨old,he⟩,j0⟩:=st
  show{{old,k _ `d _ he},j0.at λo e=>k _ `d o e}
 item:=by
  intro X hP hw hK hc i qe s σ H E I hf st hg
  subst hP hw hK
  let⟨xs,x,q0,e0⟩:=hg
  let⟨aC,rv,p,_⟩:=I.list q0
  let⟨u,hu,ru⟩:=rv.get e0
  let⟨⟨old,he⟩,j0⟩:=st
  show wpAny_pyNext_enum_item he j0 p.isList (x:=u) (by simpa using hu) (by change @Ne π _ _;simp) λh1 z1 m0 T1 hs1 kp=>?_
  show{_,rfl,?_}
  show wpAny_letOwnedTupleGo_enum (s:={s with heap:=h1,toks:=s.toks+1}) z1 λh2 z2 r2=>?_
  have PD:∀c o,c∉([(n+1),n]:δ ε)->s.heap.get? c=ϑ o->h2.get? c=ϑ o:=λc o hc e=>by
   simp only[ze,zA,or_false,not_or]at hc
   let⟨dz,d0⟩:=hc
   show r2.extBut _ _ dz<|kp c o dz d0 e
  have lz:(n+1)<s.heap.objs.size:=zw he
  have T2:h2.get? s.heap.objs.size=ϑ {cls:=.type "tuple",data:=.seq #[.int i s.toks,u]}:=r2.extBut _ _ (yi lz) T1
  have hf':∀b∈([(n+1),n]:δ ε),rG X qe H b:=λb hb=>hf b<|by simp only[ze,zA,or_false]at hb⊢;rcases hb with h|h<;>simp[h]
  have I2:Inv X qe σ (upd H s.heap.objs.size<|.tup [.int (i:π),x]) {s with heap:=h2,toks:=s.toks+1}:=I.xJ (t':=s.toks+1) [(n+1),n] hf' PD (Heap.get?_none_of_le<|zm _) {YV<|show 2<=1000 by decide,[.int i s.toks,u],.cons {_,rfl}<|.cons ru<|.nil,{_,T2,rfl,rfl,_,rfl}}
  show{.ref s.heap.objs.size,_,I2,rfl,{_,I.aM.fresh<|zm _,rfl,λys y g0 f0=>?_},?_,λb hb=>?_}
  ·have:=I.jW g0 q0;subst this;have:=e0.symm.trans f0;cases this
   rfl
  ·show{{_,z2},m0.at λo e=>r2.extBut _ _ (by change @Ne π _ _;lia) e}
  ·have l2:b<s.heap.objs.size:=by
    simp only[ze,zA,or_false]at hb
    have lz:@LT.lt π _ (n+1) s.heap.objs.size:=lz
    rcases hb with rfl|rfl<;>(change @LT.lt π _ _ s.heap.objs.size;lia)
   rw[az<|zE l2];show(hf b hb).1
 done:=by
  intro X hP hw hK hc i qe s σ H E I hf st hg
  subst hP hw hK
  let⟨xs,q0,hx⟩:=hg
  let⟨aC,rv,p,_⟩:=I.list q0
  let⟨⟨old,he⟩,j0⟩:=st
  have hl:=rv.length
  show wpAny_pyNext_enum_end (I.ok.hd hc) he j0 p.isList (by simp;lia) λh1 kp=>{rfl,I.xI (t':=s.toks) [n] (λb hb=>hf b<|by simp only[zC]at hb;simp[hb]) λc o hc e=>kp c o (λz=>hc<|by simp[z]) e}
 self:=λA' i s Q E st h=>wpAny_pyIter_enum st.1.choose_spec h
def Ww(K:Φ)(ta:TA):TI:=λσ H R=>ta σ H λvs H1=>∃l,vs=[.ref l]/\(∃xs,fP K H1 l xs)/\R (Wv K l) H1
theorem HE:bootBuiltins "enumerate"= some (.type "enumerate"):=`c
def NK{X:Cx}{a:Δ}{ta:TA}{p pos tp:Pos}{es:δ Δ}{kk:π}(v:Gl X "enumerate")(hm:X.mg "enumerate"= none)(ha:PA X [a] ta)(o:ψ (starEach [a] X.env=[(false,eval a X.env)]) qQJ): PI X (.Tuple es kk tp) (.Call (.Name "enumerate" p) [a] [] pos) (Ww X.K ta):=by
 intro qe s σ H R I h;show Call_<|fu I v hm HE<|yj (bz (ha pos qe s σ H _ I h) λus s1 t=>?_) (by rw[o];rfl) rfl;let⟨vs,H1,c,m,i⟩:=t;let⟨l,e,⟨xs,j⟩,q⟩:=i;subst e;let⟨u,rfl,r⟩:=m.one;cases r;let⟨y,x,g,_⟩:=c.list j;show call_enumerate_list g.isList λh' zs n w kp=>?_;show wpAny_pyIter_enum (s:={s1 with heap:=h'}) zs {_,_,_,_,H1,rfl,c.kept (t':=s1.toks) kp,HD g.lt,{{_,zs},n},λb hb=>?_,q};have d:s1.heap.objs.size<=b:=by simp only[ze,zA,or_false]at hb;rcases hb with rfl|rfl<;>(change @LE.le π _ _ _;lia)
 show c.nv d<|c.aM.fresh d
set_option genInjectivity true in
set_option genSizeOfSpec true in
inductive D
 |aA|bl (b:χ)|int (i:ν)|str (x:ρ)|tup (ds:δ D)|i5 (ds:δ D)|kt (ds:δ D)|ref (a:ε)|ty (n:String)
def KtL(K:Φ)(a:ε)(xs:δ V):Prop:=∃(o:Obj)(aC:Array ξ)(n:π),K.lookup a=ϑ o/\o.cls=.type "tuple"/\o.data=.seq aC n/\aC.size<=Ϙ/\Vals xs aC.toList
def PF(K:Φ)(H:Hp)(a:ε)(xs:δ V):Prop:=(∃o,H a=ϑ (.md o<|.lst xs))\/∃(o:Obj)(aC:Array ξ)(n:π),K.lookup a=ϑ o/\o.cls=.type "list"/\o.dict=ϐ/\o.data=.seq aC n/\aC.size<=Ϙ/\Vals xs aC.toList
def PF.sq{K:Φ}{H:Hp}{a:ε}{xs:δ V}(h:PF K H a xs):fP K H a xs:=by rcases h with h|h;show .inl<|.inr h;show .inr h
structure Kp(K:Φ)(H H':Hp):η where
 t:∀a xs,H a=ϑ (.tup xs)->H' a=ϑ (.tup xs)
 r:∀a xs,PF K H a xs->PF K H' a xs
 f:∀a o u,H a=ϑ (.md o u)->H' a=ϑ (.md o u)
theorem Kp.refl{K:Φ}(H:Hp):Kp K H H:={λz z h=>h,λz z h=>h,λz z z h=>h}
theorem Kp.trans{K:Φ}{H H1 H2:Hp}(a:Kp K H H1)(b:Kp K H1 H2):Kp K H H2:={λp xs h=>b.t p xs<|a.t p xs h,λp xs h=>b.r p xs<|a.r p xs h,λp o u h=>b.f p o u<|a.f p o u h}
theorem Kp.of{K:Φ}{H H':Hp}(h:∀b o,H b=ϑ o->H' b=ϑ o\/(∀xs,o≠.tup xs)/\∀u v,o≠.md u v):Kp K H H' where
 t:=λa xs q=>(h _ _ q).resolve_right λz=>z.1 _ rfl
 r:=λa xs q=>by
  rcases q with⟨o,q⟩|q
  ·show .inl {o,(h _ _ q).resolve_right λz=>z.2 _ _ rfl}
  ·show .inr q
 f:=λa o u q=>(h _ _ q).resolve_right λz=>z.2 _ _ rfl
theorem Kp.new{K:Φ}{H:Hp}{a:ε}{o:HO}(h:H a=ϐ):Kp K H (upd H a o):=.of λb u e=>.inl<|by rw[az<|aD e h];show e
theorem Kp.put{K:Φ}{H:Hp}{a:ε}{o u:HO}(h:H a=ϑ o)(h1:∀xs,o≠.tup xs)(h2:∀u v,o≠.md u v):Kp K H (upd H a u):=.of λb v e=>by by_cases q:b=a;subst q;rw[h]at e;cases e;show .inr ⟨h1,h2⟩;show .inl<|by rw[az q];show e
mutual
def Rv(K:Φ)(H:Hp):D->V->η|.aA,v=>v=.aA|.bl b,v=>v=.bl b|.int i,v=>v=.int i|.str z,v=>v=.str z|.tup ds,v=>∃a xs,v=.ref a/\H a=ϑ (.tup xs)/\RvAll K H ds xs|.i5 ds,v=>∃a xs,v=.ref a/\PF K H a xs/\RvAll K H ds xs|.kt ds,v=>∃a xs,v=.ref a/\KtL K a xs/\RvAll K H ds xs|.ref a,v=>v=.ref a|.ty n,v=>v=.ty n
def RvAll(K:Φ)(H:Hp):δ D->δ V->η|[],xs=>xs=[]|d::ds,xs=>∃y ys,xs=y::ys/\Rv K H d y/\RvAll K H ds ys
end
section
variable{K:Φ}{H H':Hp}
def j8:Rv K H .aA .aA:=by simp only[Rv]
def bP(b:χ):Rv K H (.bl b) (.bl b):=by simp only[Rv]
def aS(i:ν):Rv K H (.int i) (.int i):=by simp only[Rv]
def i6(z:ρ):Rv K H (.str z) (.str z):=by simp only[Rv]
def i7(a:ε):Rv K H (.ref a) (.ref a):=by simp only[Rv]
def Wx(n:String):Rv K H (.ty n) (.ty n):=by simp only[Rv]
def PH(h:KtL K a xs)(t:RvAll K H ds xs):Rv K H (.kt ds) (.ref a):=by simp only[Rv];show⟨a,xs,rfl,h,t⟩
def hX(h:H a=ϑ (.tup xs))(t:RvAll K H ds xs):Rv K H (.tup ds) (.ref a):=by simp only[Rv];show⟨a,xs,rfl,h,t⟩
def JZ(h:PF K H a xs)(t:RvAll K H ds xs):Rv K H (.i5 ds) (.ref a):=by simp only[Rv];show⟨a,xs,rfl,h,t⟩
def Rv.aA(h:Rv K H .aA v):v=.aA:=by simpa only[Rv]using h
def Rv.bl(h:Rv K H (.bl b) v):v=.bl b:=by simpa only[Rv]using h
def Rv.int(h:Rv K H (.int i) v):v=.int i:=by simpa only[Rv]using h
def Rv.str(h:Rv K H (.str z) v):v=.str z:=by simpa only[Rv]using h
def Rv.ref(h:Rv K H (.ref a) v):v=.ref a:=by simpa only[Rv]using h
def Rv.ty(h:Rv K H (.ty n) v):v=.ty n:=by simpa only[Rv]using h
def Rv.kt(h:Rv K H (.kt ds) v):∃a xs,v=.ref a/\KtL K a xs/\RvAll K H ds xs:=by simpa only[Rv]using h
def Rv.tup(h:Rv K H (.tup ds) v):∃a xs,v=.ref a/\H a=ϑ (.tup xs)/\RvAll K H ds xs:=by simpa only[Rv]using h
def Rv.i5(h:Rv K H (.i5 ds) v):∃a xs,v=.ref a/\PF K H a xs/\RvAll K H ds xs:=by simpa only[Rv]using h
def bA:RvAll K H [] []:=by simp only[RvAll]
def aP(h:Rv K H d x)(t:RvAll K H ds xs):RvAll K H (d::ds) (x::xs):=by simp only[RvAll];show⟨x,xs,rfl,h,t⟩
def RvAll.nil(h:RvAll K H [] xs):xs=[]:=by simpa only[RvAll]using h
def RvAll.cons(h:RvAll K H (d::ds) xs):∃y ys,xs=y::ys/\Rv K H d y/\RvAll K H ds ys:=by simpa only[RvAll]using h
mutual
theorem Rv.ts(s:Kp K H H'):∀(d:D){v:V},Rv K H d v->Rv K H' d v|.aA,v,h=>by simpa only[Rv]using h|.bl b,v,h=>by simpa only[Rv]using h|.int i,v,h=>by simpa only[Rv]using h|.str z,v,h=>by simpa only[Rv]using h|.tup ds,v,h=>(by let⟨a,xs,rfl,e,t⟩:=h.tup;show hX (s.t _ _ e)<|RvAll.ts s ds t)|.i5 ds,v,h=>(by let⟨a,xs,rfl,e,t⟩:=h.i5;show JZ (s.r _ _ e)<|RvAll.ts s ds t)|.kt ds,v,h=>(by let⟨a,xs,rfl,e,t⟩:=h.kt;show PH e<|RvAll.ts s ds t)|.ref a,v,h=>by simpa only[Rv]using h|.ty n,v,h=>by simpa only[Rv]using h
theorem RvAll.ts(s:Kp K H H'):∀(ds:δ D){xs:δ V},RvAll K H ds xs->RvAll K H' ds xs|[],xs,h=>by rw[h.nil];show bA|d::ds,xs,h=>by let⟨y,ys,rfl,h1,h2⟩:=h.cons;show aP (Rv.ts s d h1)<|RvAll.ts s ds h2
end
theorem RvAll.len:∀{ds:δ D}{xs:δ V},RvAll K H ds xs->xs.length=ds.length|[],xs,h=>by rw[h.nil];rfl|d::ds,xs,h=>by let⟨y,ys,rfl,_,h2⟩:=h.cons;rw[zM,zM,h2.len]
theorem RvAll.get:∀{ds:δ D}{xs:δ V}{i:π}{d:D},RvAll K H ds xs->ds[i]?=some d->∃v,xs[i]?=some v/\Rv K H d v|[],xs,i,d,h,e=>by simp at e|d0::ds,xs,0,d,h,e=>(by let⟨y,ys,rfl,h1,h2⟩:=h.cons;simp at e;subst e;show⟨y,rfl,h1⟩)|d0::ds,xs,i+1,d,h,e=>by let⟨y,ys,rfl,h1,h2⟩:=h.cons;let⟨v,e1,e2⟩:=h2.get (i:=i) (by simpa using e);show{v,by simpa using e1,e2}
theorem RvAll.app:∀{ds es:δ D}{xs ys:δ V},RvAll K H ds xs->RvAll K H es ys->RvAll K H (ds++es) (xs++ys)|[],es,xs,ys,h,k=>by rw[h.nil];show k|d::ds,es,xs,ys,h,k=>by let⟨y,zs,rfl,h1,h2⟩:=h.cons;show aP h1<|h2.app k
theorem RvAll.take:∀{ds:δ D}{xs:δ V}(n:π),RvAll K H ds xs->RvAll K H (ds.take n) (xs.take n)|[],xs,n,h=>by rw[h.nil];simp only[List.take_nil];show bA|d::ds,xs,0,h=>by simp only[List.take_zero];show bA|d::ds,xs,n+1,h=>by let⟨y,zs,rfl,h1,h2⟩:=h.cons;show aP h1<|h2.take n
theorem RvAll.drop:∀{ds:δ D}{xs:δ V}(n:π),RvAll K H ds xs->RvAll K H (ds.drop n) (xs.drop n)|[],xs,n,h=>by rw[h.nil];simp only[List.drop_nil];show bA|d::ds,xs,0,h=>h|d::ds,xs,n+1,h=>by let⟨y,zs,rfl,h1,h2⟩:=h.cons;show h2.drop n
theorem RvAll.set:∀{ds:δ D}{xs:δ V}{d:D}{v:V}(n:π),RvAll K H ds xs->Rv K H d v->RvAll K H (ds.set n d) (xs.set n v)|[],xs,d,v,n,h,r=>by rw[h.nil];show bA|d0::ds,xs,d,v,0,h,r=>(by let⟨y,zs,rfl,h1,h2⟩:=h.cons;show aP r h2)|d0::ds,xs,d,v,n+1,h,r=>by let⟨y,zs,rfl,h1,h2⟩:=h.cons;show aP h1<|h2.set n r
theorem RvAll.erase:∀{ds:δ D}{xs:δ V}(n:π),RvAll K H ds xs->RvAll K H (ds.eraseIdx n) (xs.eraseIdx n)|[],xs,n,h=>by rw[h.nil];show bA|d::ds,xs,0,h=>(by let⟨y,zs,rfl,h1,h2⟩:=h.cons;show h2)|d::ds,xs,n+1,h=>by let⟨y,zs,rfl,h1,h2⟩:=h.cons;show aP h1<|h2.erase n
theorem RvAll.dropLast:∀{ds:δ D}{xs:δ V},RvAll K H ds xs->RvAll K H ds.dropLast xs.dropLast|[],xs,h=>by rw[h.nil];show bA|[d],xs,h=>(by let⟨y,zs,rfl,h1,h2⟩:=h.cons;rw[h2.nil];show bA)|d::e::ds,xs,h=>by let⟨y,zs,rfl,h1,h2⟩:=h.cons;let⟨c,a,rfl,g,i⟩:=id h2.cons;show aP h1<|RvAll.dropLast h2
theorem RvAll.bools:∀{bs:δ χ}{xs:δ V},RvAll K H (bs.map D.bl) xs->xs=bs.map V.bl|[],xs,h=>h.nil|b::bs,xs,h=>by let⟨y,ys,rfl,h1,h2⟩:=h.cons;rw[h1.bl,h2.bools];rfl
theorem RvAll.ints:∀{bs:δ ν}{xs:δ V},RvAll K H (bs.map D.int) xs->xs=bs.map V.int|[],xs,h=>h.nil|b::bs,xs,h=>by let⟨y,ys,rfl,h1,h2⟩:=h.cons;rw[h1.int,h2.ints];rfl
theorem RvAll.strs:∀{bs:δ ρ}{xs:δ V},RvAll K H (bs.map D.str) xs->xs=bs.map V.str|[],xs,h=>h.nil|b::bs,xs,h=>by let⟨y,ys,rfl,h1,h2⟩:=h.cons;rw[h1.str,h2.strs];rfl
theorem FT:∀(bs:δ ν),RvAll K H (bs.map D.int) (bs.map V.int)|[]=>bA|b::bs=>aP (aS b)<|FT bs
theorem xM:∀(bs:δ ρ),RvAll K H (bs.map D.str) (bs.map V.str)|[]=>bA|b::bs=>aP (i6 b)<|xM bs
def cK{κ:Type}(K:Φ)(H:Hp):δ (κ×D)->δ (κ×V)->Prop:=Paired λp q=>p.1=q.1/\Rv K H p.2 q.2
def cK.ts(s:Kp K H H'){ks:δ<|κ×D}{vs:δ<|κ×V}(h:cK K H ks vs):cK K H' ks vs:=by induction h with|nil=>show .nil|cons r t a=>show .cons {r.1,Rv.ts s _ r.2} a
def cK.look(h:cK K H ks vs)(f:ρ):(∀d,ks.lookup f=ϑ d->∃v,vs.lookup f=ϑ v/\Rv K H d v)/\(ks.lookup f=ϐ->vs.lookup f=ϐ):=by induction h with|nil=>(show{λd e=>(by cases e),λz=>rfl})|@cons a b l m r t c=>let⟨k,d⟩:=a;let⟨k',v⟩:=b;let⟨rfl,r⟩:=r;simp only[ye];cases q:f==k with|true=>(show{λg e=>{v,rfl,(by cases e;show r)},λe=>(by cases e)})|false=>show c
end
set_option genInjectivity true in
set_option genSizeOfSpec true in
inductive Ce
 |lst (ds:δ D)|b_ (kvs:δ<|Key×D)|ins (c:ε) (fs:δ<|ρ×D)|well|exc (c:ε)|tab (q:ρ)|raw (o:HO)
def FU(H:Hp)(q:ρ)(ps:Array ξ):Prop:=TriplesOk ps.toList/\∀pos cv,codeAmong pos ps.toList=ϑ cv->∃c o vs t,cv=.ref c/\H c=ϑ (.md o<|.own 0)/\o.data=.fields vs/\vs[1]?=some (.str q t)
abbrev av:=ε->θ Ce
noncomputable def av.set(S:av)(a:ε)(c:Ce):av:=λb=>if b=a then some c else S b
def ae{S:av}{a:ε}{c:Ce} : S.set a c a=ϑ c:=by unfold av.set;rw[qc rfl]
def ah{S:av}{a b:ε}{c:Ce}(h:b≠a):S.set a c b=S b:=by unfold av.set;rw[qa h]
def eJ{S:av}{a:ε}{c e:Ce} : (S.set a c).set a e=S.set a e:=by funext b;unfold av.set;split<;>rfl
def h_{S:av}{a b:ε}{c:Ce}(h:S a=ϑ c)(h':S b=ϐ):a≠b:=by intro e;subst e;rw[h]at h';cases h'
def Rc(K:Φ)(H:Hp)(a:ε):Ce->η|.lst ds=>∃xs,H a=ϑ (.lst xs)/\RvAll K H ds xs|.b_ kvs=>∃vs,H a=ϑ (.dK vs)/\cK K H kvs vs|.ins c fs=>∃dx vs,H a=ϑ (.ins c dx vs)/\cK K H fs vs|.well=>∃x y z:ν,H a=ϑ (.lst [.int x,.int y,.int z])|.exc c=>H a=ϑ (Hv a<|.ref c)|.tab q=>∃ps,H a=ϑ (.r_ ps)/\FU H q ps|.raw o=>H a=ϑ o/\(∀xs,o≠.tup xs)/\∀u v,o≠.md u v
def Rs(K:Φ)(S:av)(H:Hp):Prop:=∀a c,S a=ϑ c->Rc K H a c
section
variable{K:Φ}{H H':Hp}{S:av}{a b:ε}{c:Ce}
def Rc.has(h:Rc K H a c):∃o,H a=ϑ o/\(∀xs,o≠.tup xs)/\∀u v,o≠.md u v:=by cases c with|lst ds=>(let⟨xs,e,_⟩:=h;show{_,e,λw=>nofun,λw w=>nofun})|b_ ds=>(let⟨xs,e,_⟩:=h;show{_,e,λw=>nofun,λw w=>nofun})|ins c fs=>(let⟨dx,vs,e,_⟩:=h;show{_,e,λw=>nofun,λw w=>nofun})|well=>(let⟨x,y,z,e⟩:=h;show{_,e,λw=>nofun,λw w=>nofun})|exc c=>show{_,h,λw=>nofun,λw w=>nofun}|tab q=>(let⟨ps,e,_⟩:=h;show{_,e,λw=>nofun,λw w=>nofun})|raw o=>show⟨o,h⟩
def Rc.keep(h:Rc K H a c)(e:∀o,H a=ϑ o->H' a=ϑ o)(s:Kp K H H'):Rc K H' a c:=by cases c with|lst ds=>(let⟨xs,e1,r⟩:=h;show{xs,e _ e1,RvAll.ts s _ r})|b_ ds=>(let⟨xs,e1,r⟩:=h;show{xs,e _ e1,r.ts s})|ins c fs=>(let⟨dx,vs,e1,r⟩:=h;show{dx,vs,e _ e1,r.ts s})|well=>(let⟨x,y,z,e1⟩:=h;show{x,y,z,e _ e1})|exc c=>show e _ h|tab q=>(let⟨ps,e1,r,i⟩:=h;show{ps,e _ e1,r,λpos cv z=>by let⟨c,o,vs,t,j,d,g⟩:=i pos cv z;show{c,o,vs,t,j,s.f _ _ _ d,g}})|raw o=>show{e _ h.1,h.2}
def Rs.fresh(h:Rs K S H)(e:H a=ϐ):S a=ϐ:=by cases q:S a with|none=>rfl|some c=>let⟨o,e1,_⟩:=(h a c q).has;rw[e]at e1;cases e1
theorem Rs.new(h:Rs K S H)(e:H a=ϐ){o:HO}(r:Rc K (upd H a o) a c):Rs K (S.set a c) (upd H a o):=λb x hb=>by by_cases q:b=a;subst q;rw[ae]at hb;cases hb;show r;rw[ah q]at hb;show(h b x hb).keep (λo e1=>by rw[az q];show e1)<|Kp.new e
theorem Rs.grow(h:Rs K S H)(e:H a=ϐ):Rs K S (upd H a o):=λb x hb=>by let⟨u,e1,_⟩:=(h b x hb).has;have q:b≠a:=aD e1 e;show(h b x hb).keep (λo e1=>by rw[az q];show e1)<|Kp.new e
def Rs.i8(h:Rs K S H)(ha:S a=ϑ e):Kp K H (upd H a o):=by let⟨u,e1,n1,n2⟩:=(h a e ha).has;show Kp.put e1 n1 n2
theorem Rs.put(h:Rs K S H){e:Ce}(ha:S a=ϑ e){o:HO}(r:Rc K (upd H a o) a c):Rs K (S.set a c) (upd H a o):=λb x hb=>by by_cases q:b=a;subst q;rw[ae]at hb;cases hb;show r;rw[ah q]at hb;show(h b x hb).keep (λo e1=>by rw[az q];show e1)<|h.i8 ha
theorem Rs.lst(h:Rs K S H)(e:S a=ϑ (.lst ds)):∃xs,H a=ϑ (.lst xs)/\RvAll K H ds xs:=h a _ e
theorem Rs.b_(h:Rs K S H)(e:S a=ϑ (.b_ ds)):∃xs,H a=ϑ (.dK xs)/\cK K H ds xs:=h a _ e
theorem Rs.ins{c:ε}{fs:δ<|ρ×D}(h:Rs K S H)(e:S a=ϑ (.ins c fs)):∃dx vs,H a=ϑ (.ins c dx vs)/\cK K H fs vs:=h a _ e
end
abbrev KD:=D->av->η
abbrev KX:=ε->av->η
abbrev SD:=δ<|θ D
def jQ(K:Φ)(H:Hp):SD->St->Prop:=Paired λ(o:θ D)(u:θ V)=>∀d,o=ϑ d->∃v,u=ϑ v/\Rv K H d v
section
variable{K:Φ}{H H':Hp}
def jQ.ts(s:Kp K H H'){σ:SD}{τ:St}(h:jQ K H σ τ):jQ K H' σ τ:=by induction h with|nil=>show .nil|cons r t a=>show .cons (λd e=>by let⟨v,e1,c⟩:=r d e;show{v,e1,Rv.ts s _ c}) a
theorem jQ.get:∀{σ:SD}{τ:St}{i:π}{d:D},jQ K H σ τ->σ[i]?=some (some d)->∃v,τ[i]?=some (some v)/\Rv K H d v|_,_,i,d,.nil,e=>by simp at e|_,_,0,d,.cons r t,e=>(by simp at e;let⟨v,e1,r1⟩:=r d e;show{v,by simp[e1],r1})|_,_,i+1,d,.cons r t,e=>by let⟨v,e1,r1⟩:=jQ.get (i:=i) t (by simpa using e);show{v,by simpa using e1,r1}
theorem jQ.set:∀{σ:SD}{τ:St}(i:π){d:D}{v:V},jQ K H σ τ->Rv K H d v->jQ K H (σ.set i<|some d) (τ.set i<|some v)|_,_,i,d,v,.nil,r=>.nil|_,_,0,d,v,.cons r t,q=>(.cons (λa e=>by cases e;show⟨v,rfl,q⟩) t)|_,_,i+1,d,v,.cons r t,q=>.cons r<|jQ.set i t q
def Bu(n:π):∀(τ:St),τ.length=n->jQ K H (List.replicate n none) τ:=by induction n with|zero=>(intro τ h;cases τ with|nil=>show .nil|cons _ _=>cases h)|succ n a=>intro τ h;cases τ with|nil=>(cases h)|cons _ τ=>show .cons (λd e=>by cases e)<|a τ<|Nat.succ.inj h
theorem tN:∀{ds:δ D}{vs:δ V},RvAll K H ds vs->jQ K H (ds.map some) (vs.map some)|[],vs,h=>by rw[h.nil];show .nil|d::ds,vs,h=>by let⟨y,ys,rfl,h1,h2⟩:=h.cons;show .cons (λa e=>by cases e;show⟨y,rfl,h1⟩)<|tN h2
def jQ.app{σ c:SD}{τ a:St}(h:jQ K H σ τ)(g:jQ K H c a):jQ K H (σ++c) (τ++a):=by induction h with|nil=>show g|cons r t d=>show .cons r d
end
structure Rdy(Y:Cx)(E:St->XK)(b:χ):η where
 call:∀p2 τ H s e s',Inv Y p2 τ H s->fz Y.prog Y.w Y.mg Y.stack H s (E τ) e s'->Y.xe e s'
 own:b=ϱ->∀p2 τ H s h' a cls args,Inv Y p2 τ H s->Heap.MadeExcOf s.heap h' a cls args->E τ cls none H->Y.xe (.ref a) {s with heap:=h'}
 loop:b=ϱ->PassesOwn (model Y.prog Y.w) Y.A Y.env Y.xe
structure Ev(X:Cx)(b:χ) where
 pn:δ (ε×Obj)
 xe:ξ->ζ->η
 E:St->XK
 ok:Rdy {X with pn:=pn,xe:=xe} E b
noncomputable abbrev Ev.cx{X:Cx}{b:χ}(y:Ev X b):Cx:={X with pn:=y.pn,xe:=y.xe}
def Cn(K:Φ)(H:Hp)(R:KD)(Q:VK):Prop:=∀d S v H',R d S->Rv K H' d v->Rs K S H'->Kp K H H'->Q v H'
def HF(K:Φ)(H:Hp)(Z:KX)(e:XK):Prop:=∀C S H',Z C S->Rs K S H'->Kp K H H'->e (.ref C) none H'
theorem Cn.kp{K:Φ}{H H1:Hp}{R:KD}{Q:VK}(h:Cn K H R Q)(k:Kp K H H1):Cn K H1 R Q:=λd S v H' r c s1 a=>h d S v H' r c s1<|k.trans a
theorem HF.kp{K:Φ}{H H1:Hp}{Z:KX}{e:XK}(h:HF K H Z e)(k:Kp K H H1):HF K H1 Z e:=λC S H' r s1 a=>h C S H' r s1<|k.trans a
abbrev TD:=SD->av->KD->KX->η
def T(K:Φ)(E:St->XK)(t:TD):TE:=λτ H Q=>∃σ S R Z,jQ K H σ τ/\Rs K S H/\t σ S R Z/\Cn K H R Q/\HF K H Z (E τ)
structure DE(K:Φ)(X:Cx)(e:Δ)(t:TD):η where
 of:∀{b:χ}(y:Ev X b),PE y.cx e<|T K y.E t
abbrev lT:=SD->av->(χ->av->η)->KX->η
def YW(K:Φ)(H:Hp)(R:χ->av->η)(Q:χ->Hp->η):Prop:=∀b S H',R b S->Rs K S H'->Kp K H H'->Q b H'
theorem YW.kp{K:Φ}{H H1:Hp}{R:χ->av->η}{Q:χ->Hp->η}(h:YW K H R Q)(k:Kp K H H1):YW K H1 R Q:=λd S H' r s1 a=>h d S H' r s1<|k.trans a
def Tt(K:Φ)(E:St->XK)(t:lT):TT:=λτ H Q=>∃σ S R Z,jQ K H σ τ/\Rs K S H/\t σ S R Z/\YW K H R Q/\HF K H Z (E τ)
structure DT(K:Φ)(X:Cx)(e:Δ)(t:lT):η where
 of:∀{b:χ}(y:Ev X b),PT y.cx e<|Tt K y.E t
abbrev iC:=SD->av->(δ D->av->η)->KX->η
def CnA(K:Φ)(H:Hp)(R:δ D->av->η)(Q:δ V->Hp->η):Prop:=∀ds S vs H',R ds S->RvAll K H' ds vs->Rs K S H'->Kp K H H'->Q vs H'
def Ta(K:Φ)(E:St->XK)(t:iC):TA:=λτ H Q=>∃σ S R Z,jQ K H σ τ/\Rs K S H/\t σ S R Z/\CnA K H R Q/\HF K H Z (E τ)
structure DA(K:Φ)(X:Cx)(es:δ Δ)(t:iC):η where
 of:∀{b:χ}(y:Ev X b),PA y.cx es<|Ta K y.E t
theorem PE.mono{t t':TE}(h:PE X e t)(i:∀τ H Q,t' τ H Q->t τ H Q):PE X e t':=λqe s τ H Q I q=>h qe s τ H Q I<|i τ H Q q
theorem PT.mono{t t':TT}(h:PT X e t)(i:∀τ H Q,t' τ H Q->t τ H Q):PT X e t':=λqe s τ H Q I q=>h qe s τ H Q I<|i τ H Q q
theorem PA.mono{t t':TA}(h:PA X e t)(i:∀τ H Q,t' τ H Q->t τ H Q):PA X e t':=λpos qe s τ H Q I q=>h pos qe s τ H Q I<|i τ H Q q
section
variable{K:Φ}{X:Cx}
inductive Wy (i:π) (σ:SD) (S:av) (R:KD):η
 |mk (d:D) (h:σ[i]?=some (some d)) (r:R d S)
def J2(i:π):TD:=λσ S R _=>Wy i σ S R
inductive Si (x:D) (S:av) (R:χ->av->η):η
 |mk (b:χ) (h:x=.bl b) (r:R b S)
def dC(d:D):TD:=λz S R z=>R d S
theorem dv(i:π)(hN:ψ (X.N[i]?=some x) qQJ)(a:QQ X.env.scope x:=by first|show Or.inl rfl|show Or.inr (Or.inl rfl)|show Or.inr (Or.inr rfl))(hd:ψ ((x==("__debug__": ρ))=ϰ) qQZ) (h:ψ ((x==("__classdict__": ρ))=ϰ) qQZ):DE K X (.Name x pos) (J2 i):=⟨λy=>(QV (X:=y.cx) hN a hd h).mono <| by rintro τ H Q ⟨σ,S,R,Z,c,j,⟨d,e,r⟩,l,_⟩;show by let⟨v,e1,g⟩:=c.get e;show{v,e1,l d S v H r g j<|Kp.refl _}⟩
theorem DE.const(h:∀Y:Cx,Y.env=X.env->Y.mg=X.mg->PE Y e (tC v))(r:∀H,Rv K H d v):DE K X e (dC d):=⟨λy=>(h y.cx rfl rfl).mono <| by rintro τ H Q ⟨σ,S,R,Z,g,a,q,c,_⟩;show c d S v H q (r H) a<|Kp.refl _⟩
theorem di:DE K X (.Constant (.int i) j pos) (dC<|.int i):=.const (λz z z=>QW) λz=>aS i
theorem ds:DE K X (.Constant (.str i) j pos) (dC<|.str i):=.const (λz z z=>QY) λz=>i6 i
theorem db:DE K X (.Constant (.bool i) j pos) (dC<|.bl i):=.const (λz z z=>Pk) λz=>bP i
theorem dn:DE K X (.Constant .none j pos) (dC .aA):=.const (λz z z=>QX) λz=>j8
theorem dg(hm:X.mg x=ϑ u)(r:RelV v u)(a:∀H,Rv K H d v)(c:ψ (Gl X x) qQJ)(hd:ψ ((x==("__debug__": ρ))=ϰ) qQZ):DE K X (.Name x pos) (dC d):=.const (λY e1 e2=>FD (X:=Y) (u:=u) (show Y.env.kindOf x=_ by rw[e1];show c) (by rw[e2];show hm) r hd) a
theorem j9(hm:X.mg x=ϐ)(a:bootBuiltins x=ϑ (.type n))(c:ψ (Gl X x) qQJ)(hn:ψ (x≠"__name__") qQZ)(hd:ψ ((x==("__debug__": ρ))=ϰ) qQZ):DE K X (.Name x pos) (dC<|.ty n):=.const (λY e1 e2=>MI (X:=Y) (v:=.ty n) (show Y.env.kindOf x=_ by rw[e1];show c) (by rw[e2];show hm) a rfl hn hd) λz=>Wx n
def NL:iC:=λz S R z=>R [] S
def PJ(t:TD)(u:iC):iC:=λσ S R Z=>t σ S (λd a=>u σ a (λds c=>R (d::ds) c) Z) Z
theorem an:DA K X [] NL:=⟨λy=>(DB (X:=y.cx)).mono <| by rintro τ H Q ⟨σ,S,R,Z,d,a,q,c,_⟩;show c [] S [] H q bA a<|Kp.refl _⟩
theorem ac{t:TD}(h:DE K X e t)(hr:DA K X es u)(hp:ψ (isPlain e=ϱ) qQJ):DA K X (e::es) (PJ t u):=
 ⟨λy=>(pa2 (h.of y) (hr.of y) hp).mono <| by rintro τ H Q ⟨σ,S,R,Z,g,o,q,s,i⟩;show
  ⟨σ,S,_,Z,g,o,q,λd l x H1 p j s1 a=>⟨σ,l,_,Z,g.ts a,s1,p,λds m xs H2 n r s2 c=>s (d::ds) m (x::xs) H2 n (aP (Rv.ts c _ j) r) s2<|a.trans c,i.kp a⟩,i⟩⟩
abbrev vt:=D->D->av->KD->η
theorem al{x:ρ}{pos:Pos}(i:π)(hr:DA K X es u)(hN:ψ (X.N[i]?=some x) qQJ)(a:QQ X.env.scope x:=by first|show Or.inl rfl|show Or.inr (Or.inl rfl)|show Or.inr (Or.inr rfl))(hd:ψ ((x==("__debug__": ρ))=ϰ) qQZ) (c:ψ ((x==("__classdict__": ρ))=ϰ) qQZ):DA K X (.Name x pos::es) (PJ (J2 i) u):=ac (dv i hN a hd c) hr rfl
def Lr(K:Φ)(r:vt):R2:=λx y H Q=>∃d e S R,Rv K H d x/\Rv K H e y/\Rs K S H/\r d e S R/\Cn K H R Q
def qG(K:Φ)(f:ξ->ξ->Sem ξ)(r:vt):Prop:=∀X:Cx,X.K=K->X.A.units+64<cLine->hG X f (Lr K r)
def J3(r:vt)(ta tb:TD):TD:=λσ S R Z=>ta σ S (λx a=>tb σ a (λy c=>r x y c R) Z) Z
def T.op(h:T K E (J3 r ta tb) τ H Q):Uz (Lr K r) (T K E ta) (T K E tb) τ H Q:=by let⟨σ,S,R,Z,g,o,q,t,i⟩:=h;show{σ,S,_,Z,g,o,q,λd l x H1 p j s1 a=>{σ,l,_,Z,g.ts a,s1,p,λe m y H2 n s s2 c=>{d,e,m,R,Rv.ts c _ j,s,s2,n,t.kp<|a.trans c},i.kp a},i}
theorem bo(c:qG K (binaryOp op) r)(hu:X.A.units+64<cLine)(ha:DE K X a ta)(hb:DE K X b tb)(d:ψ (X.K=K) qQJ):DE K X (.BinOp a op b pos) (J3 r ta tb):=⟨λy=>(VF (c y.cx d hu) (ha.of y)<|hb.of y).mono λz z z h=>h.op⟩
theorem cm(c:qG K (compareOp op) r)(hu:X.A.units+64<cLine)(ha:DE K X a ta)(hb:DE K X b tb)(hm:ψ (behindInMarks op b=ϰ) qQ2)(d:ψ (X.K=K) qQJ):DE K X (.Compare a [op] [b] pos) (J3 r ta tb):=⟨λy=>(FJ (c y.cx d hu) (ha.of y) (hb.of y) hm).mono λz z z h=>h.op⟩
def dB(t:TD):lT:=λσ S R Z=>t σ S (λx a=>Si x a R) Z
def Tt.b{t:TD}(h:Tt K E (dB t) τ H Q):T K E t τ H λx H'=>∃k,x=.bl k/\Q k H':=by let⟨σ,S,R,Z,a,l,q,n,j⟩:=h;show{σ,S,_,Z,a,l,q,by rintro d i x H1 ⟨b,e,m⟩ g s1 c;show by subst e;show{b,g.bl,n b i H1 m s1 c},j}
theorem Tt.bop(h:Tt K E (dB<|J3 r ta tb) τ H Q):Js (Uz (Lr K r) (T K E ta)<|T K E tb) τ H Q:=h.b.op
theorem bf(c:qG K (compareOp op) r)(hu:X.A.units+64<cLine)(ha:DE K X a ta)(hb:DE K X b tb)(hm:ψ (behindInMarks op b=ϰ) qQ2)(d:ψ (X.K=K) qQJ):DT K X (.Compare a [op] [b] pos) (dB<|J3 r ta tb):=⟨λy=>(MT (c y.cx d hu) (ha.of y) (hb.of y) hm).mono λz z z h=>h.bop⟩
theorem tv{t:TD}(h:DE K X e t)(c:ψ (∀a,isTrue e X.env a=(do let v <-a;standAt e.pos;holding [v] (truthy v))) qQ0):DT K X e (dB t):=⟨λy=>(QZ (X:=y.cx) (h.of y) c).mono λz z z h=>h.b⟩
def Ec(r d:vt)(ta tb tc:TD):TD:=λσ S R Z=>ta σ S (λx e=>tb σ e (λy g=>r x y g λz a=>Si z a λk a=>if k=ϱ then tc σ a (λw c=>d y w c R) Z else R (.bl false) a) Z) Z
def T.chain(h:T K E (Ec r r' ta tb tc) τ H Q):Ds (Lr K r) (Lr K r') (T K E ta) (T K E tb) (T K E tc) τ H Q:=by let⟨σ,S,R,Z,l,O,q,s,j⟩:=h;show{σ,S,_,Z,l,O,q,λd F x H1 I C s1 a=>{σ,F,_,Z,l.ts a,s1,I,λe G y H2 M n s2 g=>{d,e,G,_,Rv.ts g _ C,n,s2,M,λz m v A c J o i=>?_},j.kp a},j};let⟨k,rfl,c⟩:=c;show{k,J.bl,?_};cases k with|true=>rw[qc rfl]at c⊢;show{σ,m,_,Z,((l.ts a).ts g).ts i,o,c,λw t P U N L B p=>{e,w,t,R,Rv.ts (i.trans p) _ n,L,B,N,s.kp<|((a.trans g).trans i).trans p},j.kp<|(a.trans g).trans i}|false=>rw[qa zd]at c⊢;show s _ m _ A c (bP false) o<|(a.trans g).trans i
theorem cc(e:qG K (compareOp op) r)(i:qG K (compareOp Hc) r')(hu:X.A.units+64<cLine)(ha:DE K X a ta)(hb:DE K X b tb)(g:DE K X c tc) (hm:ψ (lastMarks [op,Hc] [b,c]=ϰ) qQ2) (d:ψ (X.K=K) qQJ):DE K X (.Compare a [op,Hc] [b,c] pos) (Ec r r' ta tb tc):=⟨λy=>(Jt (e y.cx d hu) (i y.cx d hu) (ha.of y) (hb.of y) (g.of y) hm).mono λz z z h=>h.chain⟩
theorem YX(e:qG K (compareOp op) r)(i:qG K (compareOp Hc) r')(hu:X.A.units+64<cLine)(ha:DE K X a ta)(hb:DE K X b tb)(g:DE K X c tc) (hm:ψ (lastMarks [op,Hc] [b,c]=ϰ) qQ2) (d:ψ (X.K=K) qQJ):DT K X (.Compare a [op,Hc] [b,c] pos) (dB<|Ec r r' ta tb tc):=⟨λy=>(Ju (e y.cx d hu) (i y.cx d hu) (ha.of y) (hb.of y) (g.of y) hm).mono λz z z h=>h.b.chain⟩
def Wz(ta tb:TD):TD:=λσ S R Z=>ta σ S (λx a=>Si x a λc a=>if c=ϱ then tb σ a R Z else R (.bl false) a) Z
def aa3(ta tb:TD):TD:=λσ S R Z=>ta σ S (λx a=>Si x a λc a=>if c=ϱ then R (.bl true) a else tb σ a R Z) Z
def WA(ta:TD):TD:=λσ S R Z=>ta σ S (λx a=>Si x a λc a=>R (.bl<|!c) a) Z
theorem CZ{t:TD}(h:DE K X a t):DE K X (.BoolOp op [a] pos) t:=⟨λy=>Q1<|h.of y⟩
theorem lU{a b:Δ}{rest:δ Δ}{ta tb:TD}{pos:Pos}(ha:DE K X a ta)(hb:DE K X (.BoolOp .And (b::rest) pos) tb):DE K X (.BoolOp .And (a::b::rest) pos) (Wz ta tb):=
 ⟨λy=>(Q2 (ha.of y)<|hb.of y).mono <| by rintro τ H Q ⟨σ,S,R,Z,i,o,q,m,l⟩;show
  ⟨σ,S,_,Z,i,o,q,by
   rintro d j x H1 ⟨c,e,h⟩ n s1 g
   subst e
   show{c,n.bl,?_}
   cases c with
   |true=>rw[qc rfl]at h⊢;show{σ,j,R,Z,i.ts g,s1,h,m.kp g,l.kp g}
   |false=>rw[qa zd]at h⊢;show m _ j _ H1 h (bP false) s1 g,l⟩⟩
theorem eor{a b:Δ}{rest:δ Δ}{ta tb:TD}{pos:Pos}(ha:DE K X a ta)(hb:DE K X (.BoolOp .Or (b::rest) pos) tb):DE K X (.BoolOp .Or (a::b::rest) pos) (aa3 ta tb):=
 ⟨λy=>(Vu (ha.of y)<|hb.of y).mono <| by rintro τ H Q ⟨σ,S,R,Z,i,o,q,m,l⟩;show
  ⟨σ,S,_,Z,i,o,q,by
   rintro d j x H1 ⟨c,e,h⟩ n s1 g
   subst e
   show{c,n.bl,?_}
   cases c with
   |false=>rw[qa zd]at h⊢;show{σ,j,R,Z,i.ts g,s1,h,m.kp g,l.kp g}
   |true=>rw[qc rfl]at h⊢;show m _ j _ H1 h (bP true) s1 g,l⟩⟩
theorem WB(ha:DE K X a ta):DE K X (.UnaryOp .Not a pos) (WA ta):=
 ⟨λy=>(Q3<|ha.of y).mono <| by rintro τ H Q ⟨σ,S,R,Z,g,m,q,o,l⟩;show
  ⟨σ,S,_,Z,g,m,q,by rintro d j x H1 ⟨c,e,n⟩ i s1 h;show by subst e;show⟨c,i.bl,o _ j _ H1 n (bP _) s1 h⟩,l⟩⟩
def aa4(t:lT):lT:=λσ S R Z=>t σ S (λc a=>R (!c) a) Z
def aa5(t u:lT):lT:=λσ S R Z=>t σ S (λc a=>if c=ϱ then u σ a R Z else R false a) Z
def dOr(t u:lT):lT:=λσ S R Z=>t σ S (λc a=>if c=ϱ then R true a else u σ a R Z) Z
theorem bU{t:lT}(ha:DT K X a t):DT K X (.UnaryOp .Not a pos) (aa4 t):=⟨λy=>(Q0<|ha.of y).mono <| by rintro τ H Q ⟨σ,S,R,Z,d,i,q,l,h⟩;show{σ,S,_,Z,d,i,q,λc g H1 j s1 e=>l _ g H1 j s1 e,h}⟩
structure DW(K:Φ)(X:Cx)(e:Δ)(t:lT):η where
 of:∀{b:χ}(y:Ev X b),PW y.cx e<|Tt K y.E t
theorem PW.mono{t t':TT}(h:PW X e t)(i:∀τ H Q,t' τ H Q->t τ H Q):PW X e t':=λa qe s τ H Q I q=>h a qe s τ H Q I<|i τ H Q q
theorem twd{t:lT}(h:DW K X e t):DT K X e t:=⟨λy=>(h.of y).pt⟩
theorem tw1{t:lT}(h:DT K X a t):DW K X (.BoolOp op [a] pos) t:=⟨λy=>by cases op with|And=>show pw_and1 (h.of y)|Or=>show pw_or1<|h.of y⟩
theorem twand{a b:Δ}{rest:δ Δ}{t u:lT}{pos:Pos}(ha:DT K X a t)(hb:DW K X (.BoolOp .And (b::rest) pos) u):DW K X (.BoolOp .And (a::b::rest) pos) (aa5 t u):=
 ⟨λy=>(pw_and (ha.of y)<|hb.of y).mono <| by rintro τ H Q ⟨σ,S,R,Z,g,l,q,j,i⟩;show
  ⟨σ,S,_,Z,g,l,q,λc h H1 e s1 d=>by
   cases c with
   |true=>rw[qc rfl]at e⊢;show{σ,h,R,Z,g.ts d,s1,e,j.kp d,i.kp d}
   |false=>rw[qa zd]at e⊢;show j _ h H1 e s1 d,i⟩⟩
theorem twor{a b:Δ}{rest:δ Δ}{t u:lT}{pos:Pos}(ha:DT K X a t)(hb:DW K X (.BoolOp .Or (b::rest) pos) u):DW K X (.BoolOp .Or (a::b::rest) pos) (dOr t u):=
 ⟨λy=>(pw_or (ha.of y)<|hb.of y).mono <| by rintro τ H Q ⟨σ,S,R,Z,g,l,q,j,i⟩;show
  ⟨σ,S,_,Z,g,l,q,λc h H1 e s1 d=>by
   cases c with
   |false=>rw[qa zd]at e⊢;show{σ,h,R,Z,g.ts d,s1,e,j.kp d,i.kp d}
   |true=>rw[qc rfl]at e⊢;show j _ h H1 e s1 d,i⟩⟩
def aa6(t:lT)(ta tb:TD):TD:=λσ S R Z=>t σ S (λc a=>if c=ϱ then ta σ a R Z else tb σ a R Z) Z
theorem Sj{t:lT}(l:DT K X c t)(ha:DE K X a ta)(hb:DE K X b tb):DE K X (.IfExp c a b pos) (aa6 t ta tb):=
 ⟨λy=>(Ji (l.of y) (ha.of y)<|hb.of y).mono <| by rintro τ H Q ⟨σ,S,R,Z,g,m,q,j,h⟩;show
  ⟨σ,S,_,Z,g,m,q,λc i H1 e s1 d=>by
   cases c with
   |true=>rw[qc rfl]at e⊢;show{σ,i,R,Z,g.ts d,s1,e,j.kp d,h.kp d}
   |false=>rw[qa zd]at e⊢;show{σ,i,R,Z,g.ts d,s1,e,j.kp d,h.kp d},h⟩⟩
def aa7(t:iC):TD:=λσ S R Z=>t σ S (λds a=>ds.length<=Ϙ/\∀p,a p=ϐ->R (.ref p) (a.set p<|.lst ds)) Z
def aa8(t:iC):TD:=λσ S R Z=>t σ S (λds a=>ds.length<=Ϙ/\R (.tup ds) a) Z
theorem cP{t:iC}(h:DA K X es t):DE K X (.List es pos) (aa7 t):=
 ⟨λy=>(Ry<|h.of y).mono <| by rintro τ H Q ⟨σ,S,R,Z,c,g,q,j,e⟩;show
  ⟨σ,S,_,Z,c,g,q,by rintro ds l xs H1 ⟨hl,i⟩ a s1 d;show⟨by rw[a.len];show hl,λp hp=>j _ _ _ _ (i p<|s1.fresh hp) (i7 p) (s1.new hp ⟨xs,aF,RvAll.ts (.new hp) _ a⟩)<|d.trans<|.new hp⟩,e⟩⟩
theorem bY{t:iC}(h:DA K X es t):DE K X (.Tuple es x1 pos) (aa8 t):=
 ⟨λy=>(Rx<|h.of y).mono <| by rintro τ H Q ⟨σ,S,R,Z,c,g,q,j,e⟩;show
  ⟨σ,S,_,Z,c,g,q,by rintro ds l xs H1 ⟨hl,i⟩ a s1 d;show⟨by rw[a.len];show hl,λp hp=>j _ _ _ _ i (hX aF<|RvAll.ts (.new hp) _ a) (s1.grow hp)<|d.trans<|.new hp⟩,e⟩⟩
def aa9:TD:=λz S R z=>∀p,S p=ϐ->R (.ref p) (S.set p<|.b_ [])
theorem J4:DE K X (.Dict [] [] pos) aa9:=⟨λy=>(JF (X:=y.cx)).mono <| by rintro τ H Q ⟨σ,S,R,Z,d,a,q,c,e⟩ p hp;show c _ _ _ _ (q p<|a.fresh hp) (i7 p) (a.new hp {[],aF,.nil})<|.new hp⟩
def Lc(K:Φ)(r:δ D->av->KD->η):δ V->Hp->VK->Prop:=λxs H Q=>∃ds S R,RvAll K H ds xs/\Rs K S H/\r ds S R/\Cn K H R Q
def iD(K:Φ)(f:ξ)(r:δ D->av->KD->η):Prop:=∀X:Cx,X.K=K->X.calm=ϱ->eW X f (Lc K r)
def YY(r:δ D->av->KD->η)(t:iC):TD:=λσ S R Z=>t σ S (λds a=>r ds a R) Z
def T.cb{t:iC}(h:T K E (YY r t) τ H Q):tCB (Lc K r) (Ta K E t) τ H Q:=by let⟨σ,S,R,Z,a,i,q,l,g⟩:=h;show{σ,S,_,Z,a,i,q,λds e xs H1 j d s1 c=>{ds,e,R,d,s1,j,l.kp c},g}
theorem cb{x:ρ}{id:String}{r:δ D->av->KD->η}{e:Δ}{es:δ Δ}{t:iC}{p pos:Pos}(g:iD K (.builtin id) r)(hm:X.mg x=ϐ)(c:bootBuiltins x=ϑ (.builtin id))(ha:DA K X (e::es) t)(j:ψ (Gl X x) qQJ) (hn:ψ (x≠"__name__") qQZ) (a:ψ ((x==("__debug__": ρ))=ϰ) qQZ) (l:ψ (starEach (e::es) X.env=`j::starEach es X.env) qQJ) (i:ψ ((backTo pos<|starEach es X.env).any (·.1)=ϰ) qQJ) (m:ψ (X.K=K) qQJ) (d:ψ (X.calm=ϱ) qQJ): DE K X (.Call (.Name x p) (e::es) [] pos) (YY r t):=⟨λy=>(Be (X:=y.cx) (g _ m d) j hm c (ha.of y) hn a l i).mono λz z z h=>h.cb⟩
theorem ct{x:ρ}{id:String}{r:δ D->av->KD->η}{e:Δ}{es:δ Δ}{t:iC}{p pos:Pos}(g:iD K (.type id) r)(hm:X.mg x=ϐ)(c:bootBuiltins x=ϑ (.type id))(ha:DA K X (e::es) t)(j:ψ (Gl X x) qQJ) (hn:ψ (x≠"__name__") qQZ) (a:ψ ((x==("__debug__": ρ))=ϰ) qQZ) (l:ψ (starEach (e::es) X.env=`j::starEach es X.env) qQJ) (i:ψ ((backTo pos<|starEach es X.env).any (·.1)=ϰ) qQJ) (m:ψ (X.K=K) qQJ) (d:ψ (X.calm=ϱ) qQJ): DE K X (.Call (.Name x p) (e::es) [] pos) (YY r t):=⟨λy=>(wb (X:=y.cx) (g _ m d) j hm c (ha.of y) hn a l i).mono λz z z h=>h.cb⟩
end
section
variable{K:Φ}
theorem Cn.now(h:Cn K H R Q)(a:Rs K S H)(r:R d S)(c:Rv K H d v):Q v H:=h d S v H r c a<|.refl _
theorem Cn.new{H:Hp}{R:KD}{Q:VK}{S:av}{p:ε}{ds:δ D}{xs:δ V}(h:Cn K H R Q)(a:Rs K S H)(hp:H p=ϐ)(r:S p=ϐ->R (.ref p) (S.set p<|.lst ds))(c:RvAll K H ds xs):Q (.ref p) (upd H p<|.lst xs):=h _ _ _ _ (r<|a.fresh hp) (i7 p) (a.new hp {xs,aF,RvAll.ts (.new hp) _ c})<|.new hp
theorem Cn.Sk{H:Hp}{R:KD}{Q:VK}{S:av}{p:ε}{ds:δ D}{xs:δ V}(h:Cn K H R Q)(c:Rs K S H)(hp:H p=ϐ)(r:R (.tup ds) S)(a:RvAll K H ds xs):Q (.ref p) (upd H p<|.tup xs):=h _ _ _ _ r (hX aF<|RvAll.ts (.new hp) _ a) (c.grow hp)<|.new hp
theorem Cn.put{H:Hp}{R:KD}{Q:VK}{S:av}{p:ε}{ds es:δ D}{xs:δ V}{d:D}{v:V}(h:Cn K H R Q)(a:Rs K S H)(hp:S p=ϑ (.lst es))(r:R d<|S.set p<|.lst ds)(e:Rv K H d v)(c:RvAll K H ds xs):Q v (upd H p<|.lst xs):=h _ _ _ _ r (Rv.ts (a.i8 hp) _ e) (a.put hp {xs,aF,RvAll.ts (a.i8 hp) _ c})<|a.i8 hp
def nh(S:av):D->δ D->η|.ref a,ds=>S a=ϑ (.lst ds)|.i5 es,ds=>es=ds|_,_=>False
def nh.at{H:Hp}{S:av}{d:D}{ds:δ D}{v:V}(h:nh S d ds)(c:Rs K S H)(r:Rv K H d v):∃a xs,v=.ref a/\fP K H a xs/\RvAll K H ds xs:=by cases d with|ref a=>(let⟨xs,e,q⟩:=c.lst h;show{a,xs,r.ref,.of e,q})|i5 es=>(have h:es=ds:=h;subst h;let⟨a,xs,e,q,t⟩:=r.i5;show⟨a,xs,e,q.sq,t⟩)|_=>show h.elim
def aa_:vt:=λx y S R=>match x,y with|.int i,.int j=>R (.int<|i+j) S|.str a,.str b=>a.length+b.length<=Ϙ/\R (.str<|a++b) S|.tup a,.tup b=>a.length+b.length<=Ϙ/\R (.tup<|a++b) S|.ref a,.ref b=>∃xs ys,S a=ϑ (.lst xs)/\S b=ϑ (.lst ys)/\xs.length+ys.length<=Ϙ/\∀p,S p=ϐ->R (.ref p) (S.set p<|.lst<|xs++ys)|_,_=>False
def nJ:qG K (binaryOp .Add) aa_:=by rintro X z hu qe s σ H x y v u Q I m o ⟨d,e,S,R,n,r,c,h,l⟩;subst z;cases d with|int i=>(cases e with|int j=>show Jq qe s σ H x y v u Q I m o {i,j,n.int,r.int,l.now c h<|aS _}|_=>show h.elim)|str i=>(cases e with|str j=>show sX qe s σ H x y v u Q I m o {i,j,n.str,r.str,h.1,l.now c h.2<|i6 _}|_=>show h.elim)|tup i=>(cases e with|tup j=>(let⟨a,xs,rfl,t,g⟩:=n.tup;let⟨b,ys,rfl,w,t2⟩:=r.tup;show Nu qe s σ H _ _ v u Q I m o {a,b,xs,ys,rfl,rfl,.of t,.of w,by rw[g.len,t2.len];show h.1,λe=>?_,λk e=>?_,λk k p hp=>l.Sk c hp h.2<|g.app t2};subst e;have:i=[]:=List.length_eq_zero_iff.mp g.len.symm;subst this;show l.now c h.2<|hX w t2;subst e;have:j=[]:=List.length_eq_zero_iff.mp t2.len.symm;subst this;show l.now c h.2<|by rw[List.append_nil];show hX t g)|_=>show h.elim)|ref a=>(cases e with|ref b=>(let⟨xs,ys,e1,e2,hl,q⟩:=h;let⟨vs,h1,g⟩:=c.lst e1;let⟨ws,h2,t2⟩:=c.lst e2;show JB qe s σ H x y v u Q I m o {a,b,vs,ws,n.ref,r.ref,h1,h2,by rw[g.len,t2.len];show hl,λp hp=>l.new c hp (q p)<|g.app t2})|_=>show h.elim)|_=>show h.elim
def aba:vt:=λx y S R=>match x,y with|.int i,.int j=>R (.int<|i-j) S|_,_=>False
def j_:qG K (binaryOp .Sub) aba:=by rintro X m hu qe s σ H x y v u Q I a j ⟨d,e,S,R,i,c,g,h,l⟩;cases d<;>cases e<;>first|show False.elim h|show Rk qe s σ H x y v u Q I a j {_,_,i.int,c.int,l.now g h<|aS _}
def abb:vt:=λx y S R=>match x,y with|.int i,.int j=>MR i j/\R (.int<|i*j) S|.str z,.int n=>MulOk z n/\R (.str<|PySem.Txt.mul z n) S|_,_=>False
def mi:qG K (binaryOp .Mult) abb:=by rintro X m hu qe s σ H x y v u Q I a j ⟨d,e,S,R,i,c,g,h,l⟩;cases d<;>cases e<;>first|show False.elim h|show Rl qe s σ H x y v u Q I a j {_,_,i.int,c.int,h.1,l.now g h.2<|aS _}|show D4 qe s σ H x y v u Q I a j {_,_,i.str,c.int,h.1,l.now g h.2<|i6 _}
def abc:vt:=λx y S R=>match x,y with|.int i,.int j=>0<j/\R (.int<|i%j) S|_,_=>False
def ke:qG K (binaryOp .Mod) abc:=by rintro X m hu qe s σ H x y v u Q I a j ⟨d,e,S,R,i,c,g,h,l⟩;cases d<;>cases e<;>first|show False.elim h|show Rm qe s σ H x y v u Q I a j {_,_,i.int,c.int,h.1,l.now g h.2<|aS _}
def WC:vt:=λx y S R=>match x,y with|.int i,.int j=>Pu i j/\R (.int<|i/j) S|_,_=>False
def xN:qG K (binaryOp .FloorDiv) WC:=by rintro X m hu qe s σ H x y v u Q I a j ⟨d,e,S,R,i,c,g,h,l⟩;cases d<;>cases e<;>first|show False.elim h|show JK qe s σ H x y v u Q I a j {_,_,i.int,c.int,h.1,l.now g h.2<|aS _}
def abd:vt:=λx y S R=>match x,y with|.int i,.int j=>VI i j/\R (.int<|i^j.toNat) S|_,_=>False
def Bv:qG K (binaryOp .Pow) abd:=by rintro X m hu qe s σ H x y v u Q I a j ⟨d,e,S,R,i,c,g,h,l⟩;cases d<;>cases e<;>first|show False.elim h|show Rn qe s σ H x y v u Q I a j {_,_,i.int,c.int,h.1,l.now g h.2<|aS _}
def J5(f:ν->ν->χ)(g:ρ->ρ->χ):vt:=λx y S R=>match x,y with|.int i,.int j=>R (.bl<|f i j) S|.str i,.str j=>R (.bl<|g i j) S|_,_=>False
def FV(h1:∀X:Cx,hG X (compareOp op)<|MP λi j=>.bl<|f i j) (h2:∀X:Cx,hG X (compareOp op) λx y H Q=>∃i j,x=.str i/\y=.str j/\Q (.bl<|g i j) H):qG K (compareOp op) (J5 f g):=by rintro X p hu qe s σ H x y v u Q I a n ⟨d,e,S,R,m,c,l,h,o⟩;cases d<;>cases e<;>first|show False.elim h|show h1 X qe s σ H x y v u Q I a n {_,_,m.int,c.int,o.now l h<|bP _}|show h2 X qe s σ H x y v u Q I a n {_,_,m.str,c.str,o.now l h<|bP _}
theorem vA:qG K (compareOp .Lt) (J5 (λi j=>ω<|i<j) λi j=>qE i j):=FV (λz=>VL) λz=>Ha
theorem kf:qG K (compareOp .LtE) (J5 (λi j=>ω<|i<=j) λi j=>IW i j):=FV (λz=>VM) λz=>Hr
theorem tO:qG K (compareOp .Gt) (J5 (λi j=>ω<|j<i) λi j=>qE j i):=FV (λz=>VN) λz=>Hu
theorem abe:qG K (compareOp .GtE) (J5 (λi j=>ω<|j<=i) λi j=>IW j i):=FV (λz=>VO) λz=>Ht
noncomputable def ak:D->χ|.aA=>true|_=>false
def Bw(r:Rv K H d v):ω (v=.aA)=ak d:=by cases d with|aA=>rw[r.aA];rfl|bl b=>rw[r.bl];rfl|int b=>rw[r.int];rfl|str b=>rw[r.str];rfl|ref b=>rw[r.ref];rfl|ty b=>rw[r.ty];rfl|tup b=>(let⟨a,xs,rfl,_⟩:=r.tup;rfl)|i5 b=>(let⟨a,xs,rfl,_⟩:=r.i5;rfl)|kt b=>let⟨a,xs,rfl,_⟩:=r.kt;rfl
def isD:vt:=λx y S R=>match y with|.aA=>R (.bl<|ak x) S|_=>False
def WD:vt:=λx y S R=>match y with|.aA=>R (.bl<|!ak x) S|_=>False
def i9:qG K (compareOp .Is) isD:=by rintro X m hu qe s σ H x y v u Q I a j ⟨d,e,S,R,i,c,g,h,l⟩;cases e<;>first|show False.elim h|show Rp qe s σ H x y v u Q I a j {c.aA,by rw[Bw i];show l.now g h<|bP _}
def i_:qG K (compareOp .IsNot) WD:=by rintro X m hu qe s σ H x y v u Q I a j ⟨d,e,S,R,i,c,g,h,l⟩;cases e<;>first|show False.elim h|show MS qe s σ H x y v u Q I a j {c.aA,by rw[Bw i];show l.now g h<|bP _}
mutual
def Dp(S:av):D->PyData->η|.aA,p=>p=.none|.bl b,p=>p=.bool b|.int i,p=>p=.int i|.str z,p=>p=.str z|.tup ds,p=>∃ps,p=.tuple ps/\DpAll S ds ps|.i5 ds,p=>∃ps,p=.list ps/\DpAll S ds ps|.kt _,_=>False|.ref _,_=>False|.ty _,_=>False
def DpAll(S:av):δ D->δ PyData->η|[],ps=>ps=[]|d::ds,ps=>∃q qs,ps=q::qs/\Dp S d q/\DpAll S ds qs
end
mutual
theorem Dp.dt:∀(d:D){p:PyData}{v:V},Dp S d p->Rv K H d v->Dt K H p v|.aA,p,v,h,r=>by simp only[Dp]at h;subst h;simp only[Dt];show r.aA|.bl b,p,v,h,r=>by simp only[Dp]at h;subst h;simp only[Dt];show r.bl|.int b,p,v,h,r=>by simp only[Dp]at h;subst h;simp only[Dt];show r.int|.str b,p,v,h,r=>by simp only[Dp]at h;subst h;simp only[Dt];show r.str|.tup ds,p,v,h,r=>(by simp only[Dp]at h;let⟨ps,rfl,h⟩:=h;let⟨a,xs,rfl,q,t⟩:=r.tup;simp only[Dt];show{a,xs,rfl,.of q,DpAll.dt ds h t})|.i5 ds,p,v,h,r=>(by simp only[Dp]at h;let⟨ps,rfl,h⟩:=h;let⟨a,xs,rfl,q,t⟩:=r.i5;simp only[Dt];show{a,xs,rfl,q.sq,DpAll.dt ds h t})|.kt a,p,v,h,r=>by simp only[Dp]at h|.ref a,p,v,h,r=>by simp only[Dp]at h|.ty a,p,v,h,r=>by simp only[Dp]at h
theorem DpAll.dt:∀(ds:δ D){ps:δ PyData}{vs:δ V},DpAll S ds ps->RvAll K H ds vs->DtAll K H ps vs|[],ps,vs,h,r=>by simp only[DpAll]at h;subst h;rw[r.nil];simp only[DtAll]|d::ds,ps,vs,h,r=>by simp only[DpAll]at h;let⟨q,qs,rfl,h1,h2⟩:=h;let⟨y,ys,rfl,a,c⟩:=r.cons;simp only[DtAll];show{y,ys,rfl,Dp.dt d h1 a,DpAll.dt ds h2 c}
end
def Dl(S:av):D->PyData->η|.ref a,p=>∃ds ps,S a=ϑ (.lst ds)/\p=.list ps/\DpAll S ds ps|d,p=>Dp S d p
def Dl.dt(h:Dl S d p)(c:Rs K S H)(r:Rv K H d v):Dt K H p v:=by cases d with|ref a=>(let⟨ds,ps,e,rfl,h⟩:=h;let⟨xs,e1,t⟩:=c.lst e;rw[r.ref];simp only[Dt];show{a,xs,rfl,.of e1,DpAll.dt ds h t})|_=>show Dp.dt _ h r
def J6(a:χ):vt:=λx y S R=>match x,y with|.int i,.int j=>(R (.bl<|if a then !decide (i=j) else ω (i=j)) S)|.str i,.str j=>(R (.bl<|if a then !decide (i=j) else ω (i=j)) S)|x,y=>∃p q,Dl S x p/\Dl S y q/\p.canLay0=ϱ/\q.canLay0=ϱ/\(p.depth<=64\/q.depth<=64)/\R (.bl<|if a then !PyData.eqv p q else PyData.eqv p q) S
def J_(h:J6 neg x y S R):(∃i j,x=.int i/\y=.int j/\R (.bl<|if neg then !decide (i=j) else ω (i=j)) S)\/(∃i j,x=.str i/\y=.str j/\R (.bl<|if neg then !decide (i=j) else ω (i=j)) S)\/∃p q,Dl S x p/\Dl S y q/\p.canLay0=ϱ/\q.canLay0=ϱ/\(p.depth<=64\/q.depth<=64)/\R (.bl<|if neg then !PyData.eqv p q else PyData.eqv p q) S:=by cases x<;>cases y<;>first|show .inl {_,_,rfl,rfl,h}|show .inr (.inl {_,_,rfl,rfl,h})|show .inr (.inr h)
def a_:qG K (compareOp .Eq) (J6 false):=by
 rintro X t hu qe s σ H x y v u Q I c l ⟨d,e,S,R,g,m,a,h,n⟩;subst t;rcases J_ h with⟨i,j,rfl,rfl,h⟩|⟨i,j,rfl,rfl,h⟩|⟨p,q,h1,h2,o,r,dp,h⟩;cases g.int;cases m.int;show Pn qe s σ H _ _ v u Q I c l {rfl,?_};have e:ω (V.int i=V.int j)=ω (i=j):=`d
 rw[e];show n.now a h<|bP _;cases g.str;cases m.str;show Pn qe s σ H _ _ v u Q I c l {rfl,?_};have e:ω (V.str i=V.str j)=ω (i=j):=`d
 rw[e];show n.now a h<|bP _;show R5 hu qe s σ H x y v u Q I c l {p,q,h1.dt a g,h2.dt a m,o,r,dp,n.now a h<|bP _}
def ja:qG K (compareOp .NotEq) (J6 true):=by
 rintro X t hu qe s σ H x y v u Q I c l ⟨d,e,S,R,g,m,a,h,n⟩;subst t;rcases J_ h with⟨i,j,rfl,rfl,h⟩|⟨i,j,rfl,rfl,h⟩|⟨p,q,h1,h2,o,r,dp,h⟩;cases g.int;cases m.int;show Po qe s σ H _ _ v u Q I c l {rfl,?_};have e:ω (V.int i=V.int j)=ω (i=j):=`d
 rw[e];show n.now a h<|bP _;cases g.str;cases m.str;show Po qe s σ H _ _ v u Q I c l {rfl,?_};have e:ω (V.str i=V.str j)=ω (i=j):=`d
 rw[e];show n.now a h<|bP _;show JR hu qe s σ H x y v u Q I c l {p,q,h1.dt a g,h2.dt a m,o,r,dp,n.now a h<|bP _}
noncomputable def bL(kvs:δ<|Key×D)(k:Key):θ D:=(kvs.find? λa=>ω<|a.1=k).map (·.2)
noncomputable def dput(kvs:δ<|Key×D)(k:Key)(v:D):δ (Key×D):=if (kvs.any λa=>ω<|a.1=k)=ϱ then kvs.map (λa=>if a.1=k then (a.1,v) else a) else kvs++[(k,v)]
noncomputable def Bx(kvs:δ<|Key×D)(k:Key):δ (Key×D):=kvs.filter λa=>ω<|a.1≠k
def cK.val(h:cK K H ks vs)(k:Key):(∀d,bL ks k=ϑ d->∃v,gG vs k=ϑ v/\Rv K H d v)/\(bL ks k=ϐ->gG vs k=ϐ):=by induction h with|nil=>(show{λd e=>(by cases e),λz=>rfl})|@cons a b l m r t i=>let⟨k',d⟩:=a;let⟨g,v⟩:=b;let⟨c,r⟩:=r;dsimp only at c;subst c;unfold bL gG;simp only[zZ];by_cases q:k'=k;rw[zu q];show{λj e=>{v,rfl,(by cases e;show r)},λe=>(by cases e)};rw[zt q];show i
def cK.any(h:cK K H ks vs)(k:Key):(ks.any λkv=>ω<|kv.1=k)=(vs.any λkv=>ω<|kv.1=k):=by induction h with|nil=>rfl|cons r t a=>rw[yZ,yZ,a,r.1]
theorem cK.len(h:cK K H ks vs):vs.length=ks.length:=(yJ h).symm
def cK.app{ks a:δ<|κ×D}{vs ws:δ<|κ×V}(h:cK K H ks vs)(g:cK K H a ws):cK K H (ks++a) (vs++ws):=by induction h with|nil=>show g|cons r t c=>show .cons r c
def cK.RM(h:cK K H ks vs)(k:Key)(e:Rv K H d v):cK K H (ks.map λkv=>if kv.1=k then (kv.1,d) else kv) (vs.map λkv=>if kv.1=k then (kv.1,v) else kv):=by induction h with|nil=>show .nil|@cons a b l m r t c=>show .cons ?_ c;dsimp only;by_cases q:b.1=k;rw[qc q,qc<|r.1.trans q];show⟨r.1,e⟩;rw[qa q,qa λz=>q<|r.1.symm.trans z];show r
def cK.put(h:cK K H ks vs)(k:Key)(a:Rv K H d v):cK K H (dput ks k d) (putK vs k v):=by unfold dput putK;rw[h.any k];split;show h.RM k a;show h.app<|.cons ⟨rfl,a⟩ .nil
def cK.drop(h:cK K H ks vs)(k:Key):cK K H (Bx ks k) (qB vs k):=by unfold Bx qB;induction h with|nil=>show .nil|@cons a b l m r t c=>rw[yI,yI,r.1];by_cases q:b.1=k;rw[qa<|by simp[q],qa<|by simp[q]];show c;rw[qc<|by simp[q],qc<|by simp[q]];show .cons r c
noncomputable def By:D->θ Key|.int i=>some (.inl i)|.str z=>some (.inr z)|_=>none
def kh(h:By d=ϑ k)(r:Rv K H d v):v=kV k:=by cases d with|int i=>(cases h;show r.int)|str i=>(cases h;show r.str)|_=>cases h
noncomputable def mj:D->χ|.aA=>true|.bl _=>true|.int _=>true|.str _=>true|_=>false
noncomputable def nK:D->V|.aA=>.aA|.bl b=>.bl b|.int i=>.int i|.str z=>.str z|.ref a=>.ref a|.ty n=>.ty n|_=>.aA
def kj(h:mj d=ϱ)(r:Rv K H d v):v=nK d/\iz v=ϱ:=by cases d with|aA=>(cases r.aA;show⟨rfl,rfl⟩)|bl b=>(cases r.bl;show⟨rfl,rfl⟩)|int b=>(cases r.int;show⟨rfl,rfl⟩)|str b=>(cases r.str;show⟨rfl,rfl⟩)|_=>cases h
theorem gJ:∀{ds:δ D}{vs:δ V},ds.all mj=ϱ->RvAll K H ds vs->vs=ds.map nK/\vs.all iz=ϱ|[],vs,_,r=>by rw[r.nil];show⟨rfl,rfl⟩|d::ds,vs,h,r=>by let⟨y,ys,rfl,r1,r2⟩:=r.cons;rw[List.all_cons,zN]at h;let⟨e1,a⟩:=kj h.1 r1;let⟨e2,c⟩:=gJ h.2 r2;show{by rw[e1,e2];rfl,?_};rw[List.all_cons,a,c];rfl
def inD(c:χ):vt:=λx y S R=>match y with|.str j=>(∃i,x=.str i/\R (.bl<|if c then !(!(Builtin.Str.occurrences j i 0 j.length 1).isEmpty) else !(Builtin.Str.occurrences j i 0 j.length 1).isEmpty) S)|.kt ds=>(mj x=ϱ/\ds.all mj=ϱ/\R (.bl<|if c then !Hj (nK x) (ds.map nK) else Hj (nK x) (ds.map nK)) S)|.tup ds=>(mj x=ϱ/\ds.all mj=ϱ/\R (.bl<|if c then !Hj (nK x) (ds.map nK) else Hj (nK x) (ds.map nK)) S)|.ref a=>((∃ds,S a=ϑ (.lst ds)/\mj x=ϱ/\ds.all mj=ϱ/\R (.bl<|if c then !Hj (nK x) (ds.map nK) else Hj (nK x) (ds.map nK)) S)\/∃kvs k,S a=ϑ (.b_ kvs)/\By x=ϑ k/\R (.bl<|if c then !(bL kvs k).isSome else (bL kvs k).isSome) S)|_=>False
def nL(c:Rs K S H)(e:S a=ϑ (.b_ kvs)):∃o,pe H a (kV k) o/\o.isSome=(bL kvs k).isSome/\∀d,bL kvs k=ϑ d->∃v,o=ϑ v/\Rv K H d v:=by let⟨vs,e1,t⟩:=c.b_ e;show{_,pe.k e1,?_,λd h=>(t.val k).1 d h};cases q:bL kvs k with|none=>rw[(t.val k).2 q];rfl|some d=>let⟨v,e2,_⟩:=(t.val k).1 d q;rw[e2];rfl
def vB:qG K (compareOp .In) (inD false):=by rintro X C hu qe s σ H x y v u Q I l p ⟨d,e,S,R,n,B,c,h,A⟩;subst C;cases e with|str j=>(let⟨i,rfl,h⟩:=h;show Hb qe s σ H x y v u Q I l p {i,j,n.str,B.str,A.now c h<|bP _})|tup ds=>(let⟨r,w,h⟩:=h;let⟨a,xs,rfl,q,t⟩:=B.tup;let⟨e1,m⟩:=kj r n;let⟨e2,z⟩:=gJ w t;subst e1 e2;show pb qe s σ H _ _ v u Q I l p {a,_,rfl,.inr<|.of q,m,z,A.now c h<|bP _})|kt ds=>(let⟨r,w,h⟩:=h;let⟨a,xs,rfl,q,t⟩:=B.kt;let⟨e1,m⟩:=kj r n;let⟨e2,z⟩:=gJ w t;subst e1 e2;show pb qe s σ H _ _ v u Q I l p {a,_,rfl,.inr<|.inr q,m,z,A.now c h<|bP _})|ref a=>(cases B.ref;rcases h with⟨ds,e,r,w,h⟩|⟨kvs,k,e,E,h⟩;let⟨xs,e1,t⟩:=c.lst e;let⟨e2,m⟩:=kj r n;let⟨e3,z⟩:=gJ w t;subst e2 e3;show pb qe s σ H _ _ v u Q I l p {a,_,rfl,.inl<|.of e1,m,z,A.now c h<|bP _};cases kh E n;cases p;let⟨o,g,e1,_⟩:=nL (k:=k) c e;show aaB `b I g l λs' F=>{.bl o.isSome,H,F,rfl,?_};rw[e1];show A.now c h<|bP _)|_=>show h.elim
def PK:qG K (compareOp .NotIn) (inD true):=by rintro X C hu qe s σ H x y v u Q I l p ⟨d,e,S,R,n,B,c,h,A⟩;subst C;cases e with|str j=>(let⟨i,rfl,h⟩:=h;show xq qe s σ H x y v u Q I l p {i,j,n.str,B.str,A.now c h<|bP _})|tup ds=>(let⟨r,w,h⟩:=h;let⟨a,xs,rfl,q,t⟩:=B.tup;let⟨e1,m⟩:=kj r n;let⟨e2,z⟩:=gJ w t;subst e1 e2;show i4 qe s σ H _ _ v u Q I l p {a,_,rfl,.inr<|.of q,m,z,A.now c h<|bP _})|kt ds=>(let⟨r,w,h⟩:=h;let⟨a,xs,rfl,q,t⟩:=B.kt;let⟨e1,m⟩:=kj r n;let⟨e2,z⟩:=gJ w t;subst e1 e2;show i4 qe s σ H _ _ v u Q I l p {a,_,rfl,.inr<|.inr q,m,z,A.now c h<|bP _})|ref a=>(cases B.ref;rcases h with⟨ds,e,r,w,h⟩|⟨kvs,k,e,E,h⟩;let⟨xs,e1,t⟩:=c.lst e;let⟨e2,m⟩:=kj r n;let⟨e3,z⟩:=gJ w t;subst e2 e3;show i4 qe s σ H _ _ v u Q I l p {a,_,rfl,.inl<|.of e1,m,z,A.now c h<|bP _};cases kh E n;cases p;let⟨o,g,e1,_⟩:=nL (k:=k) c e;show M9 `b I g l λs' F=>{.bl<|!o.isSome,H,F,rfl,?_};rw[e1];show A.now c h<|bP _)|_=>show h.elim
def IxD(K:Φ)(r:vt):Prop:=∀X:Cx,X.K=K->X.A.units+64<cLine->VX X (Lr K r)
inductive YZ (ds:δ D) (i:ν) (S:av) (R:KD):η
 |mk (d:D) (h:vi ds i=ϑ d) (r:R d S)
inductive AtL (a:ε) (i:ν) (S:av) (R:KD):η
 |mk (ds:δ D) (d:D) (e:S a=ϑ (.lst ds)) (h:vi ds i=ϑ d) (r:R d S)
def Y0:vt:=λx y S R=>match x,y with|.tup ds,.int i=>YZ ds i S R|.kt ds,.int i=>YZ ds i S R|.i5 ds,.int i=>YZ ds i S R|.str z,.int i=>∃c,z.length<=Ϙ/\vi z.cps.toList i=ϑ c/\R (.str ⟨#[c]⟩) S|.ref a,.int i=>AtL a i S R|.ref a,.str z=>∃kvs d,S a=ϑ (.b_ kvs)/\bL kvs (.inr z)=ϑ d/\R d S|_,_=>False
def RvAll.at{H:Hp}{ds:δ D}{xs:δ V}{i:ν}{d:D}(h:RvAll K H ds xs)(e:vi ds i=ϑ d):∃v,vi xs i=ϑ v/\Rv K H d v:=by unfold vi at e⊢;rw[h.len];cases q:IU ds.length i with|none=>(rw[q]at e;cases e)|some j=>rw[q]at e;show h.get e
def abh:IxD K Y0:=by rintro X G hu value slice qe s σ H x y v u Q I l n ⟨d,e,S,R,m,A,j,h,B⟩ p;subst G;cases d with|tup ds=>(cases e with|int i=>(let⟨d,e,h⟩:=h;let⟨a,xs,rfl,q,t⟩:=m.tup;let⟨z,e1,r⟩:=t.at e;show Jx value slice qe s σ H _ _ v u Q I l n {a,xs,i,z,rfl,A.int,.of q,e1,B.now j h r} p)|_=>show h.elim)|kt ds=>(cases e with|int i=>(let⟨d,e,h⟩:=h;let⟨a,xs,rfl,q,t⟩:=m.kt;let⟨z,e1,r⟩:=t.at e;show Jx value slice qe s σ H _ _ v u Q I l n {a,xs,i,z,rfl,A.int,.inr q,e1,B.now j h r} p)|_=>show h.elim)|i5 ds=>(cases e with|int i=>(let⟨d,e,h⟩:=h;let⟨a,xs,rfl,q,t⟩:=m.i5;let⟨z,e1,r⟩:=t.at e;show FN value slice qe s σ H _ _ v u Q I l n {a,xs,i,z,rfl,A.int,q.sq,e1,B.now j h r} p)|_=>show h.elim)|str w=>(cases e with|int i=>(let⟨c,E,e,h⟩:=h;show RD value slice qe s σ H _ _ v u Q I l n {w,i,c,m.str,A.int,E,e,B.now j h<|i6 _} p)|_=>show h.elim)|ref a=>(cases e with|int i=>(let⟨ds,d,e,e1,h⟩:=h;let⟨xs,e2,t⟩:=j.lst e;let⟨z,e3,r⟩:=t.at e1;show FN value slice qe s σ H _ _ v u Q I l n {a,xs,i,z,m.ref,A.int,.of e2,e3,B.now j h r} p)|str w=>(let⟨kvs,d,e,e1,h⟩:=h;cases m.ref;cases A.str;cases l;let⟨o,g,_,e2⟩:=nL (k:=.inr w) j e;let⟨z,rfl,r⟩:=e2 d e1;show tail_any (qD I g) PySem.F.slot_dict_getitem.lookup (we `b I g n λL s' J C=>{z,H,J,C,B.now j h r}) p)|_=>show h.elim)|_=>show h.elim
theorem ix(hu:X.A.units+64<cLine)(ha:DE K X a ta)(hb:DE K X b tb)(c:ψ (xu b) qJK)(d:ψ (X.K=K) qQJ):DE K X (.Subscript a b pos) (J3 Y0 ta tb):=⟨λy=>(Pr (abh y.cx d hu) (ha.of y) (hb.of y) c).mono λz z z h=>h.op⟩
end
section
variable{K:Φ}{X:Cx}
abbrev PL:=SD->av->(θ ν->av->η)->KX->η
def To(K:Φ)(E:St->XK)(t:PL):TO:=λτ H Q=>∃σ S R Z,jQ K H σ τ/\Rs K S H/\t σ S R Z/\(∀o S' H',R o S'->Rs K S' H'->Kp K H H'->Q o H')/\HF K H Z (E τ)
structure DO(K:Φ)(X:Cx)(e:θ Δ)(t:PL):η where
 of:∀{b:χ}(y:Ev X b),PO y.cx e<|To K y.E t
theorem PO.mono{t t':TO}(h:PO X e t)(i:∀τ H Q,t' τ H Q->t τ H Q):PO X e t':=λqe s τ H Q I q=>h qe s τ H Q I<|i τ H Q q
def WE:PL:=λz S R z=>R none S
inductive WG (d:D) (S:av) (R:θ ν->av->η):η
 |mk (i:ν) (h:d=.int i) (r:R (some i) S)
def WH(t:TD):PL:=λσ S R Z=>t σ S (λd a=>WG d a R) Z
theorem o0:DO K X none WE:=⟨λy=>(M4 (X:=y.cx)).mono <| by rintro τ H Q ⟨σ,S,R,Z,d,a,q,c,e⟩;show c _ S H q a<|.refl _⟩
theorem o1{t:TD}(h:DE K X e t):DO K X (some e) (WH t):=⟨λy=>(M5<|h.of y).mono <| by rintro τ H Q ⟨σ,S,R,Z,a,m,q,o,l⟩;show{σ,S,_,Z,a,m,q,by rintro d j x H1 ⟨i,e,n⟩ g s1 c;show by subst e;show{i,g.int,o _ j H1 n s1 c},l}⟩
noncomputable def eB{α:Type}(xs:δ α)(lo hi:θ ν):δ α:=(xs.drop<|HT.sIx xs.length 0 lo).take<|HT.sIx xs.length xs.length hi-HT.sIx xs.length 0 lo
def RvAll.cut{H:Hp}{ds:δ D}{xs:δ V}(h:RvAll K H ds xs)(lo hi:θ ν):RvAll K H (eB ds lo hi) (Bh xs lo hi):=by unfold eB Bh;rw[h.len];show(h.drop _).take _
def slD:D->θ ν->θ ν->av->KD->Prop:=λx lo hi S R=>match x with|.str z=>z.length<=Ϙ/\R (.str<|PySem.Txt.slice z lo hi) S|.tup ds=>¬(HT.sIx ds.length 0 lo=0/\HT.sIx ds.length ds.length hi=ds.length)/\R (.tup<|eB ds lo hi) S|.ref a=>∃ds,S a=ϑ (.lst ds)/\∀p,S p=ϐ->R (.ref p) (S.set p<|.lst<|eB ds lo hi)|.i5 ds=>∀p,S p=ϐ->R (.ref p) (S.set p<|.lst<|eB ds lo hi)|_=>False
def Lsl(K:Φ):V->θ ν->θ ν->Hp->VK->Prop:=λx lo hi H Q=>∃d S R,Rv K H d x/\Rs K S H/\slD d lo hi S R/\Cn K H R Q
def abi(r:X.K=K):UC X (Lsl K):=by rintro qe s σ H x v m i lo hi sl Q I g l pl n ⟨d,S,R,j,c,h,o⟩;subst r;cases d with|str z=>show Sh qe s σ H x v m i lo hi sl Q I g l pl n {z,j.str,h.1,o.now c h.2<|i6 _}|tup ds=>(let⟨a,xs,rfl,q,t⟩:=j.tup;show RC qe s σ H _ v m i lo hi sl Q I g l pl n {a,xs,rfl,.of q,by rw[t.len];show h.1,λp hp=>o.Sk c hp h.2<|t.cut lo hi})|ref a=>(let⟨ds,e,h⟩:=h;let⟨xs,e1,t⟩:=c.lst e;show sD qe s σ H _ v m i lo hi sl Q I g l pl n {a,xs,j.ref,.of e1,λp hp=>o.new c hp (h p)<|t.cut lo hi})|i5 ds=>(let⟨a,xs,rfl,q,t⟩:=j.i5;show sD qe s σ H _ v m i lo hi sl Q I g l pl n {a,xs,rfl,q.sq,λp hp=>o.new c hp (h p)<|t.cut lo hi})|_=>show h.elim
def dSl(te:TD)(tl th:PL):TD:=λσ S R Z=>te σ S (λx a=>tl σ a (λl d=>th σ d (λu c=>slD x l u c R) Z) Z) Z
theorem sl{e:Δ}{lo hi:θ Δ}{te:TD}{tl th:PL}{p2 pos:Pos}(s:DE K X e te)(hl:DO K X lo tl)(hu:DO K X hi th)(t:ψ (X.K=K) qQJ):DE K X (.Subscript e (.Slice lo hi none p2) pos) (dSl te tl th):=
 ⟨λy=>(Bf (X:=y.cx) (abi t) (s.of y) (hl.of y)<|hu.of y).mono <| by rintro τ H Q ⟨σ,S,R,Z,h,z,q,A,g⟩;show
  ⟨σ,S,_,Z,h,z,q,λd m x H1 p j s1 a=>⟨σ,m,_,Z,h.ts a,s1,p,λl n H2 w s2 c=>⟨σ,n,_,Z,h.ts<|a.trans c,s2,w,λu o B v r i=>⟨d,o,R,Rv.ts (c.trans i) _ j,r,v,A.kp<|(a.trans c).trans i⟩,g.kp<|a.trans c⟩,g.kp a⟩,g⟩⟩
def abj(te:TD):TD:=λσ S R Z=>te σ S (λx a=>∃i,x=.int i/\R (.int (-i)) a) Z
theorem NM(j:DE K X e te):DE K X (.UnaryOp .USub e pos) (abj te):=⟨λy=>(VG Ro<|j.of y).mono <| by rintro τ H Q ⟨σ,S,R,Z,a,m,q,o,l⟩;show{σ,S,_,Z,a,m,q,by rintro d h x H1 ⟨i,e,n⟩ g s1 c;show by subst e;show{i,g.int,o _ h _ H1 n (aS _) s1 c},l}⟩
def tyD(T:String)(S:av):D->η|.str _=>T ="str"|.ref a=>T ="list"/\∃ds,S a=ϑ (.lst ds)|.i5 _=>T ="list"|_=>False
def PM{H:Hp}{S:av}{T:String}{d:D}{v:V}(h:tyD T S d)(c:Rs K S H)(r:Rv K H d v):YN K T v H:=by cases d with|str z=>rw[r.str];show h|ref a=>(let⟨e,ds,h⟩:=h;let⟨xs,e1,_⟩:=c.lst h;rw[r.ref];show .inl {e,xs,.of e1})|i5 ds=>(let⟨a,xs,rfl,q,_⟩:=r.i5;show .inl ⟨h,xs,q.sq⟩)|_=>show h.elim
abbrev IZ:=D->δ D->av->KD->η
def Lm(K:Φ)(r:IZ):V->δ V->Hp->VK->Prop:=λx xs H Q=>∃d ds S R,Rv K H d x/\RvAll K H ds xs/\Rs K S H/\r d ds S R/\Cn K H R Q
def PN(K:Φ)(id:String)(r:IZ):Prop:=∀X:Cx,X.K=K->UD X id (Lm K r)
def dBM(T:String)(r:IZ)(to:TD)(t:iC):TD:=λσ S R Z=>to σ S (λx a=>tyD T a x/\t σ a (λds c=>r x ds c R) Z) Z
def abl(T:String)(r:IZ)(to:TD):TD:=λσ S R Z=>to σ S (λx a=>tyD T a x/\r x [] a R) Z
def bm{o e:Δ}{es:δ Δ}{T id:String}{name:ρ}{r:IZ}{to:TD}{t:iC}{apos aV:Pos}(C:PlainAttrs T)(slot:Slot T name id)(s:typeOf (.builtin id)=pure (.type "method_descriptor"))(hm:PN K id r)(j:DE K X o to)(ha:DA K X (e::es) t) (m:ψ (attributeBase o name X.env (eval o X.env)=eval o X.env) qQJ) (B:ψ (((backTo aV<|starEach (e::es) X.env).all (λx=>!x.1)&&(backToKw aV<|keywordEach [] X.env).all (λx=>x.1.isSome)&&ω ((e::es).length+([]:δ Keyword).length+(if ([]:δ Keyword).isEmpty then 0 else 1)<30))=ϱ) qQJ) (v:ψ ((apos.endLine==aV.line)=ϱ) qQJ) (A:ψ (starEach (e::es) X.env=`j::starEach es X.env) qQJ) (l:ψ ((backTo aV<|starEach es X.env).any (·.1)=ϰ) qQJ) (E:ψ (X.K=K) qQJ): DE K X (.Call (.Attribute o name apos) (e::es) [] aV) (dBM T r to t):=by
 subst E
 show⟨λy=>(VZ (X:=y.cx) C slot s (hm _ rfl) (j.of y) (ha.of y) m B v A l).mono <| by rintro τ H Q ⟨σ,S,R,Z,i,G,q,I,h⟩;show
  ⟨σ,S,_,Z,i,G,q,by rintro d n x H1 ⟨h1,w⟩ g s1 a;show⟨PM h1 s1 g,σ,n,_,Z,i.ts a,s1,w,λds p xs H2 F z s2 c=>⟨d,ds,p,R,Rv.ts c _ g,z,s2,F,I.kp<|a.trans c⟩,h.kp a⟩,h⟩⟩
def bm0{o:Δ}{T id:String}{name:ρ}{r:IZ}{to:TD}{apos aV:Pos}(l:PlainAttrs T)(slot:Slot T name id)(n:typeOf (.builtin id)=pure (.type "method_descriptor"))(hm:PN K id r)(c:DE K X o to) (g:ψ (attributeBase o name X.env (eval o X.env)=eval o X.env) qQJ) (s:ψ ((apos.endLine==aV.line)=ϱ) qQJ) (m:ψ (X.K=K) qQJ): DE K X (.Call (.Attribute o name apos) [] [] aV) (abl T r to):=by
 subst m
 show⟨λy=>(RG (X:=y.cx) l slot n (hm _ rfl) (c.of y) g s).mono <| by rintro τ H Q ⟨σ,S,R,Z,e,p,q,v,j⟩;show
  ⟨σ,S,_,Z,e,p,q,by rintro d i x H1 ⟨h1,t⟩ a s1 h;show⟨PM h1 s1 a,d,[],i,R,a,bA,s1,t,v.kp h⟩,j⟩⟩
def RvAll.one(h:RvAll K H [d] xs):∃v,xs=[v]/\Rv K H d v:=by let⟨y,ys,rfl,h1,h2⟩:=h.cons;rw[h2.nil];show⟨y,rfl,h1⟩
inductive WI (x:D) (ds:δ D) (S:av) (R:KD):η
 |mk (a:ε) (es:δ D) (d:D) (e1:x=.ref a) (e2:ds=[d]) (e3:S a=ϑ (.lst es)) (e4:es.length<Ϙ) (r:R .aA<|S.set a<|.lst<|es++[d])
def NN:IZ:=λx ds S R=>WI x ds S R
def cL:PN K "list.append" NN:=by rintro X n qe s σ H x xs v us Q I e rs ⟨d,ds,S,R,j,l,c,⟨a,es,y,e1,e2,e3,hl,h⟩,m⟩;subst e1 e2;let⟨g,rfl,i⟩:=l.one;let⟨zs,e4,t⟩:=c.lst e3;show Hl qe s σ H x _ v us Q I e rs {a,zs,g,j.ref,rfl,e4,by rw[t.len];show hl,m.put c e3 h j8<|t.app<|aP i bA}
def abm:IZ:=λx ds S R=>∃a es d,x=.ref a/\ds=[]/\S a=ϑ (.lst es)/\es[es.length-1]?=some d/\R d (S.set a<|.lst es.dropLast)
def WJ:PN K "list.pop" abm:=by rintro X m qe s σ H x xs v us Q I e rs ⟨d,ds,S,R,g,i,c,⟨a,es,y,e1,e2,e3,hl,h⟩,l⟩;subst e1 e2;let⟨zs,e4,t⟩:=c.lst e3;let⟨w,j,r⟩:=t.get hl;show RK qe s σ H x _ v us Q I e rs {a,zs,w,g.ref,i.nil,e4,by rw[t.len];show j,l.put c e3 h r t.dropLast}
def Sl:IZ:=λx ds S R=>∃a es i k d,x=.ref a/\ds=[.int i]/\S a=ϑ (.lst es)/\-(2^63)<=i/\i<2^63/\seqIndex? i es.length=ϑ k/\es[k]?=some d/\R d (S.set a<|.lst<|es.eraseIdx k)
def NO:PN K "list.pop" Sl:=by rintro X A qe s σ H x xs v us Q I e rs ⟨d,ds,S,R,m,n,c,⟨a,es,i,k,y,e1,e2,e3,h1,h2,j,g,h⟩,p⟩;subst e1 e2;let⟨z,rfl,l⟩:=n.one;let⟨zs,e4,t⟩:=c.lst e3;let⟨w,o,r⟩:=t.get g;show JA qe s σ H x _ v us Q I e rs {a,zs,i,k,w,m.ref,by rw[l.int],e4,h1,h2,by rw[t.len];show j,o,p.put c e3 h r<|t.erase k}
def NP:IZ:=λx ds S R=>∃(es:δ D)(d:D)(j:π),ds=[d]/\nh S x es/\mj d=ϱ/\es.all mj=ϱ/\(∃z,es[j]?=some z/\eqV (nK z) (nK d)=ϱ)/\(∀m u,m<j->es[m]?=some u->eqV (nK u) (nK d)=ϰ)/\R (.int j) S
def Ka:PN K "list.index" NP:=by rintro X B qe s σ H x xs v us Q I i rs ⟨d,ds,S,R,r,C,g,⟨es,y,j,e2,e3,w,A,⟨z,e4,G⟩,n,h⟩,J⟩;subst B e2;let⟨L,rfl,c⟩:=C.one;let⟨a,zs,rfl,q,t⟩:=e3.at g r;let⟨p,E⟩:=kj w c;let⟨F,o⟩:=gJ A t;subst p F;show HB qe s σ H _ _ v us Q I i rs {a,_,_,nK z,j,rfl,rfl,q,E,o,by rw[zx,e4];rfl,G,λm u hm e=>?_,J.now g h<|aS _};rw[zx]at e;cases c:es[m]? with|none=>(rw[c]at e;cases e)|some l=>rw[c]at e;cases e;show n m l hm c
def NQ:IZ:=λx ds S R=>∃z y,x=.str z/\ds=[.str y]/\R (.bl<|PySem.Txt.startswith z y) S
def Kb:PN K "str.startswith" NQ:=by rintro X l qe s σ H x xs v us Q I a rs ⟨d,ds,S,R,i,c,e,⟨z,y,e1,e2,h⟩,j⟩;subst e1 e2;let⟨m,rfl,g⟩:=c.one;show vq qe s σ H _ _ v us Q I a rs {z,y,i.str,by rw[g.str],j.now e h<|bP _}
def WK(S:av)(R:KD):D->η|.str z=>z.length<=Ϙ/\R (.int z.length) S|.tup es=>R (.int es.length) S|.kt es=>R (.int es.length) S|.i5 es=>R (.int es.length) S|.ref a=>(∃es,S a=ϑ (.lst es)/\R (.int es.length) S)\/∃kvs,S a=ϑ (.b_ kvs)/\R (.int kvs.length) S|_=>False
inductive WL (ds:δ D) (S:av) (R:KD):η
 |mk (x:D) (h:ds=[x]) (r:WK S R x)
def abn:δ D->av->KD->Prop:=λds S R=>WL ds S R
def aW:iD K (.builtin "len") abn:=by rintro X j l qe s σ H xs us Q I d ⟨ds,S,R,r,c,⟨x,e,h⟩,g⟩;subst j e;let⟨w,rfl,i⟩:=r.one;cases x with|str z=>(cases i.str;show jX qe s σ H _ us Q I d {_,_,rfl,⟨h.1,rfl⟩,g.now c h.2<|aS _})|tup es=>(let⟨a,xs,rfl,q,t⟩:=i.tup;show jX qe s σ H _ us Q I d {_,_,rfl,.inr {xs,.of q,t.len.symm},g.now c h<|aS _})|kt es=>(let⟨a,xs,rfl,q,t⟩:=i.kt;show jX qe s σ H _ us Q I d {_,_,rfl,.inr {xs,.inr q,t.len.symm},g.now c h<|aS _})|i5 es=>(let⟨a,xs,rfl,q,t⟩:=i.i5;show jX qe s σ H _ us Q I d {_,_,rfl,.inl ⟨xs,q.sq,t.len.symm⟩,g.now c h<|aS _})|ref a=>(cases i.ref;rcases h with⟨es,e,h⟩|⟨kvs,e,h⟩;let⟨xs,e1,t⟩:=c.lst e;show jX qe s σ H _ us Q I d {_,_,rfl,.inl {xs,.of e1,t.len.symm},g.now c h<|aS _};let⟨xs,e1,t⟩:=c.b_ e;show Hq qe s σ H _ us Q I d {a,xs,rfl,e1,by rw[t.len];show g.now c h<|aS _})|_=>show h.elim
def UQ(S:av):D->Kd->η|.aA,k=>k=.aA|.bl _,k=>k=.bl|.int _,k=>k=.int|.str _,k=>k=.str|.ref a,k=>(k=.lst/\∃ds,S a=ϑ (.lst ds))\/(k=.b_/\∃ds,S a=ϑ (.b_ ds))|.tup _,k=>k=.tup|_,_=>False
def WM(h:UQ S d k)(c:Rs K S H)(r:Rv K H d v):tG H v k:=by cases d with|aA=>(cases h;rw[r.aA];show .aA)|bl b=>(cases h;rw[r.bl];show .bl b)|int b=>(cases h;rw[r.int];show .int b)|str b=>(cases h;rw[r.str];show .str b)|tup b=>(cases h;let⟨a,xs,rfl,q,_⟩:=r.tup;show .tup q)|ref a=>(rw[r.ref];rcases h with⟨rfl,ds,h⟩|⟨rfl,ds,h⟩;let⟨xs,e,_⟩:=c.lst h;show .lst e;let⟨xs,e,_⟩:=c.b_ h;show .b_ e)|_=>show h.elim
inductive WN (ds:δ D) (S:av) (R:KD):η
 |mk (x:D) (n:String) (k:Kd) (g:Kd->χ) (e:ds=[x,.ty n]) (a:xC n=ϑ g) (b:UQ S x k) (r:R (.bl<|g k) S)
def abo:δ D->av->KD->Prop:=λds S R=>WN ds S R
def RvAll.two(h:RvAll K H [d,e] xs):∃v u,xs=[v,u]/\Rv K H d v/\Rv K H e u:=by let⟨y,ys,rfl,h1,h2⟩:=h.cons;let⟨u,rfl,a⟩:=h2.one;show⟨y,u,rfl,h1,a⟩
def bB:iD K (.builtin "isinstance") abo:=by rintro X d m qe s σ H xs us Q I a ⟨ds,S,R,r,c,⟨x,n,k,g,e,h1,h2,h⟩,l⟩;subst d e;let⟨v,u,rfl,j,i⟩:=r.two;rw[i.ty]at a;show JQ qe s σ H _ us Q I a {v,n,k,g,rfl,h1,WM h2 c j,l.now c h<|bP _}
inductive WO (ds:δ D) (S:av) (f:δ χ->χ) (R:KD):η
 |mk (x:D) (bs:δ χ) (e:ds=[x]) (h:nh S x<|bs.map D.bl) (r:R (.bl<|f bs) S)
def WQ:δ D->av->KD->Prop:=λds S R=>WO ds S (λbs=>bs.all id) R
def jA:iD K (.builtin "all") WQ:=by rintro X i d qe s σ H xs us Q I g ⟨ds,S,R,r,c,⟨x,bs,e,h1,h⟩,l⟩;subst i e;let⟨v,rfl,j⟩:=r.one;let⟨a,zs,rfl,q,t⟩:=h1.at c j;rw[t.bools]at q;show vk d qe s σ H _ us Q I g {a,bs,rfl,q,l.now c h<|bP _}
def abp:δ D->av->KD->Prop:=λds S R=>∃(x:D)(bs:δ χ),ds=[x]/\nh S x (bs.map D.bl)/\R (.bl<|bs.any id) S
def WR:iD K (.builtin "any") abp:=by rintro X i d qe s σ H xs us Q I g ⟨ds,S,R,r,c,⟨x,bs,e,h1,h⟩,l⟩;subst i e;let⟨v,rfl,j⟩:=r.one;let⟨a,zs,rfl,q,t⟩:=h1.at c j;rw[t.bools]at q;show vm d qe s σ H _ us Q I g {a,bs,rfl,q,l.now c h<|bP _}
def intD:δ D->av->KD->Prop:=λds S R=>(∃i,ds=[.int i]/\R (.int i) S)\/∃k,ds=[.bl k]/\R (.int<|if k then 1 else 0) S
def Kc:iD K (.type "int") intD:=by rintro X j g qe s σ H xs us Q I c ⟨ds,S,R,r,d,h,e⟩;rcases h with⟨i,rfl,h⟩|⟨k,rfl,h⟩;let⟨v,rfl,a⟩:=r.one;show v7 qe s σ H _ us Q I c<|.inl {i,by rw[a.int],e.now d h<|aS _};let⟨v,rfl,a⟩:=r.one;show v7 qe s σ H _ us Q I c<|.inr {k,by rw[a.bl],e.now d h<|aS _}
def WS:δ D->av->KD->Prop:=λds S R=>∃x es,ds=[x]/\(nh S x es\/x=.tup es)/\∀p,S p=ϐ->R (.ref p) (S.set p<|.lst es)
def Ke:iD K (.type "list") WS:=by rintro X j l qe s σ H xs us Q I d ⟨ds,S,R,r,c,⟨x,es,e,h1,h⟩,i⟩;subst j e;let⟨v,rfl,g⟩:=r.one;rcases h1 with h1|rfl;let⟨a,zs,rfl,q,t⟩:=h1.at c g;show nD qe s σ H _ us Q I d {a,zs,rfl,.inl q,λp hp=>i.new c hp (h p) t};let⟨a,zs,rfl,q,t⟩:=g.tup;show nD qe s σ H _ us Q I d {a,zs,rfl,.inr<|.of q,λp hp=>i.new c hp (h p) t}
inductive WT (ds:δ D) (S:av) (R:KD):η
 |mk (x:D) (es:δ D) (e:ds=[x]) (h:nh S x es\/x=.tup es) (r:R (.tup es) S)
def Sm:δ D->av->KD->Prop:=λds S R=>WT ds S R
def gL:iD K (.type "tuple") Sm:=by rintro X j l qe s σ H xs us Q I d ⟨ds,S,R,r,c,⟨x,es,e,h1,h⟩,i⟩;subst j e;let⟨v,rfl,g⟩:=r.one;rcases h1 with h1|rfl;let⟨a,zs,rfl,q,t⟩:=h1.at c g;show me qe s σ H _ us Q I d {a,zs,rfl,.inl {q,λp hp=>i.Sk c hp h t}};let⟨a,zs,rfl,q,t⟩:=g.tup;show me qe s σ H _ us Q I d {a,zs,rfl,.inr {.of q,i.now c h<|hX q t}}
def minD(f:ν->ν->χ):δ D->av->KD->Prop:=λds S R=>∃i j,ds=[.int i,.int j]/\R (.int<|if f j i then j else i) S
def PQ:iD K (.builtin "min") (minD λa b=>ω<|a<b):=by rintro X o c qe s σ H xs us Q I d ⟨ds,S,R,r,l,⟨i,j,e,h⟩,n⟩;subst e;let⟨v,u,rfl,m,g⟩:=r.two;show He c qe s σ H _ us Q I d {i,j,by rw[m.int,g.int],?_};have:=n.now l h<|aS _;simpa using this
def WU:iD K (.builtin "max") (minD λa b=>ω<|b<a):=by rintro X o c qe s σ H xs us Q I d ⟨ds,S,R,r,l,⟨i,j,e,h⟩,n⟩;subst e;let⟨v,u,rfl,m,g⟩:=r.two;show Hd c qe s σ H _ us Q I d {i,j,by rw[m.int,g.int],?_};have:=n.now l h<|aS _;simpa using this
end
abbrev jb:=δ D->av->KD->KX->η
def qH(K:Φ)(sp:jb):Sp:=λvs H Q e=>∃ds S R Z,RvAll K H ds vs/\Rs K S H/\sp ds S R Z/\Cn K H R Q/\HF K H Z e
section
variable{K:Φ}{X:Cx}{k:π}{f C:ε}{fd:FuncData}{ps:δ ρ}{sp:Sp}{rH:δ V}{ds:δ ξ}{x m:ρ}{p pos apos:Pos}{e o:Δ}{es:δ Δ}{b:χ}{y:Ev X b}
def xO(F:bO X.prog X.w X.K X.mg X.base (fz X.prog X.w X.mg) k f fd ps sp)(hr:cq k X.A)(hb:Binds X.K fd ps ds)(hd:Vals rH ds) (I:Inv y.cx p2 σ H s) (r:Vals vs us) (h:sp (vs++rH) H Q<|y.E σ):wpAny `m X.A (call (.ref f) us) (EP y.cx p2 σ Q) y.xe s:=by
 have c:Vals (vs++rH) (us++ds):=r.append hd;have hl:(us++ds).length=ps.length:=by rw[<-c.length];show F.len _ _ _ _ h
 show wpAny_call<|xa (F.run X.A X.stack s H {us,[]} (us++ds) (vs++rH) Q (y.E σ) hr I.VQ (hb s us I.oV hl) c h) λa s' hq=>?_;cases a with|error e=>show y.ok.call p2 σ H s e s' I hq|ok fl=>cases fl with|ret u=>show I.after hq|next=>show False.elim hq|brk=>show False.elim hq|cont=>show False.elim hq
def Kf{t:TA}(F:bO X.prog X.w X.K X.mg X.base (fz X.prog X.w X.mg) k f fd ps sp)(hr:cq k X.A)(j:Gl X x)(hm:X.mg x=ϑ (.ref f))(i:keepIn X.K (.ref f)=ϱ)(hb:Binds X.K fd ps ds)(hd:Vals rH ds) (ha:PA y.cx (e::es) t) (c:(x==("__debug__": ρ))=ϰ) (g:starEach (e::es) X.env=`j::starEach es X.env) (l:(backTo pos<|starEach es X.env).any (·.1)=ϰ): PE y.cx (.Call (.Name x p) (e::es) [] pos) (λσ H Q=>t σ H λvs H1=>sp (vs++rH) H1 Q<|y.E σ):=by intro p2 s σ H Q I h;show wpAny_Call_Name_kw<|nu I j hm ?_ c;show callWith_K (h₀:=X.base) I.ok.mod.Ux i (bz (ha pos p2 s σ H _ I h) λus s1 d=>?_) g l;let⟨vs,H1,a,r,q⟩:=d;show{a.oV,?_};show xO F hr hb hd a r q
theorem Kg{pl:Sem χ}{ta:TE}{t:TA}(B:PE y.cx o ta)(c:sA X.K C)(hm:Meth X.K C m f)(F:bO X.prog X.w X.K X.mg X.base (fz X.prog X.w X.mg) k f fd ps sp)(hr:cq k X.A)(hb:Binds X.K fd ps ds)(hd:Vals rH ds)(ha:PA y.cx (e::es) t)
  (v:starEach (e::es) X.env=`j::starEach es X.env) (J:(backTo pos<|starEach es X.env).any (·.1)=ϰ)
  (n:eval (.Call (.Attribute o m apos) (e::es) [] pos) X.env=(do
   let ov <-eval o X.env
   standAt apos.atName
   let (f,first) <-holding [ov] (getMethod ov m pl)
   callWith pos f first (backTo pos<|starEach (e::es) X.env) (backToKw pos<|keywordEach [] X.env))):
  PE y.cx (.Call (.Attribute o m apos) (e::es) [] pos) (λσ H Q=>ta σ H λx H1=>∃a dx fs,x=.ref a/\H1 a=ϑ (.ins C dx fs)/\fs.lookup m=ϐ/\t σ H1 λvs H2=>sp (x::(vs++rH)) H2 Q<|y.E σ):=by
 intro p2 s σ H Q I h
 show methodCall_KW (pl:=pl) (bz (B p2 s σ H _ I h) λu s1 z=>?_) n
 let⟨x,H1,d,j,a,dx,fs,ex,i,l,q⟩:=z
 subst ex
 obtain rfl:u=Value.ref a:=j
 show sY d i c hm l ?_
 show callWith_K (first:=[.ref a]) (h₀:=X.base) I.ok.mod.Ux hm.kp (bz (ha pos p2 s1 σ H1 _ d q) λus s2 G=>?_) v J
 let⟨vs,H2,g,r,p⟩:=G
 show{g.oV,?_}
 show xO (us:=.ref a::us) (vs:=.ref a::vs) F hr hb hd g (.cons rfl r) p
theorem HG(j:PE y.cx o ta)(c:sA X.K C)(hm:Meth X.K C m f)(F:bO X.prog X.w X.K X.mg X.base (fz X.prog X.w X.mg) k f fd ps sp)(hr:cq k X.A)(hb:Binds X.K fd ps ds)(hd:Vals rH ds)
  (n:eval (.Call (.Attribute o m apos) [] [] pos) X.env=(do
   let ov <-eval o X.env
   standAt apos.atName
   let (f,first) <-holding [ov] (getMethod ov m pl)
   callWith pos f first (backTo pos<|starEach [] X.env) (backToKw pos<|keywordEach [] X.env))):
  PE y.cx (.Call (.Attribute o m apos) [] [] pos) (λσ H Q=>ta σ H λx H1=>∃a dx fs,x=.ref a/\H1 a=ϑ (.ins C dx fs)/\fs.lookup m=ϐ/\sp (x::rH) H1 Q (y.E σ)):=by
 intro p2 s σ H Q I h
 show methodCall_KW (pl:=pl) (bz (j p2 s σ H _ I h) λu s1 e=>?_) n
 let⟨x,H1,d,i,a,dx,fs,ex,g,l,q⟩:=e
 subst ex
 obtain rfl:u=Value.ref a:=i
 show sY d g c hm l ?_
 show PySem.W.callWith_K0 (first:=[.ref a]) d.oV hm.kp<|xO (us:=[.ref a]) (vs:=[.ref a]) F hr hb hd d (.cons rfl .nil) q
def HH(M:Mk X.K C f)(F:bO X.prog X.w X.K X.mg X.base (fz X.prog X.w X.mg) k f fd ps sp)(hr:cq (k+1) X.A)(hb:Binds X.K fd ps ds)(hd:Vals rH ds) (I:Inv y.cx p2 σ H s) (r:Vals vs us) (h:∀x dx,H x=ϐ->H dx=ϐ->dx≠x->sp (.ref x::(vs++rH)) (upd (upd H dx<|.own x) x<|.ins C dx []) (λv H2=>v=.aA/\Q (.ref x) H2) (y.E σ)): wpAny `m X.A (call (.ref C) us) (EP y.cx p2 σ Q) y.xe s:=by
 have hq:=h `l s.heap.objs.size (I.aM.fresh<|yu _) (I.aM.fresh<|zm _)<|zE<|yn _;have c:=Inv.made (C:=C) I;have d:Vals (V.ref `l::(vs++rH)) (Value.ref `l::(us++ds)):=.cons rfl<|r.append hd;have hl:(Value.ref `l::us++ds).length=ps.length:=by have e:=d.length;rw[F.len _ _ _ _ hq]at e;show e.symm
 show wpAny_call<|Jw (f:=f) I.oV M.makes M.init (beq_iff_eq.mp M.fn)<|xa (F.run _ X.stack _ _ {Value.ref `l::us,[]} (Value.ref `l::(us++ds)) _ _ (y.E σ) (hr.make C us []) (c.VQ.make C us []) (hb _ (Value.ref `l::us) c.oV hl) d hq) λr s' a=>?_;cases r with|error e=>show y.ok.call p2 σ _ _ e s' c a|ok fl=>cases fl with|ret u=>(let⟨v,H',g,j,l,i⟩:=c.after a;subst l;show{j,{V.ref<|s.heap.objs.size+1,H',g,rfl,i}})|next=>show False.elim a|brk=>show False.elim a|cont=>show False.elim a
def Kh{t:TA}(M:Mk X.K C f)(F:bO X.prog X.w X.K X.mg X.base (fz X.prog X.w X.mg) k f fd ps sp)(hr:cq (k+1) X.A)(i:Gl X x)(hm:X.mg x=ϑ (.ref C))(hb:Binds X.K fd ps ds)(hd:Vals rH ds) (ha:PA y.cx (e::es) t) (c:(x==("__debug__": ρ))=ϰ) (g:starEach (e::es) X.env=`j::starEach es X.env) (j:(backTo pos<|starEach es X.env).any (·.1)=ϰ): PE y.cx (.Call (.Name x p) (e::es) [] pos) (λσ H Q=>t σ H λvs H1=>∀x dx,H1 x=ϐ->H1 dx=ϐ->dx≠x->sp (.ref x::(vs++rH)) (upd (upd H1 dx<|.own x) x<|.ins C dx []) (λv H2=>v=.aA/\Q (.ref x) H2) (y.E σ)):=by intro p2 s σ H Q I h;show wpAny_Call_Name_kw<|nu I i hm ?_ c;show callWith_K (h₀:=X.base) I.ok.mod.Ux M.kp (bz (ha pos p2 s σ H _ I h) λus s1 d=>?_) g j;let⟨vs,H1,a,r,q⟩:=d;show{a.oV,?_};show HH M F hr hb hd a r q
end
section
variable{K:Φ}{X:Cx}{k:π}{f C:ε}{fd:FuncData}{ps:δ ρ}{sp:jb}{Bz:δ D}{rH:δ V}{ds:δ ξ}{x m:ρ}{p pos apos:Pos}{e o:Δ}{es:δ Δ}
structure UR(K:Φ)(Bz:δ D)(rH:δ V)(ds:δ ξ):η where
 v:Vals rH ds
 d:∀H,RvAll K H Bz rH
theorem d0:UR K [] [] []:={.nil,λz=>bA}
theorem d1:UR K [.aA] [.aA] [.none]:={.cons rfl .nil,λz=>aP j8 bA}
def PR(sp:jb)(Bz:δ D)(t:iC):TD:=λσ S R Z=>t σ S (λds a=>sp (ds++Bz) a R Z) Z
def cf{t:iC}(F:bO X.prog X.w K X.mg X.base (fz X.prog X.w X.mg) k f fd ps<|qH K sp)(hr:cq k X.A)(hm:X.mg x=ϑ (.ref f))(n:keepIn K (.ref f)=ϱ)(hb:Binds K fd ps ds)(hd:UR K Bz rH ds)(ha:DA K X (e::es) t) (s:ψ (Gl X x) qQJ) (g:ψ ((x==("__debug__": ρ))=ϰ) qQZ) (l:ψ (starEach (e::es) X.env=`j::starEach es X.env) qQJ) (o:ψ ((backTo pos<|starEach es X.env).any (·.1)=ϰ) qQJ) (m:ψ (X.K=K) qQJ): DE K X (.Call (.Name x p) (e::es) [] pos) (PR sp Bz t):=by
 subst m
 show⟨λy=>(Kf F hr s hm n hb hd.v (ha.of y) g l o).mono <| by rintro τ H Q ⟨σ,S,R,Z,h,r,q,B,c⟩;show
  ⟨σ,S,_,Z,h,r,q,λes j xs H1 z i s1 a=>⟨es++Bz,j,R,Z,i.app<|hd.d _,s1,z,B.kp a,c.kp a⟩,c⟩⟩
inductive MeR (C:ε) (m:ρ) (x:D) (S:av) (p:η):η
 |mk (a:ε) (fs:δ<|ρ×D) (e1:x=.ref a) (e2:S a=ϑ (.ins C fs)) (e3:fs.lookup m=ϐ) (r:p)
def FW(C:ε)(m:ρ)(sp:jb)(Bz:δ D)(ta:TD)(t:iC):TD:=λσ S R Z=>ta σ S (λx a=>MeR C m x a<|t σ a (λds c=>sp (x::(ds++Bz)) c R Z) Z) Z
theorem cme{t:iC}(G:DE K X o ta)(c:sA K C)(hm:Meth K C m f)(F:bO X.prog X.w K X.mg X.base (fz X.prog X.w X.mg) k f fd ps<|qH K sp)(hr:cq k X.A)(hb:Binds K fd ps ds)(hd:UR K Bz rH ds)(ha:DA K X (e::es) t)
  (B:ψ (starEach (e::es) X.env=`j::starEach es X.env) qQJ) (L:ψ ((backTo pos<|starEach es X.env).any (·.1)=ϰ) qQJ)
  (r:ψ (eval (.Call (.Attribute o m apos) (e::es) [] pos) X.env=(do
   let ov <-eval o X.env
   standAt apos.atName
   let (f,first) <-holding [ov] (getMethod ov m pl)
   callWith pos f first (backTo pos<|starEach (e::es) X.env) (backToKw pos<|keywordEach [] X.env))) qQJ) (I:ψ (X.K=K) qQJ):
  DE K X (.Call (.Attribute o m apos) (e::es) [] pos) (FW C m sp Bz ta t):=by
 subst I
 show⟨λy=>(Kg (G.of y) c hm F hr hb hd.v (ha.of y) B L r).mono <| by rintro τ H Q ⟨σ,S,R,Z,l,M,q,N,i⟩;show
  ⟨σ,S,_,Z,l,M,q,by
   rintro d n x H1 ⟨a,fs,e1,e2,e3,s⟩ j s1 g
   subst e1
   let⟨dx,vs,e4,E⟩:=s1.ins e2
   show{a,dx,vs,j.ref,e4,(E.look m).2 e3,σ,n,_,Z,l.ts g,s1,s,λes p xs H2 J z s2 h=>{_,p,R,Z,aP (Rv.ts h _ j)<|z.app<|hd.d _,s2,J,N.kp<|g.trans h,i.kp<|g.trans h},i.kp g},i⟩⟩
theorem WV(r:DE K X o ta)(c:sA K C)(hm:Meth K C m f)(F:bO X.prog X.w K X.mg X.base (fz X.prog X.w X.mg) k f fd ps<|qH K sp)(hr:cq k X.A)(hb:Binds K fd ps ds)(hd:UR K Bz rH ds)
  (j:ψ (eval (.Call (.Attribute o m apos) [] [] pos) X.env=(do
   let ov <-eval o X.env
   standAt apos.atName
   let (f,first) <-holding [ov] (getMethod ov m pl)
   callWith pos f first (backTo pos<|starEach [] X.env) (backToKw pos<|keywordEach [] X.env))) qQJ) (s:ψ (X.K=K) qQJ):
  DE K X (.Call (.Attribute o m apos) [] [] pos) (FW C m sp Bz ta NL):=by
 subst s
 show⟨λy=>(HG (r.of y) c hm F hr hb hd.v j).mono <| by rintro τ H Q ⟨σ,S,R,Z,n,t,q,z,g⟩;show
  ⟨σ,S,_,Z,n,t,q,by
   rintro d i x H1 ⟨a,fs,e1,e2,e3,l⟩ e s1 h
   subst e1
   let⟨dx,vs,e4,p⟩:=s1.ins e2
   show{a,dx,vs,e.ref,e4,(p.look m).2 e3,_,i,R,Z,aP e<|hd.d _,s1,l,z.kp h,g.kp h},g⟩⟩
def WW(C:ε)(sp:jb)(Bz:δ D)(t:iC):TD:=λσ S R Z=>t σ S (λds a=>∀x,a x=ϐ->sp (.ref x::(ds++Bz)) (a.set x<|.ins C []) (λd c=>d=.aA/\R (.ref x) c) Z) Z
def mk{t:iC}(M:Mk K C f)(F:bO X.prog X.w K X.mg X.base (fz X.prog X.w X.mg) k f fd ps<|qH K sp)(hr:cq (k+1) X.A)(hm:X.mg x=ϑ (.ref C))(hb:Binds K fd ps ds)(hd:UR K Bz rH ds)(ha:DA K X (e::es) t) (J:ψ (Gl X x) qQJ) (l:ψ ((x==("__debug__": ρ))=ϰ) qQZ) (s:ψ (starEach (e::es) X.env=`j::starEach es X.env) qQJ) (G:ψ ((backTo pos<|starEach es X.env).any (·.1)=ϰ) qQJ) (z:ψ (X.K=K) qQJ): DE K X (.Call (.Name x p) (e::es) [] pos) (WW C sp Bz t):=by
 subst z
 show⟨λy=>(Kh M F hr J hm hb hd.v (ha.of y) l s G).mono <| by rintro τ H Q ⟨σ,S,R,Z,r,I,q,L,h⟩;show
  ⟨σ,S,_,Z,r,I,q,λes N xs H1 n m s1 j x dx hx a ne=>by
   have i:upd H1 dx (.own x) x=ϐ:=by rw[az ne.symm];show hx
   have g:Kp X.K H1 (upd (upd H1 dx<|.own x) x<|.ins C dx []):=(Kp.new a).trans<|Kp.new i
   show{_,_,_,Z,aP (i7 x)<|RvAll.ts g _<|m.app<|hd.d _,(s1.grow a).new (c:=.ins C []) i {dx,[],aF,.nil},n x<|s1.fresh hx,by rintro d O v H2 ⟨e,E⟩ o s2 B;show by subst e;show{o.aA,L _ _ _ _ E (i7 x) s2<|(j.trans g).trans B},(h.kp j).kp g},h⟩⟩
inductive FlR (C:ε) (f:ρ) (x:D) (S:av) (R:KD):η
 |mk (a:ε) (fs:δ<|ρ×D) (d:D) (e1:x=.ref a) (e2:S a=ϑ (.ins C fs)) (e3:fs.lookup f=ϑ d) (r:R d S)
def abr(C:ε)(f:ρ)(ta:TD):TD:=λσ S R Z=>ta σ S (λx a=>FlR C f x a R) Z
def fl{f:ρ}{ta:TD}(c:sA K C)(n:jY K C f)(p:DE K X e ta)(hb:ψ (attributeBase e f X.env (eval e X.env)=eval e X.env) qQJ)(r:ψ (X.K=K) qQJ):DE K X (.Attribute e f pos) (abr C f ta):=by
 subst r
 show⟨λy=>(Ru (X:=y.cx) (p.of y) hb).mono <| by rintro τ H Q ⟨σ,S,R,Z,l,s,q,w,h⟩;show
  ⟨σ,S,_,Z,l,s,q,by
   rintro d z x H1 ⟨a,fs,y,e1,e2,e3,j⟩ g s1 o
   subst e1
   let⟨dx,vs,e4,m⟩:=s1.ins e2
   let⟨v,t,i⟩:=(m.look f).1 y e3
   show{a,C,dx,vs,v,g.ref,e4,c,n,t,(w.kp o).now s1 j i},h⟩⟩
end
structure wA where
 nx:SD->av->η
 rt:KD
 bk:SD->av->Prop:=λz z=>False
 ct:SD->av->Prop:=λz z=>False
abbrev lV:=wA->SD->av->(SD->KX)->η
def PU(K:Φ)(H:Hp)(R:SD->av->η)(Q:St->Hp->η):Prop:=∀σ S τ H',R σ S->jQ K H' σ τ->Rs K S H'->Kp K H H'->Q τ H'
structure Y1(K:Φ)(H:Hp)(De:wA)(Dv:Ends):η where
 nx:PU K H De.nx Dv.nx
 rt:Cn K H De.rt Dv.rt
 bk:PU K H De.bk Dv.bk
 ct:PU K H De.ct Dv.ct
def BA(K:Φ)(H:Hp)(Z:SD->KX)(E:St->XK):Prop:=∀σ τ C S H',Z σ C S->jQ K H' σ τ->Rs K S H'->Kp K H H'->E τ (.ref C) none H'
section
variable{K:Φ}{H H1:Hp}{De:wA}{Dv:Ends}{Z:SD->KX}{E:St->XK}{σ:SD}{τ:St}{S:av}
theorem PU.kp(h:PU K H R Q)(k:Kp K H H1):PU K H1 R Q:=λσ S τ H' r a b c=>h σ S τ H' r a b<|k.trans c
theorem Y1.kp(h:Y1 K H De Dv)(k:Kp K H H1):Y1 K H1 De Dv:={h.nx.kp k,h.rt.kp k,h.bk.kp k,h.ct.kp k}
theorem BA.kp(h:BA K H Z E)(k:Kp K H H1):BA K H1 Z E:=λσ τ C S H' r a b c=>h σ τ C S H' r a b<|k.trans c
theorem BA.at(h:BA K H Z E)(r:jQ K H σ τ):HF K H (Z σ) (E τ):=λC S H' z s k=>h σ τ C S H' z (r.ts k) s k
theorem BA.on(h:BA K H Z E)(k:Kp K H H1)(r:jQ K H1 σ τ):HF K H1 (Z σ) (E τ):=(h.kp k).at r
end
def Tl(K:Φ)(E:St->XK)(t:lV):TS:=λDv τ H=>∃σ S De Z,jQ K H σ τ/\Rs K S H/\t De σ S Z/\Y1 K H De Dv/\BA K H Z E
structure DS(K:Φ)(X:Cx)(b:χ)(st:Stmt)(t:lV):η where
 of:∀y:Ev X b,PS y.cx st<|Tl K y.E t
structure Ed(K:Φ)(X:Cx)(b:χ)(st:δ Stmt)(t:lV):η where
 of:∀y:Ev X b,Dj y.cx st<|Tl K y.E t
theorem PS.mono{t t':TS}(h:PS X e t)(i:∀D τ H,t' D τ H->t D τ H):PS X e t':=λqe s τ H D I q=>h qe s τ H D I<|i D τ H q
theorem Dj.mono{t t':TS}(h:Dj X e t)(i:∀D τ H,t' D τ H->t D τ H):Dj X e t':=λqe s τ H D I q=>h qe s τ H D I<|i D τ H q
section
variable{K:Φ}{X:Cx}{b:χ}{pos:Pos}
def WX:lV:=λDe σ S _=>De.nx σ S
def abt(t u:lV):lV:=λDe σ S Z=>t {De with nx:=λa S'=>u De a S' Z} σ S Z
theorem s0:Ed K X b [] WX:=⟨λy=>(FE (X:=y.cx)).mono <| by rintro D τ H ⟨σ,S,De,Z,a,c,q,d,e⟩;show d.nx _ _ _ _ q a c<|.refl _⟩
theorem sc{st:Stmt}{r:δ Stmt}{t u:lV}(h1:DS K X b st t)(h2:Ed K X b r u):Ed K X b (st::r) (abt t u):=
 ⟨λy=>(Jj (h1.of y)<|h2.of y).mono <| by rintro D τ H ⟨σ,S,De,Z,g,j,q,d,e⟩;show
  ⟨σ,S,_,Z,g,j,q,⟨λh i m H1 l a b c=>⟨h,i,De,Z,a,b,l,d.kp c,e.kp c⟩,d.rt,d.bk,d.ct⟩,e⟩⟩
theorem s1{st:Stmt}{t:lV}(h:DS K X b st t):Ed K X b [st] t:=⟨λy=>MJ<|h.of y⟩
def WY(t:TD):lV:=λDe σ S Z=>t σ S (λz a=>De.nx σ a)<|Z σ
theorem se{t:TD}(h:DE K X e t)(m:ψ (swapsWith e none pos.line X.env=pure false) qQJ):DS K X b (.Expr e pos) (WY t):=⟨λy=>(MK (X:=y.cx) (h.of y) m).mono <| by rintro D τ H ⟨σ,S,De,Z,a,j,q,i,g⟩;show{σ,S,_,_,a,j,q,λd n v H1 l z s1 c=>i.nx _ _ _ _ l (a.ts c) s1 c,g.at a}⟩
def abu(t:TD):lV:=λDe σ S Z=>t σ S De.rt<|Z σ
theorem sr{t:TD}(h:DE K X e t):DS K X b (.Return (some e) pos) (abu t):=⟨λy=>(Q4<|h.of y).mono <| by rintro D τ H ⟨σ,S,De,Z,a,c,q,g,d⟩;show{σ,S,_,_,a,c,q,g.rt,d.at a}⟩
def dIf(c:lT)(t u:lV):lV:=λDe σ S Z=>c σ S (λb a=>if b=ϱ then t De σ a Z else u De σ a Z)<|Z σ
theorem si{t u:lV}(l:DT K X c tc)(ha:Ed K X b a t)(hb:Ed K X b a' u):DS K X b (.If c a a' pos) (dIf tc t u):=
 ⟨λy=>(Vy (l.of y) (ha.of y)<|hb.of y).mono <| by rintro D τ H ⟨σ,S,De,Z,e,m,q,j,h⟩;show
  ⟨σ,S,_,_,e,m,q,λc i H1 g s1 d=>by
   cases c with
   |true=>rw[qc rfl]at g⊢;show{σ,i,De,Z,e.ts d,s1,g,j.kp d,h.kp d}
   |false=>rw[qa zd]at g⊢;show{σ,i,De,Z,e.ts d,s1,g,j.kp d,h.kp d},h.at e⟩⟩
abbrev C3:=D->SD->av->(SD->av->η)->η
def Tg(K:Φ)(g:C3):TG:=λv τ H Q=>∃d σ S R,Rv K H d v/\jQ K H σ τ/\Rs K S H/\g d σ S R/\PU K H R Q
structure DG(K:Φ)(X:Cx)(e:Δ)(g:C3):η where
 of:∀Y:Cx,Y.K=X.K->Y.N=X.N->Y.env=X.env->Y.fn=X.fn->Y.calm=X.calm->PG Y e (Tg K g)
theorem PG.mono{t t':TG}(h:PG X e t)(i:∀v τ H Q,t' v τ H Q->t v τ H Q):PG X e t':=λqe s τ H v u Q I r q=>h qe s τ H v u Q I r<|i v τ H Q q
def WZ(i:π):C3:=λd σ S R=>R (σ.set i<|some d) S
theorem gn(hN:X.N.Nodup)(hi:ψ (X.N[i]?=some x) qQJ)(hx:ψ (Loc X.env.scope x) qJ1)(h:ψ (X.fn x=ϱ\/X.env.scope.names.lookup x=ϑ .local) qQ8):DG K X (.Name x pos) (WZ i):=⟨λY z e2 e3 e4 z=>(so (X:=Y) (by rw[e2];show hN) (by rw[e2];show hi) (by rw[e3];show hx)<|by rw[e3,e4];show h).mono <| by rintro v τ H Q ⟨d,σ,S,R,c,a,e,q,g⟩;show g _ S _ H q (a.set i c) e<|.refl _⟩
abbrev HI:=δ D->SD->av->(SD->av->η)->η
def Tgs(K:Φ)(g:HI):Pl:=λvs τ H Q=>∃ds σ S R,RvAll K H ds vs/\jQ K H σ τ/\Rs K S H/\g ds σ S R/\PU K H R Q
structure Y3(K:Φ)(X:Cx)(es:δ Δ)(g:HI):η where
 of:∀Y:Cx,Y.K=X.K->Y.N=X.N->Y.env=X.env->Y.fn=X.fn->Y.calm=X.calm->Pm Y es (Tgs K g)
theorem Pm.mono{t t':Pl}(h:Pm X e t)(i:∀v τ H Q,t' v τ H Q->t v τ H Q):Pm X e t':=λqe s τ H v u Q I r q=>h qe s τ H v u Q I r<|i v τ H Q q
def PX:HI:=λds σ S R=>ds=[]/\R σ S
def Ee(g:C3)(u:HI):HI:=λds σ S R=>∃d r,ds=d::r/\g d σ S λc a=>u r c a R
theorem g0:Y3 K X [] PX:=⟨λY z z z z z=>(FF (X:=Y)).mono <| by rintro vs τ H Q ⟨ds,σ,S,R,c,a,d,⟨e,q⟩,g⟩;show by subst e;show{c.nil,g _ _ _ _ q a d<|.refl _}⟩
theorem gc(h1:DG K X e g)(h2:Y3 K X es u)(s:ψ (∀env:Env,(assignEach (e::es) env).map (·.2)=assign e env::(assignEach es env).map (·.2)) qQ0):Y3 K X (e::es) (Ee g u):=⟨λY a b c d f=>(sT (h1.of Y a b c d f) (h2.of Y a b c d f)<|s _).mono <| by rintro vs τ H Q ⟨ds,σ,S,R,l,h,o,⟨d,r,e,q⟩,t⟩;subst e;let⟨y,ys,e1,p,n⟩:=l.cons;show{y,ys,e1,d,σ,S,_,p,h,o,q,λi j v H1 m a b c=>{r,i,j,R,RvAll.ts c _ n,a,b,m,t.kp c}}⟩
def PY(n:π)(g:HI):C3:=λd σ S R=>∃ds,d=.tup ds/\ds.length=n/\g ds σ S R
theorem gt(h:Y3 K X es g)(hn:ψ (∀env:Env,(assignEach es env).length=n) qQ0)(i:ψ (∀env:Env,(assignEach es env).findIdx? (·.1)=ϐ) qQ0)(w:ψ (X.K=K) qQJ)(m:ψ (X.calm=ϱ) qQJ):DG K X (.Tuple es j pos) (PY n g):=⟨λY a b c d f=>(Jl (X:=Y) (by rw[f];show m) (h.of Y a b c d f) (hn _)<|i _).mono <| by rintro v τ H Q ⟨d,σ,S,R,o,l,r,⟨ds,e,hl,q⟩,s⟩;subst e;let⟨p,xs,e1,e2,t⟩:=o.tup;show{p,xs,e1,.of e2,by rw[t.len];show hl,ds,σ,S,R,t,l,r,q,s}⟩
def W0(i:π)(t:TD):lV:=λDe σ S Z=>t σ S (λd a=>De.nx (σ.set i<|some d) a)<|Z σ
theorem cM{t:TD}(hN:X.N.Nodup)(h:DE K X e t)(hi:ψ (X.N[i]?=some x) qQJ)(hx:ψ (Loc X.env.scope x) qJ1)(o:ψ (swapsWith e (some<|.Name x pos') pos.line X.env=pure false) qQJ) (p:ψ (X.fn x=ϱ\/X.env.scope.names.lookup x=ϑ .local) qQ8):DS K X b (.Assign [.Name x pos'] e pos) (W0 i t):=⟨λy=>(Q8 (X:=y.cx) (i:=i) hN hi hx (h.of y) o p).mono <| by rintro D τ H ⟨σ,S,De,Z,a,m,q,l,j⟩;show{σ,S,_,_,a,m,q,λd r v H1 n g s1 c=>l.nx _ _ _ _ n ((a.ts c).set i g) s1 c,j.at a}⟩
def abv(t:TD)(g:C3):lV:=λDe σ S Z=>t σ S (λd a=>g d σ a De.nx)<|Z σ
theorem sa{t:TD}(h:DE K X e t)(o:DG K X tg g)(r:ψ (swapsWithSole [tg] e pos.line X.env=pure false) qQJ)(hw:ψ (swappedStores [tg] e X.env=pure none) qQJ)(h1:ψ ((assignEach [tg] X.env).map (·.2)=[assign tg X.env]) qQJ): DS K X b (.Assign [tg] e pos) (abv t g):=⟨λy=>(Jm (X:=y.cx) (h.of y) (o.of _ rfl rfl rfl rfl rfl) r hw h1).mono <| by rintro D τ H ⟨σ,S,De,Z,a,n,q,m,l⟩;show{σ,S,_,_,a,n,q,λd j v H1 p i s1 c=>{d,σ,j,_,i,a.ts c,s1,p,m.nx.kp c},l.at a}⟩
def abw(td ty tv:TD):lV:=λDe σ S Z=>tv σ S (λv d=>td σ d (λx e=>ty σ e (λy c=>∃a kvs k,x=.ref a/\c a=ϑ (.b_ kvs)/\By y=ϑ k/\kvs.length<Ϙ/\De.nx σ (c.set a<|.b_<|dput kvs k v))<|Z σ)<|Z σ)<|Z σ
theorem sd{o i value:Δ}{td ty tv:TD}{pos':Pos}(hu:X.A.units+64<cLine)(m:DE K X o td)(hi:DE K X i ty)(E:DE K X value tv)(C:ψ (swapsWith value (some<|.Subscript o i pos') pos.line X.env=pure false) qQJ):DS K X b (.Assign [.Subscript o i pos'] value pos) (abw td ty tv):=
 ⟨λy=>(Na (X:=y.cx) (by change X.A.units+1<cLine;lia) (m.of y) (hi.of y) (E.of y) C).mono <| by rintro D τ H ⟨σ,S,De,Z,e,J,q,r,j⟩;show
  ⟨σ,S,_,_,e,J,q,λv p w H1 z n s1 d=>⟨σ,p,_,_,e.ts d,s1,z,λx s M H2 I B s2 g=>⟨σ,s,_,_,e.ts<|d.trans g,s2,I,by
   rintro y N O L ⟨a,kvs,k,e1,e2,e3,hl,G⟩ F l h
   subst e1
   let⟨vs,e4,t⟩:=l.b_ e2
   have kk:=l.i8 (o:=.dK<|putK vs k w) e2
   show{a,_,(Rv.ts h _ B).ref,by rw[kh e3 F];show JD.k e4<|by rw[t.len];show hl,?_}
   show r.nx _ _ _ _ G (e.ts<|((d.trans g).trans h).trans kk) (l.put (c:=.b_ _) e2 {_,aF,(t.put k<|Rv.ts (g.trans h) _ n).ts kk})<|((d.trans g).trans h).trans kk,j.on (d.trans g)<|e.ts<|d.trans g⟩,j.on d<|e.ts d⟩,j.at e⟩⟩
end
section
variable{X:Cx}{qe:δ (ε×Obj)}{σ:St}{H:Hp}{s:ζ}{A:ϕ}{E:ξ->ζ->η}{a:ε}{kvs:δ (Key×V)}{k:Key}{u:ξ}
def Sn(I:Inv X qe σ H s)(e:H a=ϑ (.dK kvs))(j:RelV (kV k) u)(l:RelV z r)(hl:kvs.length<Ϙ) (h1:∀v d s',gG kvs k=ϑ v->Inv X qe σ H s'->RelV v d->Q d s') (h2:gG kvs k=ϐ->∀s',Inv X qe σ (upd H a<|.dK<|putK kvs k z) s'->Q r s'): wpAny `m A (call (.builtin "dict.setdefault") [.ref a,u,r]) Q E s:=by
 let⟨n,hd,vs,rel,dd⟩:=FO I.aM e;have hp:=qC kvs k z;show call_meetsIn PySem.F.slot_dict_setdefault dd.typeIs PySem.F.entry_dict_setdefault (PySem.F.args_dict_setdefault_3 _ _ _) (PySem.kt_meets_setdefault (aK X.prog X.w) a (jZ j) hd r) {vs,dd,by rw[<-rel.length];show n,λd hw=>?_,λhn h' h p=>?_};cases q:gG kvs k with|none=>(have:=gC.none_of (o:=valueAt vs k) (by rw[<-q];show rel.val k);rw[this]at hw;cases hw)|some v=>let⟨i,g,c⟩:=gC.some_of (v:=v) (o:=valueAt vs k) (by rw[<-q];show rel.val k);rw[g]at hw;cases hw;show h1 v _ _ q (I.tok _) c
 cases q:gG kvs k with|some v=>(let⟨i,g,c⟩:=gC.some_of (v:=v) (o:=valueAt vs k) (by rw[<-q];show rel.val k);rw[g]at hn;cases hn)|none=>have m:∃q,h'.get? a=ϑ q:=(by let⟨q,_,_,hq,_⟩:=h;show⟨q,hq⟩);show h2 q _<|xx I (by rw[e];show True.intro) p m<|DL (zj ‹_› ‹_›) hd (rel.put k l) h
end
section
variable{X:Cx}{o e f:Δ}{apos aV:Pos}{td ty tx:TE}
def W2(td ty tx:TE):TE:=λσ H Q=>td σ H λx H1=>∃a,x=.ref a/\UE H1 a/\ty σ H1 λy H2=>tx σ H2 λz c=>∃kvs k,c a=ϑ (.dK kvs)/\y=kV k/\kvs.length<Ϙ/\(∀v,gG kvs k=ϑ v->Q v c)/\(gG kvs k=ϐ->Q z (upd c a<|.dK<|putK kvs k z))
def Kj(j:PE X o td)(N:PE X e ty)(S:PE X f tx)(m:M2 X o "setdefault" apos e f aV):PE X (.Call (.Attribute o "setdefault" apos) [e,f] [] aV) (W2 td ty tx):=by intro qe s σ H Q I h;show wpAny_Call_method m.base m.IV m.line PySem.F.plainAttrs_dict PySem.F.slot_dict_setdefault PySem.F.type_dict_setdefault<|bz (j qe s σ H _ I h) λu s1 L=>?_;let⟨x,H1,g,B,a,ex,d,E⟩:=L;subst ex;obtain rfl:u=Value.ref a:=B;let⟨R,t2,_⟩:=xy g d;show{R,t2,?_};rw[m.trees];show Calls.callWith_builtin rfl<|Calls.evalArgs_plain<|yO<|bz (N qe s1 σ H1 _ g E) λiv s2 O=>?_;let⟨y,H2,t,J,G⟩:=O;show yO<|bz (S qe s2 σ H2 _ t G) λZ Y M=>?_;let⟨z,r,K,i,kvs,k,n,P,hl,C,A⟩:=M;show Calls.spliced_nil ?_;subst P;show Sn K n J i hl (λv U w l c p=>{v,r,c,p,C v l}) λl w c=>{z,_,c,i,A l}
end
section
variable{K:Φ}{X:Cx}{b:χ}{o e f:Δ}{apos aV pos:Pos}{td ty tx:TD}
def xP(c:Rs K S H)(e:S a=ϑ (.b_ kvs)):UE H a:=by let⟨vs,e1,_⟩:=c.b_ e;show .inl {vs,.inl e1}
def W3(td ty:TD):TD:=λσ S R Z=>td σ S (λx c=>∃a kvs,x=.ref a/\c a=ϑ (.b_ kvs)/\ty σ c (λy d=>∃kvs k,d a=ϑ (.b_ kvs)/\By y=ϑ k/\R ((bL kvs k).getD .aA) d) Z) Z
def Kk(i:Rs K S H)(e:S a=ϑ (.b_ kvs))(r:Rv K H d v):∃o,pe H a (kV k) o/\Rv K H ((bL kvs k).getD d) (o.getD v):=by let⟨o,g,h1,h2⟩:=nL (k:=k) i e;show{o,g,?_};cases q:bL kvs k with|none=>(rw[q]at h1;cases o with|none=>show r|some _=>cases h1)|some c=>let⟨j,rfl,h⟩:=h2 c q;show h
theorem mg1(hu:X.A.units+64<cLine)(i:DE K X o td)(t:DE K X e ty)(m:ψ (M1 X o "get" apos e aV) qQ4):DE K X (.Call (.Attribute o "get" apos) [e] [] aV) (W3 td ty):=
 ⟨λy=>(JH (X:=y.cx) (by change X.A.units+1<cLine;lia) (i.of y) (t.of y) ⟨m.base,m.IV,m.line,m.trees⟩).mono <| by rintro τ H Q ⟨σ,S,R,Z,h,w,q,z,d⟩;show
  ⟨σ,S,_,Z,h,w,q,by
   rintro x n C H1 ⟨a,kvs,e1,e2,p⟩ l s1 c
   subst e1
   show⟨a,l.ref,xP s1 e2,σ,n,_,Z,h.ts c,s1,p,by
    rintro y B E H2 ⟨kvs,k,e3,e4,v⟩ s s2 j
    let⟨o,g,r⟩:=Kk (k:=k) s2 e3 j8
    show{o,by rw[kh e4 s];show g,(z.kp<|c.trans j).now s2 v r},d.kp c⟩,d⟩⟩
def W4(td ty tx:TD):TD:=λσ S R Z=>td σ S (λx c=>∃a kvs,x=.ref a/\c a=ϑ (.b_ kvs)/\ty σ c (λy e=>tx σ e (λz d=>∃kvs k,d a=ϑ (.b_ kvs)/\By y=ϑ k/\R ((bL kvs k).getD z) d) Z) Z) Z
theorem mg2(hu:X.A.units+64<cLine)(l:DE K X o td)(w:DE K X e ty)(J:DE K X f tx)(m:ψ (M2 X o "get" apos e f aV) qQ4):DE K X (.Call (.Attribute o "get" apos) [e,f] [] aV) (W4 td ty tx):=
 ⟨λy=>(JI (X:=y.cx) (by change X.A.units+1<cLine;lia) (l.of y) (w.of y) (J.of y) ⟨m.base,m.IV,m.line,m.trees⟩).mono <| by rintro τ H Q ⟨σ,S,R,Z,i,G,q,I,h⟩;show
  ⟨σ,S,_,Z,i,G,q,by
   rintro x p N H1 ⟨a,kvs,e1,e2,t⟩ n s1 c
   subst e1
   show⟨a,n.ref,xP s1 e2,σ,p,_,Z,i.ts c,s1,t,λy s P H2 F v s2 d=>⟨σ,s,_,Z,i.ts<|c.trans d,s2,F,by
    rintro z O M L ⟨kvs,k,e3,e4,E⟩ B j C
    let⟨o,g,r⟩:=Kk (k:=k) j e3 B
    show{o,by rw[kh e4 v];show g,(I.kp<|(c.trans d).trans C).now j E r},h.kp<|c.trans d⟩,h.kp c⟩,h⟩⟩
def W5(td ty:TD):TD:=λσ S R Z=>td σ S (λx c=>∃a kvs,x=.ref a/\c a=ϑ (.b_ kvs)/\ty σ c (λy e=>∃kvs k d,e a=ϑ (.b_ kvs)/\By y=ϑ k/\bL kvs k=ϑ d/\R d (e.set a<|.b_<|Bx kvs k)) Z) Z
theorem mp1(j:DE K X o td)(A:DE K X e ty)(m:ψ (M1 X o "pop" apos e aV) qQ4):DE K X (.Call (.Attribute o "pop" apos) [e] [] aV) (W5 td ty):=
 ⟨λy=>(JJ (X:=y.cx) (j.of y) (A.of y) ⟨m.base,m.IV,m.line,m.trees⟩).mono <| by rintro τ H Q ⟨σ,S,R,Z,i,C,q,G,h⟩;show
  ⟨σ,S,_,Z,i,C,q,by
   rintro x r J H1 ⟨a,kvs,e1,e2,w⟩ p s1 g
   subst e1
   show⟨a,p.ref,xP s1 e2,σ,r,_,Z,i.ts g,s1,w,by
    rintro y I L H2 ⟨kvs,k,d,e3,e4,E,B⟩ z s2 l
    let⟨vs,n,t⟩:=s2.b_ e3
    let⟨v,F,s⟩:=(t.val k).1 d E
    have kk:=s2.i8 (o:=.dK<|qB vs k) e3
    show{vs,k,v,n,kh e4 z,F,G _ _ _ _ B (Rv.ts kk _ s) (s2.put (c:=.b_ _) e3 {_,aF,(t.drop k).ts kk})<|(g.trans l).trans kk},h.kp g⟩,h⟩⟩
def W6(td ty tx:TD):TD:=λσ S R Z=>td σ S (λx e=>∃a kvs,x=.ref a/\e a=ϑ (.b_ kvs)/\ty σ e (λy g=>tx σ g (λz c=>∃kvs k,c a=ϑ (.b_ kvs)/\By y=ϑ k/\kvs.length<Ϙ/\(∀d,bL kvs k=ϑ d->R d c)/\(bL kvs k=ϐ->R z (c.set a<|.b_<|dput kvs k z))) Z) Z) Z
theorem ms2(B:DE K X o td)(N:DE K X e ty)(hf:DE K X f tx)(m:ψ (M2 X o "setdefault" apos e f aV) qQ4):DE K X (.Call (.Attribute o "setdefault" apos) [e,f] [] aV) (W6 td ty tx):=
 ⟨λy=>(Kj (X:=y.cx) (B.of y) (N.of y) (hf.of y) ⟨m.base,m.IV,m.line,m.trees⟩).mono <| by rintro τ H Q ⟨σ,S,R,Z,p,Y,q,hR,n⟩;show
  ⟨σ,S,_,Z,p,Y,q,by
   rintro x F xv H1 ⟨a,kvs,e1,e2,J⟩ E s1 g
   subst e1
   show⟨a,E.ref,xP s1 e2,σ,F,_,Z,p.ts g,s1,J,λy G yv H2 P L s2 l=>⟨σ,G,_,Z,p.ts<|g.trans l,s2,P,by
    rintro z S3 I H3 ⟨kvs,k,e3,e4,hl,O,U⟩ w j A
    let⟨vs,C,t⟩:=j.b_ e3
    have kk:=j.i8 (o:=.dK<|putK vs k I) e3
    have h:=hR.kp<|(g.trans l).trans A
    show{vs,k,C,kh e4<|Rv.ts A _ L,by rw[t.len];show hl,λv i=>?_,λhn=>?_}
    ·cases q:bL kvs k with
     |none=>rw[(t.val k).2 q]at i;cases i
     |some d =>
      let⟨M,r,s⟩:=(t.val k).1 d q
      rw[r]at i;cases i
      show h.now j (O d q) s
    ·cases q:bL kvs k with
     |some d=>let⟨M,r,s⟩:=(t.val k).1 d q;rw[r]at hn;cases hn
     |none=>show h _ _ _ _ (U q) (Rv.ts kk _ w) (j.put (c:=.b_ _) e3 {_,aF,(t.put k w).ts kk}) kk,n.kp<|g.trans l⟩,n.kp g⟩,n⟩⟩
noncomputable def HJ(f:ρ)(d:D):δ (ρ×D)->δ (ρ×D)|[]=>[(f,d)]| (g,x)::r=>if g=f then (g,d)::r else (g,x)::HJ f d r
def cK.HJ{H:Hp}{f:ρ}{d:D}{v:V}(i:Rv K H d v){ks:δ<|ρ×D}{vs:δ<|ρ×V}(l:cK K H ks vs):cK K H (HJ f d ks) (putF f v vs):=by induction l with|nil=>show .cons ⟨rfl,i⟩ .nil|@cons a b r c h t j=>let⟨g,x⟩:=a;let⟨m,y⟩:=b;let⟨e,h⟩:=h;dsimp only at e;subst e;change cK K H (if g=f then (g,d)::r else (g,x)::L2.HJ f d r) (if g=f then (g,v)::c else (g,y)::putF f v c);by_cases q:g=f;rw[qc q,qc q];show .cons ⟨rfl,i⟩ t;rw[qa q,qa q];show .cons ⟨rfl,h⟩ j
def W7(C:ε)(f:ρ)(ta tv:TD):lV:=λDe σ S Z=>tv σ S (λy d=>ta σ d (λx c=>∃a fs,x=.ref a/\c a=ϑ (.ins C fs)/\fs.length<1000/\De.nx σ (c.set a<|.ins C<|HJ f y fs))<|Z σ)<|Z σ
def sf{C:ε}{f:ρ}{value:Δ}{ta tv:TD}{pos':Pos}(c:sA K C)(n:jY K C f)(ha:DE K X o ta)(v:DE K X value tv)(t:ψ (swapsWith value (some<|.Attribute o f pos') pos.line X.env=pure false) qQJ)(w:ψ (X.K=K) qQJ): DS K X b (.Assign [.Attribute o f pos'] value pos) (W7 C f ta tv):=by
 subst w
 show⟨λy=>(Rw (X:=y.cx) (ha.of y) (v.of y) t).mono <| by rintro D τ H ⟨σ,S,De,Z,d,A,q,m,h⟩;show
  ⟨σ,S,_,_,d,A,q,λy l r H1 p j s1 e=>⟨σ,l,_,_,d.ts e,s1,p,by
   rintro x B E H2 ⟨a,fs,e1,e2,hl,z⟩ s s2 g
   subst e1
   let⟨dx,vs,e4,i⟩:=s2.ins e2
   have kk:=s2.i8 (o:=.ins C dx<|putF f r vs) e2
   show{a,C,dx,vs,s.ref,e4,c,n,by rw[i.len];show hl,m.nx _ _ _ _ z (d.ts<|(e.trans g).trans kk) (s2.put (c:=.ins C _) e2 {dx,_,aF,(cK.HJ (Rv.ts g _ j) i).ts kk})<|(e.trans g).trans kk},h.on e<|d.ts e⟩,h.at d⟩⟩
def So(C:ε)(t:iC):lV:=λ_ σ S Z=>t σ S (λds a=>ds.length<=Ϙ/\Z σ C a)<|Z σ
end
section
variable{K:Φ}{X:Cx}{C:ε}{x:ρ}{e:Δ}{es:δ Δ}{np aV pos:Pos}
def HK{t:TA}{y:Ev X true}(L:X.calm=ϱ)(c:XC X.K C)(S:Gl X x)(hm:X.mg x=ϑ (.ref C))(ha:PA y.cx (e::es) t)(G:(x==("__debug__": ρ))=ϰ) (w:starEach (e::es) X.env=`j::starEach es X.env) (R:(backTo aV<|starEach es X.env).any (·.1)=ϰ): PS y.cx (.Raise (some<|.Call (.Name x np) (e::es) [] aV) none pos) (λ_ σ H=>t σ H λvs H1=>vs.length<=Ϙ/\y.E σ (.ref C) none H1):=by intro qe s σ H D I h;let⟨bm,N,l,q,bs,d,p,sub,o,g,dd,B,v,j,A,n,m,J,hN,O,T⟩:=c.at I.mod.Ux;have M:bm.contains (.type "BaseException")=ϱ:=T.hasType `a;show wpAny_Raise_call_subT (C:=C) (nm:=l) (q:=q) (N:=N) (bs:=bs) (bm:=bm) (hdct:=d) (sn:=p) (sub:=sub) (ab:=o) (col:=g) (dd:=dd) (k0:=B) (k1:=v) (k2:=j) (k3:=A) (k5:=n) PySem.F.excBase_ValueError (mN:=m) M (I.ok.hd L) (by change((backTo aV<|starEach (e::es) X.env).any (·.1))=ϰ;rw[w];change(false||(backTo aV<|starEach es X.env).any (·.1))=ϰ;rw[R];rfl) O<|nu I S hm {rfl,?_} G;have h1:=ha aV qe s σ H _ I h;have Q:starEach (e::es) y.cx.env=`j::starEach es X.env:=w;rw[Q]at h1⊢;show Calls.evalArgs_plain<|bz h1 <| by rintro us s2 ⟨vs,H2,i,r,z,P⟩;show{rfl,by change us.length<=Ϙ;rw[<-r.length];show z,i.bk _ _ J,hN.keeps i.bk,T.keeps i.bk,λh' a hx=>y.ok.own rfl qe σ H2 s2 h' a _ _ i hx P}
def qJ{t:iC}(c:XC K C)(hm:X.mg x=ϑ (.ref C))(ha:DA K X (e::es) t)(r:ψ (Gl X x) qQJ)(g:ψ ((x==("__debug__": ρ))=ϰ) qQZ) (m:ψ (starEach (e::es) X.env=`j::starEach es X.env) qQJ) (o:ψ ((backTo aV<|starEach es X.env).any (·.1)=ϰ) qQJ) (h:ψ (X.calm=ϱ) qQJ) (n:ψ (X.K=K) qQJ): DS K X true (.Raise (some<|.Call (.Name x np) (e::es) [] aV) none pos) (So C t):=by
 subst n
 show⟨λy=>(HK (y:=y) h c r hm (ha.of y) g m o).mono <| by rintro D τ H ⟨σ,S,De,Z,a,p,q,v,d⟩;show
  ⟨σ,S,_,_,a,p,q,by rintro ds l vs H1 ⟨hl,s⟩ j s1 i;show⟨by rw[j.len];show hl,d.at a C l H1 s s1 i⟩,d.at a⟩⟩
end
structure HL where
 xs:δ D
 ok:av->η
def W8(K:Φ)(a:Hp)(J:It)(I:HL):Prop:=∀i S H,Kp K a H->Rs K S H->I.ok S->(∀d,I.xs[i]?=some d->J.go i H/\∀x H',J.VA i H x H'->Rv K H' d x/\Kp K H H'/\Rs K S H')/\(I.xs.length<=i->J.stop i H)
abbrev xQ:=SD->av->(HL->av->η)->KX->η
def Ti(K:Φ)(E:St->XK)(t:xQ):TI:=λτ H R=>∃σ S RI Z,jQ K H σ τ/\Rs K S H/\t σ S RI Z/\(∀I S' J H',RI I S'->W8 K H' J I->Rs K S' H'->Kp K H H'->R J H')/\HF K H Z (E τ)
structure DI(K:Φ)(X:Cx)(tg it:Δ)(t:xQ):η where
 of:∀{b:χ}(y:Ev X b),PI y.cx tg it<|Ti K y.E t
theorem PI.mono{t t':TI}(h:PI X tg it t)(i:∀τ H R,t' τ H R->t τ H R):PI X tg it t':=λqe s τ H R I q=>h qe s τ H R I<|i τ H R q
section
variable{K:Φ}{X:Cx}{tg l:Δ}
def abx(t:TD):xQ:=λσ S R Z=>t σ S (λx a=>∃ds,nh a x ds/\R {ds,λS=>nh S x ds} a) Z
def il{t:TD}(h:DE K X l t)(A:ψ (X.K=K) qQJ):DI K X tg l (abx t):=by subst A;show⟨λy=>(MN (X:=y.cx)<|h.of y).mono <| by rintro τ H R ⟨σ,S,RI,Z,s,B,q,C,o⟩;show{σ,S,_,Z,s,B,q,by rintro x n v H1 ⟨ds,h1,p⟩ g s1 z;let⟨a,xs,rfl,hq,t⟩:=h1.at s1 g;show{a,rfl,⟨xs,hq⟩,C _ n _ H1 p (λi E H2 m s2 w=>?_) s1 z};let⟨F,e,e',c,j⟩:=nh.at w s2<|Rv.ts m _ g;cases e';show{λd hd=>?_,λhl=>{e,c,by rw[j.len];show hl}};let⟨v,e1,r⟩:=j.get hd;show{⟨e,v,c,e1⟩,λx' H' ⟨e2,e3⟩=>?_};subst e2;have:=e3 e c;rw[e1]at this;cases this;show{r,.refl _,s2},o}⟩
def W9(t:TD):xQ:=λσ S R Z=>t σ S (λx a=>∃ds,(x=.tup ds\/x=.kt ds)/\R {ds,λz=>True} a) Z
def Su{H:Hp}{x:D}{ds:δ D}{v:V}(h:x=.tup ds\/x=.kt ds)(r:Rv K H x v):∃a xs,v=.ref a/\(∀H',Kp K H H'->g_ K H' a xs)/\RvAll K H ds xs:=by rcases h with rfl|rfl;let⟨a,xs,rfl,q,t⟩:=r.tup;show{a,xs,rfl,λH' k=>.of<|k.t _ _ q,t};let⟨a,xs,rfl,q,t⟩:=r.kt;show{a,xs,rfl,λH' k=>.inr q,t}
def Kl{t:TD}(h:DE K X l t)(s:ψ (X.K=K) qQJ):DI K X tg l (W9 t):=by subst s;show⟨λy=>(Rf (X:=y.cx)<|h.of y).mono <| by rintro τ H R ⟨σ,S,RI,Z,o,w,q,z,m⟩;show{σ,S,_,Z,o,w,q,by rintro x j v H1 ⟨ds,h1,n⟩ g s1 p;let⟨a,xs,rfl,hq,t⟩:=Su h1 g;show{a,rfl,{xs,hq _<|.refl _},z _ j _ H1 n (λi A H2 e s2 u=>?_) s1 p};have c:=hq H2 e;show{λd hd=>?_,λhl=>{xs,c,by rw[t.len];show hl}};let⟨v,e1,r⟩:=(RvAll.ts e _ t).get hd;show{⟨xs,v,c,e1⟩,λx' H' ⟨e2,e3⟩=>?_};subst e2;have:=e3 xs c;rw[e1]at this;cases this;show{r,.refl _,s2},m}⟩
noncomputable def HM(lo:ν)(n:π):δ D:=(List.range n).map λi=>D.int<|lo+(i:π)
def fQ{lo:ν}{n:π} : (HM lo n).length=n:=by unfold HM;rw[zc,List.length_range]
def nM{lo:ν}{n i:π}{d:D}(h:(HM lo n)[i]?=some d):i<n/\d=.int (lo+i):=by unfold HM at h;rw[zx]at h;by_cases q:i<n;rw[List.getElem?_range q]at h;show{q,(zQ h).symm};rw[List.getElem?_eq_none<|by rw[List.length_range];show Nat.le_of_not_lt ‹_›]at h;cases h
theorem Sv{a:Hp}{lo:ν}{n:π} : W8 K a (YI lo n) {HM lo n,λz=>True}:=λi S H k s z=>{λd hd=>by let⟨h1,rfl⟩:=nM hd;show{h1,by rintro x H' ⟨e1,e2⟩;show by subst e1 e2;show{aS _,.refl _,s}},λhl=>by rw[fQ]at hl;show hl}
def aby(t:iC):xQ:=λσ S R Z=>t σ S (λds a=>∃j:ν,ds=[.int j]/\-(2^62)<=j/\j<2^62/\R {HM 0 j.toNat,λz=>True} a) Z
theorem Sw{t:iC}(hm:X.mg "range"= none)(ha:DA K X [a] t)(m:ψ (Gl X "range") qQJ)(o:ψ (starEach [a] X.env=[(false,eval a X.env)]) qQJ):DI K X tg (.Call (.Name "range" p) [a] [] pos) (aby t):=⟨λy=>(G9 (X:=y.cx) m hm (ha.of y) o).mono <| by rintro τ H R ⟨σ,S,RI,Z,c,l,q,s,i⟩;show{σ,S,_,Z,c,l,q,by rintro ds h vs H1 ⟨j,e,h1,h2,n⟩ g s1 d;subst e;let⟨v,rfl,r⟩:=g.one;show{j,by rw[r.int],h1,h2,s _ h _ H1 n Sv s1 d},i}⟩
end
section
variable{K:Φ}{X:Cx}{tg iter:Δ}{pos:Pos}
def abz(ti:xQ)(g:C3)(tb:lV):lV:=λDe σ S Z=>ti σ S (λI c=>∃P:π->SD->av->η,P 0 σ c/\(∀i σ S,P i σ S->I.ok S)/\(∀i d σ S,I.xs[i]?=some d->P i σ S->g d σ S λa e=>tb {De with nx:=P<|i+1,ct:=P<|i+1,bk:=De.nx} a e Z)/\∀σ S,P I.xs.length σ S->De.nx σ S)<|Z σ
theorem I_(hi:DI K X tg iter ti)(hg:DG K X tg g)(hb:Ed K X true body tb)(R:ψ (∀x,foldedSetIterable iter X.env x=pure x) qQ0)(G:ψ (X.calm=ϱ) qQJ):DS K X true (.For tg iter body [] pos) (abz ti g tb):=
 ⟨λy=>(Rh (X:=y.cx) (y.ok.loop rfl) G (hi.of y) (hg.of _ rfl rfl rfl rfl rfl) (hb.of y) R).mono <| by rintro D τ H ⟨σ,S,De,Z,n,hS,q,r,C⟩;show
  ⟨σ,S,_,_,n,hS,q,by
   rintro I S1 J H1 ⟨P,p0,t,j,c⟩ Q s1 a
   show{λi m τ H=>m=I.xs.length-i/\i<=I.xs.length/\∃σ S,jQ K H σ τ/\Rs K S H/\P i σ S/\Kp K H1 H,!{zU _,σ,S1,n.ts a,s1,p0,.refl _},?_}
   rintro i m τ2 H2 ⟨rfl,W_,A,s,B,s2,p2,h⟩
   have ok:=Q i s H2 h s2<|t _ _ _ p2
   by_cases d:i<I.xs.length
   ·let⟨go,U⟩:=ok.1 _ (zg d)
    show .inr {go,λUP H'=>i+1<=I.xs.length/\∃σ S,jQ K H' σ UP/\Rs K S H'/\P (i+1) σ S/\Kp K H1 H',λaG H' h'=>{_,by omega,rfl,h'},λx H' Y=>?_}
    let⟨M,E,s3⟩:=U x H' Y
    show{_,A,s,_,M,B.ts E,s3,j i _ A s (zg d) p2,λY5 F τ4 H4 r4 O L k4=>?_}
    have kk:=(h.trans E).trans k4
    show{Y5,F,_,Z,O,L,r4,{λv p τ5 N l w o z=>{d,v,p,w,o,l,kk.trans z},r.rt.kp<|a.trans kk,(r.nx.kp<|a.trans kk),λv p τ5 N l w o z=>{d,v,p,w,o,l,kk.trans z}},C.kp<|a.trans kk}
   ·have e:i=I.xs.length:=`b
    subst e
    show .inl {ok.2<|zm _,r.nx _ _ _ _ (c _ _ p2) B s2<|a.trans h},C.at n⟩⟩
end
noncomputable def qL(σ:SD)(src:δ<|θ π):SD:=src.map λo=>match o with|some j=>(σ[j]?).join|none=>none
theorem jQ.pick{K:Φ}{H:Hp}{σ:SD}{τ:St}(h:jQ K H σ τ):∀src:δ (θ π),jQ K H (qL σ src) (pick τ src)|[]=>.nil|o::r=>.cons (λd e=>by cases o with|none=>(cases e)|some j=>dsimp only at e⊢;cases q:σ[j]? with|none=>(rw[q]at e;cases e)|some o'=>rw[q]at e;obtain rfl:o'=ϑ d:=e;let⟨v,e1,a⟩:=h.get q;show{v,by rw[e1];rfl,a})<|jQ.pick h r
def Zf:KX:=λz z=>False
def BB(σ:SD)(src:δ<|θ π)(g:C3)(tc:lT)(te:TD)(R:KD)(I:HL)(h:av):Prop:=∃P:π->δ D->av->η,P 0 [] h/\(∀i out S,P i out S->I.ok S)/\(∀i d out S,I.xs[i]?=some d->P i out S->out.length<Ϙ/\g d (qL σ src) S λc e=>tc c e (λb a=>if b=ϱ then te c a (λv j=>P (i+1) (out++[v]) j) Zf else P (i+1) out a) Zf)/\∀out S2,P I.xs.length out S2->∀p,S2 p=ϐ->R (.ref p) (S2.set p<|.lst out)
def FX(ti:xQ)(src:δ<|θ π)(g:C3)(tc:lT)(te:TD):TD:=λσ S R Z=>ti σ S (λI a=>BB σ src g tc te R I a) Z
theorem HF.f{K:Φ}{H:Hp}{e:XK} : HF K H Zf e:=λx x x z=>z.elim
def T.comp{K:Φ}{E E':St->XK}{ti:xQ}{src:δ<|θ π}{g:TG}{gd:C3}{tc:lT}{te:TD}{τ:St}{H:Hp}{Q:VK}(hg:∀v τ H Q,Tg K gd v τ H Q->g v τ H Q) (h:T K E (FX ti src gd tc te) τ H Q):JM (Ti K E ti) src g (Tt K E' tc) (T K E' te) τ H Q:=by
 let⟨σ,S,R,Z,C,hS,q,hR,hZ⟩:=h;show{σ,S,_,Z,C,hS,q,λI S1 J H1 aY X s1 M=>?_,hZ};let⟨P,p0,z,w,l⟩:=aY;show{λi m out H=>m=I.xs.length-i/\i<=I.xs.length/\∃ds S,RvAll K H ds out/\Rs K S H/\P i ds S/\Kp K H1 H,!{zU _,[],S1,bA,s1,p0,.refl _},?_};rintro i m out H2 ⟨rfl,W_,ds,y,r,s2,p2,a⟩;have ok:=X i y H2 a s2<|z _ _ _ p2;by_cases t:i<I.xs.length;let⟨go,Y⟩:=ok.1 _<|zg t;let⟨hz,st⟩:=w i _ ds y (zg t) p2;show .inr {go,by rw[r.len];show hz,λx H' hy=>?_};let⟨U,j,s3⟩:=Y x H' hy;show hg _ _ _ _ {_,_,y,_,U,(((C.ts M).ts a).ts j).pick src,s3,st,λG N τ4 H4 r4 B O s=>?_};show{G,N,_,Zf,B,O,r4,λc L H5 o F n=>?_,.f};cases c with|true=>rw[qc rfl]at o⊢;show{G,L,_,Zf,B.ts n,F,o,λd S6 v H6 r6 v6 s6 A=>{_,by omega,rfl,t,ds++[d],S6,(RvAll.ts (((j.trans s).trans n).trans A) _ r).app<|aP v6 bA,s6,r6,(((a.trans j).trans s).trans n).trans A},.f}|false=>rw[qa zd]at o⊢;show{_,by omega,rfl,t,ds,L,RvAll.ts ((j.trans s).trans n) _ r,F,o,((a.trans j).trans s).trans n}
 have e:i=I.xs.length:=by omega
 subst e;show .inl {ok.2<|zm _,λp hp=>(hR.kp<|M.trans a).new s2 hp (l _ _ p2 p) r}
noncomputable def Ev.none(X:Cx)(h:X.xe=λx x=>False):Ev X false:={X.pn,X.xe,λx=>E0,{by rintro p2 τ H s e s' _ ⟨_,_,_,_,_,_,_,_,_,z⟩;show z.elim,λe=>(by cases e),λe=>(by cases e)}}
section
variable{K:Φ}{X:Cx}{b:χ}{N:δ ρ}{src:δ (θ π)}{scope:Scope}{tg iter elt:Δ}{ifs:δ Δ}{pos:Pos}{ti:xQ}{g:TG}{gd:C3}{tc:lT}{te:TD}
structure Y6(K:Φ)(X:Cx)(ifs:δ Δ)(t:lT):η where
 of:∀{b:χ}(y:Ev X b),UI y.cx ifs<|Tt K y.E t
def wB:lT:=λz S R z=>R true S
theorem u9:Y6 K X [] wB:=⟨λy qe s τ H Q I ⟨σ,S,R,Z,d,a,q,c,e⟩=>Nd qe s τ H Q I<|c true S H q a<|.refl _⟩
theorem if1{t:lT}(h:DT K X c t):Y6 K X [c] t:=⟨λy=>Nf<|h.of y⟩
theorem vE(S:bZ X N src scope)(c:DI K X tg iter ti)(i:∀C s H ex pn,PG (iX X N scope C s H ex pn) tg g)(hx:DM g src)(a:∀v τ H Q,Tg K gd v τ H Q->g v τ H Q) (hi:∀C s H ex pn,Y6 K (iX X N scope C s H ex pn) ifs tc) (e:∀C s H ex pn,DE K (iX X N scope C s H ex pn) elt te) (j:ψ (∀x,foldedSetIterable iter X.env x=pure x) qQ0) (d:ψ (X.calm=ϱ) qQJ):DE K X (.ListComp elt [{tg,iter,ifs,0}] scope pos) (FX ti src gd tc te):=⟨λy=>(Nh (X:=y.cx) (tc:=Tt K (λz=>E0) tc) (te:=T K (λz=>E0) te) ⟨S.kind,S.hW,S.loc,S.CW,S.len,S.src⟩ d (c.of y) i hx (λC s H ex pn=>(hi C s H ex pn).of<|.none _ rfl) (λC s H ex pn=>(e C s H ex pn).of<|.none _ rfl) j).mono λz z z h=>h.comp a⟩
theorem Sz(hN:X.N.Nodup)(S:bZ X N src scope)(j:DI K X tg iter ti)(B:∀C s H ex pn,PG (iX X N scope C s H ex pn) tg g)(hx:DM g src)(e:∀v τ H Q,Tg K gd v τ H Q->g v τ H Q) (hi:∀C s H ex pn,Y6 K (iX X N scope C s H ex pn) ifs tc) (z:∀C s H ex pn,DE K (iX X N scope C s H ex pn) elt te) (a:ψ (X.N[i]?=some x) qQJ) (t:ψ (X.env.scope.names.lookup x=ϑ .local) qQJ) (c:ψ (swapsWith (.ListComp elt [{tg,iter,ifs,0}] scope pos) (some<|.Name x pos') Ni.line X.env=pure true) qQJ) (w:ψ (∀x,foldedSetIterable iter X.env x=pure x) qQ0) (m:ψ (X.calm=ϱ) qQJ):DS K X b (.Assign [.Name x pos'] (.ListComp elt [{tg,iter,ifs,0}] scope pos) Ni) (W0 i<|FX ti src gd tc te):=⟨λy=>(DP (X:=y.cx) (i:=i) (tc:=Tt K (λu=>E0) tc) (te:=T K (λu=>E0) te) hN a t ⟨S.kind,S.hW,S.loc,S.CW,S.len,S.src⟩ m (j.of y) B hx (λC s H ex pn=>(hi C s H ex pn).of<|.none _ rfl) (λC s H ex pn=>(z C s H ex pn).of<|.none _ rfl) c w).mono <| by rintro D τ H ⟨σ,S,De,Z,h,A,q,p,o⟩;show T.comp e {σ,S,_,_,h,A,q,λd E v H1 r n s1 l=>p.nx _ _ _ _ r ((h.ts l).set i n) s1 l,o.at h}⟩
def bq:∀v τ H Q,Tg K (WZ i) v τ H Q->jv i v τ H Q:=by rintro v τ H Q ⟨d,σ,S,R,e,a,c,q,g⟩;show g _ S _ H q (a.set i e) c<|.refl _
end
structure xR(K:Φ)(x qual:ρ)(st:Stmt)(f:ε)(fd:FuncData):η where
 ex:∃(oc:ξ)(od:θ ε)(dV kV doc pm:ξ)(an:θ ε)(gF ct:ξ)(RA:Array (θ ξ)),
  fd=fnOf x qual (bG st) (bt st) (ag st) dV kV doc pm an gF ct/\K.lookup f=ϑ {oc,od,.func fd,RA}/\codeIn K gF qual=ϱ
noncomputable def km(N:δ ρ)(ds:δ D):SD:=ds.map some++List.replicate (N.length-ds.length) none
section
variable{P:Ψ}{w:Ω}{K:Φ}{mg:ρ->θ ξ}{base:Γ}
def xR.okD{x qual:ρ}{st:Stmt}{f:ε}{fd:FuncData}{N ps:δ ρ}{k:π}{sp:jb}(F:xR K x qual st f fd)(S:gI N ps<|ag st)(len:∀ds S R Z,sp ds S R Z->ds.length=ps.length) (m:∀(gF:ξ)(A:ϕ)(outer:δ Env)(s:ζ)(H:Hp)(E:XK)(ds:δ D)(S:av)(R:KD)(Z:KX),cq k (A.deeper<|envOfC qual (ag st) s.heap.objs.size f gF)->sp ds S R Z->∃t,Ed K (lR (fz P w mg) P w K mg base N qual (ag st) f gF A outer s H E) true (bt st) t/\t {nx:=λu S'=>R .aA S',rt:=R} (km N ds) S λu=>Z):bO P w K mg base (fz P w mg) (k+1) f fd ps (qH K sp):=by
 let⟨oc,od,dV,kV,doc,pm,an,gF,ct,RA,rfl,lk,p⟩:=F.ex;have B:ps.length<=N.length:=by have:=congrArg List.length S.pre;rw[yd]at this;lia
 show Pq lk p S (by rintro vs H Q E ⟨ds,S',R,Z,v,_,h,_⟩;show by rw[v.len];show len _ _ _ _ h) λA outer s H vs Q E hr l=>?_;let⟨ds,S',R,Z,v,o,h,g,i⟩:=l;let⟨t,j,q⟩:=m gF A outer s H E ds S' R Z hr h;have L:dh (lR (fz P w mg) P w K mg base N qual (ag st) f gF A outer s H E) E:=wq;let y:Ev (lR (fz P w mg) P w K mg base N qual (ag st) f gF A outer s H E) true:={_,(lR (fz P w mg) P w K mg base N qual (ag st) f gF A outer s H E).xe,λu=>E,{λp2 τ H1 s1 e s' I h=>Pz L p2 τ H1 s1 e s' I h,λ_ p2 τ H1 s1 h' a cls args I hx n=>qF L I hx n,λu=>PassesOwn.leaving}};show{Tl K (λu=>E) t,j.of y,km N ds,S',_,λu=>Z,?_,o,q,{λσ d τ H1 r a b c=>g.kp c |>.now b r j8,g,λu u u u z=>z.elim,λu u u u z=>z.elim},λσ τ C d H1 z a b c=>i C d H1 z b c};unfold km start;show(tN v).app ?_;rw[v.len];show Bu _ _<|by rw[List.length_replicate]
theorem bO.HN(F:bO P w K mg base (fz P w mg) k f fd ps<|qH K sp)(h:∀ds S R Z,YL ds S R Z->sp ds S R Z):bO P w K mg base (fz P w mg) k f fd ps (qH K YL):=F.imp <| by rintro vs H Q E ⟨ds,S,R,Z,a,b,c,d⟩;show{ds,S,R,Z,a,b,h _ _ _ _ c,d}
def bO.calm(F:bO P w K mg base (fz P w mg) k f fd ps sp):bO P w K mg base YQ k f fd ps λvs H Q x=>sp vs H Q E0:=by show{λvs H Q E h=>F.len vs H Q E0 h,λA outer s H args us vs Q E hr c hb r h=>xa (F.run A outer s H args us vs Q E0 hr c hb r h) λa s' q=>?_};cases a with|error e=>(let⟨_,_,_,_,_,_,_,_,_,z⟩:=q;show z.elim)|ok fl=>cases fl<;>show q
end
section
variable{K:Φ}{X:Cx}{i:π}{body:δ Stmt}
def SA{t:lV}(h:Ed K X false body t):Wl X body (λE=>Tl K E t):=by intro qe s σ H D E I q;let y:Ev X false:={X.pn++qe,XE X qe E,E,{λp2 τ H1 s1 e s' a hq=>{τ,H1,s1,{⟨a.ok.mod,a.ok.kind,a.ok.glob,a.ok.blt,a.ok.above,a.ok.inj,a.ok.has,a.ok.QR,a.ok.hd,a.ok.frames,a.ok.Uy,a.ok.Dd,a.ok.bs,a.ok.G5,a.ok.Df,a.ok.G6,a.ok.lQ,a.ok.Jg⟩,a.os,a.bare,a.base,a.loc,a.cell,a.free,a.dH,λp hp=>a.pin p<|zT _ hp,a.aM,a.len},hq},λe=>(by cases e),λe=>(by cases e)}};have c:∀{d:St}{H':Hp}{s':ζ},Inv y.cx [] d H' s'->Inv X qe d H' s':=λa=>{⟨a.ok.mod,a.ok.kind,a.ok.glob,a.ok.blt,a.ok.above,a.ok.inj,a.ok.has,a.ok.QR,a.ok.hd,a.ok.frames,a.ok.Uy,a.ok.Dd,a.ok.bs,a.ok.G5,a.ok.Df,a.ok.G6,a.ok.lQ,a.ok.Jg⟩,a.os,a.bare,a.base,a.loc,a.cell,a.free,a.dH,λp hp=>a.pin p<|zT _ hp,a.aM,a.len};have i:Inv y.cx [] σ H s:={⟨I.ok.mod,I.ok.kind,I.ok.glob,I.ok.blt,I.ok.above,I.ok.inj,I.ok.has,I.ok.QR,I.ok.hd,I.ok.frames,I.ok.Uy,I.ok.Dd,I.ok.bs,I.ok.G5,I.ok.Df,I.ok.G6,I.ok.lQ,I.ok.Jg⟩,I.os,I.bare,I.base,I.loc,I.cell,I.free,I.dH,λp hp=>I.pin p<|by rw[List.append_nil]at hp;show hp,I.aM,I.len};show yB (h.of y [] s σ H D i q) (λf s' r=>?_) λz z r=>r;cases f with|next=>(let⟨d,H',g,q⟩:=r;show{d,H',c g,q})|brk=>(let⟨d,H',g,q⟩:=r;show{d,H',c g,q})|cont=>(let⟨d,H',g,q⟩:=r;show{d,H',c g,q})|ret u=>let⟨v,d,H',g,j,q⟩:=r;show{v,d,H',c g,j,q}
noncomputable def wA.less(De:wA)(i:π):wA:={nx:=λσ S=>De.nx (σ.set i none) S,rt:=De.rt,bk:=λσ S=>De.bk (σ.set i none) S,ct:=λσ S=>De.ct (σ.set i none) S}
end
theorem wC{P:Ψ}{w:Ω} : ∀{ss:δ ρ}{vs:δ ξ},vs.length=ss.length->(∀(j:π)(v:ξ),vs[j]?=some v->∃x,ss[j]?=some x/\keyIs (.inr x) v=ϱ)->StrsAre vs ss|[],[],_,_=>.nil|[],_::_,h,_=>by simp at h|_::_,[],h,_=>by simp at h|x::ss,v::vs,h,k=>by let⟨x',e,q⟩:=k 0 v rfl;cases e;rcases bN q with⟨i,t,e,_⟩|⟨y,t,e,rfl⟩;cases e;cases e;show .cons x t<|wC (P:=P) (w:=w) (by simpa using h) λj v e=>k (j+1) v<|by simpa using e
theorem wF:∀{vs:δ ξ}{ss:δ ρ},StrsAre vs ss->Vals (ss.map V.str) vs|_,_,.nil=>.nil|_,_,.cons y t h=>.cons ⟨t,rfl⟩<|wF h
def KV.abE{κ:Type}{kvs:δ<|κ×V}{vs:δ<|κ×ξ}(h:KV kvs vs):vs.map (·.1)=kvs.map (·.1):=by unfold KV at h;induction h with|nil=>rfl|cons r t a=>rw[zD,zD,a,r.1]
def Km{prog:Ψ}{w:Ω}{A:ϕ}{E:ξ->ζ->η}{s:ζ}{T:String}{r d:ε}{n:π}{P:π->ξ->η}{t:Γ->η}{R:δ ξ->ζ->η}(K:PySem.W.KdlSrc prog w T r d n P t)(z:A.handled=ϐ)(aM:t s.heap)(hn:n<=Ϙ) (h:∀(h':Γ) (tk:π) (i:Array ξ),(∀b o,s.heap.get? b=ϑ o->h'.get? b=ϑ o)->s.heap.objs.size<=h'.objs.size->ItemsOf P i n->R i.toList {s with heap:=h',toks:=tk}): wpAny `n A (collect<|.ref r) R E s:=by have v:=K.there _ aM;unfold collect;show zb<|wpAny_runValue<|yX entry_proto_collect' ?_;rw[Around.under_plainId PySem.F.plain_proto_collect _];change wpAny _ A.in1 (newList [] >>=λl=>again<|.builtin "list.__iadd__" {[l,.ref r],[]}) _ _ s;show zb<|yq ?_;show zp {plainId_quiet PySem.F.plain_list_iadd _,yX entry_list_iadd' ?_};rw[Around.under_plainId PySem.F.plain_list_iadd _];have B:(s.heap.push {cls:=.type "list",data:=.seq ([]:δ ξ).toArray}).get? s.heap.objs.size=ϑ {cls:=.type "list",data:=.seq #[]}:=zl _ rfl;change wpAny _ A.in1 (Builtin.List.listExtendWith (.ref s.heap.objs.size) (.ref r)<|.ref s.heap.objs.size) _ _ _;have key:=PySem.W.kdl_extend (A:=A) (s:={s with heap:=s.heap.push {cls:=.type "list",data:=.seq ([]:δ ξ).toArray}}) (R:=λ(q:Result) (s':ζ)=>∃(h':Γ) (tk:π) (a:Array ξ) (j:π),q=.ok (.ret<|.ref s.heap.objs.size)/\s'={s with heap:=h',toks:=tk}/\(∀b o,s.heap.get? b=ϑ o->h'.get? b=ϑ o)/\h'.get? s.heap.objs.size=ϑ {cls:=.type "list",dict:=none,data:=.seq a j,slots:=#[]}/\ItemsOf P a n) K z (K.keep _ _ aM λb u o e=>za _ e) s.heap.objs.size (yi v.1) (yi v.2) (.ref s.heap.objs.size) 0 B (λh' tk a j m c g=>{h',tk,a,j,rfl,rfl,λb o e=>m b o (zE<|zw e)<|za _ e,c,g}) hn;show yB key (λp s' x=>?_) λe s' x=>?_;{cases p with|done f=>(let⟨h',tk,a,j,e,rfl,m,c,g⟩:=x;cases e;change wpAny _ A (load s.heap.objs.size >>=_) _ _ _;show zb<|wpAny_load c<|zp<|h h' tk a m (yU<|zw c) g)|again G=>show{x.1,xa x.2 λq C y=>?_};let⟨h',tk,a,j,rfl,rfl,m,c,g⟩:=y;change wpAny _ A (load s.heap.objs.size >>=_) _ _ _;show zb<|wpAny_load c<|zp<|h h' tk a m (yU<|zw c) g};let⟨_,_,_,_,e',_⟩:=x;cases e'
def xS{X:Cx}(L:X.calm=ϱ):eW X (.builtin "sorted") (λxs H Q=>∃(a:ε)(kvs:δ (Key×V))(ss:δ ρ),xs=[.ref a]/\H a=ϑ (.dK kvs)/\kvs.map (·.1)=ss.map Sum.inr/\kvs.length<64/\∀d,d.Perm ss->sortedS d=ϱ->∀l,H l=ϐ->Q (.ref l) (upd H l<|.lst<|d.map V.str)):=by
 intro qe s σ H xs us Q I r h;let⟨a,kvs,ss,rfl,e,E,hl,q⟩:=h;let⟨u,rfl,Y⟩:=vals1 r;cases Y;let⟨z,hd,vs,rel,dd⟩:=FO I.aM e;let⟨ep,U⟩:=dd.dictAt;have g:vs.length<64:=by rw[<-rel.length];show hl
 have S:=I.ok.hd L;show PySem.Calls.call_function_entry kind_sorted plain_sorted entry_sorted (args_sorted1 _) ?_;unfold Builtin.«sorted»;show zb (m:=checkCount "sorted" 1 1 _)<|zp ?_;show zb<|Km (A:=X.A.in1) (PySem.W.kdl_dict (knd:=aK X.prog X.w) (kvs:=vs) (ep:=ep) hd) S U (by rw[yh];lia) λh' tk c i F K=>?_;have qA:c.toList.length=vs.length:=by rw[yw];show K.1
 show zb<|wpAny_newList ?_ (by rw[qA,yh];lia);have B:StrsAre c.toList ss:=by have p:=rel.abE;show wC (P:=X.prog) (w:=X.w) (by rw[qA,<-rel.length];have:=congrArg List.length E;simpa using this) λj v N=>?_;let⟨k,x,e1,e2⟩:=K.2 j v (by rw[<-Array.getElem?_toList];show N);have e3:(vs.map (·.1))[j]?=some k:=(by rw[zx,e1];rfl);rw[p,E,zx]at e3;cases J:ss[j]? with|none=>(rw[J]at e3;cases e3)|some y=>rw[J]at e3;cases e3;show⟨y,rfl,e2⟩
 have t:(h'.push<|seqObj "list" c.toList.toArray 0).get? h'.objs.size=ϑ (seqObj "list" c.toList.toArray 0):=zl _ rfl;change wpAny _ _ _ _ _ {s with heap:=h'.push<|seqObj "list" c.toList.toArray 0,toks:=tk};show zb<|yQ<|yz slot_list_sort {_,t,rfl} entry_list_sort (list_sort_treeK (s:={s with heap:=h'.push<|seqObj "list" c.toList.toArray 0,toks:=tk}) strKind_oneLt t B.keysOf (λpj pq rest e=>keyKind_strs<|by rw[<-e];show B) (by rw[qA];show g) λee hp O=>!⟨?_⟩)<|args_list_sort _;show zp !⟨?_⟩;let⟨d,h1,h2,M⟩:=sorted_out_str B hp O;let⟨e1,C⟩:=sortedHeap_at (vs:=c.toList) (n:=0) (out:=(arrOf ee).map (·.2)) t;have R:d.length<=sizeLine:=by rw[h2.length_eq,yh];have:=congrArg List.length E;rw[zc,zc]at this;omega
 show{.ref h'.objs.size,_,I.laid (a:=h'.objs.size) (o:=.lst<|d.map V.str) (λb u hb=>?_) F {by rw[zc];show R,_,e1,wF h1,C},rfl,q d h2 M _<|I.aM.fresh F};have G:=zw<|i b u hb;rw[sortedHeap_old (zE G)<|by rw[zS];show Nat.lt_succ_of_lt G,za _<|i b u hb]
section
variable{K:Φ}
def NR:δ D->av->KD->Prop:=λds S R=>∃(a:ε)(kvs:δ (Key×D))(ss:δ ρ),ds=[.ref a]/\S a=ϑ (.b_ kvs)/\kvs.map (·.1)=ss.map Sum.inr/\kvs.length<64/\∀FY,FY.Perm ss->sortedS FY=ϱ->∀p,S p=ϐ->R (.ref p) (S.set p<|.lst<|FY.map D.str)
def cK.keys{κ:Type}{H:Hp}{ks:δ<|κ×D}{vs:δ<|κ×V}(h:cK K H ks vs):vs.map (·.1)=ks.map (·.1):=by unfold cK at h;induction h with|nil=>rfl|cons r t a=>rw[zD,zD,a,r.1]
def BD:iD K (.builtin "sorted") NR:=by rintro X p g qe s σ H xs us Q I i ⟨ds,S,R,r,d,⟨a,kvs,ss,e,e1,n,hl,h⟩,o⟩;subst e;let⟨v,rfl,j⟩:=r.one;let⟨vs,e2,t⟩:=d.b_ e1;show xS g qe s σ H _ us Q I i {a,vs,ss,by rw[j.ref],e2,by rw[t.keys];show n,by rw[t.len];show hl,λc m p2 l hl=>o.new d hl (h c m p2 l)<|xM c}
end
def PZ(K:Φ)(a:ε)(n:π):It:={λi H=>∃xs x,fP K H a xs/\xs.length=n/\i<n/\xs[n-1-i]?=some x,λi H x H'=>H'=H/\∀xs,fP K H a xs->xs.length=n->xs[n-1-i]?=some x,λi z=>n<=i}
theorem Ko{P:Ψ}{w:Ω}{K:Φ}{tg:Δ}(a it:ε)(n:π):Turn P w K tg (PZ K a n) [it] it (λi h=>i<=n/\h.IsRevIter it a ((n:ν)-1-(i:ν))) where
 mem:=`d
 obj:=λi h st b hb=>by
  have e:b=it:=by simpa using hb
  subst e
  let⟨_,o,e,c,d⟩:=st
  show{o,e,λv z=>by rw[d]at z;cases z}
 keep:=λi h h' st k=>{st.1,st.2.at λo e=>k it `d o e}
 item:=by
  intro X hP hw hK hc i qe s σ H E I hf st hg
  subst hP hw hK
  let⟨xs,x,hq,hn,hi,hx⟩:=hg
  let⟨aC,rv,p,hz⟩:=I.list hq
  let⟨u,hu,ru⟩:=rv.get hx
  let⟨f0,f1,f2,f3,f4,f5⟩:=hf it<|`d
  have e:(n:ν)-1-(i:ν)=((n-1-i:π):ν):=`b
  have hit:=st.2
  rw[e]at hit
  show wpAny_pyNext_rev_item hit p.isList (x:=u) (by simpa using hu) λh' ee sb=>?_
  have I1:Inv X qe σ H {s with heap:=h'}:=I.turned (t':=s.toks) (λb o hb e=>(sb.2 b hb).trans e) f0 f1 f3 f4 f5
  let⟨o,e1,c,d⟩:=id ee
  show{u,rfl,v5 (s:={s with heap:=h'}) e1 c d `a {x,H,I1,ru,{rfl,λys hy y=>by rw[I.jW hy hq];show hx},{hi,?_},λb hb=>(hf b hb).1}}
  have e2:(n:ν)-1-((i+1:π):ν)=((n-1-i:π):ν)-1:=`b
  rw[e2];show ee
 done:=by
  intro X hP hw hK hc i qe s σ H E I hf st hg
  subst hP hw hK
  let⟨f0,f1,f2,f3,f4,f5⟩:=hf it<|`d
  have hg:n<=i:=hg
  have e:(n:ν)-1-(i:ν) = -1:=by have:=st.1;lia
  have hit:=st.2
  rw[e]at hit
  show wpAny_pyNext_rev_end (I.ok.hd hc) hit λh' eb=>{rfl,I.turned (t':=s.toks) (λb o hb e=>eb b o hb e) f0 f1 f3 f4 f5}
 self:=λy y y y y st h=>wpAny_pyIter_revIter st.2 h
def abF(K:Φ)(ta:TA):TI:=λσ H R=>ta σ H λvs H1=>∃a xs,vs=[.ref a]/\fP K H1 a xs/\R (PZ K a xs.length) H1
def SE{X:Cx}{tg a:Δ}{ta:TA}{p pos:Pos}(v:Gl X "reversed")(hm:X.mg "reversed"= none)(ha:PA X [a] ta)(m:starEach [a] X.env=[(false,eval a X.env)]):PI X tg (.Call (.Name "reversed" p) [a] [] pos) (abF X.K ta):=by
 intro qe s σ H R I h;show Call_<|fu I v hm boot_reversed<|yj (bz (ha pos qe s σ H _ I h) λus s1 n=>?_) m rfl;let⟨vs,H1,c,j,i⟩:=n;let⟨l,xs,e,q,w⟩:=i;subst e;let⟨u,rfl,r⟩:=vals1 j;cases r;let⟨t,g,pl,x⟩:=c.list q;have hn:t.toArray.size=xs.length:=by rw[zr,g.length]
 show call_reversed_list pl.isList ?_;rw[hn];have st:(s1.heap.push<|revObj l<|(xs.length:ν)-1).IsRevIter s1.heap.objs.size l ((xs.length:ν)-1-((0:π):ν)):={_,zl _ rfl,rfl,by change Data.fields _=Data.fields _;simp};have d:Inv X qe σ H1 {s1 with heap:=s1.heap.push<|revObj l<|(xs.length:ν)-1}:=c.kept (t':=s1.toks) λb o e=>za _ e;show wpAny_pyIter_revIter st {_,_,_,_,H1,rfl,d,Ko l s1.heap.objs.size xs.length,{zU _,st},λb hb=>?_,w};have hb:b=s1.heap.objs.size:=by simpa using hb
 subst hb;show c.nv (zm _)<|c.aM.fresh<|zm _
section
variable{K:Φ}{X:Cx}{tg:Δ}
def Xb(t:iC):xQ:=λσ S R Z=>t σ S (λds a=>∃x es,ds=[x]/\nh a x es/\R {es.reverse,λS=>nh S x es} a) Z
def irv{t:iC}(hm:X.mg "reversed"= none)(ha:DA K X [a] t)(G:ψ (Gl X "reversed") qQJ)(z:ψ (starEach [a] X.env=[(false,eval a X.env)]) qQJ)(E:ψ (X.K=K) qQJ):DI K X tg (.Call (.Name "reversed" p) [a] [] pos) (Xb t):=by subst E;show⟨λy=>(SE (X:=y.cx) G hm (ha.of y) z).mono <| by rintro τ H R ⟨σ,S,RI,Z,A,F,q,I,s⟩;show{σ,S,_,Z,A,F,q,by rintro ds n vs H1 ⟨x,es,e,h1,w⟩ o s1 C;subst e;let⟨v,rfl,r⟩:=o.one;let⟨a,xs,rfl,hq,t⟩:=h1.at s1 r;show{a,xs,rfl,hq,I _ n _ H1 w (λi J H2 l s2 B=>?_) s1 C};let⟨L,c,e',j,g⟩:=nh.at B s2<|Rv.ts l _ r;cases e';have hl:xs.length=es.length:=t.len;have m:c.length=es.length:=g.len;show{λd hd=>?_,λh=>by rw[yM]at h;change xs.length<=i;lia};have hi:i<es.length:=(by have:=(zh.mp hd).1;rwa [yM]at this);rw[List.getElem?_reverse hi]at hd;let⟨v,e1,r⟩:=g.get hd;rw[<-hl]at e1;show{{c,v,j,`b,`b,e1},λx' H' ⟨e2,e3⟩=>?_};subst e2;have:=e3 c j `b;rw[e1]at this;cases this;show{r,.refl _,s2},s}⟩
noncomputable def aZ(xs ys:δ D):δ D:=List.zipWith (λa b=>D.tup [a,b]) xs ys
def Xc(t:iC):xQ:=λσ S R Z=>t σ S (λds a=>∃xs ys,ds=[.tup xs,.tup ys]/\xs.length=ys.length/\R {aZ xs ys,λz=>True} a) Z
def lC:∀v τ H Q,Tg K (PY 2<|Ee (WZ i)<|Ee (WZ j) PX) v τ H Q->MM K 2 (sR (jv i)<|sR (jv j) ML) v τ H Q:=by rintro v τ H Q ⟨d,σ,S,R,h,m,o,⟨ds,e,hl,a,r,e1,b,w,e2,e3,q⟩,s⟩;subst e e1 e2 e3;let⟨p,xs,rfl,hp,t⟩:=h.tup;let⟨g,c,rfl,l,n⟩:=t.two;show{p,_,rfl,.of hp,rfl,g,[c],rfl,c,[],rfl,rfl,s _ S _ H q ((m.set i l).set j n) o<|.refl _}
end
section
variable{K:Φ}{X:Cx}{b:χ}{pos:Pos}
def Xd(tl ti tv:TD):lV:=λDe σ S Z=>tv σ S (λv d=>tl σ d (λx e=>ti σ e (λy c=>∃a es i j,x=.ref a/\y=.int i/\c a=ϑ (.lst es)/\IU es.length i=ϑ j/\De.nx σ (c.set a<|.lst<|es.set j v))<|Z σ)<|Z σ)<|Z σ
theorem sls{o i value:Δ}{tl ti tv:TD}{pos':Pos}(n:DE K X o tl)(hi:DE K X i ti)(E:DE K X value tv)
  (ha:ψ (∀v,assign (.Subscript o i pos') X.env v=(do
   let ov <-holding [v] (eval o X.env)
   let iv <-holding [v,ov] (eval i X.env)
   standAt pos'
   holding [v,ov,iv] (setItem ov iv v)
   release [v,ov,iv] [])) qQ0)
  (C:ψ (swapsWithSole [.Subscript o i pos'] value pos.line X.env=pure false) qQJ) (hw:ψ (swappedStores [.Subscript o i pos'] value X.env=pure none) qQJ) (h1:ψ ((assignEach [.Subscript o i pos'] X.env).map (·.2)=[assign (.Subscript o i pos') X.env]) qQJ):
  DS K X b (.Assign [.Subscript o i pos'] value pos) (Xd tl ti tv):=
 ⟨λy=>(Jm (X:=y.cx) (E.of y) (Q6 (n.of y) (hi.of y) set_list ha) C hw h1).mono <| by rintro D τ H ⟨σ,S,De,Z,e,J,q,s,l⟩;show
  ⟨σ,S,_,_,e,J,q,λv r z H1 A p s1 d=>⟨σ,r,_,_,e.ts d,s1,A,λx w N H2 I B s2 g=>⟨σ,w,_,_,e.ts<|d.trans g,s2,I,by
   rintro y O P M ⟨a,es,i,j,e1,e2,e3,e4,G⟩ F m h
   subst e1 e2
   let⟨xs,L,t⟩:=m.lst e3
   have kk:=m.i8 (o:=.lst<|xs.set j z) e3
   show{a,xs,i,j,(Rv.ts h _ B).ref,F.int,L,by rw[t.len];show e4,?_}
   show s.nx _ _ _ _ G (e.ts<|((d.trans g).trans h).trans kk) (m.put (c:=.lst _) e3 {_,aF,RvAll.ts kk _<|t.set j<|Rv.ts (g.trans h) _ p})<|((d.trans g).trans h).trans kk,l.on (d.trans g)<|e.ts<|d.trans g⟩,l.on d<|e.ts d⟩,l.at e⟩⟩
noncomputable def fR(z:ρ):δ D:=z.cps.toList.map λc=>D.str ⟨#[c]⟩
def P0(t:TD):xQ:=λσ S R Z=>t σ S (λx a=>∃z,x=.str z/\R {fR z,λy=>True} a) Z
theorem SF{t:TD}(h:DE K X l t):DI K X tg l (P0 t):=⟨λy=>(RW (X:=y.cx)<|h.of y).mono <| by rintro τ H R ⟨σ,S,RI,Z,n,p,q,r,j⟩;show⟨σ,S,_,Z,n,p,q,by
 rintro x g v H1 ⟨z,e,m⟩ a s1 o;subst e;show{z,a.str,r _ g _ H1 m (λi w H2 s s2 u=>{λd hd=>?_,λhl=>?_}) s1 o};unfold fR at hd;rw[zx,Array.getElem?_toList]at hd;cases q:z.cps[i]? with|none=>(rw[q]at hd;cases hd)|some c=>rw[q]at hd;cases hd;show{(Array.getElem?_eq_some_iff.mp q).1,λx' H' ⟨e1,A,e2,e3⟩=>?_};rw[q]at e2;cases e2;subst e1 e3;show{i6 _,.refl _,s2}
 unfold fR at hl;rw[zc,yw]at hl;show hl,j⟩⟩
def NS(t:TD):TD:=λσ S R Z=>t σ S (λx a=>∃ss:δ ρ,nh a x (ss.map D.str)/\ss.length<4000/\R (.int (jx ss).length) a) Z
def lse{t:TD}(h:DE K X e t)(hm:X.mg "len"= none)(d:X.mg "set"= none)(hp:ψ (isPlain e=ϱ) qQJ)(C:ψ (Gl X "len") qQJ)(m:ψ (Gl X "set") qQJ)(w:ψ (starEach [e] X.env=[`j]) qQJ) (c:ψ (starEach [Expr.Call (.Name "set" p') [e] [] pos'] X.env=[(false,eval (.Call (.Name "set" p') [e] [] pos') X.env)]) qQJ) (z:ψ (X.K=K) qQJ) (g:ψ (X.calm=ϱ) qQJ): DE K X (.Call (.Name "len" p) [.Call (.Name "set" p') [e] [] pos'] [] pos) (NS t):=by subst z;show⟨λy=>(Be (X:=y.cx) (Hx (X:=y.cx) rfl rfl) C hm aH (pa2 (wb (X:=y.cx) (Hw (X:=y.cx) rfl rfl rfl g) m d R4 (pa2 (h.of y) DB hp) `a `a w rfl) DB rfl) `a `a c rfl).mono λτ H Q o=>?_⟩;let⟨σ,S,R,Z,r,B,q,E,j⟩:=o;show{σ,S,_,Z,r,B,q,λx F v H1 A i s1 s=>?_,j};let⟨ss,h1,hl,n⟩:=A;let⟨a,xs,rfl,hq,t⟩:=h1.at s1 i;rw[t.strs]at hq;show{a,ss,rfl,hq,hl,λl hl=>{l,ss,rfl,aF,E _ _ _ _ n (aS _) (s1.grow hl)<|s.trans<|.new hl}}
end
def HP{K:Φ}{S:av}{H:Hp}{l:ε}(a:Rs K S H)(h:S l=ϑ .well):∃x y z:ν,Rs K (S.set l<|.lst [.int x,.int y,.int z]) H:=by obtain⟨x,y,z,e⟩:∃x y z:ν,H l=ϑ (.lst [.int x,.int y,.int z]):=a l _ h;show{x,y,z,λb c hb=>?_};by_cases q:b=l;subst q;rw[ae]at hb;cases hb;show{_,e,aP (aS x)<|aP (aS y)<|aP (aS z) bA};rw[ah q]at hb;show a b c hb
theorem wG{K:Φ}{S:av}{H:Hp}{l:ε}{x y z:ν}(h:S l=ϑ .well)(d:Rs K (S.set l<|.lst [.int x,.int y,.int z]) H):Rs K S H:=λb c hb=>by by_cases q:b=l;subst q;rw[h]at hb;cases hb;let⟨xs,e,t⟩:=d.lst (a:=b) ae;rw[t.ints (bs:=[x,y,z])]at e;show⟨x,y,z,e⟩;show d b c<|by rw[ah q];show hb
def SH(pre:δ D->ε->η)(a:δ D->D->η):jb:=λds S R v=>∃l x y z,pre ds l/\S l=ϑ (.lst [.int x,.int y,.int z])/\∀d x' y' z',a ds d->R d (S.set l<|.lst [.int x',.int y',.int z'])
def Kq(pre:δ D->ε->η)(a:δ D->D->η):jb:=λds S R z=>∃l,pre ds l/\S l=ϑ .well/\∀d,a ds d->R d S
def HQ{P:Ψ}{w:Ω}{K:Φ}{mg:ρ->θ ξ}{base:Γ}{k:π}{f:ε}{fd:FuncData}{ps:δ ρ}{pre:δ D->ε->η}{a:δ D->D->η} (F:bO P w K mg base (fz P w mg) k f fd ps<|qH K<|SH pre a):bO P w K mg base (fz P w mg) k f fd ps (qH K<|Kq pre a):=by show F.imp λvs H Q E n=>?_;let⟨ds,S,R,Z,v,r,⟨l,hp,hw,h⟩,s,t⟩:=n;let⟨x,y,z,o⟩:=HP r hw;show{ds,_,λd i=>∃x' g c,a ds d/\i=S.set l (.lst [.int x',.int g,.int c]),λb b=>False,v,o,{l,x,y,z,hp,ae,λd x' g c hd=>⟨x',g,c,hd,eJ⟩},λd i u H' p j m kp=>?_,λb b b q=>q.elim};let⟨x',g,c,hd,e⟩:=p;subst e;show s d S u H' (h d hd) j (wG hw m) kp
theorem fM:bootBuiltins "sorted"= some (.builtin "sorted"):=`c
def Sub(S S':av):Prop:=∀b c,S b=ϑ c->S' b=ϑ c
theorem Sub.refl(S:av):Sub S S:=λz z h=>h
theorem Sub.trans(a:Sub S S1)(b:Sub S1 S2):Sub S S2:=λp c h=>b p c<|a p c h
theorem Sub.new(h:S p=ϐ):Sub S (S.set p c):=λb a hb=>by rw[ah<|h_ hb h];show hb
theorem Rs.sub{K:Φ}{S S':av}{H:Hp}(h:Rs K S' H)(s:Sub S S'):Rs K S H:=λa c e=>h a c<|s a c e
inductive Fo (S':av) (p:av->η):η
 |mk (S:av) (h:Sub S S') (r:p S):Fo S' p
theorem fo(h:p S):Fo S p:={S,.refl S,h}
section
variable{P:Ψ}{w:Ω}{K:Φ}{mg:ρ->θ ξ}{base:Γ}
def xR.ok{x qual:ρ}{st:Stmt}{f:ε}{fd:FuncData}{N ps:δ ρ}{k:π}{sp:jb}(F:xR K x qual st f fd)(S:gI N ps<|ag st)(len:∀ds S R Z,sp ds S R Z->ds.length=ps.length) (n:∀(gF:ξ)(A:ϕ)(outer:δ Env)(s:ζ)(H:Hp)(E:XK)(ds:δ D)(S:av)(R:KD)(Z:KX),cq k (A.deeper<|envOfC qual (ag st) s.heap.objs.size f gF)->sp ds S R Z->∃t,Ed K (lR (fz P w mg) P w K mg base N qual (ag st) f gF A outer s H E) true (bt st) t/\t {nx:=λz S'=>Fo S'<|R .aA,rt:=λd S'=>Fo S'<|R d} (km N ds) S λz C S'=>Fo S'<|Z C):bO P w K mg base (fz P w mg) (k+1) f fd ps (qH K sp):=by
 have l:bO P w K mg base (fz P w mg) (k+1) f fd ps (qH K λds S R' Z'=>∃R Z,sp ds S R Z/\R'=(λd S'=>Fo S'<|R d)/\Z'=λC S'=>Fo S'<|Z C):=by show F.okD S (by rintro ds S R Z ⟨g,e,h,_⟩;show len _ _ _ _ h) λgF A outer s H E ds S R Z hr m=>?_;let⟨g,e,h,e1,e2⟩:=m;subst e1 e2;show n gF A outer s H E ds S g e hr h
 show l.imp <| by rintro vs H Q E ⟨ds,S,R,Z,v,o,h,p,i⟩;show{ds,S,_,_,v,o,⟨R,Z,h,rfl,rfl⟩,by rintro d S' u H' ⟨a,c,r⟩ j rs kp;show p d a u H' r j (rs.sub c) kp,by rintro C S' H' ⟨a,c,r⟩ rs kp;show i C a H' r (rs.sub c) kp}
end
section
variable{K:Φ}{X:Cx}{b:χ}
def Xe(t:lV):lV:=λDe σ S Z=>∃P:SD->av->η,t {De with nx:=λa S'=>Fo S'<|P a} σ S Z/\∀a S',P a S'->De.nx a S'
theorem C4{st:Stmt}{t:lV}(h:DS K X b st t):DS K X b st (Xe t):=⟨λy=>(h.of y).mono <| by rintro D τ H ⟨σ,S,De,Z,e,j,⟨P,q,i⟩,d,g⟩;show{σ,S,_,Z,e,j,q,{by rintro o p n H1 ⟨r,m,l⟩ a b c;show d.nx _ _ _ _ (i _ _ l) a (b.sub m) c,d.rt,d.bk,d.ct},g}⟩
def dFo(t:TD):TD:=λσ S R Z=>t σ S (λd S'=>Fo S'<|R d) Z
theorem C5{t:TD}(h:DE K X e t):DE K X e (dFo t):=⟨λy=>(h.of y).mono <| by rintro τ H Q ⟨σ,S,R,Z,a,j,q,m,c⟩;show{σ,S,_,Z,a,j,q,by rintro d S' v H' ⟨i,l,r⟩ g rs kp;show m d i v H' r g (rs.sub l) kp,c}⟩
theorem u_(nd:N.Nodup)(h0:ψ (N[0]?=some a) qQJ)(hx:ψ (∀C s H ex pn,Loc (iX X N scope C s H ex pn).env.scope a/\(iX X N scope C s H ex pn).env.scope.names.lookup a=ϑ .local) qJQ): ∀C s H ex pn,PG (iX X N scope C s H ex pn) (.Name a p) (jv 0):=λC s H ex pn=>so (i:=0) nd h0 (hx C s H ex pn).1<|.inr (hx C s H ex pn).2
theorem UU(nd:N.Nodup)(h0:ψ (N[0]?=some a) qQJ)(h1:ψ (N[1]?=some c) qQJ) (hx:ψ (∀C s H ex pn,Loc (iX X N scope C s H ex pn).env.scope a/\(iX X N scope C s H ex pn).env.scope.names.lookup a=ϑ .local) qJQ) (d:ψ (∀C s H ex pn,Loc (iX X N scope C s H ex pn).env.scope c/\(iX X N scope C s H ex pn).env.scope.names.lookup c=ϑ .local) qJQ) (hl:∀env:Env,(assignEach [.Name a p,.Name c p'] env).length=2/\(assignEach [.Name a p,.Name c p'] env).findIdx? (·.1)=ϐ/\(assignEach [.Name a p,.Name c p'] env).map (·.2)=assign (.Name a p) env::(assignEach [.Name c p'] env).map (·.2)/\(assignEach [.Name c p'] env).map (·.2)=assign (.Name c p') env::(assignEach [] env).map (·.2):=by intro _;show⟨rfl,rfl,rfl,rfl⟩) (h:ψ (X.K=K) qQJ) (g:ψ (X.calm=ϱ) qQJ): ∀C s H ex pn,PG (iX X N scope C s H ex pn) (.Tuple [.Name a p,.Name c p'] j p2) (MM K 2<|sR (jv 0)<|sR (jv 1) ML):=λC s H ex pn=>by subst h;have e:=hl (iX X N scope C s H ex pn).env;show Jl (X:=iX X N scope C s H ex pn) g (sT (so (i:=0) nd h0 (hx C s H ex pn).1<|.inr (hx C s H ex pn).2) (sT (so (i:=1) nd h1 (d C s H ex pn).1<|.inr (d C s H ex pn).2) FF e.2.2.2) e.2.2.1) e.1 e.2.1
end
theorem tP:∀{ss:δ ρ}{a:δ ξ},Vals (ss.map V.str) a->StrsAre a ss|[],_,.nil=>.nil|z::ss,_,.cons r t=>by let⟨tk,rfl⟩:=r;show .cons z tk<|tP t
section
variable{K:Φ}
noncomputable def Xf(xs:δ D):δ D:=(List.range xs.length).zipWith (λi x=>.tup [.int (i:π),x]) xs
def NT(xs:δ D):(Xf xs).length=xs.length:=by unfold Xf;simp
def FZ{xs:δ D}{i:π}{d:D}(h:(Xf xs)[i]?=some d):∃x,xs[i]?=some x/\d=.tup [.int (i:π),x]:=by unfold Xf at h;let⟨a,y,e1,e2,e3⟩:=yg.mp h;have hi:i<xs.length:=(zh.mp e2).1;rw[List.getElem?_range hi]at e1;cases e1;show⟨y,e2,e3.symm⟩
def abG(t:iC):xQ:=λσ S R Z=>t σ S (λds a=>∃x xs,ds=[x]/\nh a x xs/\R {Xf xs,λS=>nh S x xs} a) Z
def ien{X:Cx}{a:Δ}{t:iC}{p pos tp:Pos}{es:δ Δ}{kk:π}(hm:X.mg "enumerate"= none)(ha:DA K X [a] t)(N:ψ (Gl X "enumerate") qQJ)(F:ψ (starEach [a] X.env=[(false,eval a X.env)]) qQJ)(L:ψ (X.K=K) qQJ): DI K X (.Tuple es kk tp) (.Call (.Name "enumerate" p) [a] [] pos) (abG t):=by subst L;show⟨λy=>(NK (X:=y.cx) N hm (ha.of y) F).mono <| by rintro τ H R ⟨σ,S,RI,Z,I,M,q,P,A⟩;show{σ,S,_,Z,I,M,q,by rintro ds z vs H1 ⟨x,xs,e,hx,C⟩ w s1 J;subst e;let⟨v,rfl,ra⟩:=w.one;let⟨l,G,e1,E,ta⟩:=hx.at s1 ra;subst e1;show{l,rfl,⟨G,E⟩,P _ z _ H1 C (λi Q H2 r s2 aM=>?_) s1 J};have g:=Rv.ts r _ ra;let⟨Y,m,e2,j,tb⟩:=nh.at (d:=x) aM s2 g;cases e2;show{λd hd=>?_,λh=>{m,j,by rw[NT]at h;rw[tb.len];show h}};let⟨U,s,rfl⟩:=FZ hd;let⟨c,n,B⟩:=tb.get s;show{⟨m,c,j,n⟩,λx' H' ⟨T,o,e4,O⟩=>?_};have:=O m c j n;subst this e4;have kk:Kp X.K H2 (upd H2 T<|.tup [.int (i:π),c]):=.new o;show{hX aF<|RvAll.ts kk _<|aP (aS _)<|aP B bA,kk,s2.grow o},A}⟩
end
end L2
namespace HT
open PySem PySem.Spec PyProof.Rows
end HT
namespace L2
open PySem PySem.Spec PyProof.Rows
inductive Kr (S:av):δ D->δ PyData->η
 |nil:Kr S [] []
 |cons {d:D}{p:PyData}{ds:δ D}{ps:δ PyData} : Dl S d p->Kr S ds ps->Kr S (d::ds) (p::ps)
section
variable{K:Φ}
noncomputable def F7(p:ρ×D):D:=.tup [.str p.1,p.2]
noncomputable def ia(l:δ<|ρ×D):δ (Key×D):=l.foldl (λc p=>dput c (.inr p.1) p.2) []
theorem F8:∀{kvs:δ (ρ×D)}{ys:δ V},RvAll K H (kvs.map F7) ys->∃d:δ (ρ×V),Prs H ys d/\∀c a,cK K H c a->cK K H (kvs.foldl (λc p=>dput c (.inr p.1) p.2) c) (d.foldl (λc p=>putK c (.inr p.1) p.2) a)|[],ys,h=>(by rw[h.nil];show{[],{rfl,λi x p e=>(by cases i<;>cases e)},λc a h=>h})|p::kvs,ys,h=>by let⟨y,ys,rfl,r1,r2⟩:=h.cons;let⟨b,zs,rfl,hb,m⟩:=Rv.tup<|show Rv K H (.tup [.str p.1,p.2]) y from r1;let⟨v,u,rfl,l,g⟩:=m.two;have n:=l.str;subst n;let⟨d,⟨hl,hp⟩,j⟩:=F8 r2;show{(p.1,u)::d,{by rw[zM,zM,hl],λi x q e1 e2=>?_},λc a h=>j _ _<|h.put (.inr p.1) g};cases i with|zero=>(cases e1;cases e2;show⟨b,rfl,hb⟩)|succ i=>show hp i x q e1 e2
def Xg:δ D->av->KD->Prop:=λds S R=>∃kvs:δ (ρ×D),ds=[.tup<|kvs.map F7]/\∀p,S p=ϐ->R (.ref p) (S.set p<|.b_<|ia kvs)
def Ks:iD K (.type "dict") Xg:=by rintro X n i qe s σ H xs us Q I j ⟨ds,S,R,r,g,⟨kvs,e,h⟩,o⟩;subst n e;let⟨v,rfl,m⟩:=r.one;let⟨a,ys,rfl,q,t⟩:=m.tup;let⟨d,hp,p⟩:=F8 t;show DZ i qe s σ H _ us Q I j {a,ys,d,rfl,q,hp,λl hl=>?_};have kn:Kp X.K H (upd H l<|.dK<|FR d):=.new hl;show o _ _ _ _ (h l<|g.fresh hl) (i7 l) (g.new (c:=.b_<|ia kvs) hl {_,aF,(p [] [] .nil).ts kn}) kn
def BE(kvs:δ<|Key×D)(k k':Key)(d:D):bL (dput kvs k d) k'=if k'=k then some d else bL kvs k':=by
 unfold dput;by_cases c:(kvs.any λa=>ω<|a.1=k)=ϱ;rw[qc c];unfold bL;induction kvs with|nil=>(cases c)|cons r kvs h=>rw[zD,zZ,zZ];by_cases e:r.1=k;rw[qc e];by_cases e2:k'=k;rw[qc e2,show ω (r.1=k')=ϱ from zu (e.trans e2.symm)];rfl;rw[qa e2,show ω (r.1=k')=ϰ from zt λq=>e2<|q.symm.trans e];by_cases g:(kvs.any λa=>ω<|a.1=k)=ϱ;have:=h g;rw[qa e2]at this;show this;have i:kvs.map (λa=>if a.1=k then (a.1,d) else a)=kvs:=(by(conv=>rhs;rw[<-List.map_id kvs]);show z0 λx hx=>?_;rw[qa λq=>g<|List.any_eq_true.mpr {x,hx,zu q}];rfl);rw[i];rw[qa e];have g:(kvs.any λa=>ω<|a.1=k)=ϱ:=(by rw[yZ,zt e,xc]at c;show c);by_cases e3:r.1=k';rw[zu e3,qa λq=>e<|e3.trans q];rw[zt e3];show h g
 rw[qa c];unfold bL;rw[List.find?_append];have hn:∀x∈kvs,x.1≠k:=λx hx q=>c<|List.any_eq_true.mpr {x,hx,zu q};by_cases e:k'=k;subst e;rw[qc rfl,List.find?_eq_none.mpr λx hx=>by simp[hn x hx]];simp;rw[qa e];have:([(k,d)].find? λa=>ω<|a.1=k')=ϐ:=by rw[zZ,show ω (k=k')=ϰ from zt λq=>e q.symm];rfl
 rw[this,Option.or_none]
def wH(l:δ<|ρ×D)(z:ρ):(bL (ia l)<|.inr z).isSome=l.any λp=>ω (p.1=z):=by
 have all:∀(l:δ (ρ×D))(c:δ (Key×D)),(bL (l.foldl (λc p=>dput c (.inr p.1) p.2) c)<|.inr z).isSome=((bL c<|.inr z).isSome||l.any λp=>ω<|p.1=z):=by intro l;induction l with|nil=>intro c;simp|cons p l a=>intro c;rw[yV,a,BE,yZ];by_cases e:p.1=z;rw[qc<|by rw[e],zu e];simp;rw[qa λq=>e (yT q).symm,zt e];simp
 show(all l []).trans<|by rfl
def Xh(a:ε)(kvs:δ<|ρ×V):vt:=λx y S R=>∃z,x=.str z/\y=.ref a/\R (.bl (kvs.lookup z).isSome) S
def cmk{X:Cx}{a b:Δ}{ta tb:TD}{pos:Pos}{w:Ω}{ad:ε}{kvs:δ<|ρ×V}(d:JU w K ad kvs)(ha:DE K X a ta)(hb:DE K X b tb)(hw:ψ (X.w=w) qQJ)(hm:ψ (behindInMarks .In b=ϰ) qQ2)(g:ψ (X.K=K) qQJ): DE K X (.Compare a [.In] [b] pos) (J3 (Xh ad kvs) ta tb):=by show⟨λy=>(FJ (X:=y.cx) (r:=Lr K<|Xh ad kvs) ?_ (ha.of y) (hb.of y) hm).mono λt t t h=>h.op⟩;rintro qe s σ H x i v u Q I c n ⟨p,e,S,R,m,j,l,⟨z,e1,e2,h⟩,o⟩;subst e1 e2;show JV (X:=y.cx) hw g qe s σ H x i v u Q I c n {z,ad,kvs,m.str,j.ref,d,o.now l h<|bP _}
end
structure Xi(k:π)(A:ϕ):η where
 dp:A.depth+3*k+5<recursionLimit
 un:A.units+16*k+200<cLine
structure FnH(P:Ψ)(w:Ω)(K:Φ)(mg:ρ->θ ξ)(base:Γ)(k:π)(f:ε)(fd:FuncData)(ps:δ ρ)(sp:jb):η where
 len:∀ds S R Z,sp ds S R Z->ds.length=ps.length
 run:∀(A:ϕ)(outer:δ Env)(s:ζ)(H:Hp)(args:Args)(us:δ ξ)(vs:δ V)(Q:VK),Xi k A->xr P w K mg base A outer s H->BindsTo s fd args (ps.zip us)->Vals vs us->qH K sp vs H Q E0 ->
  codeAny (model P w) A (.call (.ref f) args) (CR (fz P w mg) outer P w H s Q E0) s
def PEg(pre:π)(X:Cx)(e:Δ)(t:TE):Prop:=∀(qe:δ (ε×Obj))(s:ζ)(σ:St)(H:Hp)(Q:VK),Inv X qe σ H s->pre<=s.toks->t σ H Q->wpAny `m X.A (eval e X.env) (λu s'=>EP X qe σ Q u s'/\1<=s'.toks) X.xe s
structure DEg(pre:π)(K:Φ)(X:Cx)(e:Δ)(t:TD):η where
 of:∀{b:χ}(y:Ev X b),PEg pre y.cx e<|T K y.E t
def abI{a b:ρ}(h:a.cps.toList=b.cps.toList):a=b:=by let⟨⟨x⟩⟩:=a;let⟨⟨y⟩⟩:=b;cases h;rfl
end L2
namespace HT
open PySem PySem.Spec PyProof.Rows
end HT
namespace L2
open PySem PySem.Spec PyProof.Rows
section
variable{K:Φ}{X:Cx}
def Xj:IZ:=λx ds S R=>∃a es fs,x=.ref a/\ds=[.tup fs]/\S a=ϑ (.lst es)/\es.length+fs.length<=Ϙ/\R .aA (S.set a<|.lst<|es++fs)
def HR:PN K "list.extend" Xj:=by rintro X o qe s σ H x xs v us Q I e rs ⟨d,ds,S,R,i,j,c,⟨a,es,fs,e1,e2,e3,hl,h⟩,m⟩;subst e1 e2;let⟨n,rfl,g⟩:=j.one;let⟨zs,l,t⟩:=c.lst e3;let⟨p,ys,rfl,q,t2⟩:=g.tup;show Eb qe s σ H x _ v us Q I e rs {a,p,zs,ys,i.ref,rfl,l,q,by rw[t.len,t2.len];show hl,m.put c e3 h j8<|t.app t2}
end
section
variable{K:Φ}{X:Cx}{E:XK}
structure DEx(K:Φ)(X:Cx)(E:XK)(e:Δ)(t:TD):η where
 of:∀(y:Ev X true),y.E=(λz=>E)->dh y.cx E->PE y.cx e (T K y.E t)
structure DAx(K:Φ)(X:Cx)(E:XK)(es:δ Δ)(t:iC):η where
 of:∀(y:Ev X true),y.E=(λz=>E)->dh y.cx E->PA y.cx es (Ta K y.E t)
structure DSx(K:Φ)(X:Cx)(E:XK)(b:δ Stmt)(t:lV):η where
 of:∀(y:Ev X true),y.E=(λz=>E)->dh y.cx E->Dj y.cx b (Tl K y.E t)
variable{N:δ ρ}{src:δ (θ π)}{scope:Scope}{tg iter elt:Δ}{ifs:δ Δ}{ti:xQ}{g:TG}{gd:C3}{tc:lT}{te:TD}
end
theorem px(c:Heap.ExtBut b h h')(n:a≠b)(x:h.IsListIter a l i):h'.IsListIter a l i:=x.extBut c n
def F9{h h':Γ}{a l:ε}{i:π}(k:∀o,h.get? a=ϑ o->h'.get? a=ϑ o)(x:h.IsListIter a l i):h'.IsListIter a l i:=by let⟨o,e,r⟩:=x;show{o,k o e,r}
def fN(x:PlainL h a aC):h.IsList a aC:=by let⟨o,n,e,c,_,d⟩:=x;show⟨o,e,c,n,d⟩
def wI(x:PlainL h a aC):a<h.objs.size:=by let⟨_,_,e,_⟩:=x;show zw e
open PySem.Builtin PySem.Builtin.Str
structure M3(X:Cx)(o:Δ)(m:ρ)(apos:Pos)(e f g:Δ)(aV:Pos):η where
 base:attributeBase o m X.env (eval o X.env)=eval o X.env
 IV:((backTo aV<|starEach [e,f,g] X.env).all (λx=>!x.1)&&(backToKw aV<|keywordEach [] X.env).all (λx=>x.1.isSome)
  && ω (([e,f,g]:δ Δ).length+([]:δ Keyword).length+(if ([]:δ Keyword).isEmpty then 0 else 1)<30))=ϱ
 line:(apos.endLine==aV.line)=ϱ
 trees:backTo aV (starEach [e,f,g] X.env)=[`j,(false,eval f X.env),(false,eval g X.env)]
section
variable{X:Cx}{t:TE}
def PAg(pre:π)(X:Cx)(es:δ Δ)(t:TA):Prop:=∀(pos:Pos)(qe:δ (ε×Obj))(s:ζ)(σ:St)(H:Hp)(Q:δ V->Hp->η),Inv X qe σ H s->pre<=s.toks->t σ H Q->wpAny `m X.A (spliced<|backTo pos<|starEach es X.env) (AP X qe σ Q) X.xe s
end
section
variable{K:Φ}{X:Cx}
structure DAg(pre:π)(K:Φ)(X:Cx)(es:δ Δ)(t:iC):η where
 of:∀{b:χ}(y:Ev X b),PAg pre y.cx es<|Ta K y.E t
end
structure Gh(a₀:Array Keyed)(g:π->π)(xs:Array Keyed):η where
 at_:∀k,k<a₀.size->xs[k]?=a₀[g k]?
 lt:∀k,k<a₀.size->g k<a₀.size
 inj:∀i j,i<a₀.size->j<a₀.size->g i=g j->i=j
def Log(κ:KeyKind)(a₀:Array Keyed)(i j:π):Prop:=κ.klt (KK κ a₀ i) (KK κ a₀ j)\/(KK κ a₀ i=KK κ a₀ j/\i<j)
def Ef(κ:KeyKind)(a₀:Array Keyed)(g:π->π)(k:π):Prop:=∀i j,i<j->j<k->Log κ a₀ (g i) (g j)
def Y8(κ:KeyKind)(a₀:Array Keyed)(g:π->π)(k:π):Prop:=∀i j,i<j->j<k->Log κ a₀ (g j) (g i)
def HS(g:π->π)(m n:π):Prop:=∀k,m<=k->k<n->g k=k
noncomputable def Kt(g:π->π)(i j k:π):Nat:=if i<=k/\k<j then g (i+j-1-k) else g k
noncomputable def NU(g:π->π)(src l k:π):Nat:=if k=l then g src else if l<k/\k<=src then g (k-1) else g k
section
variable{κ:KeyKind}{a₀ xs:Array Keyed}{g:π->π}
def Log.kle(h:Log κ a₀ i j):κ.kle (KK κ a₀ i) (KK κ a₀ j):=by rcases h with h|⟨h,_⟩;show KeyOrd.kle_of_klt h;rw[h];show KeyOrd.kle_refl _
def P1(h:κ.kle (KK κ a₀ i)<|KK κ a₀ j)(hl:i<j):Log κ a₀ i j:=by cases q:κ.blt (KK κ a₀ i) (KK κ a₀ j) with|true=>show .inl q|false=>show .inr {KeyOrd.kle_antisymm h q,hl}
def Gh.low(h:Gh a₀ g xs)(t:HS g m a₀.size)(hm:m<=a₀.size)(hi:i<m):g i<m:=by show Nat.lt_of_not_le λq=>?_;have h1:=h.lt i<|zq ‹_› ‹_›;have h2:=h.inj (g i) i h1 `b<|t (g i) q h1;lia
theorem Gh.key(h:Gh a₀ g xs)(a:k<a₀.size):KK κ xs k=KK κ a₀ (g k):=KK_congr<|h.at_ k a
theorem Gh.mirror(h:Gh a₀ g xs)(hs:xs.size=a₀.size)(hj:j<=a₀.size):Gh a₀ (Kt g i j) (mirror xs i j<|(j-i)/2) where
 at_:=λk hk=>by
  rw[getElem?_mirror_all<|`b]
  unfold Kt
  by_cases q:i<=k/\k<j
  ·rw[qc q,qc q];show h.at_ _<|`b
  ·rw[qa q,qa q];show h.at_ _ hk
 lt:=λk hk=>by
  unfold Kt
  by_cases q:i<=k/\k<j
  ·rw[qc q];show h.lt _<|`b
  ·rw[qa q];show h.lt _ hk
 inj:=λa b ha hb e=>by
  unfold Kt at e
  by_cases q:i<=a/\a<j<;>by_cases r:i<=b/\b<j
  ·rw[qc q,qc r]at e;have:=h.inj _ _ `b `b e;lia
  ·rw[qc q,qa r]at e;have:=h.inj _ _ `b (Nat.lt_of_succ_le ‹_›) e;lia
  ·rw[qa q,qc r]at e;have:=h.inj _ _ `b `b e;lia
  ·rw[qa q,qa r]at e;show h.inj _ _ ha hb e
theorem Gh.bubble(h:Gh a₀ g xs)(hs:xs.size=a₀.size)(hl:l<=src)(hj:src<a₀.size):Gh a₀ (NU g src l) (bubble xs src<|src-l) where
 at_:=λk hk=>by
  rw[getElem?_bubble `b _<|Nat.sub_le _ _,show src-(src-l)=l by lia]
  unfold NU
  by_cases q:k=l
  ·rw[qc q,qc q];show h.at_ _ hj
  ·rw[qa q,qa q]
   by_cases r:l<k/\k<=src
   ·rw[qc r,qc r];show h.at_ _<|zR (Nat.sub_le _ _) ‹_›
   ·rw[qa r,qa r];show h.at_ _ hk
 lt:=λk hk=>by
  unfold NU
  by_cases q:k=l
  ·rw[qc q];show h.lt _ hj
  ·rw[qa q]
   by_cases r:l<k/\k<=src
   ·rw[qc r];show h.lt _<|`b
   ·rw[qa r];show h.lt _ hk
 inj:=λa b ha hb e=>by
  unfold NU at e
  repeat' split at e
  all_goals (have:=h.inj _ _ `b `b e;lia)
def jc(h:i<=k/\k<j):Kt g i j k=g (i+j-1-k):=by unfold Kt;rw[qc h]
def gM(h:¬(i<=k/\k<j)):Kt g i j k=g k:=by unfold Kt;rw[qa h]
end
section
variable{prog:Ψ}{w:Ω}{A:ϕ}{E:ξ->ζ->η}{s:ζ}{a₀:Array Keyed}{κ:KeyKind}
def P2{st:SortSt}{g:π->π}{a top:π}{Q:AscSt->SortSt->η}(o:κ.OneLt)(h0:KeysOf κ a₀)(C:top<=a₀.size)(h1:1<=a)(h2:a<=top)(B:SBase a₀ st)(G:Gh a₀ g<|arrOf st)(T:HS g a a₀.size)(U:Ef κ a₀ g a) (h:∀n,a<=n->n<=top->Ef κ a₀ g n->(n=top\/κ.klt (KK κ a₀<|g n) (KK κ a₀<|g<|n-1))->Q (none,n) st):wpS `n A E s (ascLoop a top) Q st:=by
 unfold ascLoop;show wpS_forRange (I:=λx c t=>t=st/\c=(none,x)/\Ef κ a₀ g x) ?_ ?_ ⟨rfl,rfl,U⟩;rintro x c t d v ⟨rfl,rfl,V⟩;dsimp only;show wpS_bind<|wpS_ltKK o B h0 (zq ‹_› ‹_›) `b ?_;rw[G.key<|`b,G.key<|`b];cases q:κ.blt (KK κ a₀<|g x) (KK κ a₀<|g<|x-1) with|true=>show wpS_pure (h x d (Nat.le_of_succ_le ‹_›) V<|.inr q)|false=>show wpS_pure {rfl,rfl,λi j e p=>?_};rcases Nat.lt_or_ge j x with z|z;show V i j e z;obtain rfl:j=x:=`b;have lw:=G.low (m:=j) (λk r l=>T k (zj ‹_› ‹_›) l) `b e;rw[T j d<|`b]at q⊢;show P1 ?_ lw;rcases Nat.lt_or_ge i (j-1) with y|y;show KeyOrd.kle_trans (V i (j-1) y<|`b).kle q;obtain rfl:i=j-1:=`b;show q
 rintro c t ⟨rfl,rfl,V⟩;rw[show max a top=top by lia]at V⊢;show h top h2 (zm _) V<|.inl rfl
def Ku{st:SortSt}{g:π->π}{n top:π}{Q:θ π->SortSt->η}(p:κ.OneLt)(h0:KeysOf κ a₀)(r:top<=a₀.size)(h1:1<=n)(h2:n<=top)(B:SBase a₀ st)(G:Gh a₀ g<|arrOf st)(T:HS g n a₀.size)(D:Y8 κ a₀ g n) (h:∀m g' ee,SBase a₀ ee->Gh a₀ g' (arrOf ee)->HS g' m a₀.size->1<=m->m<=top->Ef κ a₀ g' m->Q (some m) ee):wpS `n A E s (tail3 n top) Q st:=by
 unfold tail3;show wpS_bind<|wpS_reverse ?_;have e:SBase a₀ (setArr st<|mirror (arrOf st) 0 n<|(n-0)/2):=B.setArr<|mirror_perm _ _ _ _;have l:Gh a₀ (Kt g 0 n) (arrOf<|setArr st<|mirror (arrOf st) 0 n<|(n-0)/2):=G.mirror B.size<|zj ‹_› ‹_›;have c:HS (Kt g 0 n) n a₀.size:=λk d a=>by rw[gM<|`b];show T k d a
 show wpS_bind<|P2 p h0 r h1 h2 e l c (λi j v x=>?_) λm t o V z=>wpS_pure<|h m _ _ e l (λk d a=>c k `b a) `b o V;rw[jc<|`b,jc<|`b];show D _ _ `b<|`b
structure Mw(κ:KeyKind)(a₀:Array Keyed)(g:π->π)(x q:π):η where
 le:q+1<=x
 tl:HS g (x-(q+1)) a₀.size
 dn:∀i j,i<j->j<x->i<x-(q+1)->Log κ a₀ (g j) (g i)
 eq:∀i,x-(q+1)<=i->i<x->KK κ a₀ (g i)=KK κ a₀ (g<|x-1)
theorem Mw.full(F:Mw κ a₀ g x q)(hx:x<=a₀.size):Y8 κ a₀ (Kt g (x-(q+1)) x) x:=λi j a c=>by have le:=F.le;by_cases hi:i<x-(q+1);rw[gM (k:=i)<|`b];by_cases d:j<x-(q+1);rw[gM<|`b];show F.dn i j a c hi;rw[jc<|`b];show F.dn i _ `b `b hi;rw[jc<|`b,jc<|`b];show .inr {(F.eq _ `b<|`b).trans (F.eq _ `b<|`b).symm,?_};rw[F.tl _ `b<|`b,F.tl _ `b<|`b];lia
theorem Mw.P4(F:Mw κ a₀ g x 0):Y8 κ a₀ g x:=λi j c a=>F.dn i j c a<|`b
theorem Mw.next(D:Y8 κ a₀ g x)(T:HS g x a₀.size)(hx:x<a₀.size)(h1:1<=x)(hl:κ.klt (KK κ a₀<|g x)<|KK κ a₀<|g<|x-1):Mw κ a₀ g (x+1) 0 where
 le:=`b
 tl:=λk hk eY=>T k `b eY
 dn:=λi j mJ hj hi=>by
  by_cases Y9:j<x
  ·show D i j mJ Y9
  ·obtain rfl:j=x:=`b
   show .inl ?_
   by_cases q:i=j-1
   ·rw[q];show hl
   ·show KeyOrd.klt_of_klt_of_kle hl (D i (j-1) `b<|Nat.sub_lt ‹_› `a).kle
 eq:=λi hi hj=>by rw[show i=x+1-1 by lia]
set_option tactic.hygienic true in
def SI{st:SortSt}{g:π->π}{n top:π}{Q:DescSt->SortSt->η}(p:κ.OneLt)(h0:KeysOf κ a₀)(L:top<=a₀.size)(h1:1<=n)(h2:n<=top)(B:SBase a₀ st)(G:Gh a₀ g<|arrOf st)(F:Mw κ a₀ g n 0) (h:∀m q g' ee,SBase a₀ ee->Gh a₀ g' (arrOf ee)->n<=m->m<=top->Mw κ a₀ g' m q->Q (none,m,q) ee):wpS `n A E s (descLoop n top) Q st:=by
 unfold descLoop;show wpS_forRange (I:=λx c t=>∃q g',c=(none,x,q)/\SBase a₀ t/\Gh a₀ g' (arrOf t)/\Mw κ a₀ g' x q) ?_ ?_ {0,g,rfl,B,G,F};rintro x c t v K ⟨q,g',rfl,d,a,F'⟩;have le:=F'.le;dsimp only;show wpS_bind<|wpS_ltKK p d h0 `b `b ?_;rw[a.key<|`b,a.key<|`b];cases hl:κ.blt (KK κ a₀<|g' x) (KK κ a₀<|g'<|x-1) with|true=>(simp only[if_true];by_cases hq:q>0;rw[qc hq];show wpS_bind<|wpS_reverse<|wpS_pure {0,_,rfl,d.setArr<|mirror_perm _ _ _ _,a.mirror d.size<|`b,?_};show .next (F'.full<|`b) (λk o l=>?_) `b `b ?_;rw[gM<|`b];show F'.tl k `b l;rw[gM<|`b,jc<|`b,F'.eq (x-(q+1)+x-1-(x-1)) `b<|`b];show hl;rw[qa hq];obtain rfl:q=0:=`b;show wpS_pure {0,g',rfl,d,a,.next F'.P4 (λk o l=>F'.tl k `b l) `b `b hl})|false=>simp only[Bool.false_eq_true,if_false];show wpS_bind<|wpS_ltKK p d h0 `b `b ?_;rw[a.key<|`b,a.key<|`b];cases J:κ.blt (KK κ a₀<|g'<|x-1) (KK κ a₀<|g' x) with|true=>show wpS_pure (h x q g' t d a v `b F')|false=>have e:KK κ a₀ (g' x)=KK κ a₀ (g'<|x-1):=KeyOrd.kle_antisymm J hl;show wpS_pure {q+1,g',rfl,d,a,{`b,λk o l=>F'.tl k `b l,λi j r C hi=>?_,λi hi C=>?_}};by_cases y:j<x;show F'.dn i j r y `b;obtain rfl:j=x:=`b;have:=F'.dn i (j-1) `b `b `b;rcases this with z|⟨_,z⟩;show .inl (by rw[e];show z);rw[F'.tl (j-1) `b<|`b]at z;have:=a.low (m:=j-(q+1)) F'.tl `b (i:=i) `b;lia;rw[show x+1-1=x by lia];by_cases H:i=x;rw[H];rw[e];show F'.eq i `b<|`b
 rintro c t ⟨q,g',rfl,d,a,F'⟩;rw[show max n top=top by lia]at F'⊢;show h top q g' t d a h2 (zm _) F'
def Kv{st:SortSt}{g:π->π}{n top:π}{Q:θ π->SortSt->η}(c:κ.OneLt)(h0:KeysOf κ a₀)(d:top<=a₀.size)(h2:n+1<=top)(B:SBase a₀ st)(G:Gh a₀ g<|arrOf st)(F:Mw κ a₀ g (n+1) 0) (h:∀m g' ee,SBase a₀ ee->Gh a₀ g' (arrOf ee)->HS g' m a₀.size->1<=m->m<=top->Ef κ a₀ g' m->Q (some m) ee):wpS `n A E s (descPart n top) Q st:=by
 unfold descPart;show wpS_bind<|wpS_lift<|y7 {rfl,?_};show wpS_bind<|SI c h0 d (xb _) h2 B G F λm q g' ee e j o i F'=>?_;have le:=F'.le;dsimp only;by_cases hq:q>0;rw[qc hq];show wpS_bind<|wpS_reverse<|Ku c h0 d (y9 ‹_› ‹_›) i (e.setArr<|mirror_perm _ _ _ _) (j.mirror e.size<|zj ‹_› ‹_›) (λk l a=>?_) (F'.full<|`b) h;rw[gM<|`b];show F'.tl k `b a;rw[qa hq];obtain rfl:q=0:=`b
 show Ku c h0 d `b i e j (λk l a=>F'.tl k (zj (Nat.sub_le _ _) ‹_›) a) F'.P4 h
set_option tactic.hygienic true in
def Xk{st:SortSt}{g:π->π}{top:π}{Q:θ π->SortSt->η}(e:κ.OneLt)(h0:KeysOf κ a₀)(p:top<=a₀.size)(h1:1<=top)(B:SBase a₀ st)(G:Gh a₀ g<|arrOf st)(T:HS g 0 a₀.size) (h:∀m g' ee,SBase a₀ ee->Gh a₀ g' (arrOf ee)->HS g' m a₀.size->1<=m->m<=top->Ef κ a₀ g' m->Q (some m) ee):wpS `n A E s (countRun' 0 top) Q st:=by
 rw[countRun0_eq];show wpS_bind<|P2 e h0 p (zm 1) h1 B G (λk d a=>T k (zU _) a) (λi j t x=>by lia) λn C y U r=>?_;dsimp only;have l:∀m,HS g m a₀.size:=λm k d a=>T k `b a;by_cases o:n=top;rw[qc<|by simpa using o];show wpS_pure<|h n g st B G (l n) C y U;rw[qa<|by simpa using o];have v:=r.resolve_left o;by_cases c:n>1;rw[qc c];show wpS_bind<|wpS_ltKK e B h0 `b `b ?_;rw[G.key<|`b,G.key<|`b];cases hr:κ.blt (KK κ a₀<|g 0) (KK κ a₀<|g<|n-1) with|true=>show wpS_pure (h n g st B G (l n) C y U)|false=>simp only[Bool.false_eq_true,if_false];have all:∀k,k<n->KK κ a₀ (g k)=KK κ a₀ (g<|n-1):=λk d=>(by have H:κ.kle (KK κ a₀<|g 0) (KK κ a₀<|g k):=(by by_cases z:k=0;rw[z];show KeyOrd.kle_refl _;show(U 0 k (Nat.pos_of_ne_zero ‹_›) d).kle);have F:κ.kle (KK κ a₀<|g k) (KK κ a₀<|g<|n-1):=(by by_cases z:k=n-1;rw[z];show KeyOrd.kle_refl _;show(U k (n-1) `b<|`b).kle);show KeyOrd.kle_antisymm F<|KeyOrd.kle_trans hr H);show wpS_bind<|wpS_reverse<|Kv e h0 p (Nat.lt_of_le_of_ne ‹_› ‹_›) (B.setArr<|mirror_perm _ _ _ _) (G.mirror B.size<|zj ‹_› ‹_›) ?_ h;show .next (λi j t x=>?_) (λk d a=>by rw[gM<|`b];show T k `b a) `b (Nat.le_of_succ_le ‹_›) ?_;rw[jc<|`b,jc<|`b];show .inr {(all _<|`b).trans (all _<|`b).symm,?_};rw[T _ `b<|`b,T _ `b<|`b];lia;rw[gM<|`b,jc<|`b,all (0+n-1-(n-1))<|`b];show v
 rw[qa c];obtain rfl:n=1:=`b
 show Kv e h0 p `b B G (.next (λi j t x=>by lia) (l 1) `b `b v) h
def Xm{st:SortSt}{g:π->π}{n ok:π}{Q:χ->SortSt->η}(Y:κ.OneLt)(h0:KeysOf κ a₀)(hn:n<=a₀.size)(aM:ok<=n)(B:SBase a₀ st)(G:Gh a₀ g<|arrOf st)(T:HS g ok a₀.size)(U:Ef κ a₀ g ok) (h:∀g' ee,SBase a₀ ee->Gh a₀ g' (arrOf ee)->Ef κ a₀ g' n->Q true ee):wpS `n A E s (binarySort' 0 n ok) Q st:=by
 rw[binarySort'_eq];simp only[Nat.zero_add];show wpS_bind<|wpS_mono (wpS_forRange (I:=λk c t=>c=(none,())/\∃g',SBase a₀ t/\Gh a₀ g' (arrOf t)/\HS g' k a₀.size/\Ef κ a₀ g' (min k n)) (Q:=λc t=>c=(none,())/\∃g',SBase a₀ t/\Gh a₀ g' (arrOf t)/\Ef κ a₀ g' n) ?_ ?_ ?_) ?_;rintro k c t M C ⟨rfl,g',m,d,p,V⟩;rw[show min k n=k by lia]at V;have o:k<a₀.size:=`b
 show wpS_bind<|wpS_mono (wpS_forRange (I:=λx c t2=>t2=t/\∃l r,c=(none,l,r)/\l<=r/\r<=k/\r-l<=k-x/\(∀i,i<l->κ.kle (KK κ a₀<|g' i) (KK κ a₀<|g' k))/\(∀i,r<=i->i<k->κ.klt (KK κ a₀<|g' k) (KK κ a₀<|g' i))) (Q:=λc t2=>t2=t/\∃l r,c=(none,l,r)/\l<=k/\(∀i,i<l->κ.kle (KK κ a₀<|g' i) (KK κ a₀<|g' k))/\(∀i,l<=i->i<k->κ.klt (KK κ a₀<|g' k) (KK κ a₀<|g' i))) ?_ ?_ ?_) ?_;rintro x c t2 _ S ⟨rfl,l,r,rfl,P,e,hm,lo,hi⟩;dsimp only;by_cases J:l>=r;rw[qc J];obtain rfl:l=r:=`b
 show wpS_pure ⟨rfl,l,l,rfl,e,lo,hi⟩;rw[qa J];show wpS_bind<|wpS_ltKK Y m h0 o `b ?_;rw[d.key o,d.key<|`b];cases hl:κ.blt (KK κ a₀<|g' k) (KK κ a₀<|g'<|(l+r)/2) with|true=>show wpS_pure {rfl,l,(l+r)/2,rfl,`b,`b,`b,lo,λi a b=>?_};by_cases z:i=(l+r)/2;rw[z];show hl;show KeyOrd.klt_of_klt_of_kle hl (V _ _ `b b).kle|false=>show wpS_pure {rfl,(l+r)/2+1,r,rfl,`b,`b,`b,λi a=>?_,hi};by_cases z:i=(l+r)/2;rw[z];show hl;show KeyOrd.kle_trans (V i ((l+r)/2) `b<|`b).kle hl
 rintro c t2 ⟨rfl,l,r,rfl,P,e,hm,lo,hi⟩;obtain rfl:l=r:=`b
 show⟨rfl,l,l,rfl,e,lo,hi⟩;show{rfl,0,k,rfl,`b,by show zm _,by show Nat.sub_le _ _,λi hi=>by lia,λi a b=>by lia};rintro c t2 ⟨rfl,l,r,rfl,O,lo,hi⟩;change wpS _ _ _ _ (do moveDown' k l;pure (ForInStep.yield (none,()))) _ _;rw[moveDown'_eq];show wpS_bind<|wpS_modify<|wpS_pure {rfl,_,m.setArr<|bubble_perm _ _ _,d.bubble m.size O o,λx Z N=>?_,?_};change NU g' k l x=x;unfold NU;rw[qa<|`b,qa<|`b];show p x `b N;rw[show min (k+1) n=k+1 by lia];have lw:∀i,i<k->g' i<k:=λi q=>d.low p `b q;have R:=p k (zm _) o;intro i j F X;change Log κ a₀ (NU g' k l i) (NU g' k l j);unfold NU;by_cases H:i=l;rw[qc H,qa<|`b,qc<|`b];show .inl<|hi _ `b `b;rw[qa H];by_cases K:j=l;rw[qc K,qa<|`b];have h1:=lo i `b;have h2:=lw i `b;rw[R]at h1⊢;show P1 h1 h2;rw[qa K];by_cases v:l<i/\i<=k<;>by_cases y:l<j/\j<=k;rw[qc v,qc y];show V _ _ `b `b;lia;rw[qa v,qc y];show V _ _ `b `b;rw[qa v,qa y];show V _ _ (Nat.lt_of_succ_le ‹_›) `b;rintro c t ⟨L,g',m,d,p,V⟩;show{L,g',m,d,?_};rwa [show min (max (max ok 1) n) n=n by lia]at V;show{rfl,g,B,G,λk o C=>T k `b C,λi j F X=>?_};show U i j F `b;rintro c t ⟨rfl,g',m,d,V⟩;show wpS_pure<|h g' t m d V
def SJ(κ:KeyKind)(a₀:Array Keyed)(st:SortSt):Prop:=failedOf st=ϐ/\pendingOf st=#[(0,a₀.size,0)]/\∃g,(arrOf st).size=a₀.size/\Gh a₀ g (arrOf st)/\Ef κ a₀ g a₀.size
def SK{st:SortSt}{Q:Unit->SortSt->η}(p:κ.OneLt)(h0:KeysOf κ a₀)(B:SBase a₀ st)(y:arrOf st=a₀)(h2:2<=a₀.size)(H:a₀.size<64) (h:∀ee g,failedOf ee=ϐ->(arrOf ee).size=a₀.size->Gh a₀ g (arrOf ee)->Ef κ a₀ g a₀.size->Q () ee):wpS `n A E s sortRuns' Q st:=by
 have G:Gh a₀ (λk=>k) (arrOf st):={λk u=>by rw[y],λk P=>P,λu u u u e=>e};have a:∀(t:SortSt)(g:π->π),SBase a₀ t->Gh a₀ g (arrOf t)->Ef κ a₀ g a₀.size->SJ κ a₀ (setPending t<|(pendingOf t).push (0,a₀.size,0)):=λt g i J U=>{i.failed,by change(pendingOf t).push _=_;rw[i.pend];rfl,g,i.size,J,U};rw[sortRuns'_eq];show wpS_bind<|wpS_get ?_;dsimp only;have hm:minRun' a₀.size a₀.size 0=a₀.size:=by obtain⟨f,Y⟩:∃f,a₀.size=f+1:={a₀.size-1,`b};have:minRun' (f+1) a₀.size 0=a₀.size:=(by rw[minRun'_succ,qc H];rfl);rwa [<-Y]at this
 simp only[B.size,hm];show wpS_bind<|wpS_mono (wpS_forRange (I:=λx c t=>(x=0/\c=(none,0)/\t=st)\/(1<=x/\c=(none,a₀.size)/\SJ κ a₀ t)) (Q:=λc t=>c=(none,a₀.size)/\SJ κ a₀ t) ?_ ?_<|.inl ⟨rfl,rfl,rfl⟩) ?_;rintro x c t _ hx (⟨rfl,rfl,rfl⟩|⟨Z,rfl,D⟩);dsimp only;rw[qa<|Nat.not_le_of_lt ‹_›];simp only[Nat.sub_zero,Nat.min_self,Nat.zero_add];show wpS_bind<|Xk p h0 (zm _) (Nat.lt_of_succ_le ‹_›) B G (λu u u=>rfl) λm X t2 d o C F O j=>?_;dsimp only;by_cases l:m<a₀.size;rw[qc l];show wpS_bind<|wpS_lift<|y7 {rfl,?_};show wpS_bind<|Xm p h0 (zm _) O d o C j λR t3 n N K=>?_;simp only[Bool.not_true,Bool.false_eq_true,if_false];show wpS_bind<|wpS_get ?_;rw[show(pendingOf t3).back?=none by rw[n.pend];rfl];dsimp only;show wpS_bind<|wpS_modify<|wpS_pure<|.inr {by show xb _,rfl,a t3 R n N K};rw[qa l];obtain rfl:m=a₀.size:=`b
 show wpS_bind<|wpS_get ?_;rw[show(pendingOf t2).back?=none by rw[d.pend];rfl];dsimp only;show wpS_bind<|wpS_modify<|wpS_pure<|.inr {by show xb _,rfl,a t2 X d o j};dsimp only;rw[qc<|zm _];show wpS_pure ⟨rfl,D⟩;rintro c t (⟨hx,_,_⟩|⟨_,r,D⟩);lia;show⟨r,D⟩;rintro c t ⟨rfl,D⟩;dsimp only;let⟨d1,L,g,S,M,v⟩:=D;show wpS_bind<|wpS_mono (wpS_forRange (I:=λu c t2=>t2=t/\c=(none,())) (Q:=λc t2=>t2=t/\c=(none,())) ?_ (λu u z=>z) ⟨rfl,rfl⟩) ?_;rintro x c t2 _ _ ⟨rfl,rfl⟩;show wpS_bind<|wpS_get ?_;rw[qc<|by rw[L];show zm 1];show wpS_pure ⟨rfl,rfl⟩;rintro c t2 ⟨rfl,rfl⟩;show wpS_pure<|h _ g d1 S M v
end
noncomputable abbrev NV(X:Cx)(qual:ρ)(scope:Scope)(L f:ε)(cv:ξ):Env:=envX qual scope L f cv<|clOf X.env.cells scope.names
noncomputable def UY(X:Cx)(N:δ ρ)(qual:ρ)(scope:Scope)(f:ε)(cv:ξ)(A:ϕ)(s:ζ)(H:Hp):Cx:={X with A:=A.deeper<|NV X qual scope s.heap.objs.size f cv,N:=N,cS:=s,rF:=H,env:=NV X qual scope s.heap.objs.size f cv,outer:=X.stack,stack:=NV X qual scope s.heap.objs.size f cv::X.stack,ex:=[],fn:=λz=>false,calm:=true,pn:=[],xe:=λz z=>False}
noncomputable abbrev BF(X:Cx)(qual:ρ)(params:Arguments)(body:Δ)(scope:Scope)(pm cv mK:ξ):Obj:={cls:=.type "function",data:=.func<|kla_fn "<lambda>" qual params body scope `i pm cv mK}
section
variable{X:Cx}{qe:δ (ε×Obj)}{σ:St}{H:Hp}{s:ζ}{N:δ ρ}{src:δ (θ π)}{scope:Scope}{params:Arguments}{body:Δ}{qual p:ρ}{pm cv mK u:ξ}{f:ε}{A:ϕ}{v:V}{te:TE}{Q:VK}
def NW(I:Inv X qe σ H s)(S:bZ X N src scope)(M:N[0]?=some p)(hp:scope.names.lookup p=ϑ .local)(h0:src[0]?=some none)(L:A.frames=ϑ X.stack)(J:A.handled=ϐ)(r:RelV v u) (F:h₁.Ns s.heap.objs.size λx=>[(p,u)].reverse.lookup x) (d:∀b o,s.heap.get? b=ϑ o->h₁.get? b=ϑ o): Inv (UY X N qual scope f cv A s H) [] ((pick σ src).set 0<|some v) H {s with heap:=h₁,toks:=tk}:=by
 have g:∀x c,(clOf X.env.cells scope.names).lookup x=ϑ c->X.env.cells.lookup x=ϑ c:=tw X.env.cells scope.names [] (by intro x c h;simp at h);have n:∀b:ε,b∉(UY X N qual scope f cv A s H).ex:=λb z=>absurd (show b∈([]:δ ε) from z) `d;have CW:∀x,scope.names.lookup x=ϑ .free->∃c,(clOf X.env.cells scope.names).lookup x=ϑ c:=λx hl=>by have hm:=ym hl;let⟨c,t⟩:=I.ok.has x<|S.CW _ hm rfl;show{c,j5 X.env.cells scope.names [] x c (by intro x c h;simp at h) hm t}
 show{{I.ok.mod,S.kind,rfl,rfl,zm _,λx y c h1 h2=>I.ok.inj x y c (g _ _ h1)<|g _ _ h2,λx a=>?_,λx c h=>(nomatch h),λZ=>J,Around.frames_deeper L,.inr ⟨rfl,rfl⟩,λb z=>absurd z<|n b,I.bs,zj I.ok.G5 I.sz,λb Z Z=>n b,λb z=>absurd z<|n b,I.stack,I.sj},rfl,I.bare,Un.kept d,{_,F,λi x w e1 e2 e3=>?_},λx c e=>?_,I.aM.fresh<|zm _,λx c e=>I.dH x c<|g x c e,λq hq=>absurd (show q∈([]:δ (ε×Obj)) from hq)<|`d,I.aM.kept d,?_};have a:scope.names.lookup x=ϑ .cell\/scope.names.lookup x=ϑ .free:=a;rcases a with a|a;show absurd rfl<|S.hW _<|ym a;show CW x a;have e1:N[i]?=some x:=e1;by_cases hi:i=0;subst hi;rw[M]at e1;cases e1;have hl:0<(pick σ src).length:=by unfold pick;rw[zc];show(zh.mp h0).1
 rw[List.getElem?_set_self hl]at e2;cases e2;show{u,r,.inl {hp,by simp[ye]}};rw[List.getElem?_set_ne<|Ne.symm hi]at e2;unfold pick at e2;rw[zx]at e2;cases es:src[i]? with|none=>(rw[es]at e2;cases e2)|some o=>rw[es]at e2;cases o with|none=>(cases e2)|some j=>have e3:(σ[j]?).join=ϑ w:=zQ e2;have e4:σ[j]?=some (some w):=(by cases q:σ[j]? with|none=>(rw[q]at e3;cases e3)|some z=>rw[q]at e3;show congrArg some e3);let⟨E,B,K⟩:=S.src i j x es e1;let⟨O,_,hl⟩:=I.loc;let⟨C,G,l⟩:=hl j x w E e4 K;have hm:=ym B;have a:=S.CW _ hm rfl;rcases l with⟨k,_⟩|⟨_,c,t,⟨o,m,hd⟩⟩;rcases a with a|a<;>(rw[k]at a;cases a);show{C,G,.inr {.inr B,c,j5 X.env.cells scope.names [] x c (by intro x c h;simp at h) hm t,o,d _ _ m,hd}}
 let⟨w,o,m,hd⟩:=I.cell x c<|g x c e;show{w,o,d _ _ m,hd};change((pick σ src).set 0<|some v).length=N.length;unfold pick;rw[List.length_set,zc,S.len]
def Kw(I:Inv X qe σ H s)(S:bZ X N src scope)(B:N[0]?=some p)(hp:scope.names.lookup p=ϑ .local)(h0:src[0]?=some none)(y:A.frames=ϑ X.stack)(i:A.handled=ϐ)(E:A.depth<recursionLimit)(r:RelV v u) (d:s.heap.get? f=ϑ (BF X qual params body scope pm cv mK)) (t:s.heap.CodeRec cv qual) (j:scope.isCoroutine=ϰ) (g:scope.isGenerator=ϰ) (hb:bindArgs (kla_fn "<lambda>" qual params body scope `i pm cv mK) {[u],[]}=pure [(p,u)]) (l:PE (UY X N qual scope f cv A s H) body te) (h:te ((pick σ src).set 0<|some v) H Q): codeAny `m A (.call (.ref f) {[u],[]}) (λq s'=>∃w,q=.ok (.ret w)/\CE X.stack X.prog X.w H s Q w s') s:=by show PySem.W.kla_callFunE E d rfl j g rfl t ?_;change wpAny _ _ (bindArgs (kla_fn "<lambda>" qual params body scope `i pm cv mK) {[u],[]}) _ _ _;rw[hb];show zp<|wpAny_newFunctionEnv S.hW (λx hx=>?_) (λC n c=>{I.nolimit.fresh _ c,?_}) S.kind;rw[zC.mp hx];show hp;have a:∀b o,s.heap.get? b=ϑ o->C.get? b=ϑ o:=λb o e=>c.extBut b o (zE<|zw e)<|za _ e;change codeAny _ _ (.expr body<|NV X qual scope s.heap.objs.size f cv) _ _;show PySem.W.kla_codeExpr<|yB (l [] _ _ H Q (NW I S B hp h0 y i r n a) h) (by rintro w s' ⟨x,H',J,m,q⟩;show⟨w,rfl,x,H',J.os,J.bare,J.base,J.aM,m,q⟩) λk k z=>z.elim
end
@[reducible] def intK:KeyKind where
 α:=ν
 blt a b:=ω<|a<b
 irrefl a:=`d
 trans a b c h1 h2:=by simp only[yr]at *;lia
 negTrans a b c h:=by simp only[yr]at *;lia
 total a b h1 h2:=by simp only[decide_eq_false_iff_not]at *;lia
 keyOf v:=match v with|.int x _=>some x|_=>none
 dflt:=0
def Ky:intK.OneLt:=by intro prog w A E s x y a b Q ha hb h;cases x<;>simp only[intK,reduceCtorEq,Option.some.injEq]at ha;cases y<;>simp only[intK,reduceCtorEq,Option.some.injEq]at hb;cases ha;cases hb;show oneLt_int h
structure Zb(κ:KeyKind)(b:χ)(key:π->κ.α)(n:π)(g:π->π):η where
 lt:∀k,k<n->g k<n
 inj:∀i j,i<n->j<n->g i=g j->i=j
 ord:∀i j,i<j->j<n->(if b=ϱ then κ.klt (key<|g j) (key<|g i) else κ.klt (key<|g i) (key<|g j))\/(key (g i)=key (g j)/\g i<g j)
noncomputable def jB(κ:KeyKind)(us:δ ξ)(j:π):κ.α:=(κ.keyOf<|us.getD j .none).getD κ.dflt
def Kz{us vs:δ ξ}(hl:us.length=vs.length){j:π}(a:j<vs.length):`h[j]?=some (us.getD j .none,vs.getD j .none):=by have e:(us.zip vs)[j]?=some (us.getD j .none,vs.getD j .none):=List.getElem?_zip_eq_some.mpr {by change us[j]?=some (us.getD j .none);rw[zJ,zg<|`b];rfl,by change vs[j]?=some (vs.getD j .none);rw[zJ,zg a];rfl};rw[<-Array.getElem?_toList,ksk_zip,List.toList_toArray];show e
def xT{κ:KeyKind}{us vs:δ ξ}(hl:us.length=vs.length){j:π}(a:j<vs.length):KK κ `h j=jB κ us j:=by unfold KK jB;rw[Kz hl a]
def BG{l m:δ ξ}{n:π}(h1:l.length=n)(h2:m.length=n)(h:∀k,k<n->l[k]?=m[k]?):l=m:=by apply List.ext_getElem?;intro k;by_cases a:k<n;show h k a;rw[List.getElem?_eq_none<|`b,List.getElem?_eq_none<|`b]
section
variable{prog:Ψ}{w:Ω}{A:ϕ}{E:ξ->ζ->η}{s:ζ}{a kS:ε}{b:χ}{us vs:δ ξ}{e e1:π}{P:PySem.Fin->ζ->η}{κ:KeyKind}
def Ga{st:SortSt}{keys:Array ξ}(r:s.heap.get? kS=ϑ (seqObj "list" keys e))(ha:s.heap.get? a=ϑ (seqObj "list" #[] e1))(m:kS≠a)(hz:keys.size<64)(j:(arrOf st).size<64)(p:failedOf st=ϐ) (h:∀h' c,(∀b o,b≠a->b≠kS->s.heap.get? b=ϑ o->h'.get? b=ϑ o)->h'.get? a=ϑ (seqObj "list" (if b then ((arrOf st).map (·.2)).reverse else (arrOf st).map (·.2)) c)->P (.done<|.ret .none) {s with heap:=h'}): wpAny `n A (ksk_tail a b e1 (.ref kS) st) P E s:=by
 have s1:=yL s.heap kS<|Obj.mapSeq λz=>(#[]:Array ξ);have d:(s.heap.update kS<|Obj.mapSeq λz=>(#[]:Array ξ)).get? a=ϑ (seqObj "list" #[] e1):=(s1.2 a m.symm).trans ha;have g:∀o:Array ξ,o=(if b then ((arrOf st).map (·.2)).reverse else (arrOf st).map (·.2))->o.size<64:=by rintro o rfl;cases b with|false=>rw[qa zd,Array.size_map];show j|true=>rw[qc rfl,Array.size_reverse,Array.size_map];show j
 generalize l:(if b then ((arrOf st).map (·.2)).reverse else (arrOf st).map (·.2))=out at h g;have g:=g out rfl;have s2:=yL (s.heap.update kS<|Obj.mapSeq λz=>(#[]:Array ξ)) a<|Obj.mapSeq λz=>out;obtain⟨i,n⟩:∃i,((s.heap.update kS<|Obj.mapSeq λz=>(#[]:Array ξ)).update a<|Obj.mapSeq λz=>out).get? a=ϑ (seqObj "list" out i):={_,get?_update_seq d λz=>out};unfold ksk_tail;try dsimp only
 show zb<|listUpdate_at r rfl ?_ (by rw[yh];lia)<|zU _;show zb<|wpAny_letGo ?_;show zb<|seqEpoch_at d rfl ?_;rw[l];show zb<|listUpdate_at d rfl ?_ (zU _)<|zj (yU g) (by rw[yh];show Nat.le_add_left _ _);rw[p];simp only[bne_self_eq_false,Bool.false_eq_true,if_false];show zp<|h _ i (λb o h1 h2 q=>(s2.2 b h1).trans<|(s1.2 b h2).trans q) n
def KA{xs:Array Keyed}{g:π->π}(hl:us.length=vs.length)(o:xs.size=vs.length) (G:Gh (if b=ϱ then (us.toArray.zip vs.toArray).reverse else us.toArray.zip vs.toArray) g xs) (U:Ef κ (if b=ϱ then (us.toArray.zip vs.toArray).reverse else us.toArray.zip vs.toArray) g vs.length): ∃g',Zb κ b (jB κ us) vs.length g'/\(if b then (xs.map (·.2)).reverse else xs.map (·.2)).toList=(List.range vs.length).map λk=>vs.getD (g' k) .none:=by
 have c:(us.toArray.zip vs.toArray).size=vs.length:=by rw[Array.size_zip,zr,zr,hl,Nat.min_self]
 have h:∀k,k<vs.length->`h[k]?=some (us.getD k .none,vs.getD k .none):=λk a=>Kz hl a;cases b with|false=>rw[qa zd]at G U;show{g,{λk a=>by have:=G.lt k (by rw[c];show a);rwa [c]at this,λi j hi l=>G.inj i j (by rw[c];show hi)<|by rw[c];show l,λi j p l=>?_},?_};have h1:=G.lt i (by rw[c];show y9 ‹_› ‹_›);have h2:=G.lt j (by rw[c];show Nat.lt_of_succ_le ‹_›);rw[c]at h1 h2;have:=U i j p l;unfold Log at this;rw[xT hl h1,xT hl h2]at this;rw[qa zd];show this;rw[qa zd];show BG (n:=vs.length) (by rw[yw,Array.size_map,o]) `d λk a=>?_;have h1:=G.lt k (by rw[c];lia);rw[c]at h1;rw[Array.getElem?_toList,Array.getElem?_map,G.at_ k<|by rw[c];show a,h _ h1,zx,List.getElem?_range a];rfl|true=>rw[qc rfl]at G U;have m:(us.toArray.zip vs.toArray).reverse.size=vs.length:=(by rw[Array.size_reverse,c]);have lt:∀k,k<vs.length->g k<vs.length:=λk a=>(by have:=G.lt k (by rw[m];show a);rwa [m]at this);have d:∀k,k<vs.length->(us.toArray.zip vs.toArray).reverse[k]?=`h[vs.length-1-k]?:=λk a=>(by rw[Array.getElem?_reverse<|by rw[c];show a,c]);show{λk=>vs.length-1-g (vs.length-1-k),{λk a=>by have:=lt (vs.length-1-k) `b;lia,λi j hi l e=>?_,λi j p l=>?_},?_};have h1:=lt (vs.length-1-i) `b;have h2:=lt (vs.length-1-j) `b;have:=G.inj (vs.length-1-i) (vs.length-1-j) (by rw[m];lia) (by rw[m];lia) `b;lia;have h1:=lt (vs.length-1-i) `b;have h2:=lt (vs.length-1-j) `b;have:=U (vs.length-1-j) (vs.length-1-i) `b `b;unfold Log at this;have e1:KK κ (us.toArray.zip vs.toArray).reverse (g<|vs.length-1-i)=jB κ us (vs.length-1-g (vs.length-1-i)):=(KK_congr<|d _ h1).trans<|xT hl `b;have e2:KK κ (us.toArray.zip vs.toArray).reverse (g<|vs.length-1-j)=jB κ us (vs.length-1-g (vs.length-1-j)):=(KK_congr<|d _ h2).trans<|xT hl `b;rw[e1,e2]at this;rw[qc rfl];rcases this with z|⟨r,s⟩;show .inl z;show .inr {r.symm,`b};rw[qc rfl];show BG (n:=vs.length) (by rw[yw,Array.size_reverse,Array.size_map,o]) `d λk a=>?_;have h1:=lt (vs.length-1-k) `b;rw[Array.getElem?_toList,Array.getElem?_reverse<|by rw[Array.size_map,o];show a,Array.size_map,o,Array.getElem?_map,G.at_ _<|by rw[m];lia,d _ h1,h _<|`b,zx,List.getElem?_range a];rfl
def SO(O:κ.OneLt)(m:s.heap.get? kS=ϑ (seqObj "list" us.toArray e))(ha:s.heap.get? a=ϑ (seqObj "list" #[] e1))(C:kS≠a)(hl:us.length=vs.length)(Y:vs.length<64)(h0:∀u∈us,∃x,κ.keyOf u=ϑ x) (z:∀pj pq rest,us=pj::pq::rest->keyKind' (pj::pq::rest).toArray=pure oneType') (h:∀h' c g out,(∀b o,b≠a->b≠kS->s.heap.get? b=ϑ o->h'.get? b=ϑ o)->h'.get? a=ϑ (seqObj "list" out c)->Zb κ b (jB κ us) vs.length g->out.toList=(List.range vs.length).map (λk=>vs.getD (g k) .none)->P (.done<|.ret .none) {s with heap:=h'}): wpAny `n A (ksk_end a b vs.toArray e1 (.ref kS) us.toArray) P E s:=by
 have J:(us.toArray.zip vs.toArray).size=vs.length:=by rw[Array.size_zip,zr,zr,hl,Nat.min_self]
 have step:∀t:Sem PySem.Fin,wpAny `n A t P E s->wpAny `n A (if b=ϱ then (do let _ <-rule "list.sort.reverse";t) else t) P E s:=by intro t H;split;show zb<|y7 H;show H
 have d:(if b=ϱ then (us.toArray.zip vs.toArray).reverse else us.toArray.zip vs.toArray).size=vs.length:=by cases b with|false=>show J|true=>rw[qc rfl,Array.size_reverse,J]
 have keys:KeysOf κ (if b=ϱ then (us.toArray.zip vs.toArray).reverse else us.toArray.zip vs.toArray):=λp hp=>by have hp:p∈us.zip vs:=(by have e2:(us.toArray.zip vs.toArray).toList=us.zip vs:=(by rw[ksk_zip]);cases b with|false=>rw[qa zd,e2]at hp;show hp|true=>rw[qc rfl,Array.toList_reverse,e2]at hp;show List.mem_reverse.mp hp);let⟨x,y⟩:=p;show h0 _ (List.of_mem_zip hp).1
 unfold ksk_end;try dsimp only
 show step _ ?_;by_cases h2:vs.toArray.size<2;{rw[qc h2,qc h2];show zb<|zp ?_;rw[StateT.run_pure];show zb<|zp ?_;(try dsimp only);rw[zr]at h2;show Ga (st:=SortSt.mk' general' (if b=ϱ then (us.toArray.zip vs.toArray).reverse else us.toArray.zip vs.toArray) #[] 7 none) m ha C (by rw[zr];lia) (by change(if b=ϱ then (us.toArray.zip vs.toArray).reverse else us.toArray.zip vs.toArray).size<64;lia) rfl λh' c v n=>?_;let⟨g,r,B⟩:=KA (κ:=κ) (b:=b) (xs:=if b=ϱ then (us.toArray.zip vs.toArray).reverse else us.toArray.zip vs.toArray) (g:=λk=>k) hl d {λq q=>rfl,λq m=>m,λq q q q e=>e} (λi j X Z=>by lia);show h h' c g _ v n r B};{rw[qa h2,qa h2];rw[zr]at h2;obtain⟨pj,pq,rest,I⟩:∃pj pq rest,us=pj::pq::rest:=(by match us,hl with|[],hl=>simp at hl;lia|[_],hl=>simp at hl;lia|pj::pq::rest,_=>show⟨pj,pq,rest,rfl⟩);have N:keyKind' us.toArray=pure oneType':=(by rw[I];show z _ _ _ I);rw[N];show zb<|zp ?_;show zb<|yB (SK (κ:=κ) O (a₀:=if b=ϱ then (us.toArray.zip vs.toArray).reverse else us.toArray.zip vs.toArray) (st:=SortSt.mk' oneType' (if b=ϱ then (us.toArray.zip vs.toArray).reverse else us.toArray.zip vs.toArray) #[] 7 none) (Q:=λq ee=>failedOf ee=ϐ/\(arrOf ee).size=vs.length/\∃g,Gh (if b=ϱ then (us.toArray.zip vs.toArray).reverse else us.toArray.zip vs.toArray) g (arrOf ee)/\Ef κ (if b=ϱ then (us.toArray.zip vs.toArray).reverse else us.toArray.zip vs.toArray) g vs.length) keys {Array.Perm.refl _,rfl,rfl,rfl} rfl `b `b λee g L M K F=>{L,M.trans d,g,K,by rw[d]at F;show F}) ?_ λq q e=>e;rintro⟨⟨⟩,ee⟩ s' ⟨rfl,S,l,g,G,U⟩;(try dsimp only);have l:(arrOf ee).size=vs.length:=l;show Ga m ha C (by rw[zr];lia) `b S λh' c v n=>?_;let⟨R,r,B⟩:=KA (κ:=κ) hl l G U;show h h' c R _ v n r B}
end
structure P5(X:Cx)(qe:δ (ε×Obj))(b:ε):η where
 loc:b≠X.env.locals
 fs:b∉X.fs
 cell:∀x c,X.env.cells.lookup x=ϑ c->c≠b
 pin:∀p∈X.pn++qe,p.1≠b
 new:X.cS.heap.objs.size<=b
section
variable{X:Cx}{qe:δ (ε×Obj)}{σ:St}{H:Hp}{s:ζ}
theorem Inv.Zc(I:Inv X qe σ H s)(h:s.heap.objs.size<=b):P5 X qe b:={yi<|zq I.lt h,I.Vp h,λx c e=>by let⟨v,q⟩:=I.cell x c e;show zE<|zq q.lt h,λp hp=>zE<|zq (zw (I.pin p hp).1) h,zj I.sz h}
def Inv.NY(I:Inv X qe σ H s)(kp:∀b o,b≠a->b≠k->s.heap.get? b=ϑ o->h'.get? b=ϑ o)(ha:H a=ϐ)(l:H k=ϐ)(h:P5 X qe a)(g:P5 X qe k):Inv X qe σ H {s with heap:=h',toks:=t'}:=by have i:∀b u,H b=ϑ u->b≠a/\b≠k:=λb u e=>{λz=>(by rw[z,ha]at e;cases e),λz=>(by rw[z,l]at e;cases e)};show I.step (g':=s.gens) (d':=s.drawn) (ch:=[a,k]) (λb hb=>?_) (λb o x x d e x=>kp b o (λz=>d<|by simp[z]) (λz=>d<|by simp[z]) e) (λb o x x d e x=>{o.slots,kp b o (λz=>d<|by simp[z]) (λz=>d<|by simp[z]) e}) (λx x x x n=>n) (λb o d e=>{o,kp b o (λz=>d<|by simp[z]) (λz=>d<|by simp[z]) e}) (λx x e=>e) (λx x x e=>e) (λb ps e=>{#[],by rw[e];simp}) (λm hm=>?_) (λb u e=>?_) I.bare;simp only[ze,zA,or_false]at hb;rcases hb with rfl|rfl;show{.inr h.new,h.loc,h.cell,h.pin};show{.inr g.new,g.loc,g.cell,g.pin};let⟨o,es,ep,j,r⟩:=hm;show{o,es,ep,kp _ o (Ne.symm h.loc) (Ne.symm g.loc) j,r};show(I.aM b u e).oW (λc v d q=>?_) (λx q=>q) λx x q=>q;rcases d with z|z;rw[z]at q⊢;show kp b v (i b u e).1 (i b u e).2 q;show kp c v (i c _ z).1 (i c _ z).2 q
def Inv.Xo(I:Inv X qe σ H s)(ha:H a=ϐ)(A:P5 X qe a)(new:br X.prog X.w (upd H a o) s.heap a o):Inv X qe σ (upd H a o) s:=by show I.step (h':=s.heap) (g':=s.gens) (d':=s.drawn) (t':=s.toks) (ch:=[a]) (λb hb=>?_) (λb o x x d e x=>e) (λb o x x d e x=>⟨o.slots,e⟩) (λb u d e n=>?_) (λb o d e=>⟨o,e⟩) (λb xs e=>?_) (λb u v e=>?_) (λb ps e=>?_) (λm hm=>hm) (λb u e=>?_) I.bare;rw[zC.mp hb];show{.inr A.new,A.loc,A.cell,A.pin};rw[az λz=>d<|by simp[z]];show n;rw[az<|aD e ha];show e;rw[az<|aD e ha];show e;show{#[],by rw[az<|aD e ha,e];simp};by_cases hb:b=a;subst hb;rw[aF]at e;cases e;show new;rw[az hb]at e;show(I.aM b u e).oW (λc v x q=>q) (λc q=>by rw[az<|aD q ha];show q) λc xs q=>by rw[az<|aD q ha];show q
end
def KC(X:Cx)(qe:δ<|ε×Obj)(σ:St)(A:ϕ)(f:ε)(xs:δ V)(W:π->δ V->Hp->η):Prop:=∀i x u ks s' H' more,Inv X (qe++more) σ H' s'->W i ks H'->xs[i]?=some x->RelV x u->codeAny `m A (.call (.ref f) {[u],[]}) (λq DD=>∃w,q=.ok (.ret w)/\CE X.stack X.prog X.w H' s' (λk a=>W (i+1) (ks++[k]) a) w DD) s'
structure P6(κ:KeyKind)(us:δ ξ):η where
 all:∀u∈us,∃x,κ.keyOf u=ϑ x
 kind:∀pj pq rest,us=pj::pq::rest->keyKind' (pj::pq::rest).toArray=pure oneType'
section
variable{X:Cx}{qe:δ (ε×Obj)}{σ:St}{H:Hp}{s:ζ}{A:ϕ}{E:ξ->ζ->η}{xs:δ V}{vs:δ ξ}{f:ε}{b:χ}{κ:KeyKind}{W:π->δ V->Hp->η}
def HV{P:PySem.Fin->ζ->η}(hO:κ.OneLt)(I:Inv X qe σ H s)(ha:s.heap.get? a=ϑ (seqObj "list" #[] e1))(hk:s.heap.get? kS=ϑ (seqObj "list" #[] 0))(SN:kS≠a)(na:H a=ϐ)(nk:H kS=ϐ)(Q:P5 X qe a)(B:P5 X qe kS) (S:Vals xs vs) (Ja:vs.length<64) (T:KC X qe σ A f xs W) (w0:W 0 [] H) (G:∀ks us H',W vs.length ks H'->Vals ks us->ks.length=vs.length->P6 κ us) (h:∀s' H' ks us c g out,Inv X qe σ H' s'->H' a=ϐ->s'.heap.get? a=ϑ (seqObj "list" out c)->W vs.length ks H'->Vals ks us->ks.length=vs.length->Zb κ b (jB κ us) vs.length g->out.toList=(List.range vs.length).map (λk=>vs.getD (g k) .none)->P (.done<|.ret .none) s'): wpAny `m A (ksk_rest a (.ref f) b vs.toArray e1<|.ref kS) P E s:=by
 have Z:∀(k:Array ξ) (n:π) (v:θ ξ),(seqObj "list" k n).data≠.cell v:=λr r r z=>nomatch z;unfold ksk_rest;show zb<|y7 ?_;rw[List.forIn_toArray];show zb<|ksk_fold (λi s'=>∃ks d e H',Inv X qe σ H' s'/\W i ks H'/\Vals ks d.toList/\ks.length=i/\H' a=ϐ/\H' kS=ϐ/\s'.heap.get? a=ϑ (seqObj "list" #[] e1)/\s'.heap.get? kS=ϑ (seqObj "list" d e)) vs 0 s {[],#[],0,H,I,w0,.nil,rfl,na,nk,ha,hk} ?_ ?_;rintro j x s' hx ⟨ks,d,e,H',l,F,K,J,M,C,R,L⟩;simp only[Nat.zero_add]at J F⊢;have hj:j<vs.length:=(zh.mp hx).1;have hl:xs.length=vs.length:=S.length;obtain⟨y,Y⟩:∃y,xs[j]?=some y:={_,zg<|`b};let⟨u,hu,ru⟩:=S.get Y;rw[hx]at hu;cases hu;have U:Inv X (qe++[(a,seqObj "list" #[] e1),(kS,seqObj "list" d e)]) σ H' s':=by show{l.ok,l.os,l.bare,l.base,l.loc,l.cell,l.free,l.dH,λp hp=>?_,l.aM,l.len};rcases zL.mp hp with hp|hp;show l.pin p<|zT _ hp;rcases zL.mp hp with hp|hp;show l.pin p<|zI _ hp;simp only[ze,zA,or_false]at hp;rcases hp with rfl|rfl;show{R,M,Q.loc,Q.fs,Z _ _};show{L,C,B.loc,B.fs,Z _ _}
 have hz:d.size=j:=by have h1:ks.length=d.toList.length:=K.length;have h2:d.toList.length=d.size:=yw;lia
 show zb<|xf<|wpAny_call<|xa (T j y x ks s' H' _ U F Y ru) λr s2 hq=>?_;let⟨w,rfl,ce⟩:=hq;let⟨k,H2,m,rk,w2⟩:=U.after ce;dsimp only;have pa:=m.pin (a,seqObj "list" #[] e1)<|zI _<|zI _ `d;have N:=m.pin (kS,seqObj "list" d e)<|zI _<|zI _ `d;have I3:Inv X qe σ H2 s2:={m.ok,m.os,m.bare,m.base,m.loc,m.cell,m.free,m.dH,λp hp=>m.pin p<|by rcases zL.mp hp with z|z;show zT _ z;show zI _<|zT _ z,m.aM,m.len};have s1:=yL s2.heap kS (Obj.mapSeq (·.push w));obtain⟨O,MY⟩:∃O,(s2.heap.update kS (Obj.mapSeq (·.push w))).get? kS=ϑ (seqObj "list" (d.push w) O):={_,get?_update_seq N.1 (·.push w)};show zb<|listUpdate_at N.1 rfl ?_ (by rw[yh];lia)<|zj (Nat.le_of_eq<|Array.size_push ..) (by rw[yh];lia);show zp {rfl,ks++[k],d.push w,O,H2,I3.turned (t':=s2.toks) (it:=kS) (λb o hb q=>(s1.2 b hb).trans q) N.2.1 B.loc (.inr B.new) B.cell B.pin,w2,?_,by simp[J],pa.2.1,N.2.1,(s1.2 a SN.symm).trans pa.1,MY};rw[show(d.push w).toList=d.toList++[w] by simp];show K.append<|.cons rk .nil;rintro s' ⟨ks,d,e,H',l,F,K,J,M,C,R,L⟩;simp only[Nat.zero_add]at J F;show zb<|listItems_at L rfl ?_;have eA:d=d.toList.toArray:=`d
 have t:=G ks d.toList H' F K J;have hl:d.toList.length=vs.length:=by have h1:ks.length=d.toList.length:=K.length;lia
 rw[eA]at L;change wpAny _ _ (ksk_end a b vs.toArray e1 (.ref kS) d) _ _ _;rw[eA];show SO (κ:=κ) hO L R SN hl Ja t.all t.kind λh' c g out k1 k2 k3 k4=>?_;show h _ H' ks d.toList c g out (l.NY (t':=s'.toks) k1 M C Q B) M k2 F K J k3 k4
def wJ(hO:κ.OneLt)(I:Inv X qe σ H s)(hl:fP X.K H l xs)(C:xs.length<64)(S:argsOk "sorted" {[.ref l],kw})(Zg:∀x,argsOk "list.sort" {[.ref x],kw})(ht:∀x,Builtin.«list.sort» {[.ref x],kw}=ksk_tree x (.ref f) b) (T:KC X qe σ A.in1.in1 f xs W) (U:W 0 [] H) (G:∀ks us H',W xs.length ks H'->Vals ks us->ks.length=xs.length->P6 κ us) (h:∀H' ks us g D,W xs.length ks H'->Vals ks us->ks.length=xs.length->Zb κ b (jB κ us) xs.length g->H' D=ϐ->Q (.ref D) (upd H' D<|.lst<|(List.range xs.length).map λk=>xs.getD (g k) .aA)): wpAny `m A (call (.builtin "sorted") [.ref l] kw) (EP X qe σ Q) E s:=by
 let⟨vs,v,pl,_⟩:=I.list hl;have N:xs.length=vs.length:=v.length;rw[N]at C G h;show call_function_entry_kw kind_sorted plain_sorted entry_sorted S ?_;unfold Builtin.«sorted»;show zb (m:=checkCount "sorted" 1 1 _)<|zp ?_;show zb<|collect_list pl.isList ?_ (by rw[yh];lia);show zb<|wpAny_newList ?_ (by rw[yh];lia);have d:((s.heap.push<|seqObj "list" #[] 0).update s.heap.objs.size (Obj.mapSeq (·++vs.toArray))).objs.size=s.heap.objs.size+1:=by rw[Heap.size_update,size_push']
 have i:(((s.heap.push<|seqObj "list" #[] 0).update s.heap.objs.size (Obj.mapSeq (·++vs.toArray))).push<|seqObj "list" vs.toArray 0).get? `l=ϑ (seqObj "list" vs.toArray 0):=by rw[<-d];show zl _ rfl
 have keep:∀b o,s.heap.get? b=ϑ o->(((s.heap.push<|seqObj "list" #[] 0).update s.heap.objs.size (Obj.mapSeq (·++vs.toArray))).push<|seqObj "list" vs.toArray 0).get? b=ϑ o:=λb o q=>by have r:b<s.heap.objs.size:=zw q;rw[Heap.get?_push_ne _ _ _<|by rw[d];show zE<|Nat.lt_succ_of_lt r,Heap.get?_update_ne _ _ _ _<|zE r,Heap.get?_push_ne _ _ _<|zE r];show q
 change wpAny _ _ _ _ _ {s with heap:=((s.heap.push<|seqObj "list" #[] 0).update s.heap.objs.size (Obj.mapSeq (·++vs.toArray))).push<|seqObj "list" vs.toArray 0};rw[d];generalize hg:((s.heap.push<|seqObj "list" #[] 0).update s.heap.objs.size (Obj.mapSeq (·++vs.toArray))).push (seqObj "list" vs.toArray 0)=h1 at i keep⊢;have M:Inv X qe σ H {s with heap:=h1}:=I.kept (t':=s.toks) keep;have e:P5 X qe `l:=I.Zc<|yu _;have z:H `l=ϐ:=I.aM.fresh<|yu _;generalize s.heap.objs.size+1=a at i e z⊢;show zb<|yQ<|wpAny_call_entry_kw slot_list_sort {_,i,rfl} entry_list_sort ?_<|Zg _;change wpAny `m A.in1.in1 (Builtin.«list.sort» {[.ref a],kw}) _ _ _;rw[ht a];have s1:=yL h1 a<|Obj.mapSeq λV=>(#[]:Array ξ);obtain⟨e1,p⟩:∃e1,(h1.update a<|Obj.mapSeq λV=>(#[]:Array ξ)).get? a=ϑ (seqObj "list" #[] e1):={_,get?_update_seq i λV=>#[]};have j:Inv X qe σ H {s with heap:=h1.update a<|Obj.mapSeq λV=>(#[]:Array ξ)}:=Inv.turned (s:={s with heap:=h1}) (h':=h1.update a<|Obj.mapSeq λV=>(#[]:Array ξ)) (t':=s.toks) (it:=a) M (λb o hb q=>(s1.2 b hb).trans q) z e.loc (.inr e.new) e.cell e.pin;unfold ksk_tree;show zb<|listItems_at i rfl ?_;show zb<|listUpdate_at i rfl ?_ (by rw[zr,yh];lia)<|zU _;show zb<|seqEpoch_at p rfl ?_;show zb<|wpAny_newTuple ?_ (by change vs.length<=_;rw[yh];lia);show zb<|wpAny_newList ?_<|zU _;show yQ ?_;generalize h1.update a (Obj.mapSeq λV=>(#[]:Array ξ))=h2 at p j⊢;have L:∀b u,h2.get? b=ϑ u->((h2.push<|seqObj "tuple" vs.toArray 0).push<|seqObj "list" #[] 0).get? b=ϑ u:=λb u q=>za _<|za _ q;have I3:Inv X qe σ H {s with heap:=(h2.push<|seqObj "tuple" vs.toArray 0).push<|seqObj "list" #[] 0}:=j.kept (t':=s.toks) L;have t:h2.objs.size<=(h2.push<|seqObj "tuple" vs.toArray 0).objs.size:=by rw[size_push'];show yu _
 show HV (s:={s with heap:=(h2.push<|seqObj "tuple" vs.toArray 0).push<|seqObj "list" #[] 0}) (kS:=(h2.push<|seqObj "tuple" vs.toArray 0).objs.size) hO I3 (L _ _ p) (zl _ rfl) (yi<|zq (zw p) t) z (j.aM.fresh t) e (j.Zc t) v C T U G λs' H' ks us c g out J n1 o1 Y R l1 B Z=>{.none,rfl,?_};show zp !{.ref a,_,J.Xo (o:=.lst<|(List.range vs.length).map λk=>xs.getD (g k) .aA) n1 e {?_,out.toList,c,?_,?_},rfl,h H' ks us g a Y R l1 B n1};rw[zc,List.length_range,yh];lia;rw[Z];have:∀(ns:δ π),(∀k∈ns,g k<vs.length)->Vals (ns.map λk=>xs.getD (g k) .aA) (ns.map λk=>vs.getD (g k) .none):=λns=>by induction ns with|nil=>show λV=>.nil|cons k ns ih=>intro n;have O:=n k zB;obtain⟨y,F⟩:∃y,xs[g k]?=some y:={_,zg<|`b};let⟨u,hu,ru⟩:=v.get F;show .cons ?_<|ih λk P=>n k<|zo _ P;change RelV (xs.getD (g k) .aA) (vs.getD (g k) .none);rw[zJ,F,zJ,hu];show ru
 show this _ λk n=>B.lt k<|zV.mp n;rw[o1]
end
def Bm(mg:ρ->θ ξ)(base:Γ):Prop:=∃bm o,mg "__builtins__"= some (.ref bm)/\bm≠builtinsNs/\base.get? bm=ϑ o/\o.cls=.type "module"/\o.dict=ϑ builtinsNs/\o.data=.plain
structure Mkr(K:Φ)(mg:ρ->θ ξ)(base:Γ)(c P:ε):η where
 hd:codeHdIn K c P=ϱ
 bm:Bm mg base
set_option tactic.hygienic true in
def Eh{pos p2:Pos}{c cv:ξ}(l:δ ξ)(h:TriplesOk l)(e:codeAmong pos (l++[rawInt p2.line,rawInt p2.col,c])=ϑ cv):codeAmong pos l=ϑ cv\/cv=c:=by fun_induction TriplesOk l with|case1=>(simp only[List.nil_append,rawInt,codeAmong]at e;split at e;cases e;show .inr rfl;cases e)|case2 a t b u x rest d=>simp only[List.cons_append,codeAmong]at e⊢;split at e;rename_i hc;rw[qc hc];show .inl e;rename_i hc;rw[qa hc];show d h e|case3 l h1 h2=>show h.elim
section
variable{X:Cx}{qe:δ (ε×Obj)}{σ:St}{H:Hp}{s:ζ}
def Inv.tab{h':Γ}{tk:π}{P c:ε}{ps j:Array ξ}{oc fo:Obj}(I:Inv X qe σ H s)(l:H P=ϑ (.r_ ps))(hx:Heap.ExtBut P s.heap h')(h1:s.heap.objs.size<=c)(h2:c<h'.objs.size)(p:h'.get? c=ϑ oc)(hp:h'.get? P=ϑ (tabObj<|ps++j)): Inv X qe σ (upd (upd H P<|.r_<|ps++j) c<|.md oc<|.own 0) {s with heap:=h'.push fo,toks:=tk}:=by
 have m:c≠P:=λz=>absurd (zq (I.aM.lt l)<|z ▸ h1)<|yK _;have h:H c=ϐ:=I.aM.fresh h1;have a:∀b,b≠P->b≠c->upd (upd H P<|.r_<|ps++j) c (.md oc<|.own 0) b=H b:=λb w t=>by rw[az t,az w]
 have i:∀b o,H b=ϑ o->(∀q,o≠.r_ q)->b≠P:=λb o e z q=>by rw[q,l]at e;cases e;show z _ rfl
 have g:∀b,H b=ϐ->b≠P:=λb e q=>by rw[q,l]at e;cases e
 have lt:∀b o,s.heap.get? b=ϑ o->b≠c:=λb o e=>zE<|zq (zw e) h1;show I.un (h':=h'.push fo) {λb o e n x x=>za _<|hx b o (g b n) e,λb o e n x x=>{o.slots,za _<|hx b o (g b n) e},λb o e n x=>by rw[a b (g b n)<|lt b o e];show n,λb o e x=>?_,λb xs e=>by rw[a b (i b _ e λx=>nofun)<|aD e h];show e,λb o u e=>by rw[a b (i b _ e λx=>nofun)<|aD e h];show e,λb q e=>?_} λb u e=>?_;by_cases hb:b=P;rw[hb];show{_,za _ hp};show{o,za _<|hx b o hb e};by_cases hb:b=P;subst hb;rw[l]at e;cases e;show{j,by rw[az<|Ne.symm m,aF]};show{#[],by rw[a b hb<|aD e h,e];simp};by_cases r:b=c;subst r;rw[aF]at e;cases e;show{za _ p,_,za _ p};rw[az r]at e;by_cases hb:b=P;subst hb;rw[aF]at e;cases e;show za _ hp;rw[az hb]at e;show(I.aM b u e).oW (λd v hd q=>?_) (λd q=>by rw[a d (i d _ q λx=>nofun)<|aD q h];show q) λd xs q=>by rw[a d (i d _ q λx=>nofun)<|aD q h];show q
 rcases hd with rfl|hd;show za _<|hx d v hb q;show za _<|hx d v (i d _ hd λx=>nofun) q
def Inv.Gb(I:Inv X qe σ H s)(a:s.heap.get? f=ϑ o)(hn:H f=ϐ)(A:P5 X qe f)(d:∀v,o.data≠.cell v):Inv X (qe++[(f,o)]) σ H s:=by show{I.ok,I.os,I.bare,I.base,I.loc,I.cell,I.free,I.dH,λp hp=>?_,I.aM,I.len};rcases zL.mp hp with hp|hp;show I.pin p<|zT _ hp;rcases zL.mp hp with hp|hp;show I.pin p<|zI _ hp;rw[zC.mp hp];show⟨a,hn,A.loc,A.fs,d⟩
structure Xq(X:Cx)(qe:δ (ε×Obj))(σ:St)(H H':Hp)(P:ε)(q:ρ)(params:Arguments)(body:Δ)(scope:Scope)(u:ξ)(s':ζ)(f:ε)(pm cv mK:ξ):η where
 u:u=.ref f
 inv:Inv X (qe++[(f,BF X q params body scope pm cv mK)]) σ H' s'
 code:∃c o vs t,cv=.ref c/\H' c=ϑ (.md o<|.own 0)/\o.data=.fields vs/\vs[1]?=some (.str q t)
 same:∀b,H' b=H b\/(b=P/\∃ps,H' b=ϑ (.r_ ps)/\FU H' q ps)\/(H b=ϐ/\∃o,H' b=ϑ (.md o<|.own 0))
def BI{M:Model}{A:ϕ}{E:ξ->ζ->η}{N:δ ρ}{src:δ<|θ π}{scope:Scope}{params:Arguments}{body:Δ}{pos:Pos}{c P:ε}{q:ρ}{ps:Array ξ}{Q:ξ->ζ->η}(I:Inv X qe σ H s)(S:bZ X N src scope)(G:X.env.code=.ref c)(mk:Mkr X.K X.mg X.base c P) (i:H P=ϑ (.r_ ps)) (ok:FU H q ps) (hq:X.env.qual ++ "<lambda>"= q) (KG:defaultsOf params X.env=([],[])) (h:∀u s' H' f pm cv mK,Xq X qe σ H H' P q params body scope u s' f pm cv mK->Q u s'):wpAny M A (eval (.Lambda params body scope pos) X.env) Q E s:=by
 have U:closureFor scope X.env=pure `i:=hU λy hy j=>I.ok.has y.1<|S.CW y hy j;have p:s.heap.get? P=ϑ (tabObj ps):=I.aM P _ i;have m:s.heap.Ns mainGlobals X.mg:=I.mod.glob.keeps I.bk;have C:=codeHd_of_K I.oV mk.hd;let⟨bm,F,b1,b2,b3,R,b5,Z⟩:=mk.bm;have n:s.heap.get? bm=ϑ F:=I.bk _ _ b3;have B:mainGlobals≠P:=λz=>by let⟨o,es,ep,e,d,_⟩:=id m;rw[z,p]at e;cases e;cases d
 have x:bm≠mainGlobals:=λz=>by let⟨o,es,ep,e,d,_⟩:=id m;rw[<-z,n]at e;cases e;rw[Z]at d;cases d
 have r:bm≠P:=λz=>by rw[z,p]at n;cases n;cases R
 have hB:s.heap.BuiltinsAt X.mg P:=⟨bm,F,b1,b2,x,r,n,R,b5,Z⟩;have Zj:H P≠none:=by rw[i];nofun
 show PySem.W.kla_eval KG ?_;rw[hq];cases j:codeAmong pos ps.toList with|none=>(show PySem.W.kla_makeFunction U I.ok.glob m G C p ok.1 j B hB λg mK h' tk hx h1 h2 hr hp=>?_;let⟨c2,oc,vs,t,e2,YF,hd,L⟩:=hr;cases e2;have J:=I.tab (tk:=tk) (fo:=BF X q params body scope ((X.mg "__name__").getD .none) (.ref g) mK) i hx h1 h2 YF hp;have a0:g≠P:=λz=>absurd (zq (I.aM.lt i)<|z ▸ h1)<|yK _;have O:H g=ϐ:=I.aM.fresh h1;have fresh:∀b,h'.objs.size<=b->upd (upd H P<|.r_<|ps++#[rawInt pos.line,rawInt pos.col,.ref g]) g (.md oc<|.own 0) b=ϐ:=λb hb=>(by have Y:s.heap.objs.size<=b:=zj (zj h1<|yU h2) hb;rw[az<|yi<|zq h2 hb,az<|yi<|zq (I.aM.lt i) Y];show I.aM.fresh Y);have a:s.heap.objs.size<=h'.objs.size:=zj h1<|yU h2;show h _ _ _ h'.objs.size _ _ _ {rfl,J.Gb (zl _ rfl) (fresh _<|zm _) (I.Zc a) (λv z=>nomatch z),⟨g,oc,vs,t,rfl,aF,hd,L⟩,λb=>?_};by_cases w:b=g;subst w;show .inr<|.inr ⟨O,oc,aF⟩;by_cases hb:b=P;subst hb;show .inr<|.inl {rfl,_,by rw[az w,aF],?_,λp2 cv e=>?_};rw[Array.toList_append];show TriplesOk_snoc _ _ _ _ ok.1;rw[Array.toList_append]at e;rcases Eh _ ok.1 e with e|e;let⟨d,o,ws,t2,z1,l,z3⟩:=ok.2 p2 cv e;show{d,o,ws,t2,z1,by rw[az<|aD l O,az λz=>by rw[z,i]at l;cases l];show l,z3};show⟨g,oc,vs,t,e,aF,hd,L⟩;show .inl<|by rw[az w,az hb])|some cv=>show PySem.W.kla_makeFunctionHit U I.ok.glob m G C p ok.1 j hB λmK h' tk hk a=>?_;have J:Inv X qe σ H {s with heap:=h'.push<|BF X q params body scope ((X.mg "__name__").getD .none) cv mK,toks:=tk}:=I.kept λb u e=>za _<|hk b u e;show h _ _ _ h'.objs.size _ _ _ {rfl,J.Gb (zl _ rfl) (I.aM.fresh a) (I.Zc a) (λv z=>nomatch z),ok.2 pos cv j,λb=>.inl rfl}
end
def Xr:D->D->η|.int a,.int b=>a<b|.str a,.str b=>a.cps.toList<b.cps.toList|_,_=>False
def BJ(ks:δ D):Prop:=(∃zs:δ ρ,ks=zs.map D.str)\/∃ns:δ ν,ks=ns.map D.int
structure SQ(b:χ)(key:π->D)(n:π)(g:π->π):η where
 lt:∀k,k<n->g k<n
 inj:∀i j,i<n->j<n->g i=g j->i=j
 ord:∀i j,i<j->j<n->(if b=ϱ then Xr (key<|g j) (key<|g i) else Xr (key<|g i) (key<|g j))\/(key (g i)=key (g j)/\g i<g j)
def BK(b:χ)(P:ε)(q:ρ)(src:δ<|θ π)(te:TD)(σ:SD)(R:KD)(d:D)(a:av):Prop:=∃(l:ε)(xs:δ D)(f:D->D),d=.ref l/\a l=ϑ (.lst xs)/\xs.length<64/\a P=ϑ (.tab q)/\BJ (xs.map f)/\(∀x,x∈xs->∀S',Sub a S'->∀Qk:KD,(∀S2,Sub S' S2->Qk (f x) S2)->te ((qL σ src).set 0<|some x) S' Qk Zf)/\∀g S2 p,SQ b (λj=>f<|xs.getD j .aA) xs.length g->Sub a S2->S2 p=ϐ->R (.ref p) (S2.set p<|.lst<|(List.range xs.length).map λk=>xs.getD (g k) .aA)
def P7(b:χ)(P:ε)(q:ρ)(src:δ<|θ π)(tl te:TD):TD:=λσ S R Z=>tl σ S (λd a=>BK b P q src te σ R d a) Z
def KH(F:D->av->η):δ D->av->η|[d],S=>F d S|_,_=>False
def Ge{F:D->av->η}{ds:δ D}{S:av}(h:KH F ds S):∃d,ds=[d]/\F d S:=by match ds,h with|[d],h=>show⟨d,rfl,h⟩
theorem tQ:∀{ss:δ ν}{a:δ ξ},Vals (ss.map V.int) a->IntsAre a ss|[],_,.nil=>.nil|z::ss,_,.cons r t=>by let⟨tk,rfl⟩:=r;show .cons z tk<|tQ t
def BL{us:δ ξ}{zs:δ ρ}(h:StrsAre us zs):∀j,j<zs.length->jB strKind us j=(zs.getD j "").cps.toList:=by induction h with|nil=>show λj h=>absurd h (Nat.not_lt_zero _)|cons z t h a=>intro j c;cases j with|zero=>rfl|succ j=>have:=a j (by simpa using c);unfold jB at this⊢;rw[List.getD_cons_succ,List.getD_cons_succ];show this
def BM{us:δ ξ}{zs:δ ν}(h:IntsAre us zs):∀j,j<zs.length->jB intK us j=zs.getD j 0:=by induction h with|nil=>show λj h=>absurd h (Nat.not_lt_zero _)|cons z t h a=>intro j c;cases j with|zero=>rfl|succ j=>have:=a j (by simpa using c);unfold jB at this⊢;rw[List.getD_cons_succ,List.getD_cons_succ];show this
def KJ(h:StrsAre us zs):∀u∈us,∃x,strKind.keyOf u=ϑ x:=by induction h with|nil=>(intro u hu;cases hu)|cons z t h a=>intro u hu;rcases ze.mp hu with rfl|hu;show{_,rfl};show a u hu
def KL(h:IntsAre us zs):∀u∈us,∃x,intK.keyOf u=ϑ x:=by induction h with|nil=>(intro u hu;cases hu)|cons z t h a=>intro u hu;rcases ze.mp hu with rfl|hu;show{_,rfl};show a u hu
def KN{xs:δ D}{f:D->D}{j:π}(a:j<xs.length):(xs.map f)[j]?=some (f<|xs.getD j .aA):=by rw[zx,zJ,zg a];rfl
theorem xU{K:Φ}{H:Hp}{ds:δ D}{xs:δ V}(h:RvAll K H ds xs)(g:π->π):∀(ns:δ π),(∀k∈ns,g k<ds.length)->RvAll K H (ns.map λk=>ds.getD (g k) .aA) (ns.map λk=>xs.getD (g k) .aA)|[],_=>bA|k::ns,hk=>by have hk0:=hk k zB;let⟨v,e,r⟩:=h.get<|zg hk0;show aP ?_<|xU h g ns λk a=>hk k<|zo _ a;change Rv K H (ds.getD (g k) .aA) (xs.getD (g k) .aA);rw[zJ,zg hk0,zJ,e];show r
section
variable{K:Φ}{Y:Cx}{qe:δ (ε×Obj)}{τ:St}{H H2:Hp}{s:ζ}{N:δ ρ}{src:δ (θ π)}{scope:Scope}{params:Arguments}{body:Δ}{q p:ρ}{pm cv mK:ξ}{f l:ε}{te:TD}{b:χ}{kw:δ (ρ×ξ)}{k:π}
def BN{σ:SD}{y:av}{xs:δ D}{a:D->D}{Q:VK}{R:KD}{E:ξ->ζ->η}(I:Inv Y (qe++[(f,BF Y q params body scope pm cv mK)]) τ H s)(hK:Y.K=K)(Xs:Y.calm=ϱ)(hr:cq k Y.A)(qM:∃c o vs t,cv=.ref c/\H c=ϑ (.md o<|.own 0)/\o.data=.fields vs/\vs[1]?=some (.str q t)) (CS:bZ Y N src scope) (NX:N[0]?=some p) (hp:scope.names.lookup p=ϑ .local) (h0:src[0]?=some none) (Kx:scope.isCoroutine=ϰ) (Eg:scope.isGenerator=ϰ) (hb:∀cl pm cv mK u,bindArgs (kla_fn "<lambda>" q params body scope cl pm cv mK) {[u],[]}=pure [(p,u)]) (he:∀cv s H,DE K (UY Y N q scope f cv Y.A.in1.in1 s H) body te) (aE:jQ K H σ τ) (hS:Rs K y H) (hl:y l=ϑ (.lst xs)) (Ja:xs.length<64) (kd:BJ<|xs.map a) (step:∀x,x∈xs->∀S',Sub y S'->∀Qk:KD,(∀h,Sub S' h->Qk (a x) h)->te ((qL σ src).set 0<|some x) S' Qk Zf) (hR:Cn K H R Q) (M:∀g h p,SQ b (λj=>a<|xs.getD j .aA) xs.length g->Sub y h->h p=ϐ->R (.ref p) (h.set p<|.lst<|(List.range xs.length).map λk=>xs.getD (g k) .aA)) (Ze:argsOk "sorted" {[.ref l],kw}) (Zg:∀x,argsOk "list.sort" {[.ref x],kw}) (ht:∀x,Builtin.«list.sort» {[.ref x],kw}=ksk_tree x (.ref f) b): wpAny (model Y.prog Y.w) Y.A (call (.builtin "sorted") [.ref l] kw) (EP Y qe τ Q) E s:=by
 subst hK;let⟨vs,hv,U⟩:=hS.lst hl;have S:vs.length=xs.length:=U.len;let⟨c,oc,ws,tk,a1,hc,u7,a0⟩:=qM;have drop:∀{u:ξ}{s':ζ},EP Y (qe++[(f,BF Y q params body scope pm cv mK)]) τ Q u s'->EP Y qe τ Q u s':=λ⟨v,H',J,r,q⟩=>{v,H',{J.ok,J.os,J.bare,J.base,J.loc,J.cell,J.free,J.dH,λp hp=>J.pin p<|by rcases zL.mp hp with z|z;show zT _ z;show zI _<|zT _ z,J.aM,J.len},r,q};have T:KC Y (qe++[(f,BF Y q params body scope pm cv mK)]) τ Y.A.in1.in1 f vs λi ks H'=>∃S',Sub y S'/\Rs Y.K S' H'/\Kp Y.K H H'/\RvAll Y.K H' ((xs.take i).map a) ks:=by rintro i x u ks s' H' more P ⟨S',G,rs,kp,B⟩ hx ru;have hi:i<xs.length:=(by have:=(zh.mp hx).1;lia);let⟨v,e1,r1⟩:=U.get<|zg hi;rw[hx]at e1;cases e1;have po:=(P.pin (f,BF Y q params body scope pm cv mK)<|zI _<|zT _<|zI _<|`d).1;have a2:s'.heap.CodeRec cv q:={c,oc,ws,tk,a1,(P.aM c _<|kp.f _ _ _ hc).1,u7,a0};show Kw (A:=Y.A.in1.in1) P CS NX hp h0 P.ok.frames (P.ok.hd Xs) (by have:=hr.dp;change Y.A.depth<_;lia) ru po a2 Kx Eg (hb _ _ _ _ _) ((he cv s' H').of<|.none _ rfl) ?_;show{_,S',λkk h=>kk=a xs[i]/\Sub S' h,Zf,((aE.ts kp).pick src).set 0<|Rv.ts kp _ r1,rs,step _ (List.getElem_mem hi) S' G _ λh h2=>⟨rfl,h2⟩,λkk h v2 H2 aY U5 Xt PD=>?_,.f};let⟨e2,R1⟩:=aY;subst e2;show{h,G.trans R1,Xt,kp.trans PD,?_};rw[show xs.take (i+1)=xs.take i++[xs[i]] by rw[List.take_add_one,zg hi];rfl,zH];show(RvAll.ts PD _ B).app<|aP U5 bA
 have w0:∃S',Sub y S'/\Rs Y.K S' H/\Kp Y.K H H/\RvAll Y.K H ((xs.take 0).map a) []:={y,.refl _,hS,.refl _,by rw[List.take_zero];show bA};have YK:fP Y.K H l vs:=.of hv;rcases kd with⟨zs,F⟩|⟨zs,F⟩;have a3:zs.length=xs.length:=by have:=congrArg List.length F;rw[zc,zc]at this;show this.symm
 have O:∀j,j<xs.length->a (xs.getD j .aA)=.str (zs.getD j ""):=λj m=>by have e1:=KN (f:=a) m;rw[F,zx,zg<|`b]at e1;rw[zJ (l:=zs),zg<|`b];show(zQ e1).symm
 have C:∀ks us H',(∃S',Sub y S'/\Rs Y.K S' H'/\Kp Y.K H H'/\RvAll Y.K H' ((xs.take vs.length).map a) ks)->Vals ks us->StrsAre us zs:=λks us H' ⟨S',_,_,_,B⟩ hu=>by rw[S,List.take_length,F]at B;rw[B.strs]at hu;show tP hu
 show yB (wJ (κ:=strKind) (Q:=Q) (b:=b) strKind_oneLt I YK `b Ze Zg ht T w0 (λks us H' d n l1=>{KJ<|C ks us H' d n,λpj pq rest e=>keyKind_strs<|by rw[<-e];show C ks us H' d n}) λH' ks us g D d n l1 sr hD=>?_) (λu s' z=>drop z) λW W z=>z;have L:=C ks us H' d n;let⟨S',G,rs,kp,B⟩:=d;rw[S]at sr⊢;show(hR.kp kp).new rs hD (λhp=>M g S' D {sr.lt,sr.inj,λi j Z m=>?_} G hp)<|xU (RvAll.ts kp _ U) g _ λk hk=>sr.lt k<|zV.mp hk;have h1:=sr.lt i<|y9 ‹_› ‹_›;have h2:=sr.lt j m;have:=sr.ord i j Z m;rw[BL L _<|`b,BL L _<|`b]at this;rw[O _ h1,O _ h2];rcases this with z|⟨z1,X⟩;left;cases b with|false=>rw[qa zd]at z⊢;change(zs.getD (g i) "").cps.toList<(zs.getD (g j) "").cps.toList;show zy z|true=>rw[qc rfl]at z⊢;change(zs.getD (g j) "").cps.toList<(zs.getD (g i) "").cps.toList;show zy z
 show .inr {by rw[abI z1],X};have a3:zs.length=xs.length:=by have:=congrArg List.length F;rw[zc,zc]at this;show this.symm
 have O:∀j,j<xs.length->a (xs.getD j .aA)=.int (zs.getD j 0):=λj m=>by have e1:=KN (f:=a) m;rw[F,zx,zg<|`b]at e1;rw[zJ (l:=zs),zg<|`b];show(zQ e1).symm
 have C:∀ks us H',(∃S',Sub y S'/\Rs Y.K S' H'/\Kp Y.K H H'/\RvAll Y.K H' ((xs.take vs.length).map a) ks)->Vals ks us->IntsAre us zs:=λks us H' ⟨S',_,_,_,B⟩ hu=>by rw[S,List.take_length,F]at B;rw[B.ints]at hu;show tQ hu
 show yB (wJ (κ:=intK) (Q:=Q) (b:=b) Ky I YK `b Ze Zg ht T w0 (λks us H' d n l1=>{KL<|C ks us H' d n,λpj pq rest e=>keyKind_ints<|by rw[<-e];show C ks us H' d n}) λH' ks us g D d n l1 sr hD=>?_) (λu s' z=>drop z) λW W z=>z;have L:=C ks us H' d n;let⟨S',G,rs,kp,B⟩:=d;rw[S]at sr⊢;show(hR.kp kp).new rs hD (λhp=>M g S' D {sr.lt,sr.inj,λi j Z m=>?_} G hp)<|xU (RvAll.ts kp _ U) g _ λk hk=>sr.lt k<|zV.mp hk;have h1:=sr.lt i `b;have h2:=sr.lt j m;have:=sr.ord i j Z m;rw[BM L _<|`b,BM L _<|`b]at this;rw[O _ h1,O _ h2];rcases this with z|⟨z1,X⟩;left;cases b with|false=>rw[qa zd]at z⊢;change zs.getD (g i) 0<zs.getD (g j) 0;show zy z|true=>rw[qc rfl]at z⊢;change zs.getD (g j) 0<zs.getD (g i) 0;show zy z
 show .inr {by rw[z1],X}
end
section
variable{K:Φ}{X:Cx}{N:δ ρ}{src:δ (θ π)}{scope:Scope}{params:Arguments}{e body:Δ}{q p x:ρ}{np pos lp kq kq2 cp:Pos}{ci:π}{tl te:TD}{k:π}{c P:ε}
theorem Xq.kp{qe:δ<|ε×Obj}{τ:St}{H H':Hp}{u:ξ}{s':ζ}{f:ε}{pm cv mK:ξ}{Y:Cx}(L:Xq Y qe τ H H' P q params body scope u s' f pm cv mK){ps:Array ξ}(a:H P=ϑ (.r_ ps)):Kp K H H':=.of λb o e=>by rcases L.same b with z|⟨z,_⟩|⟨z,_⟩;show .inl (by rw[z];show e);rw[z,a]at e;cases e;show .inr {λx=>nofun,λx x=>nofun};rw[z]at e;cases e
theorem Xq.rs{qe:δ<|ε×Obj}{τ:St}{H H':Hp}{u:ξ}{s':ζ}{f:ε}{pm cv mK:ξ}{Y:Cx}{S:av}(L:Xq Y qe τ H H' P q params body scope u s' f pm cv mK)(a:Rs K S H)(c:S P=ϑ (.tab q)):Rs K S H':=λb x hb=>by let⟨ps,g,_⟩:=a P _ c;have kp:Kp K H H':=L.kp g;rcases L.same b with z|⟨rfl,i,h,d⟩|⟨z,_⟩;show(a b x hb).keep (λo e=>by rw[z];show e) kp;rw[c]at hb;cases hb;show⟨i,h,d⟩;let⟨o,e,_⟩:=(a b x hb).has;rw[z]at e;cases e
def Xu(U:X.env.code=.ref c)(mk:Mkr K X.mg X.base c P)(hr:cq k X.A)(a:bZ X N src scope)(hl:DE K X e tl)(he:∀f cv s H,DE K (UY X N q scope f cv X.A.in1.in1 s H) body te)(hm:X.mg x=ϐ)(hv:bootBuiltins x=ϑ (.builtin "sorted")) (hq:ψ (X.env.qual ++ "<lambda>"= q) qQJ) (NX:ψ (N[0]?=some p) qQJ) (hp:ψ (scope.names.lookup p=ϑ .local) qQJ) (h0:ψ (src[0]?=some none) qQJ) (Y:ψ (scope.isCoroutine=ϰ) qQJ) (Eg:ψ (scope.isGenerator=ϰ) qQJ) (hb:ψ (∀cl pm cv mK u,bindArgs (kla_fn "<lambda>" q params body scope cl pm cv mK) {[u],[]}=pure [(p,u)]) qJ3) (M:ψ (defaultsOf params X.env=([],[])) qQJ) (hg:ψ (Gl X x) qQJ) (hn:ψ (x≠"__name__") qQZ) (E:ψ ((x==("__debug__": ρ))=ϰ) qQZ) (m:ψ (backTo pos (starEach [e] X.env)=`j::backTo pos (starEach [] X.env)) qQJ) (d_:ψ ((backTo pos<|starEach [e] X.env).any (·.1)=ϰ) qQJ) (n:ψ (isPlain e=ϱ) qQJ) (hK:ψ (X.K=K) qQJ) (G:ψ (X.calm=ϱ) qQJ): DE K X (.Call (.Name x np) [e] [{some "key",.Lambda params body scope lp,kq}] pos) (P7 false P q src tl te):=by subst hK;show⟨λy=>?_⟩;rintro qe s τ H Q I ⟨σ,S,R,Z,z,hS,t,hR,hZ⟩;show wpAny_Call_Name_kw<|fu I hg hm hv ?_ hn E;show callWith_kw (bz (((ac hl an n).of y) pos qe s τ H (λvs H1=>∃ds g,KH (BK false P q src te σ R) ds g/\RvAll X.K H1 ds vs/\Rs X.K g H1/\Kp X.K H H1) I {σ,S,KH<|BK false P q src te σ R,Z,z,hS,t,λds g vs H1 r j rs h=>⟨ds,g,r,j,rs,h⟩,hZ}) λus s1 aY=>?_) m d_;let⟨vs,H1,F,r1,ds,g,r,j,rs,h⟩:=aY;let⟨d,rfl,l,xs,fD,rfl,el,Ja,C,kd,step,i⟩:=Ge r;let⟨v,a0,rfl,J,O⟩:=j.cons;cases O.nil;cases J.ref;let⟨u,rfl,ru⟩:=vals1 r1;cases ru;let⟨ps,B,aM⟩:=rs P _ C;show kws_cons<|BI F ⟨a.kind,a.hW,a.loc,a.CW,a.len,a.src⟩ U mk B aM hq M λw s2 H2 f pm cv mK L=>?_;show kws_nil ?_;cases L.u;have o:Kp X.K H1 H2:=L.kp B;show BN L.inv rfl G hr L.code ⟨a.kind,a.hW,a.loc,a.CW,a.len,a.src⟩ NX hp h0 Y Eg hb (he f) ((z.ts h).ts o) (L.rs rs C) el Ja kd step (hR.kp<|h.trans o) i (ksk_s1 _ _) (λx=>ksk_l1 _ _) λx=>ksk_t1 _ _
def P8(Y:X.env.code=.ref c)(mk:Mkr K X.mg X.base c P)(hr:cq k X.A)(a:bZ X N src scope)(hl:DE K X e tl)(he:∀f cv s H,DE K (UY X N q scope f cv X.A.in1.in1 s H) body te)(hm:X.mg x=ϐ)(hv:bootBuiltins x=ϑ (.builtin "sorted")) (hq:ψ (X.env.qual ++ "<lambda>"= q) qQJ) (NX:ψ (N[0]?=some p) qQJ) (hp:ψ (scope.names.lookup p=ϑ .local) qQJ) (h0:ψ (src[0]?=some none) qQJ) (Kx:ψ (scope.isCoroutine=ϰ) qQJ) (Eg:ψ (scope.isGenerator=ϰ) qQJ) (hb:ψ (∀cl pm cv mK u,bindArgs (kla_fn "<lambda>" q params body scope cl pm cv mK) {[u],[]}=pure [(p,u)]) qJ3) (O:ψ (defaultsOf params X.env=([],[])) qQJ) (hg:ψ (Gl X x) qQJ) (hn:ψ (x≠"__name__") qQZ) (E:ψ ((x==("__debug__": ρ))=ϰ) qQZ) (m:ψ (backTo pos (starEach [e] X.env)=`j::backTo pos (starEach [] X.env)) qQJ) (d_:ψ ((backTo pos<|starEach [e] X.env).any (·.1)=ϰ) qQJ) (n:ψ (isPlain e=ϱ) qQJ) (hK:ψ (X.K=K) qQJ) (G:ψ (X.calm=ϱ) qQJ): DE K X (.Call (.Name x np) [e] [{some "key",.Lambda params body scope lp,kq},{some "reverse",.Constant (.bool true) ci cp,kq2}] pos) (P7 true P q src tl te):=by subst hK;show⟨λy=>?_⟩;rintro qe s τ H Q I ⟨σ,S,R,Z,z,hS,t,hR,hZ⟩;show wpAny_Call_Name_kw<|fu I hg hm hv ?_ hn E;show callWith_kw (bz (((ac hl an n).of y) pos qe s τ H (λvs H1=>∃ds g,KH (BK true P q src te σ R) ds g/\RvAll X.K H1 ds vs/\Rs X.K g H1/\Kp X.K H H1) I {σ,S,KH<|BK true P q src te σ R,Z,z,hS,t,λds g vs H1 r j rs h=>⟨ds,g,r,j,rs,h⟩,hZ}) λus s1 aY=>?_) m d_;let⟨vs,H1,F,r1,ds,g,r,j,rs,h⟩:=aY;let⟨d,rfl,l,xs,fD,rfl,el,Ja,C,kd,step,i⟩:=Ge r;let⟨v,a0,rfl,M,U⟩:=j.cons;cases U.nil;cases M.ref;let⟨u,rfl,ru⟩:=vals1 r1;cases ru;let⟨ps,B,aM⟩:=rs P _ C;show kws_cons<|BI F ⟨a.kind,a.hW,a.loc,a.CW,a.len,a.src⟩ Y mk B aM hq O λw s2 H2 f pm cv mK L=>?_;show kws_cons<|bz (Pk (X:=y.cx) _ s2 τ H2 (λv H'=>v=.bl true/\H'=H2) L.inv ⟨rfl,rfl⟩) λw2 s3 eC=>?_;let⟨v2,J,I3,r3,e3,e4⟩:=eC;subst e3 e4;obtain rfl:w2=Value.bool true:=r3;show kws_nil ?_;cases L.u;have o:Kp X.K H1 J:=L.kp B;show BN I3 rfl G hr L.code ⟨a.kind,a.hW,a.loc,a.CW,a.len,a.src⟩ NX hp h0 Kx Eg hb (he f) ((z.ts h).ts o) (L.rs rs C) el Ja kd step (hR.kp<|h.trans o) i (ksk_s2 _ _ _) (λx=>ksk_l2 _ _ _) λx=>ksk_t2 _ _ _
end
section
variable{P:Ψ}{w:Ω}{K:Φ}{mg:ρ->θ ξ}{base:Γ}
def xR.okC{x qual:ρ}{st:Stmt}{f:ε}{fd:FuncData}{N ps:δ ρ}{k:π}{sp:jb}(F:xR K x qual st f fd)(S:gI N ps<|ag st)(len:∀ds S R Z,sp ds S R Z->ds.length=ps.length) (p:∀(gF:ξ)(A:ϕ)(outer:δ Env)(s:ζ)(H:Hp)(E:XK)(ds:δ D)(S:av)(R:KD)(Z:KX),gF=fd.code->cq k (A.deeper<|envOfC qual (ag st) s.heap.objs.size f gF)->sp ds S R Z->∃t,Ed K (lR (fz P w mg) P w K mg base N qual (ag st) f gF A outer s H E) true (bt st) t/\t {nx:=λu S'=>Fo S'<|R .aA,rt:=λd S'=>Fo S'<|R d} (km N ds) S λu C S'=>Fo S'<|Z C):bO P w K mg base (fz P w mg) (k+1) f fd ps (qH K sp):=by
 let⟨oc,od,dV,kV,doc,pm,an,gF,ct,RA,rfl,lk,J⟩:=F.ex;have M:ps.length<=N.length:=by have:=congrArg List.length S.pre;rw[yd]at this;lia
 show Pq lk J S (by rintro vs H Q E ⟨ds,S',R,Z,v,_,h,_⟩;show by rw[v.len];show len _ _ _ _ h) λA outer s H vs Q E hr o=>?_;let⟨ds,S',R,Z,v,G,h,l,m⟩:=o;let⟨t,n,q⟩:=p gF A outer s H E ds S' R Z rfl hr h;have L:dh (lR (fz P w mg) P w K mg base N qual (ag st) f gF A outer s H E) E:=wq;let y:Ev (lR (fz P w mg) P w K mg base N qual (ag st) f gF A outer s H E) true:={_,(lR (fz P w mg) P w K mg base N qual (ag st) f gF A outer s H E).xe,λu=>E,{λp2 τ H1 s1 e s' I h=>Pz L p2 τ H1 s1 e s' I h,λ_ p2 τ H1 s1 h' a cls args I hx B=>qF L I hx B,λu=>PassesOwn.leaving}};show{L2.Tl K (λu=>E) t,n.of y,km N ds,S',_,λu C S'=>Fo S'<|Z C,?_,G,q,{by rintro σ j τ H1 ⟨i,g,r⟩ a b c;show(l.kp c).now (b.sub g) r j8,by rintro d j v H1 ⟨i,g,r⟩ a b c;show l _ _ _ _ r a (b.sub g) c,λu u u u z=>z.elim,λu u u u z=>z.elim},by rintro σ τ C j H1 ⟨i,g,r⟩ a b c;show m C i H1 r (b.sub g) c};unfold km start;show(tN v).app ?_;rw[v.len];show Bu _ _<|by rw[List.length_replicate]
end
structure BO(ts:δ ε)(H:Hp):η where
 all:∀b,H b=ϐ\/(∃o xs,H b=ϑ (.md o<|.lst xs))\/(b∈ts/\H b=ϑ (.r_ #[]))
 tab:∀b∈ts,H b=ϑ (.r_ #[])
def HW{P:Ψ}{w:Ω}{K:Φ}{mg mb:ρ->θ ξ}{CX:DC}{k:π}{fa a:ε}{fd:FuncData}{x:ρ}{sp:Sp}{c:ζ}{vs:δ ξ}{ns:δ ν}{ts:δ ε} (KX:K.In c.heap) (S:c.heap.Ns mainGlobals mg) (hb:c.heap.Ns builtinsNs mb) (P9:∀x:ρ,x≠"__name__"->mb x=bootBuiltins x) (C:c.heap.NoLimit) (Zk:Bm mg c.heap) (hg:c.gens=#[]) (p:∀b∈ts,c.heap.get? b=ϑ (tabObj #[])) (Z:∀b∈ts,isCodeTable c.heap b) (hN:∀b∈ts,K.lookup b=ϐ) (ha:c.heap.get? a=ϑ {cls:=.type "list",data:=.seq vs.toArray}) (hi:IntsAre vs ns) (hl:ns.length<=Ϙ) (hr:cq k callerA) (F:∀base:Γ,Bm mg base->K.In base->base.Ns mainGlobals mg->bO P w K mg base CX k fa fd [x] sp) (Xv:∀(s:ζ) (u:ξ),BindsTo s fd {[u],[]} [(x,u)]) (UA:∀H:Hp,BO ts H->fP K H a (ns.map V.int)->sp [.ref a] H (λv f=>v=.bl true) λf f f=>False) (I:∀H e s',CX [] H c (λf f f=>False) e s'->False): codeAny (model P w) callerA (.call (.ref fa) {[.ref a],[]}) (λr s'=>r=.ok (.ret<|.bool true)/\OldK c.heap s'.heap/\s'.os=c.os/\AllBare s'.gens) c:=by
 have N:=wg hi;have G:=hi.length;have Y:a∉ts:=λz=>by rw[p a z]at ha;cases ha
 have i:∀H:Hp,BO ts H->fP K H a (ns.map V.int)->lO P w H c.heap->(∀b,H b≠none->b=a\/b∈ts)->(H a≠none->K.lookup a=ϐ)->codeAny (model P w) callerA (.call (.ref fa) {[.ref a],[]}) (λr s'=>r=.ok (.ret<|.bool true)/\OldK c.heap s'.heap/\s'.os=c.os/\AllBare s'.gens) c:=by intro H Q hS aM hA hK;have L:∀{b:ε}{o:Obj},c.heap.get? b=ϑ o->H b=ϐ->(vh c.heap H).get? b=ϑ o:=λe n=>Jf e n;have MX:∀{b:ε}{o:Obj}{es:Array DictEntry}{ep:π},c.heap.get? b=ϑ o->o.data=.dict es ep->H b=ϐ:=λ{b o es ep} e d=>(by cases q:H b with|none=>rfl|some u=>rcases hA b (by rw[q];simp) with e'|e';subst e';rw[ha]at e;cases e;have d':Data.seq vs.toArray _=Data.dict es ep:=d;cases d';rw[p b e']at e;cases e;cases d);have B:∀{b:ε}{m:ρ->θ ξ},c.heap.Ns b m->(vh c.heap H).Ns b m:=λ{b m} ⟨o,es,ep,e,d,r⟩=>{o,es,ep,L e<|MX e d,d,r};have y:K.In (vh c.heap H):=λb o e=>L (KX b o e) (by cases q:H b with|none=>rfl|some u=>rcases hA b (by rw[q];simp) with e'|e';subst e';rw[hK<|by rw[q];simp]at e;cases e;rw[hN b e']at e;cases e);have hM:Mod K mg (vh c.heap H):={y,B S,{mb,B hb,P9},by let⟨mc,h1,h2⟩:=C;show{mc,B h1,h2}};have e0:xr P w K mg (vh c.heap H) callerA [] c H:={rfl,hM,λb o e=>MG e,Nat.le_of_eq<|G4 _ _,trivial,λb hb=>absurd (show b∈([]:δ ε) from hb)<|`d,aM,.of_eq hg};have J:Bm mg (vh c.heap H):=(by let⟨bm,E,b1,b2,A,R,b5,U⟩:=Zk;show{bm,E,b1,b2,L A ?_,R,b5,U};cases q:H bm with|none=>rfl|some u=>rcases hA bm (by rw[q];simp) with e'|e';rw[e',ha]at A;cases A;cases U;rw[p bm e']at A;cases A;cases R);show xa ((F _ J y<|B S).run callerA [] c H {[.ref a],[]} [.ref a] [.ref a] _ _ hr e0 (Xv c<|.ref a) (.cons rfl .nil)<|UA H Q hS) λr s' h=>?_;cases r with|error e=>show(I H e s' h).elim|ok fl=>cases fl with|next=>show False.elim h|brk=>show False.elim h|cont=>show False.elim h|ret u=>let⟨v,H',os,bare,un,X,r',q⟩:=h;have q':v=.bl true:=q;subst q';obtain rfl:u=Value.bool true:=r';show{rfl,{λb o e=>?_,λb o e=>un.there b o e<|`d},os,bare};rcases Q.all b with z|⟨E,xs,z⟩|⟨O,z⟩;show .inl<|un.keep b o e z (by intro z;show absurd (show b∈([]:δ ε) from z)<|`d) `d;have j:=un.gD b E _ z;let⟨e1,_⟩:=aM b _ z;let⟨e2,_⟩:=X b _ j;rw[e]at e1;cases e1;show .inl e2;let⟨more,j⟩:=un.gE b _ z;have e2:=p b O;rw[e]at e2;cases e2;show .inr<|.inl {Z b O,rfl,#[],more,rfl,by have:=X b _ j;show this}
 have t:∀(H:Hp),(∀b,b∈ts->H b=ϑ (.r_ #[]))->∀b u,b∈ts->H b=ϑ u->br P w H c.heap b u:=λH h b u hb e=>by rw[h b hb]at e;cases e;show p b hb
 cases M:K.lookup a with|some o=>(have e:=KX a o M;rw[ha]at e;cases e;show i (λb=>if b∈ts then some (.r_ #[]) else none) {λb=>?_,λb hb=>qc hb} (.inr {_,vs.toArray,_,M,rfl,rfl,rfl,by rw[zr,G];show hl,by simpa using N}) (λb u z=>?_) (λb z=>?_) λz=>absurd (qa Y) z;by_cases hb:b∈ts;show .inr<|.inr {hb,qc hb};show .inl<|qa hb;by_cases hb:b∈ts;show t _ (λb hb=>qc hb) b u hb z;have l:=(qa hb).symm.trans z;cases l;by_cases hb:b∈ts;show .inr hb;show absurd (qa hb) z)|none=>show i (λb=>if b=a then some (.md {cls:=.type "list",data:=.seq vs.toArray}<|.lst<|ns.map V.int) else if b∈ts then some (.r_ #[]) else none) {λb=>?_,λb hb=>?_} (.inl<|.inr {{cls:=.type "list",data:=.seq vs.toArray},qc rfl}) (λb u z=>?_) (λb z=>?_) λf=>M;by_cases hb:b=a;show .inr<|.inl {_,_,qc hb};by_cases g:b∈ts;show .inr<|.inr {g,(qa hb).trans<|qc g};show .inl<|(qa hb).trans<|qa g;have:b≠a:=λz=>Y<|z ▸ hb;show(qa this).trans<|qc hb;by_cases hb:b=a;have l:=(qc hb).symm.trans z;cases l;subst hb;show{ha,by rw[zc];show hl,vs,_,N,ha};have l:=(qa hb).symm.trans z;by_cases g:b∈ts;have j:=(qc g).symm.trans l;cases j;show p b g;have j:=(qa g).symm.trans l;cases j;by_cases hb:b=a;show .inl hb;by_cases g:b∈ts;show .inr g;show absurd ((qa hb).trans<|qa g) z
theorem Gf:∀{K:Φ},b∉K.map (·.1)->K.lookup b=ϐ|[],_=>rfl| (a,o)::K,h=>by rw[zD,ze,not_or]at h;rw[ye,show(b==a)=ϰ from beq_false_of_ne h.1];show Gf h.2
theorem N1{K:Params->Φ}{as:δ ε}{e:∀P,as=(K P).map (·.1)}{ts:δ ε}{w:Ω}{h:Γ}(_:(PySem.W.kmHook K as e ts).says w h)(d:∀b∈ts,b∉as):∀b∈ts,(K w.params).lookup b=ϐ:=λb hb=>Gf<|by rw[<-e];show d b hb
def KO{l:PySem.W.OpenLaw}{n k:π}{q:Ψ}{loose:δ ρ}{I:(ρ->θ ξ)->Γ->η}{p:Ω->Γ->η}{d:DefRec}{K:Params->Φ}{CX:DC}{x:ρ}{ts:δ ε} (hn:l.most=ϑ n) (E:n<=Ϙ) (r:d.params.defaults=[]) (hr:cq k callerA) (A:∀(w:Ω)(h:Γ),p w h->(K w.params).In h) (N:∀(w:Ω)(h:Γ),p w h->∀b∈ts,h.get? b=ϑ (tabObj #[])) (hN:∀(w:Ω)(h:Γ),p w h->∀b∈ts,(K w.params).lookup b=ϐ) (F:∀(w:Ω)(mg:ρ->θ ξ)(fa:ε)(h:Γ),(K w.params).In h->h.Ns mainGlobals mg->mg d.name=ϑ (.ref fa)->∃(fd:FuncData)(sp:Sp),(∀b∈ts,∃c,codeHdIn (K w.params) c b=ϱ)/\(∀(s:ζ)(u:ξ),BindsTo s fd {[u],[]} [(x,u)])/\(∀base:Γ,Bm mg base->(K w.params).In base->base.Ns mainGlobals mg->bO l.prog w (K w.params) mg base CX k fa fd [x] sp)/\∀(H:Hp)(a:ε)(ns:δ ν),ns.length<=n->BO ts H->fP (K w.params) H a (ns.map V.int)->sp [.ref a] H (λv Z=>v=.bl true) λZ Z Z=>False) (t:∀(H:Hp)(s:ζ)(e:ξ)(s':ζ),CX [] H s (λZ Z Z=>False) e s'->False): PySem.W.WalkO q loose I p l.row.toRowW d [] (λf vs=>PySem.call f vs):=by show Att.Bj hn r λw cS J mg mb fa o pm cd doc a vs ns G Y S hd U Q C j i O=>?_;have KX:=A w _ Y;let⟨fd,sp,y,hb,M,R⟩:=F w mg fa _ KX G.T.g Q;have m:=N w _ Y;show HW KX G.T.g G.T.b G.T.builtins G.T.nolimit G.T.bmain O m (λb z=>by let⟨c,B⟩:=y b z;show((codeHd_of_K KX B).tab<|m b z).isCodeTable) (hN w _ Y) C j (zj i E) hr M hb (λH L P=>R H a ns i L P) λH e s'=>t H J e s'
namespace Rt
def own:Manifest.owners.lookup (String.ofList ['d','e','s','r','e','v','e','r'].reverse)=ϑ Manifest.sig_reversed:=by kernel_rfl
theorem nN:Slot "reversed" "__next__" "reversed.__next__":=.of (owner:="reversed") (n:="__next__") (by rw[typeLookup_type,builtinLookup_eq_fast];kernel_rfl) `c `c `c (by first|show .inl `c|show .inr `c)<|by rw[isSubtype_type];kernel_rfl
theorem Gg:entryFor table "reversed.__next__"= some Builtin.«reversed.__next__»:=entryFor_of_tree<|by kernel_rfl
def Gi(a:ξ):argsOk "reversed.__next__" {[a],[]}:=by unfold argsOk;rw[signature?_of (id:="reversed.__next__") (n:=['_','_','t','x','e','n','_','_']) (o:=['d','e','s','r','e','v','e','r']) (by kernel_rfl) own];kernel_rfl
theorem Gj:Slot "reversed" "__iter__" "reversed.__iter__":=.of (owner:="reversed") (n:="__iter__") (by rw[typeLookup_type,builtinLookup_eq_fast];kernel_rfl) `c `c `c (by first|show .inl `c|show .inr `c)<|by rw[isSubtype_type];kernel_rfl
def N2(a:ξ):argsOk "reversed.__iter__" {[a],[]}:=by unfold argsOk;rw[signature?_of (id:="reversed.__iter__") (n:=['_','_','r','e','t','i','_','_']) (o:=['d','e','s','r','e','v','e','r']) (by kernel_rfl) own];kernel_rfl
theorem N3:entryFor table "reversed.__iter__"= some Builtin.«dict_keyiterator.__iter__»:=entryFor_alias (id':="dict_keyiterator.__iter__") (by kernel_rfl) (by first|rfl|decide +kernel|(unfold String.splitOn;simp +decide [String.splitOnAux])) `c<|by kernel_rfl
theorem N4:Slot "reversed" "__init__" "object.__init__":=.of (owner:="object") (n:="__init__") (by rw[typeLookup_type,builtinLookup_eq_fast];kernel_rfl) `c `c `c (by first|show .inl `c|show .inr `c)<|by rw[isSubtype_type];kernel_rfl
theorem called:TypeCalled "reversed" "reversed.__new__" "object.__init__":={`c,`c,{_,_,F.mro_reversed},F.made_reversed,`c,by rw[isSubtype_type];kernel_rfl,N4}
def SR:typeLookup (.type "tuple") "__reversed__"= pure none:=by rw[typeLookup_type,builtinLookup_eq_fast];kernel_rfl
def Gk:typeLookup (.type "tuple") "__getitem__"= pure (some<|.builtin "tuple.__getitem__"):=by rw[typeLookup_type,builtinLookup_eq_fast];kernel_rfl
def N5:isSubtype (.type "tuple") (.type "dict")=pure false:=by rw[isSubtype_type];kernel_rfl
end Rt
noncomputable def BP(l:ε)(i:ν):Obj:={cls:=.type "reversed",data:=.fields #[.ref l,rawInt i]}
def tR(h:Γ)(a l:ε)(i:ν):Prop:=∃o,h.get? a=ϑ o/\o.cls=.type "reversed"/\o.data=.fields #[.ref l,rawInt i]
section
variable{prog:Ψ}{w:Ω}{A:ϕ}{E:ξ->ζ->η}{s:ζ}
def tR.typeIs(x:tR s.heap a l i):s.TypeIs (.ref a) "reversed":=by let⟨o,c,d,_⟩:=x;show⟨o,c,d⟩
def tR.keep(x:tR h a l i)(e:∀o,h.get? a=ϑ o->h'.get? a=ϑ o):tR h' a l i:=by let⟨o,c,r⟩:=x;show{o,e _ c,r}
def SS(hl:IsTup s.heap l items)(hz:items.size<=Ϙ)(h:Q₁ (.ref s.heap.objs.size) {s with heap:=s.heap.push<|BP l<|(items.size:ν)-1,toks:=s.toks+1+1}): codeAny `n A (.call (.builtin "reversed.__new__") {[.type "reversed",.ref l],[]}) (wants Q₁ E) s:=by
 show codeAny_of_tree ?_;change wpAny _ A.in1 (do checkBuiltinCall "reversed.__new__" {[.type "reversed",.ref l],[]};again (.builtin "reversed.__new__" {[.type "reversed",.ref l],[]})) _ _ s;show zb<|xg (F.newCall_reversed_1 _)<|zp {plainId_quiet F.plain_reversed_new _,yX F.entry_reversed_new ?_};rw[Around.under_plainId F.plain_reversed_new _];unfold Builtin.«reversed.__new__»;show zb<|xg (newClass_reversed _) ?_;show zb<|xg (a:=()) (by first|rfl|kernel_rfl)<|zb<|xg (a:=()) (by first|rfl|kernel_rfl) ?_;show zb<|wpAny_specialOf hl.typeIs Rt.SR ?_;show zb<|zb<|wpAny_isInstance hl.typeIs Rt.N5<|zb<|wpAny_specialOf hl.typeIs Rt.Gk ?_;change wpAny _ _ (if (["tuple.__getitem__","str.__getitem__","bytes.__getitem__","bytearray.__getitem__","memoryview.__getitem__","numpy.ndarray.__getitem__","sqlite3.Row.__getitem__"]:δ String).contains "tuple.__getitem__"= true then pure true else _) _ _ _;rw[qc<|`c];show zp ?_
 change wpAny _ _ (do
     let c <-call (Value.builtin "len") [Value.ref l]
     let __x <-asInt? c
     match __x with
      |some n=>do
       let c <-Builtin.SmallTypes.newRecord (Value.type "reversed") [Value.ref l,rawInt (n-1)]
       ret c
      |x=>unsupported "internal:reversed.__new__") _ _ _
 show zb<|len_tuple hl (by rw[yh]at hz;lia) ?_;show zb<|xg (a:=some ((items.size:π):ν)) rfl ?_;show zb (m:=newObj (.type "reversed")<|.fields #[.ref l,rawInt<|((items.size:π):ν)-1])<|yq<|zp h
def N6(hl:IsTup s.heap l items)(hz:items.size<=Ϙ)(h:Q (.ref s.heap.objs.size) {s with heap:=s.heap.push<|BP l<|(items.size:ν)-1,toks:=s.toks+1+1}): wpAny `n A (call (.type "reversed") [.ref l]) Q E s:=by show callType_codes Rt.called (F.typeCall_reversed_1 _) F.entry_object_init (Q₁:=λobj a=>a.TypeIs obj "reversed"/\Q obj a) (SS hl hz {{_,zl _ rfl,rfl},h}) λobj a c=>?_;show{c.1,F.args_object_init_2 obj _,object_init_meets Rt.called.init.lookup Rt.called.made `a prog w A.in1 _ a ⟨c.1,rfl,c.2⟩}
def sqx(h:k<n):seqIndex? ((k:π):ν) n=ϑ k:=by have e:(if ((k:π):ν)<0 then ((k:π):ν)+(n:ν) else ((k:π):ν))=((k:π):ν):=qa `d;unfold seqIndex?;dsimp only;rw[e,qc<|by simp;show Nat.lt_of_succ_le ‹_›];rfl
def N7{it l:ε}{i:π}{items:Array ξ}{x:ξ}{Q:θ ξ->ζ->η}(c:tR s.heap it l (i:ν))(hl:IsTup s.heap l items)(hz:items.size<=Ϙ)(hx:items[i]?=some x) (e:∀h' tk,tR h' it l ((i:ν)-1)->Heap.SameBut it s.heap h'->Q (some x) {s with heap:=h',toks:=tk}):wpAny `n A (pyNext<|.ref it) Q E s:=by let⟨o,d,g,hd⟩:=id c;have hi:i<items.size:=(Array.getElem?_eq_some_iff.mp hx).1;unfold pyNext;show zb<|xf<|yp (name:=Str.ofString "__next__") c.typeIs Rt.nN<|yz Rt.nN c.typeIs Rt.Gg ?_<|Rt.Gi _;unfold Builtin.«reversed.__next__»;show zb<|xg (a:=(Value.ref it,[])) rfl<|zb<|zP d hd (x:=.ref l) rfl<|zb<|zP d hd (x:=rawInt (i:ν)) rfl ?_;change wpAny _ _ (if (i:ν)<0 then _ else _) _ _ s;rw[qa<|`b];change wpAny _ _ (specialOf (.ref l) "__getitem__" >>=_) _ _ s;show zb<|wpAny_specialOf hl.typeIs Rt.Gk ?_;change wpAny _ _ (mkInt (i:ν) >>=_) _ _ s;show zb<|wpAny_mkInt ?_;show zb<|xf<|getItem_tuple (j:=i) hl (Int.natCast_nonneg _) (by rw[yh]at hz;lia) (sqx hi) hx ?_;show zb<|zP d hd (x:=rawInt (i:ν)) rfl ?_;change wpAny _ _ (setField (.ref it) 1 (rawInt<|(i:ν)-1) >>=λz=>ret x) _ _ _;show zb<|y6 d hd `d<|zp {x,rfl,zp<|e _ _ ?_<|yL ..};show{_,yD _ d<|Obj.isFreed_of_fields<|yG hd _,(Obj.cls_mapFields ..).trans g,by rw[yG hd];simp}
def SU(h:A.handled=ϐ)(c:tR s.heap it l (-1))(i:∀h',Heap.ExtBut it s.heap h'->Q none {s with heap:=h'}):wpAny `n A (pyNext<|.ref it) Q E s:=by
 let⟨o,g,p,hd⟩:=id c;unfold pyNext;show zb<|xf<|yp (name:=Str.ofString "__next__") c.typeIs Rt.nN<|yz Rt.nN c.typeIs Rt.Gg ?_<|Rt.Gi _;unfold Builtin.«reversed.__next__»;show zb<|xg (a:=(Value.ref it,[])) rfl<|zb<|zP g hd (x:=.ref l) rfl<|zb<|zP g hd (x:=rawInt (-1)) rfl ?_;change wpAny _ _ (if (-1:ν)<0 then _ else _) _ _ s;rw[qc<|`a];show zb<|y7 ?_;have d:=yG hd (·.setIfInBounds 1 (rawInt (-1)));have j:=yD (Obj.mapFields (·.setIfInBounds 1 (rawInt (-1)))) g<|Obj.isFreed_of_fields d;show zb (m:=setField (.ref it) 1 (rawInt (-1)) >>=λz=>setField (.ref it) 0 .none)<|zb<|y6 g hd `d<|y6 j d `d ?_;have n:Heap.ExtBut it s.heap ((s.heap.update it (Obj.mapFields (·.setIfInBounds 1 (rawInt (-1))))).update it (Obj.mapFields (·.setIfInBounds 0 Value.none))):=λb u hb e=>by rw[yA _ _<|Ne.symm hb,yA _ _<|Ne.symm hb];show e
 show zb ?_;change wpAny _ _ (newExc (.type "StopIteration") [] >>=_) _ _ _;show zb ?_;simp only[newExc,newTuple];show zb<|yq ?_ (by size_fits);show zb (m:=firstArgMember _ _)<|xg (a:=Value.none) (by first|rfl|(simp only[firstArgMember];rfl)) ?_;show yq ?_ (by size_fits);simp only[raiseNew];show zb<|wpAny_handled ?_;first|rw[show A.in1.handled=ϐ from h]|rw[h]
 show zb<|zp<|wpAny_throw ?_;show zb<|wpAny_isInstance (T:="StopIteration") (b:=true) {_,zl _ rfl,rfl} isSubtype_stop ?_;show zp<|i _<|(n.push _).push _
def Gm(a:tR s.heap it l i)(h:Q (.ref it) s):wpAny `n A (pyIter<|.ref it) Q E s:=by show wpAny_pyIter_slot a.typeIs Rt.Gj<|yz Rt.Gj a.typeIs Rt.N3 ?_<|Rt.N2 _;change wpAny _ _ (ret<|.ref it) _ _ s;show zp !{"reversed",_,a.typeIs,Rt.nN.lookup,h}
end
end L2
namespace L2
open PySem PySem.Spec PyProof.Rows
def Xx(K:Φ)(a:ε)(n:π):It:={λi H=>∃xs x,g_ K H a xs/\xs.length=n/\i<n/\xs[n-1-i]?=some x,λi H x H'=>H'=H/\∀xs,g_ K H a xs->xs.length=n->xs[n-1-i]?=some x,λi z=>n<=i}
theorem N8{P:Ψ}{w:Ω}{K:Φ}{tg:Δ}(a it:ε)(n:π):Turn P w K tg (Xx K a n) [it] it (λi h=>i<=n/\tR h it a ((n:ν)-1-(i:ν))) where
 mem:=`d
 obj:=λi h st b hb=>by
  have e:b=it:=by simpa using hb
  subst e
  let⟨_,o,e,c,d⟩:=st
  show{o,e,λv z=>by rw[d]at z;cases z}
 keep:=λi h h' st k=>{st.1,st.2.keep λo e=>k it `d o e}
 item:=by
  intro X hP hw hK hc i qe s σ H E I hf st hg
  subst hP hw hK
  let⟨xs,x,hq,hn,hi,hx⟩:=hg
  let⟨aC,rv,p,hz⟩:=I.tuple hq
  let⟨u,hu,ru⟩:=rv.get hx
  let⟨f0,f1,f2,f3,f4,f5⟩:=hf it<|`d
  have e:(n:ν)-1-(i:ν)=((n-1-i:π):ν):=`b
  have hit:=st.2
  rw[e]at hit
  show N7 hit p (by rw[zr,<-rv.length];show hz) (x:=u) (by simpa using hu) λh' tk ee sb=>?_
  have I1:Inv X qe σ H {s with heap:=h',toks:=tk}:=I.turned (t':=tk) (λb o hb e=>(sb.2 b hb).trans e) f0 f1 f3 f4 f5
  let⟨o,e1,c,d⟩:=id ee
  show{u,rfl,v5 (s:={s with heap:=h',toks:=tk}) e1 c d `a {x,H,I1,ru,{rfl,λys hy y=>by rw[I.oY hy hq];show hx},{hi,?_},λb hb=>(hf b hb).1}}
  have e2:(n:ν)-1-((i+1:π):ν)=((n-1-i:π):ν)-1:=`b
  rw[e2];show ee
 done:=by
  intro X hP hw hK hc i qe s σ H E I hf st hg
  subst hP hw hK
  let⟨f0,f1,f2,f3,f4,f5⟩:=hf it<|`d
  have hg:n<=i:=hg
  have e:(n:ν)-1-(i:ν) = -1:=by have:=st.1;lia
  have hit:=st.2
  rw[e]at hit
  show SU (I.ok.hd hc) hit λh' eb=>{rfl,I.turned (t':=s.toks) (λb o hb e=>eb b o hb e) f0 f1 f3 f4 f5}
 self:=λy y y y y st h=>Gm st.2 h
def iRt(K:Φ)(ta:TA):TI:=λσ H R=>ta σ H λvs H1=>∃a xs,vs=[.ref a]/\g_ K H1 a xs/\R (Xx K a xs.length) H1
def Xy{X:Cx}{tg a:Δ}{ta:TA}{p pos:Pos}(w:Gl X "reversed")(hm:X.mg "reversed"= none)(ha:PA X [a] ta)(n:starEach [a] X.env=[(false,eval a X.env)]):PI X tg (.Call (.Name "reversed" p) [a] [] pos) (iRt X.K ta):=by
 intro qe s σ H R I h;show Call_<|fu I w hm boot_reversed<|yj (bz (ha pos qe s σ H _ I h) λus s1 r=>?_) n rfl;let⟨vs,H1,c,m,j⟩:=r;let⟨l,xs,e,q,x⟩:=j;subst e;let⟨u,rfl,t⟩:=vals1 m;cases t;let⟨v,i,pl,d⟩:=c.tuple q;have hn:v.toArray.size=xs.length:=by rw[zr,i.length]
 show N6 pl (by rw[hn];show d) ?_;rw[hn];have st:tR (s1.heap.push<|BP l<|(xs.length:ν)-1) s1.heap.objs.size l ((xs.length:ν)-1-((0:π):ν)):={_,zl _ rfl,rfl,by change Data.fields _=Data.fields _;simp};have g:Inv X qe σ H1 {s1 with heap:=s1.heap.push<|BP l<|(xs.length:ν)-1,toks:=s1.toks+1+1}:=c.kept (t':=s1.toks+1+1) λb o e=>za _ e;show Gm (s:={s1 with heap:=s1.heap.push<|BP l<|(xs.length:ν)-1,toks:=s1.toks+1+1}) st {_,_,_,_,H1,rfl,g,N8 l s1.heap.objs.size xs.length,{zU _,st},λb hb=>?_,x};have hb:b=s1.heap.objs.size:=by simpa using hb
 subst hb;show c.nv (zm _)<|c.aM.fresh<|zm _
section
variable{K:Φ}{X:Cx}{tg:Δ}
def abV(t:iC):xQ:=λσ S R Z=>t σ S (λds a=>∃es,ds=[.tup es]/\R {es.reverse,λz=>True} a) Z
def irt{t:iC}(hm:X.mg "reversed"= none)(ha:DA K X [a] t)(A:ψ (Gl X "reversed") qQJ)(o:ψ (starEach [a] X.env=[(false,eval a X.env)]) qQJ)(x:ψ (X.K=K) qQJ):DI K X tg (.Call (.Name "reversed" p) [a] [] pos) (abV t):=by subst x;show⟨λy=>(Xy (X:=y.cx) A hm (ha.of y) o).mono <| by rintro τ H R ⟨σ,S,RI,Z,s,z,q,B,m⟩;show{σ,S,_,Z,s,z,q,by rintro ds l vs H1 ⟨es,e,n⟩ j s1 w;subst e;let⟨v,rfl,r⟩:=j.one;let⟨a,xs,rfl,hq,t⟩:=r.tup;show{a,xs,rfl,.inl<|.of hq,B _ l _ H1 n (λi C H2 c s2 E=>?_) s1 w};have g:g_ X.K H2 a xs:=.inl<|.of<|c.t _ _ hq;have t2:=RvAll.ts c _ t;have hl:xs.length=es.length:=t.len;show{λd hd=>?_,λh=>by rw[yM]at h;change xs.length<=i;lia};have hi:i<es.length:=(by have:=(zh.mp hd).1;rwa [yM]at this);rw[List.getElem?_reverse hi]at hd;let⟨v,e1,r⟩:=t2.get hd;rw[hl];show{⟨xs,v,g,hl,hi,e1⟩,λx' H' ⟨e2,e3⟩=>?_};subst e2;have:=e3 xs g hl;rw[e1]at this;cases this;show{r,.refl _,s2},m}⟩
end
section
variable{K:Φ}{X:Cx}{pos:Pos}
def SV(tc:lT)(tb:lV):lV:=λDe σ S Z=>∃P:π->SD->av->η,(∃m,P m σ S)/\∀m σ S,P m σ S->tc σ S (λb c=>if b=ϱ then tb {De with nx:=λa S'=>∃m',m'<m/\P m' a S',ct:=λa S'=>∃m',m'<m/\P m' a S',bk:=De.nx} σ c Z else De.nx σ c) (Z σ)
theorem swh(z:DT K X c tc)(hb:Ed K X true body tb):DS K X true (.While c body [] pos) (SV tc tb):=
 ⟨λy=>(Jn (X:=y.cx) (y.ok.loop rfl) (z.of y)<|hb.of y).mono <| by rintro D τ H ⟨σ,S,De,Z,F,N,⟨P,⟨m,J⟩,a⟩,l,x⟩;show
  ⟨λm O H'=>∃σ S,jQ K H' σ O/\Rs K S H'/\P m σ S/\Kp K H H',⟨m,σ,S,F,N,J,.refl _⟩,by rintro m Q H1 ⟨i,w,g,s1,I,s⟩;show⟨i,w,_,Z i,g,s1,a m i w I,λb B H2 j s2 d=>by
   cases b with
   |true =>
    rw[qc rfl]at j⊢
    show{λτ3 e=>∃σ S,jQ K e σ τ3/\Rs K S e/\(∃h,h<m/\P h σ S)/\Kp K H e,by rintro τ3 e ⟨A,E,L,G,⟨h,hm,p3⟩,M⟩;show⟨h,hm,A,E,L,G,p3,M⟩,?_}
    have kk:=s.trans d
    show{i,B,_,Z,g.ts d,s2,j,{λp v τ5 C n r t o=>{p,v,r,t,n,kk.trans o},l.rt.kp kk,l.nx.kp kk,λp v τ5 C n r t o=>{p,v,r,t,n,kk.trans o}},x.kp kk}
   |false =>
    rw[qa zd]at j⊢
    show l.nx _ _ _ _ j (g.ts d) s2<|s.trans d,(x.kp s).at g⟩⟩⟩
def abW(i:π)(te:TD):lV:=λDe σ S Z=>∃a:ν,σ[i]?=some (some<|.int a)/\te σ S (λd c=>∃b:ν,d=.int b/\De.nx (σ.set i<|some<|.int<|a+b) c) (Z σ)
theorem sau(hN:X.N.Nodup)(j:DE K X e te)(hi:ψ (X.N[i]?=some x) qQJ)(hx:ψ (Loc X.env.scope x) qQ8)(s:ψ (X.fn x=ϱ\/X.env.scope.names.lookup x=ϑ .local) qQ8): DS K X b (.AugAssign (.Name x pos') .Add e pos) (abW i te):=⟨λy=>(Q9 (X:=y.cx) hN hi hx (j.of y) Q_ s).mono <| by rintro D τ H ⟨σ,S,De,Z,g,p,⟨a,ha,t⟩,o,l⟩;let⟨v,e1,r⟩:=g.get ha;show{v,e1,σ,S,_,Z σ,g,p,t,by rintro d w u H1 ⟨c,e2,n⟩ m s1 h;subst e2;show{a,c,r.int,m.int,o.nx _ _ _ _ n ((g.ts h).set i<|aS _) s1 h},l.at g}⟩
noncomputable def vD:V->D|.int i=>.int i|.str z=>.str z|.bl b=>.bl b|_=>.aA
noncomputable def KP:V->χ|.int _=>true|.str _=>true|_=>false
def Xz(kvs:δ<|ρ×V)(ty:TD):TD:=λσ S R Z=>ty σ S (λy a=>∃z,y=.str z/\R ((kvs.lookup z).elim .aA vD) a) Z
theorem mgk{w:Ω}{ad:ε}{kvs:δ<|ρ×V}{o e:Δ}{apos aV:Pos}{ty:TD}(d:JU w K ad kvs)(A:(kvs.all λp=>KP p.2)=ϱ)(c:∀Y:Cx,Y.env=X.env->Y.mg=X.mg->PE Y o (tC<|.ref ad))(j:DE K X e ty)(hw:ψ (X.w=w) qQJ)(s:ψ (X.K=K) qQJ)(m:ψ (M1 X o "get" apos e aV) qQ4): DE K X (.Call (.Attribute o "get" apos) [e] [] aV) (Xz kvs ty):=⟨λy=>(JW (X:=y.cx) hw s (c y.cx rfl rfl) (j.of y) ⟨m.base,m.IV,m.line,m.trees⟩).mono <| by rintro τ H Q ⟨σ,S,R,Z,g,t,q,x,l⟩;show⟨ad,kvs,rfl,d,σ,S,_,Z,g,t,q,by
 rintro C B v H1 ⟨z,e1,r⟩ n s1 h;subst e1;show{z,n.str,x _ _ _ _ r ?_ s1 h};have fl:∀v,kvs.lookup z=ϑ v->KP v=ϱ:=λv a=>by have:=ym a;show yo.mp A _ this
 cases q:kvs.lookup z with|none=>show j8|some v=>have:=fl v q;cases v with|int i=>show aS i|str i=>show i6 i|_=>(cases this),l⟩⟩
end
theorem gK(hm:X.mg x=ϑ (.ref a))(c:ψ (Gl X x) qQJ)(hd:ψ ((x==("__debug__": ρ))=ϰ) qQZ):∀Y:Cx,Y.env=X.env->Y.mg=X.mg->PE Y (.Name x pos) (tC<|.ref a):=λY e1 e2=>FD (X:=Y) (u:=.ref a) (show Y.env.kindOf x=_ by rw[e1];show c) (by rw[e2];show hm) rfl hd
structure Fb(K:Φ)(x q:ρ)(st:Stmt)(ps:δ ρ)(f:ε)(d:FuncData):η where
 F:xR K x q st f d
 b:Binds K d ps []
structure KQ(K:Φ)(mg:ρ->θ ξ)(x:ρ)(st:Stmt)(ps:δ ρ)(f:ε)(d:FuncData):η extends Fb K x x st ps f d where
 k:keepIn K (.ref f)=ϱ
 m:mg x=ϑ (.ref f)
structure P_(K:Φ)(c:ε)(x q:ρ)(st:Stmt)(ps:δ ρ)(f:ε)(d:FuncData):η extends Fb K x q st ps f d where
 e:Meth K c x f
abbrev Ok(P:Ψ)(w:Ω)(base:Γ){K:Φ}{mg:ρ->θ ξ}{x:ρ}{st:Stmt}{ps:δ ρ}{f:ε}{d:FuncData}(_:KQ K mg x st ps f d)(k:π)(sp:jb):Prop:=bO P w K mg base (fz P w mg) k f d ps<|qH K sp
abbrev sE(P:Ψ)(w:Ω)(mg:ρ->θ ξ)(base:Γ){K:Φ}{c:ε}{x q:ρ}{st:Stmt}{ps:δ ρ}{f:ε}{d:FuncData}(_:P_ K c x q st ps f d)(k:π)(sp:jb):Prop:=bO P w K mg base (fz P w mg) k f d ps<|qH K sp
theorem fsc{N P:δ ρ}{sc:Scope}(a:ψ (sc.kind=.function/\sc.isCoroutine=ϰ/\sc.isGenerator=ϰ/\N.take P.length=P) qQ4)(b:ψ (N.Nodup/\(∀x∈P,sc.names.lookup x=ϑ .local\/sc.names.lookup x=ϑ .cell)/\∀y∈sc.names,y.2≠.free) qJ5):gI N P sc:=⟨a.1,a.2.1,a.2.2.1,b.1,a.2.2.2,b.2.1,b.2.2⟩
section
variable{R:η}{K:Φ}{h:Γ}{mg:ρ->θ ξ}{od an:θ ε}{sl:Array (θ ξ)}{oc dV kV dc pm cd ct:ξ}{f da:ε}{N9:θ ε}{dn:π}{N_:Array (θ ξ)}{c:ε}{tk:Tok}{d:FuncData}
theorem fn1(X:K.In h)(G:h.Ns mainGlobals mg)(x:ρ)(st:Stmt)(ps:δ ρ)(a:nsIn K mainGlobals x=ϑ (some<|.ref f))(l:K.lookup f=ϑ {oc,od,.func<|fnOf x x (bG st) (bt st) (ag st) dV kV dc pm an cd ct,sl}) (e:codeIn K cd x=ϱ) (k:keepIn K (.ref f)=ϱ) (b:∀us:δ ξ,us.length=ps.length->bindArgs (fnOf x x (bG st) (bt st) (ag st) dV kV dc pm an cd ct) {us,[]}=pure (ps.zip us)) (g:∀d,KQ K mg x st ps f d->R):R:=g _ {{{_,_,_,_,_,_,_,_,_,_,rfl,l,e},.all b},k,mg_of X G a}
theorem fnl(X:K.In h)(G:h.Ns mainGlobals mg)(x:ρ)(st:Stmt)(ps:δ ρ)(a:nsIn K mainGlobals x=ϑ (some<|.ref f))(l:K.lookup f=ϑ {oc,od,.func<|fnOf x x (bG st) (bt st) (ag st) dV kV dc pm an cd ct,sl}) (e:codeIn K cd x=ϱ) (k:keepIn K (.ref f)=ϱ) (b:∀us:δ ξ,us.length=ps.length->bindArgs (fnOf x x (bG st) (bt st) (ag st) dV kV dc pm an cd ct) {us,[]}=pure (ps.zip us)) (g:∀d,d.code=cd->(∀(s:ζ)(us:δ ξ),us.length=ps.length->BindsTo s d {us,[]} (ps.zip us))->KQ K mg x st ps f d->R):R:=g _ rfl (λs us h=>.of_eq<|b us h) {{{_,_,_,_,_,_,_,_,_,_,rfl,l,e},.all b},k,mg_of X G a}
theorem fm1(C:sA K c)(x q:ρ)(st:Stmt)(ps:δ ρ)(a:findIn K (.ref c) x=ϑ (some<|.ref f))(i:isFn K (.ref f)=ϱ)(l:K.lookup f=ϑ {oc,od,.func<|fnOf x q (bG st) (bt st) (ag st) dV kV dc pm an cd ct,sl}) (e:codeIn K cd q=ϱ) (k:keepIn K (.ref f)=ϱ) (b:∀us:δ ξ,us.length=ps.length->bindArgs (fnOf x q (bG st) (bt st) (ag st) dV kV dc pm an cd ct) {us,[]}=pure (ps.zip us)) (g:∀d,P_ K c x q st ps f d->R):R:=g _ {{{_,_,_,_,_,_,_,_,_,_,rfl,l,e},.all b},a,i,k}
theorem fmd(C:sA K c)(x q:ρ)(st:Stmt)(ps:δ ρ)(a:findIn K (.ref c) x=ϑ (some<|.ref f))(i:isFn K (.ref f)=ϱ)(l:K.lookup f=ϑ {oc,od,.func<|fnOf x q (bG st) (bt st) (ag st) (.ref da) kV dc pm an cd ct,sl}) (t:K.lookup da=ϑ {.type "tuple",N9,.seq #[.none] dn,N_}) (e:codeIn K cd q=ϱ) (k:keepIn K (.ref f)=ϱ) (b:∀(s:ζ) (us:δ ξ),s.heap.get? da=ϑ {.type "tuple",N9,.seq #[.none] dn,N_}->us.length=ps.length->BindsTo s (fnOf x q (bG st) (bt st) (ag st) (.ref da) kV dc pm an cd ct) {us,[]} (ps.zip us)) (j:∀(s:ζ) (us:δ ξ),s.heap.get? da=ϑ {.type "tuple",N9,.seq #[.none] dn,N_}->us.length+1=ps.length->BindsTo s (fnOf x q (bG st) (bt st) (ag st) (.ref da) kV dc pm an cd ct) {us,[]} (ps.zip<|us++[.none])) (g:∀d,P_ K c x q st ps f d->Binds K d ps [.none]->R):R:=g _ {{{_,_,_,_,_,_,_,_,_,_,rfl,l,e},λs us h hl=>by rw[List.append_nil]at hl⊢;show b s us (h _ _ t) hl},a,i,k} λs us h hl=>j s us (h _ _ t)<|by simpa using hl
theorem A8(X:K.In h)(G:h.Ns mainGlobals mg)(x:ρ)(a:nsIn K mainGlobals x=ϑ none)(g:mg x=ϐ->R):R:=g<|PySem.W.mg_none_of X G a
theorem Oa(X:K.In h)(G:h.Ns mainGlobals mg)(x:ρ)(i:ν)(a:nsIn K mainGlobals x=ϑ (some<|.int i tk))(g:mg x=ϑ (.int i tk)->R):R:=g<|mg_of X G a
theorem U6(X:K.In h)(G:h.Ns mainGlobals mg)(x:ρ)(a:nsIn K mainGlobals x=ϑ (some<|.ref c))(l:K.lookup c=ϑ o)(g:mg x=ϑ (.ref c)->K.lookup c=ϑ o->R):R:=g (mg_of X G a) l
theorem KR(X:K.In h)(G:h.Ns mainGlobals mg)(x:ρ)(a:nsIn K mainGlobals x=ϑ (some<|.ref c))(e:excIn K c L2.mH "ValueError.__new__"= true)(g:mg x=ϑ (.ref c)->excIn K c L2.mH "ValueError.__new__"= true->R):R:=g (mg_of X G a) e
theorem gvc(X:K.In h)(G:h.Ns mainGlobals mg)(x:ρ)(a:nsIn K mainGlobals x=ϑ (some<|.ref c))(pg:plainGet K c Str.empty=ϱ)(hd:hasDictIn K c=ϱ)(po:plainOver K c=ϱ)(sa:findIn K (.ref c) "__setattr__"= some (some<|.builtin "object.__setattr__"))(e:makesIn K c=ϱ)(d:keepIn K (.ref c)=ϱ) (g:mg x=ϑ (.ref c)->sA K c->makesIn K c=ϱ->keepIn K (.ref c)=ϱ->R):R:=g (mg_of X G a) ⟨pg,hd,po,sa⟩ e d
theorem U7(C:sA K c)(x:ρ)(a:findIn K (.ref c) x=ϑ none)(g:findIn K (.ref c) x=ϑ none->R):R:=g a
def SW{P:ε}(l:K.lookup c=ϑ o)(e:codeHdIn [(c,o)] c P=ϱ):codeHdIn K c P=ϱ:=by unfold codeHdIn at e⊢;rw[l];rw[show([(c,o)]:Φ).lookup c=ϑ o by simp]at e;show e
theorem gvm{P:ε}(X:K.In h)(e:d.code=.ref c)(o:K.lookup c=ϑ {oC,od,.fields vC,sl})(q:vC[11]?=some (.ref P))(a:codeHdIn [(c,{oC,od,.fields vC,sl})] c P=ϱ)(g:codeHdIn K c P=ϱ->R):R:=g<|SW o a
end
section
variable{Q:δ ξ->η}
def Zm(h:Q [])(us:δ ξ)(e:us.length=0):Q us:=by cases us with|nil=>show h|cons a us=>cases e
def HX(h:∀a us,us.length=n->Q (a::us))(us:δ ξ)(e:us.length=n+1):Q us:=by cases us with|nil=>(cases e)|cons a us=>show h a us<|Nat.succ.inj e
theorem U8(h:∀a,Q [a]):∀us:δ ξ,us.length=1->Q us:=HX λa=>Zm<|h a
theorem ln2(h:∀a b,Q [a,b]):∀us:δ ξ,us.length=2->Q us:=HX λa=>U8<|h a
theorem U9(h:∀a b c,Q [a,b,c]):∀us:δ ξ,us.length=3->Q us:=HX λa=>ln2<|h a
theorem Zn(h:∀a b c d,Q [a,b,c,d]):∀us:δ ξ,us.length=4->Q us:=HX λa=>U9<|h a
theorem Zo(h:∀a b c d e,Q [a,b,c,d,e]):∀us:δ ξ,us.length=5->Q us:=HX λa=>Zn<|h a
theorem XB(h:∀a b c d e f,Q [a,b,c,d,e,f]):∀us:δ ξ,us.length=6->Q us:=HX λa=>Zo<|h a
theorem abY(h:∀a,Q [a])(us:δ ξ)(e:us.length+1=2):Q us:=U8 h us<|Nat.succ.inj e
theorem abZ(h:∀a b,Q [a,b])(us:δ ξ)(e:us.length+1=3):Q us:=ln2 h us<|Nat.succ.inj e
end
section
variable{K:Φ}{X:Cx}{x:ρ}{st:Stmt}{ps:δ ρ}{f:ε}{fd:FuncData}{sp:jb}{e:Δ}{es:δ Δ}{p pos:Pos}
theorem aI{t:iC}(T:KQ K X.mg x st ps f fd)(F:bO X.prog X.w K X.mg X.base (fz X.prog X.w X.mg) k f fd ps<|qH K sp)(hr:cq k' X.A)(ha:DA K X (e::es) t)(a:ψ (k<=k') qJX) (d:ψ (Gl X x) qQJ) (c:ψ ((x==("__debug__": ρ))=ϰ) qQZ) (h:ψ (starEach (e::es) X.env=`j::starEach es X.env) qQJ) (g:ψ ((backTo pos<|starEach es X.env).any (·.1)=ϰ) qQJ) (i:ψ (X.K=K) qQJ): DE K X (.Call (.Name x p) (e::es) [] pos) (PR sp [] t):=cf (F.mono a) hr T.m T.k T.b d0 ha d c h g i
end
theorem cq.u(r:cq k A):A.units+64<cLine:=r.units
def ZSm(n l0 l1:π)(i:π)(h:Γ):Prop:=IsZip h (n+4) (n+2) (n+3) .none/\eI h (n+2) #[.ref n,.ref<|n+1]/\(∃arr:Array ξ,arr.size=2/\eI h (n+3) arr)/\h.IsListIter n l0 i/\h.IsListIter (n+1) l1 i
section
variable{prog:Ψ}{w:Ω}{A:ϕ}{E:ξ->ζ->η}{s:ζ}{n l0 l1 i:π}{jz j7:Array ξ}
def HY{g h:ξ}{arr:Array ξ}(O:arr.size=2){Q:ξ->ζ->η}(b0:l0<n)(b1:l1<n)(hz:IsZip s.heap (n+4) (n+2) (n+3) .none)(hI:eI s.heap (n+2) #[.ref n,.ref<|n+1])(hO:eI s.heap (n+3) arr)(j0:s.heap.IsListIter n l0 i)(j1:s.heap.IsListIter (n+1) l1 i)(t0:s.heap.IsList l0 jz)(t1:s.heap.IsList l1 j7)(e0:jz[i]?=some g)(e1:j7[i]?=some h) (hQ:∀h',IsZip h' (n+4) (n+2) (n+3) (rawInt s.heap.objs.size)->eI h' (n+3) #[g,h]->h'.IsListIter n l0 (i+1)->h'.IsListIter (n+1) l1 (i+1)->eI h' s.heap.objs.size #[g,h]->(∀c o,c≠(n+4)->c≠(n+3)->c≠n->c≠(n+1)->s.heap.get? c=ϑ o->h'.get? c=ϑ o)->Q (.ref s.heap.objs.size) {s with heap:=h'}): wpAny `n A (Builtin.«zip.__next__» {[.ref<|n+4],[]}) (λfin s'=>∃v,fin=.done (.ret v)/\Q v s') E s:=by
 change wpAny _ _ (field (.ref<|n+4) 2 >>=_) _ _ _;show zb<|zP hz rfl (x:=.bool false) rfl ?_;change wpAny _ _ (field (.ref<|n+4) 3 >>=_) _ _ _;show zb<|zP hz rfl (x:=.ref<|n+2) rfl ?_;show zb<|yF hI rfl ?_;change wpAny _ _ (Builtin.SmallTypes.ownedTupleIsFree (.ref<|n+4) >>=_) _ _ _;show zb ?_;unfold Builtin.SmallTypes.ownedTupleIsFree;show zb<|zP hz rfl (x:=.none) rfl<|zp ?_;simp only[if_true];show zb<|y7 ?_;show zb<|zP hz rfl (x:=.ref<|n+3) rfl ?_;show zb<|yy hz `d λh0 J S=>?_;replace J:IsZip h0 (n+4) (n+2) (n+3) .ellipsis:=J;have H:∀c o,c≠(n+4)->s.heap.get? c=ϑ o->h0.get? c=ϑ o:=λc o d e=>S.extBut _ _ d e;have O0:eI h0 (n+3) arr:=H _ _ (by change @Ne π _ _;show zE<|yn _) hO;show zb ?_;simp only[List.zipIdx_cons,List.zipIdx_nil,List.forIn_cons,List.forIn_nil];have J0:Heap.IsListIter h0 n l0 i:=by let⟨o,j,l⟩:=j0;show{o,H _ _ (by change @Ne π _ _;simp) j,l}
 have T0:Heap.IsList h0 l0 jz:=by let⟨o,j,l⟩:=t0;show{o,H _ _ (by change @Ne π _ _;lia) j,l}
 show zb<|zb<|wpAny_onRaise ?_;change wpAny _ _ (Builtin.SmallTypes.nextOf (.ref n) >>=_) _ _ _;show zb<|wpAny_nextOf_list_item (s:={s with heap:=h0}) J0 T0 e0 λh1 m0 B=>zp ?_;have P:eI h1 (n+3) arr:=B.extBut _ _ (by change @Ne π _ _;lia) O0;show zb<|yF (s:={s with heap:=h1}) P rfl ?_;show zb<|ph (s:={s with heap:=h1}) P (by simp[O,Wr]) λh2 O2 C=>?_;show zb<|wpAny_letGo<|zp ?_;have I:∀c o,c≠(n+4)->c≠(n+3)->c≠n->s.heap.get? c=ϑ o->h2.get? c=ϑ o:=λc o p m d0 e=>C.extBut _ _ m<|B.extBut _ _ d0<|H c o p  e;have J1:Heap.IsListIter h2 (n+1) l1 i:=by let⟨o,j,l⟩:=j1;show{o,I _ _ (by change @Ne π _ _;simp) (by change @Ne π _ _;simp) (by change @Ne π _ _;simp) j,l}
 have T1:Heap.IsList h2 l1 j7:=by let⟨o,j,l⟩:=t1;show{o,I _ _ (by change @Ne π _ _;lia) (by change @Ne π _ _;lia) (by change @Ne π _ _;lia) j,l}
 show zb<|zb<|wpAny_onRaise ?_;change wpAny _ _ (Builtin.SmallTypes.nextOf (.ref<|n+1) >>=_) _ _ _;show zb<|wpAny_nextOf_list_item (s:={s with heap:=h2}) J1 T1 e1 λL m1 t=>zp ?_;have Y:eI L (n+3) (arr.setIfInBounds 0 g):=t.extBut _ _ (by change @Ne π _ _;lia) O2;show zb<|yF (s:={s with heap:=L}) Y rfl ?_;show zb<|ph (s:={s with heap:=L}) Y (by simp[O,Wr]) λa M r=>?_;show zb<|wpAny_letGo<|zp ?_;have k4:∀c o,c≠(n+4)->c≠(n+3)->c≠n->c≠(n+1)->s.heap.get? c=ϑ o->a.get? c=ϑ o:=λc o p m d0 d1 e=>r.extBut _ _ m<|t.extBut _ _ d1<|I c o p m d0 e;have ea:((arr.setIfInBounds 0 g).setIfInBounds 1 h)=#[g,h]:=aaY O g h;rw[ea]at M;have z:IsZip a (n+4) (n+2) (n+3) .ellipsis:=r.extBut _ _ (by change @Ne π _ _;simp)<|t.extBut _ _ (by change @Ne π _ _;simp)<|C.extBut _ _ (by change @Ne π _ _;lia)<|B.extBut _ _ (by change @Ne π _ _;simp)<|J;have M0:Heap.IsListIter a n l0 (i+1):=px r.extBut (by change @Ne π _ _;simp)<|px t.extBut (by change @Ne π _ _;lia)<|px C.extBut (by change @Ne π _ _;lia) m0;have M1:Heap.IsListIter a (n+1) l1 (i+1):=px r.extBut (by change @Ne π _ _;lia) m1;have y:a.objs.size=s.heap.objs.size:=by rw[r.1,t.1,C.1,B.1,S.1]
 show zp ?_;show zb<|yF (s:={s with heap:=a}) M rfl ?_;show zb<|wpAny_newTuple ?_;have X:(n+4)<a.objs.size:=zw z;change wpAny _ _ (Builtin.SmallTypes.ownedTupleHandOut (.ref<|n+4) (.ref a.objs.size) >>=_) _ _ _;show zb ?_;unfold Builtin.SmallTypes.ownedTupleHandOut;have K:IsZip (a.push {cls:=.type "tuple",data:=.seq #[g,h]}) (n+4) (n+2) (n+3) .ellipsis:=za _ z;show zb<|yy (s:={s with heap:=a.push {cls:=.type "tuple",data:=.seq #[g,h]}}) K `d λR N U=>?_;replace N:IsZip R (n+4) (n+2) (n+3) (rawInt a.objs.size):=N;show yy (s:={s with heap:=R}) N `d λG F Z=>?_;replace F:IsZip G (n+4) (n+2) (n+3) (rawInt a.objs.size):=F;have up:∀c o,c≠(n+4)->a.get? c=ϑ o->G.get? c=ϑ o:=λc o d e=>Z.extBut _ _ d<|U.extBut _ _ d<|za _ e;have hT:eI G a.objs.size #[g,h]:=Z.extBut _ _ (yi X)<|U.extBut _ _ (yi X)<|zl _ rfl;rw[y]at F hT;show zp !⟨?_⟩;change Q (.ref a.objs.size) _;rw[y];show hQ G F (up _ _ (by change @Ne π _ _;lia) M) (F9 (λo e=>up _ o (by change @Ne π _ _;lia) e) M0) (F9 (λo e=>up _ o (by change @Ne π _ _;lia) e) M1) hT λc o p m d0 d1 e=>up c o p<|k4 c o p m d0 d1 e
def KU(v:A.handled=ϐ)(P:l0<n)(N:l1<n)(hz:IsZip s.heap (n+4) (n+2) (n+3) .none)(G:eI s.heap (n+2) #[.ref n,.ref<|n+1])(M:eI s.heap (n+3) arr)(F:s.heap.IsListIter n l0 i)(L:s.heap.IsListIter (n+1) l1 i)(K:s.heap.IsList l0 jz)(O:s.heap.IsList l1 j7) (B:jz[i]?=none) (y:∀h' e,(∀c o,c≠(n+4)->c≠(n+3)->c≠n->c≠(n+1)->s.heap.get? c=ϑ o->h'.get? c=ϑ o)->(∃o,h'.get? e=ϑ o/\o.cls=.type "StopIteration")->E (.ref e) {s with heap:=h'}): wpAny `n A (Builtin.«zip.__next__» {[.ref<|n+4],[]}) Q E s:=by
 change wpAny _ _ (field (.ref<|n+4) 2 >>=_) _ _ _;show zb<|zP hz rfl (x:=.bool false) rfl ?_;change wpAny _ _ (field (.ref<|n+4) 3 >>=_) _ _ _;show zb<|zP hz rfl (x:=.ref<|n+2) rfl ?_;show zb<|yF G rfl ?_;change wpAny _ _ (Builtin.SmallTypes.ownedTupleIsFree (.ref<|n+4) >>=_) _ _ _;show zb ?_;unfold Builtin.SmallTypes.ownedTupleIsFree;show zb<|zP hz rfl (x:=.none) rfl<|zp ?_;simp only[if_true];show zb<|y7 ?_;show zb<|zP hz rfl (x:=.ref<|n+3) rfl ?_;show zb<|yy hz `d λh0 g j=>?_;replace g:IsZip h0 (n+4) (n+2) (n+3) .ellipsis:=g;have C:Heap.IsListIter h0 n l0 i:=by let⟨o,h,d⟩:=F;show{o,j.extBut _ _ (by change @Ne π _ _;lia) h,d}
 have J:Heap.IsList h0 l0 jz:=by let⟨o,h,d⟩:=K;show{o,j.extBut _ _ (by change @Ne π _ _;lia) h,d}
 show zb ?_;simp only[List.zipIdx_cons,List.zipIdx_nil,List.forIn_cons,List.forIn_nil];show zb<|zb<|wpAny_onRaise ?_;change wpAny _ _ (Builtin.SmallTypes.nextOf (.ref n) >>=_) _ _ _;show zb<|wpAny_nextOf_list_end (s:={s with heap:=h0}) v C J B λh1 e r z=>?_;let⟨H,a,p⟩:=z;have l:IsZip h1 (n+4) (n+2) (n+3) .ellipsis:=r _ _ (by change @Ne π _ _;lia) g;have I:e≠(n+4):=λx=>by subst x;rw[l]at a;cases a;simp at p
 show yy (s:={s with heap:=h1}) l `d λh2 u t=>y h2 e (λc o m u d0 u x=>t.extBut _ _ m<|r _ _ d0<|j.extBut _ _ m x) {H,t.extBut _ _ I a,p}
end
noncomputable def XF(K:Φ)(l0 l1:ε):It:={λi H=>∃(jz j7:δ V)(x0 x1:V),fP K H l0 jz/\fP K H l1 j7/\jz[i]?=some x0/\j7[i]?=some x1,λi H x H'=>∃T,H T=ϐ/\x=.ref T/\∀(jz j7:δ V)(x0 x1:V),fP K H l0 jz->fP K H l1 j7->jz[i]?=some x0->j7[i]?=some x1->H'=upd H T (.tup [x0,x1]),λi H=>∃jz j7,fP K H l0 jz/\fP K H l1 j7/\jz.length<=i}
theorem HZ{P:Ψ}{w:Ω}{K:Φ}{es:δ Δ}{kk:π}{tp:Pos}{n l0 l1:π}(b0:l0<n)(b1:l1<n):Turn P w K (.Tuple es kk tp) (XF K l0 l1) [n,(n+1),(n+2),(n+3),(n+4)] (n+4) (ZSm n l0 l1) where
 mem:=`d
 obj:=λi h st b hb=>by
  let⟨hz,hI,⟨arr,na,hO⟩,j0,j1⟩:=st
  have c:b=n\/b=(n+1)\/b=(n+2)\/b=(n+3)\/b=(n+4):=by simpa using hb
  rcases c with rfl|rfl|rfl|rfl|rfl
  ·let⟨o,e,c,d⟩:=j0;show{o,e,λv z=>by rw[d]at z;cases z}
  ·let⟨o,e,c,d⟩:=j1;show{o,e,λv z=>by rw[d]at z;cases z}
  ·show{_,hI,λv z=>by cases z}
  ·show{_,hO,λv z=>by cases z}
  ·show{_,hz,λv z=>by cases z}
 keep:=λi h h' st k=>by
  let⟨hz,hI,⟨arr,na,hO⟩,j0,j1⟩:=st
  show{k _ `d _ hz,k _ `d _ hI,{arr,na,k _ `d _ hO},F9 (λo e=>k _ `d o e) j0,F9 (λo e=>k _ `d o e) j1}
 item:=by
  intro X hP hw hK hc i qe s σ H E I hf st hg
  subst hP hw hK
  let⟨jz,j7,x0,x1,q0,q1,e0,e1⟩:=hg
  let⟨xW,Qb,p0,_⟩:=I.list q0;let⟨u0,hu0,ru0⟩:=Qb.get e0
  let⟨Ej,NZ,p1,_⟩:=I.list q1;let⟨u1,hu1,ru1⟩:=NZ.get e1
  let⟨hz,hI,⟨arr,na,hO⟩,j0,j1⟩:=st
  have hT:s.TypeIs (.ref<|n+4) "zip":={_,hz,rfl}
  unfold pyNext
  show zb<|xf<|yp (name:=Str.ofString "__next__") hT yY<|yz yY hT F.entry_zip_next (HY na b0 b1 hz hI hO j0 j1 (fN p0) (fN p1) (show xW.toArray[i]?=some u0 by simpa using hu0) (show Ej.toArray[i]?=some u1 by simpa using hu1) λh1 z1 O1 m0 m1 T1 kp=>zp !⟨?_⟩)<|F.args_zip_next_1 _
  show wpAny_letOwnedTupleGo_zip (s:={s with heap:=h1}) z1 λh2 z2 r2=>?_
  have PD:∀c o,c∉([(n+4),(n+3),n,(n+1)]:δ ε)->s.heap.get? c=ϑ o->h2.get? c=ϑ o:=λc o hc e=>by
   simp only[ze,zA,or_false,not_or]at hc
   let⟨dz,dO,d0,d1⟩:=hc
   show r2.extBut _ _ dz<|kp c o dz dO d0 d1 e
  have lz:(n+4)<s.heap.objs.size:=zw hz
  have T2:eI h2 s.heap.objs.size #[u0,u1]:=r2.extBut _ _ (yi lz) T1
  have hf':∀b∈([(n+4),(n+3),n,(n+1)]:δ ε),rG X qe H b:=λb hb=>hf b<|by simp only[ze,zA,or_false]at hb⊢;rcases hb with h|h|h|h<;>simp[h]
  have I2:Inv X qe σ (upd H s.heap.objs.size<|.tup [x0,x1]) {s with heap:=h2}:=I.xJ (t':=s.toks) [(n+4),(n+3),n,(n+1)] hf' PD (Heap.get?_none_of_le<|zm _) {YV<|show 2<=1000 by decide,[u0,u1],.cons ru0<|.cons ru1<|.nil,{_,T2,rfl,rfl,_,rfl}}
  show{.ref s.heap.objs.size,_,I2,rfl,{_,I.aM.fresh<|zm _,rfl,λys0 ys1 y0 y1 g0 g1 f0 f1=>?_},?_,λb hb=>?_}
  ·have:=I.jW g0 q0;subst this;have:=e0.symm.trans f0;cases this
   have:=I.jW g1 q1;subst this;have:=e1.symm.trans f1;cases this
   rfl
  ·show{z2,r2.extBut _ _ (by change @Ne π _ _;simp)<|kp _ _ (by change @Ne π _ _;lia) (by change @Ne π _ _;show zE<|yn _) (by change @Ne π _ _;simp) (by change @Ne π _ _;simp) hI,!⟨r2.extBut _ _ (by change @Ne π _ _;lia) O1⟩,px r2.extBut (by change @Ne π _ _;lia) m0,px r2.extBut (by change @Ne π _ _;lia) m1}
  ·have l2:b<s.heap.objs.size:=by
    simp only[ze,zA,or_false]at hb
    have lz:@LT.lt π _ (n+4) s.heap.objs.size:=lz
    rcases hb with rfl|rfl|rfl|rfl|rfl<;>(change @LT.lt π _ _ s.heap.objs.size;lia)
   rw[az<|zE l2];show(hf b hb).1
 done:=by
  intro X hP hw hK hc i qe s σ H E I hf st hg
  subst hP hw hK
  let⟨jz,j7,q0,q1,hx⟩:=hg
  let⟨xW,Qb,p0,_⟩:=I.list q0
  let⟨Ej,NZ,p1,_⟩:=I.list q1
  let⟨hz,hI,⟨arr,na,hO⟩,j0,j1⟩:=st
  have hT:s.TypeIs (.ref<|n+4) "zip":={_,hz,rfl};have hl:=Qb.length
  unfold pyNext
  show zb<|xf<|yp (name:=Str.ofString "__next__") hT yY<|yz yY hT F.entry_zip_next (KU (I.ok.hd hc) b0 b1 hz hI hO j0 j1 (fN p0) (fN p1) (by simp;lia) λh1 e kp he=>?_)<|F.args_zip_next_1 _
  let⟨o,ho,Kx⟩:=he;show zb<|wpAny_isInstance (T:="StopIteration") (b:=true) ⟨o,ho,Kx⟩ isSubtype_stop<|zp {rfl,?_}
  show I.xI (t':=s.toks) [(n+4),(n+3),n,(n+1)] (λb hb=>hf b<|by simp only[ze,zA,or_false]at hb⊢;rcases hb with h|h|h|h<;>simp[h]) λc o hc e=>?_
  simp only[ze,zA,or_false,not_or]at hc
  let⟨dz,dO,d0,d1⟩:=hc
  show kp c o dz dO d0 d1 e
 self:=λA' i s Q E st h=>wpAny_pyIter_zip st.1 h
noncomputable abbrev Ob(h:Γ)(l0:ε):Heap:=(h).push {cls:=.type "list_iterator",data:=.fields #[.ref l0,.int 0 0]}
noncomputable abbrev Oc(h:Γ)(l0 l1:ε):Heap:=(Ob h l0).push {cls:=.type "list_iterator",data:=.fields #[.ref l1,.int 0 0]}
noncomputable abbrev Od(h:Γ)(l0 l1:ε):Heap:=(Oc h l0 l1).push {cls:=.type "tuple",data:=.seq #[.ref h.objs.size,.ref (Ob h l0).objs.size]}
noncomputable abbrev Oe(h:Γ)(l0 l1:ε):Heap:=(Od h l0 l1).push {cls:=.type "tuple",data:=.seq #[.none,.none]}
noncomputable abbrev Ek(h:Γ)(l0 l1:ε):Heap:=(Oe h l0 l1).push {cls:=.type "zip",data:=.fields #[.none,.bool false,.bool false,.ref (Oc h l0 l1).objs.size,.ref (Od h l0 l1).objs.size]}
theorem El(l0 l1:ε)(jz j7:Array ξ):Meets (Builtin.«zip.__new__» {[.type "zip",.ref l0,.ref l1],[]}) (λz R s=>s.heap.IsList l0 jz/\s.heap.IsList l1 j7/\R (.ok<|.ret<|.ref (Oe s.heap l0 l1).objs.size) {s with heap:=Ek s.heap l0 l1}):=.of_wp λprog w A R s h=>by let⟨hp,g,d,tk,os⟩:=s;let⟨i,e,h⟩:=h;have j:=sub_zip;have a:Heap.IsList (Shared.heap ⟨hp,g,d,tk,os⟩) l0 jz:=i;have c:Heap.IsList (Shared.heap {hp.push {cls:=.type "list_iterator",data:=.fields #[.ref l0,.int 0 0]},g,d,tk,os}) l1 j7:=Heap.IsList.push (e) _;wp_walk using wpAny_pyIter_list a,wpAny_pyIter_list c;show{_,rfl,h}
def Em(p:s.heap.IsList l0 jz)(n:s.heap.IsList l1 j7) (h:∀h',ZSm s.heap.objs.size l0 l1 0 h'->(∀c o,s.heap.get? c=ϑ o->h'.get? c=ϑ o)->Q (.ref<|s.heap.objs.size+4) {s with heap:=h'}):wpAny `n A (call (.type "zip") [.ref l0,.ref l1]) Q E s:=by
 show callType_new F.called_zip `a (F.typeCall_zip_2 _ _) (F.newCall_zip_2 _ _) (λobj=>F.args_object_init_3 obj _ _) F.entry_zip_new (El l0 l1 jz j7) {p,n,?_};have i:(Ob s.heap l0).objs.size=s.heap.objs.size+1:=zS ..;have e:(Oc s.heap l0 l1).objs.size=s.heap.objs.size+2:=by rw[zS,i]
 have d:(Od s.heap l0 l1).objs.size=s.heap.objs.size+3:=by rw[zS,e]
 have g:(Oe s.heap l0 l1).objs.size=s.heap.objs.size+4:=by rw[zS,d]
 have r:(Ek s.heap l0 l1).objs.size=s.heap.objs.size+5:=by rw[zS,g]
 have g0:(Ek s.heap l0 l1).get? (s.heap).objs.size=ϑ _:=za _<|za _<|za _<|za _<|zl _ rfl;have j:(Ek s.heap l0 l1).get? (Ob s.heap l0).objs.size=ϑ _:=za _<|za _<|za _<|zl _ rfl;have l:(Ek s.heap l0 l1).get? (Oc s.heap l0 l1).objs.size=ϑ _:=za _<|za _<|zl _ rfl;have m:(Ek s.heap l0 l1).get? (Od s.heap l0 l1).objs.size=ϑ _:=za _<|zl _ rfl;have a:(Ek s.heap l0 l1).get? (Oe s.heap l0 l1).objs.size=ϑ _:=zl _ rfl;change _/\_;rw[e,d,g]at a;rw[d]at m;rw[i,e]at l;rw[i]at j;rw[g];show{{_,a,rfl},h _ {a,l,!⟨m⟩,{_,g0,rfl,rfl},{_,j,rfl,rfl}} λc o x=>za _<|za _<|za _<|za _<|za _ x}
def XG(K:Φ)(ta:TA):TI:=λσ H R=>ta σ H λvs H1=>∃l0 l1,vs=[.ref l0,.ref l1]/\(∃xs,fP K H1 l0 xs)/\(∃xs,fP K H1 l1 xs)/\R (XF K l0 l1) H1
def Of(y:Gl X "zip")(hm:X.mg "zip"= none)(ha:PA X [a,b] ta)(t:ψ (starEach [a,b] X.env=[(false,eval a X.env),(false,eval b X.env)]) qQJ)(j:ψ (starEach [b] X.env=[(false,eval b X.env)]) qQJ): PI X (.Tuple es kk tp) (.Call (.Name "zip" p) [a,b] [] pos) (XG X.K ta):=by
 intro qe s σ H R I h;show Call_<|fu I y hm boot_zip<|yj (bz (ha pos qe s σ H _ I h) λus s1 w=>?_) (by rw[t,j]) (by rw[j];rfl);let⟨vs,H1,c,o,l⟩:=w;let⟨l0,l1,e,⟨jz,m⟩,⟨j7,n⟩,q⟩:=l;subst e;let⟨u,v,rfl,r,x⟩:=o.two;cases r;cases x;let⟨z,C,i,_⟩:=c.list m;let⟨A,B,g,_⟩:=c.list n;show Em (fN i) (fN g) λh' zs kp=>?_;show wpAny_pyIter_zip (s:={s1 with heap:=h'}) zs.1 {_,_,_,_,H1,rfl,c.kept (t':=s1.toks) kp,HZ (wI i)<|wI g,zs,λb hb=>?_,q};have d:s1.heap.objs.size<=b:=by simp only[ze,zA,or_false]at hb;rcases hb with rfl|rfl|rfl|rfl|rfl<;>(change @LE.le π _ _ _;lia)
 show c.nv d<|c.aM.fresh d
section
variable{K:Φ}{X:Cx}
def SY(t:iC):xQ:=λσ S R Z=>t σ S (λds c=>∃a xs b ys,ds=[.ref a,.ref b]/\c a=ϑ (.lst xs)/\c b=ϑ (.lst ys)/\xs.length=ys.length/\R {aZ xs ys,λS=>nh S (.ref a) xs/\nh S (.ref b) ys} c) Z
def izm{t:iC}(hm:X.mg "zip"= none)(ha:DA K X [a,c] t)(Q:ψ (Gl X "zip") qQJ)(L:ψ (starEach [a,c] X.env=[(false,eval a X.env),(false,eval c X.env)]) qQJ)(sx:ψ (starEach [c] X.env=[(false,eval c X.env)]) qQJ)(hK:ψ (X.K=K) qQJ): DI K X (.Tuple es kk tp) (.Call (.Name "zip" p) [a,c] [] pos) (SY t):=by subst hK;show⟨λy=>(Of (X:=y.cx) Q hm (ha.of y) L sx).mono <| by rintro τ H R ⟨σ,S,RI,Z,N,P,q,hR,hZ⟩;show{σ,S,_,Z,N,P,q,by rintro ds r vs H1 ⟨Y,xs,G,ys,e,Xp,hb,hl,r1⟩ v1 s1 k1;subst e;let⟨v,u,rfl,ra,A⟩:=v1.two;let⟨a,M,rfl,J,ta⟩:=nh.at (show nh r (.ref Y) xs from Xp) s1 ra;let⟨b,O,rfl,qb,tb⟩:=nh.at (show nh r (.ref G) ys from hb) s1 A;show{a,b,rfl,⟨M,J⟩,⟨O,qb⟩,hR _ r _ H1 r1 (λi S2 H2 z s2 C=>?_) s1 k1};let⟨a2,l,e1,s,j⟩:=nh.at C.1 s2<|Rv.ts z _ ra;cases e1;let⟨b2,m,e2,w,g⟩:=nh.at C.2 s2<|Rv.ts z _ A;cases e2;have la:l.length=xs.length:=j.len;have lb:m.length=ys.length:=g.len;show{λd hd=>?_,λh=>{l,m,s,w,by unfold aZ at h;rw[List.length_zipWith]at h;lia}};unfold aZ at hd;let⟨x,y',e1,e2,e3⟩:=yg.mp hd;subst e3;let⟨n,B,I⟩:=j.get e1;let⟨o,E,U⟩:=g.get e2;show{⟨l,m,n,o,s,w,B,E⟩,λx' H' ⟨T,F,e4,e5⟩=>?_};have:=e5 l m n o s w B E;subst this e4;have kk:Kp X.K H2 (upd H2 T<|.tup [n,o]):=.new F;show{hX aF<|RvAll.ts kk _<|aP I<|aP U bA,kk,s2.grow F},hZ}⟩
end
end L2
namespace L2
open PySem PySem.Spec PyProof.Rows PySem.SeqAt
def isStrOf(z:ρ):ξ->χ|.str y _=>y==z|_=>false
end L2
namespace L2
open PySem PySem.Spec PyProof.Rows
section
variable{K:Φ}
def RvAll.thr(h:RvAll K H [a,b,c] vs):∃x y z,vs=[x,y,z]/\Rv K H a x/\Rv K H b y/\Rv K H c z:=by let⟨x,g,rfl,h1,h⟩:=h.cons;let⟨y,i,rfl,h2,h⟩:=h.cons;let⟨z,d,rfl,e,h⟩:=h.cons;rw[h.nil];show⟨x,y,z,rfl,h1,h2,e⟩
def S_:bootBuiltins "max"= some (.builtin "max"):=by with_unfolding_all rfl
noncomputable def ko:δ D->δ D->δ D->δ D|x::xs,y::ys,z::zs=>.tup [x,y,z]::ko xs ys zs|_,_,_=>[]
theorem pA:∀{xs ys zs:δ D},xs.length=ys.length->xs.length=zs.length->(ko xs ys zs).length=xs.length|[],_,_,_,_=>by rw[ko.eq_def]|x::xs,y::ys,z::zs,h,k=>congrArg Nat.succ<|pA (Nat.succ.inj h)<|Nat.succ.inj k
theorem pB:∀{xs ys zs:δ D}{i:π}{d:D},(ko xs ys zs)[i]?=some d->∃x y z,xs[i]?=some x/\ys[i]?=some y/\zs[i]?=some z/\d=.tup [x,y,z]|x::xs,y::ys,z::zs,0,d,h=>{x,y,z,rfl,rfl,rfl,(zQ h).symm}|x::xs,y::ys,z::zs,i+1,d,h=>pB (i:=i) h|[],_,_,i,d,h=>by rw[ko.eq_def]at h;simp at h|_::_,[],_,i,d,h=>by rw[ko.eq_def]at h;simp at h|_::_,_::_,[],i,d,h=>by rw[ko.eq_def]at h;simp at h
def Tc(t:iC):xQ:=λσ S R Z=>t σ S (λds a=>∃xs ys zs,ds=[.tup xs,.tup ys,.tup zs]/\xs.length=ys.length/\xs.length=zs.length/\R {ko xs ys zs,λz=>True} a) Z
end
section
variable{R:η}{K:Φ}{h:Γ}{mg:ρ->θ ξ}{od an:θ ε}{sl:Array (θ ξ)}{oc kV dc pm cd ct:ξ}{f da:ε}{N9:θ ε}{dn:π}{N_:Array (θ ξ)}
theorem fne(X:K.In h)(G:h.Ns mainGlobals mg)(x:ρ)(st:Stmt)(ps:δ ρ)(c:Array ξ)(a:nsIn K mainGlobals x=ϑ (some<|.ref f))(l:K.lookup f=ϑ {oc,od,.func<|fnOf x x (bG st) (bt st) (ag st) (.ref da) kV dc pm an cd ct,sl}) (t:K.lookup da=ϑ {.type "tuple",N9,.seq c dn,N_}) (e:codeIn K cd x=ϱ) (k:keepIn K (.ref f)=ϱ) (b:∀(s:ζ) (us:δ ξ),s.heap.get? da=ϑ {.type "tuple",N9,.seq c dn,N_}->us.length=ps.length->BindsTo s (fnOf x x (bG st) (bt st) (ag st) (.ref da) kV dc pm an cd ct) {us,[]} (ps.zip us)) (g:∀d,KQ K mg x st ps f d->R):R:=g _ {{{_,_,_,_,_,_,_,_,_,_,rfl,l,e},λs us i hl=>by rw[List.append_nil]at hl⊢;show b s us (i _ _ t) hl},k,mg_of X G a}
end
mutual
inductive Dr (S:av):D->PyData->η
 |aA:Dr S .aA .none
 |bl (b:χ):Dr S (.bl b) (.bool b)
 |int (i:ν):Dr S (.int i) (.int i)
 |str (z:ρ):Dr S (.str z) (.str z)
 |tup {ds:δ D}{ps:δ PyData} : KW S ds ps->Dr S (.tup ds) (.tuple ps)
 |ref {a:ε}{ds:δ D}{ps:δ PyData} : S a=ϑ (.lst ds)->KW S ds ps->Dr S (.ref a) (.list ps)
inductive KW (S:av):δ D->δ PyData->η
 |nil:KW S [] []
 |cons {d:D}{ds:δ D}{p:PyData}{ps:δ PyData} : Dr S d p->KW S ds ps->KW S (d::ds) (p::ps)
end
section
variable{K:Φ}{H:Hp}{S:av}
mutual
theorem Dr.dt(c:Rs K S H):Dr S d p->Rv K H d v->Dt K H p v|.aA,r=>by simp only[Dt];show r.aA|.bl b,r=>by simp only[Dt];show r.bl|.int b,r=>by simp only[Dt];show r.int|.str b,r=>by simp only[Dt];show r.str|.tup h,r=>(by let⟨a,xs,rfl,q,t⟩:=r.tup;simp only[Dt];show{a,xs,rfl,.of q,KW.dt c h t})|.ref e h,r=>by let⟨xs,e1,t⟩:=c.lst e;rw[r.ref];simp only[Dt];show{_,xs,rfl,.of e1,KW.dt c h t}
theorem KW.dt(a:Rs K S H){ds:δ D}{ps:δ PyData}{vs:δ V} : KW S ds ps->RvAll K H ds vs->DtAll K H ps vs|.nil,r=>by rw[r.nil];simp only[DtAll]|.cons h t,r=>by let⟨y,ys,rfl,r1,r2⟩:=r.cons;simp only[DtAll];show{y,ys,rfl,Dr.dt a h r1,KW.dt a t r2}
end
end
def eqR(a:χ):vt:=λx y S R=>∃p q,Dr S x p/\Dr S y q/\p.canLay0=ϱ/\q.canLay0=ϱ/\(p.depth<=64\/q.depth<=64)/\R (.bl<|if a then !PyData.eqv p q else PyData.eqv p q) S
section
variable{K:Φ}
def KY:qG K (compareOp .NotEq) (eqR true):=by rintro X j hu qe s σ H x y v u Q I c n ⟨d,e,S,R,m,l,a,⟨p,q,h1,h2,g,i,dp,h⟩,o⟩;subst j;show JR hu qe s σ H x y v u Q I c n {p,q,h1.dt a m,h2.dt a l,g,i,dp,o.now a h<|bP _}
end
theorem KZ(h1:Dr S x p)(h2:Dr S y p)(c:p.canLay0=ϱ)(d:p.depth<=64)(q:R (.bl<|!neg) S):eqR neg x y S R:={p,p,h1,h2,c,c,.inl d,by rw[show(if neg then !PyData.eqv p p else PyData.eqv p p)=!neg by rw[SeqAt.eqv_refl p c];cases neg<;>rfl];show q}
def mL:Stmt->ρ|.FunctionDef n _ _ _ _ _ _ _ _ _=>n|_=>Str.empty
def vF(s:Stmt):δ Str:=(bG s).args.map λa=>a.arg
def H9(K:Φ)(mg:ρ->θ ξ)(top:π->Stmt)(f:π->ε)(d:π->FuncData)(l:δ π):Prop:=∀i∈l,KQ K mg (mL<|top i) (top i) (vF<|top i) (f i)<|d i
def En(K:Φ)(c:ε)(q:ρ)(cl:Stmt)(f:π->ε)(d:π->FuncData)(l:δ π):Prop:=∀i∈l,P_ K c (mL<|inClass cl i) (q++mL (inClass cl i)) (inClass cl i) (vF<|inClass cl i) (f i)<|d i
section
variable{K:Φ}{h:Γ}{mg:ρ->θ ξ}{od an:θ ε}{sl:Array (θ ξ)}{oc dV kV dc pm cd ct:ξ}{x:ε}{top:π->Stmt}{l:δ π}{c:ε}{q:ρ}{cl:Stmt}
def af(X:K.In h)(G:h.Ns mainGlobals mg)(i:π)(m:i∉l)(a:nsIn K mainGlobals (mL<|top i)=ϑ (some<|.ref x))(o:K.lookup x=ϑ {oc,od,.func<|fnOf (mL<|top i) (mL<|top i) (bG<|top i) (bt<|top i) (ag<|top i) dV kV dc pm an cd ct,sl}) (e:codeIn K cd (mL<|top i)=ϱ) (k:keepIn K (.ref x)=ϱ) (b:∀us:δ ξ,us.length=(vF<|top i).length->bindArgs (fnOf (mL<|top i) (mL<|top i) (bG<|top i) (bt<|top i) (ag<|top i) dV kV dc pm an cd ct) {us,[]}=pure ((vF<|top i).zip us)) (g:∃f d,H9 K mg top f d l):∃f d,H9 K mg top f d (i::l):=by show fn1 X G _ _ _ a o e k b λd0 F=>?_;let⟨f,d,A⟩:=g;show{λj=>if j=i then x else f j,λj=>if j=i then d0 else d j,λj c=>?_};by_cases z:j=i;subst z;dsimp only;rw[qc rfl,qc rfl];show F;dsimp only;rw[qa z,qa z];show A j<|(ze.mp c).resolve_left z
theorem af0:∃f d,H9 K mg top f d []:={λz=>0,λz=>fnOf Str.empty Str.empty (bG<|.Pass {0,0,0,0}) [] (ag<|.Pass {0,0,0,0}) .none .none .none .none none .none .none,λz h=>nomatch h}
def afx{R:η}(_:K.In h)(_:h.Ns mainGlobals mg)(g:∃f d,H9 K mg top f d l)(r:∀f d,H9 K mg top f d l->R):R:=by let⟨f,d,A⟩:=g;show r f d A
def amx{R:η}(_:sA K c)(g:∃f d,En K c q cl f d l)(r:∀f d,En K c q cl f d l->R):R:=by let⟨f,d,A⟩:=g;show r f d A
def am(C:sA K c)(i:π)(m:i∉l)(a:findIn K (.ref c) (mL<|inClass cl i)=ϑ (some<|.ref x))(w:isFn K (.ref x)=ϱ)(o:K.lookup x=ϑ {oc,od,.func<|fnOf (mL<|inClass cl i) (q++mL (inClass cl i)) (bG<|inClass cl i) (bt<|inClass cl i) (ag<|inClass cl i) dV kV dc pm an cd ct,sl}) (e:codeIn K cd (q++mL (inClass cl i))=ϱ) (k:keepIn K (.ref x)=ϱ) (b:∀us:δ ξ,us.length=(vF<|inClass cl i).length->bindArgs (fnOf (mL<|inClass cl i) (q++mL (inClass cl i)) (bG<|inClass cl i) (bt<|inClass cl i) (ag<|inClass cl i) dV kV dc pm an cd ct) {us,[]}=pure ((vF<|inClass cl i).zip us)) (g:∃f d,En K c q cl f d l):∃f d,En K c q cl f d (i::l):=by show fm1 C _ _ _ _ a w o e k b λd0 F=>?_;let⟨f,d,A⟩:=g;show{λj=>if j=i then x else f j,λj=>if j=i then d0 else d j,λj h=>?_};by_cases z:j=i;subst z;dsimp only;rw[qc rfl,qc rfl];show F;dsimp only;rw[qa z,qa z];show A j<|(ze.mp h).resolve_left z
theorem am0:∃f d,En K c q cl f d []:={λz=>0,λz=>fnOf Str.empty Str.empty (bG<|.Pass {0,0,0,0}) [] (ag<|.Pass {0,0,0,0}) .none .none .none .none none .none .none,λz h=>nomatch h}
end
section
variable{K:Φ}{X:Cx}{x q:ρ}{st:Stmt}{ps:δ ρ}{C f:ε}{fd:FuncData}{sp:jb}{o e:Δ}{es:δ Δ}{apos pos:Pos}{k k':π}
theorem nj{t:iC}(i:DE K X o ta)(c:sA K C)(T:P_ K C x q st ps f fd)(F:bO X.prog X.w K X.mg X.base (fz X.prog X.w X.mg) k f fd ps<|qH K sp)(hr:cq k' X.A)(ha:DA K X (e::es) t)(a:ψ (k<=k') qJX)
  (d:ψ (starEach (e::es) X.env=`j::starEach es X.env) qQJ) (g:ψ ((backTo pos<|starEach es X.env).any (·.1)=ϰ) qQJ)
  (h:ψ (eval (.Call (.Attribute o x apos) (e::es) [] pos) X.env=(do
   let ov <-eval o X.env
   standAt apos.atName
   let (f,first) <-holding [ov] (getMethod ov x pl)
   callWith pos f first (backTo pos<|starEach (e::es) X.env) (backToKw pos<|keywordEach [] X.env))) qQJ) (j:ψ (X.K=K) qQJ):
  DE K X (.Call (.Attribute o x apos) (e::es) [] pos) (FW C x sp [] ta t):=cme i c T.e (F.mono a) hr T.b d0 ha d g h j
theorem lW(g:DE K X o ta)(c:sA K C)(T:P_ K C x q st ps f fd)(F:bO X.prog X.w K X.mg X.base (fz X.prog X.w X.mg) k f fd ps<|qH K sp)(hr:cq k' X.A)(a:ψ (k<=k') qJX)
  (d:ψ (eval (.Call (.Attribute o x apos) [] [] pos) X.env=(do
   let ov <-eval o X.env
   standAt apos.atName
   let (f,first) <-holding [ov] (getMethod ov x pl)
   callWith pos f first (backTo pos<|starEach [] X.env) (backToKw pos<|keywordEach [] X.env))) qQJ) (h:ψ (X.K=K) qQJ):
  DE K X (.Call (.Attribute o x apos) [] [] pos) (FW C x sp [] ta NL):=WV g c T.e (F.mono a) hr T.b d0 d h
end
section
variable{K:Φ}{X:Cx}
def XH:D->θ ν->θ ν->av->KD->Prop:=λx lo hi S R=>match x with|.ref a=>∃ds,S a=ϑ (.lst ds)/\∀p,S p=ϐ->R (.ref p) (S.set p<|.lst<|eB ds lo hi)|.i5 ds=>∀p,S p=ϐ->R (.ref p) (S.set p<|.lst<|eB ds lo hi)|_=>False
def XI(r:X.K=K):UC X (λx lo hi H Q=>∃d S R,Rv K H d x/\Rs K S H/\XH d lo hi S R/\Cn K H R Q):=by rintro qe s σ H x v m i lo hi sl Q I g l pl n ⟨d,S,R,j,c,h,o⟩;subst r;cases d with|ref a=>(let⟨ds,e,h⟩:=h;let⟨xs,e1,t⟩:=c.lst e;show sD qe s σ H _ v m i lo hi sl Q I g l pl n {a,xs,j.ref,.of e1,λp hp=>o.new c hp (h p)<|t.cut lo hi})|i5 ds=>(let⟨a,xs,rfl,q,t⟩:=j.i5;show sD qe s σ H _ v m i lo hi sl Q I g l pl n {a,xs,rfl,q.sq,λp hp=>o.new c hp (h p)<|t.cut lo hi})|_=>show h.elim
def ab2(te:TD)(tl th:PL):TD:=λσ S R Z=>te σ S (λx a=>tl σ a (λl d=>th σ d (λu c=>XH x l u c R) Z) Z) Z
theorem sll{e:Δ}{lo hi:θ Δ}{te:TD}{tl th:PL}{p2 pos:Pos}(s:DE K X e te)(hl:DO K X lo tl)(hu:DO K X hi th)(t:ψ (X.K=K) qQJ):DE K X (.Subscript e (.Slice lo hi none p2) pos) (ab2 te tl th):=
 ⟨λy=>(Bf (X:=y.cx) (XI t) (s.of y) (hl.of y)<|hu.of y).mono <| by rintro τ H Q ⟨σ,S,R,Z,h,z,q,A,g⟩;show
  ⟨σ,S,_,Z,h,z,q,λd m x H1 p j s1 a=>⟨σ,m,_,Z,h.ts a,s1,p,λl n H2 w s2 c=>⟨σ,n,_,Z,h.ts<|a.trans c,s2,w,λu o B v r i=>⟨d,o,R,Rv.ts (c.trans i) _ j,r,v,A.kp<|(a.trans c).trans i⟩,g.kp<|a.trans c⟩,g.kp a⟩,g⟩⟩
def ab3:vt:=λx y S R=>match x,y with|.int i,.int j=>R (.int<|i+j) S|.str a,.str b=>a.length+b.length<=Ϙ/\R (.str<|a++b) S|.ref a,.ref b=>∃xs ys,S a=ϑ (.lst xs)/\S b=ϑ (.lst ys)/\xs.length+ys.length<=Ϙ/\∀p,S p=ϐ->R (.ref p) (S.set p<|.lst<|xs++ys)|_,_=>False
def cQ:qG K (binaryOp .Add) ab3:=by rintro X n hu qe s σ H x y v u Q I c i ⟨d,e,S,R,g,j,a,h,l⟩;subst n;cases d<;>cases e<;>first|show False.elim h|show Jq qe s σ H x y v u Q I c i {_,_,g.int,j.int,l.now a h<|aS _}|show sX qe s σ H x y v u Q I c i {_,_,g.str,j.str,h.1,l.now a h.2<|i6 _}|skip;let⟨xs,ys,e1,e2,hl,q⟩:=h;let⟨vs,h1,m⟩:=a.lst e1;let⟨ws,h2,t2⟩:=a.lst e2;show JB qe s σ H x y v u Q I c i {_,_,vs,ws,g.ref,j.ref,h1,h2,by rw[m.len,t2.len];show hl,λp hp=>l.new a hp (q p)<|m.app t2}
end
structure W(sp:jb)(ds:δ D)(S:av)(R:KD)(Z:KX):η where
 of:sp ds S R Z
section
variable{K:Φ}{X:Cx}
def dTc(t:lT):lT:=λσ S R Z=>∃P:χ->av->η,t σ S P Z/\∀b S',P b S'->R b S'
theorem XJ{t:lT}(h:DT K X e t):DT K X e (dTc t):=⟨λy=>(h.of y).mono <| by rintro τ H Q ⟨σ,S,R,Z,c,i,⟨P,q,g⟩,j,d⟩;show{σ,S,P,Z,c,i,q,λb a H1 p s k=>j b a H1 (g b a p) s k,d}⟩
end
def scN(s:Stmt):δ Str:=((ag s).names.filter λp=>p.2==.local||p.2==.cell).map (·.1)
theorem bI(s:Stmt)(a:ψ ((ag s).kind=.function/\(ag s).isCoroutine=ϰ/\(ag s).isGenerator=ϰ/\(scN s).take (vF s).length=vF s) qQ4)(b:ψ ((scN s).Nodup/\(∀x∈vF s,(ag s).names.lookup x=ϑ .local\/(ag s).names.lookup x=ϑ .cell)/\∀y∈(ag s).names,y.2≠.free) qJ5):gI (scN s) (vF s) (ag s):=fsc a b
section
variable{P:Ψ}{w:Ω}{K:Φ}{mg:ρ->θ ξ}{base:Γ}{x qual:ρ}{st:Stmt}{f:ε}{fd:FuncData}{N ps:δ ρ}{k:π}{sp:jb}
theorem xR.bV(F:xR K x qual st f fd)(S:gI N ps<|ag st) (a:∀(gF:ξ)(A:ϕ)(outer:δ Env)(s:ζ)(H:Hp)(E:XK)(ds:δ D)(S:av)(R:KD)(Z:KX),cq k (A.deeper<|PyProof.Rows.envOfC qual (ag st) s.heap.objs.size f gF)->sp ds S R Z->∃t,Ed K (lR (fz P w mg) P w K mg base N qual (ag st) f gF A outer s H E) true (bt st) t/\t {nx:=λz S'=>Fo S'<|R .aA,rt:=λd S'=>Fo S'<|R d} (km N ds) S λz C S'=>Fo S'<|Z C) (len:∀ds S R Z,sp ds S R Z->ds.length=ps.length:=by intro _ _ _ _ h;first|(cases h;subst_vars;rfl;done)|(repeat first|(let⟨e,_⟩:=h;rw[e];rfl;done)|let⟨_,h⟩:=h)):bO P w K mg base (fz P w mg) (k+1) f fd ps (qH K sp):=F.ok S len a
end
structure adZ(X:Cx)(N:δ ρ)(src:δ (θ π))(scope:Scope):η where
 kind:scope.kind=.function
 nd:(scope.names.map Prod.fst).Nodup
 loc:∀y∈scope.names,y.2=.local->scope.names.lookup y.1=ϑ .local
 CW:∀y∈scope.names,y.2=.free->X.env.kindOf y.1=ϑ .cell\/X.env.kindOf y.1=ϑ .free
 len:src.length=N.length
 src:∀(i j:π)(x:ρ),src[i]?=some (some j)->N[i]?=some x->X.N[j]?=some x/\scope.names.lookup x=ϑ .free/\QQ X.env.scope x
section
variable{K:Φ}{X:Cx}{N:δ ρ}{src:δ (θ π)}{scope:Scope}{a:ρ}{pos p:Pos}{e:Δ}
structure af9(P:Ψ)(w:Ω)(K:Φ)(mg:ρ->θ ξ)(base:Γ)(k:π)(f:ε)(sp:Sp):η where
 ex:∃fd ps,bO P w K mg base (fz P w mg) k f fd ps sp/\Binds K fd ps []
 kp:keepIn K (.ref f)=ϱ
inductive CvR {ι:Type} (i:π) (fa:ι->ε) (σ:SD) (p:ι->η):η
 |mk (o:ι) (e:σ[i]?=some (some<|.ref<|fa o)) (r:p o)
structure DPs(K:Φ)(X:Cx)(pos:Pos)(keys:δ (θ Δ))(values:δ Δ)(l:δ (ρ×TD)):η where
 of:∀{b:χ}(y:Ev X b),PPs y.cx pos keys values<|l.map λkt=>(T K y.E<|dC<|.str kt.1,T K y.E kt.2)
structure C1(X:Cx)(N:δ ρ)(src:δ (θ π))(scope:Scope)(a:ρ):η where
 nd:N.Nodup
 h0:N[0]?=some a
 hr:src[0]?=some none
 hx:∀C s H ex pn,Loc (iX X N scope C s H ex pn).env.scope a/\(iX X N scope C s H ex pn).env.scope.names.lookup a=ϑ .local
end
noncomputable def ctO(l:δ<|θ π):Nat:=l.countP Option.isSome
structure Lay(m n:π)(ow:Array (θ π)):η where
 sz:ow.size=m+1
 ct:ctO ow.toList=n
 lt:∀x,some x∈ow.toList->x<n
section
variable{KT:Type}[DecidableEq KT]
structure Tb(t:SetTable)(n:π):η where
 m:t.mask=7\/t.mask=31\/t.mask=127\/t.mask=511
 d:t.dummies=#[]
 p:t.place.size=n
 f:n*5<t.mask*3
end
noncomputable def wdO(P:Ψ)(w:Ω)(a:ε)(kvs:δ<|Key×V)(ep:π):HO:=.ext λh=>kvs.length<=Ϙ/\(a==sysModules)=ϰ/\∃vs,KV kvs vs/\h.DictAt (aK P w) a vs ep
structure Wd(P:Ψ)(w:Ω)(o:HO)(a:ε)(ks:δ Key):η where
 of:∃kvs ep,o=wdO P w a kvs ep/\kvs.map (·.1)=ks
def XM(K:Φ)(C0:ε)(tb:TX)(ts:TS):TS:=λD σ H=>tb (λc cls z H'=>∃C,cls=.ref C/\mroIn K C (.ref C0)=ϑ true/\∀a,H' a=ϐ->ts D c (upd H' a<|Hv a<|.ref C)) D σ H
section
variable{X:Cx}{x:ρ}{C0:ε}{body tJ:δ Stmt}{DX:Stmt}{np mI pos:Pos}{tb:TX}{ts:TS}
def Oj(l:X.stack=X.env::X.outer)(fr:X.env.frame=ϑ X.env.locals)(n:Gl X x)(hm:X.mg x=ϑ (.ref C0))(Z:XC X.K C0) (hb:Wl X body tb) (O:∀a,Dj (X.mh a) (DX::tJ) ts) (J:ψ ((x==("__debug__": ρ))=ϰ) qQZ): PS X (.Try body [.ExceptHandler (some<|.Name x np) none (DX::tJ) mI] [] [] pos) (XM X.K C0 tb ts):=by intro qe s σ H D I h;show wpAny_Try_except<|yB (hb qe s σ H D _ I h) (λf s1 q=>?_) λe s1 q=>?_;{cases f with|next=>(let⟨i,H',P,q⟩:=q;show FE qe s1 i H' D P q)|ret v=>show q|brk=>show q|cont=>show q};{let⟨i,H1,s2,r,a,cls,a0,B,H',rfl,os,bare,F,C,rfl,R,hq⟩:=q;have wo:X.A.frames=ϑ (X.env::X.outer):=(by rw[I.ok.frames,l]);have fl:Heap.FlyingW B (X.env::X.outer) a (.ref C) a0 s1.heap:=(by rw[<-l];show F.fl);show wpAny_looks_onW wo fr fl λh4 XN N=>?_;show wpAny_landsW XN λE y U=>?_;have j:tI X.prog X.w (λk=>some<|.ref C) X.stack H1 H' s2.heap a (.ref C) a0 B E:=F.loose.on (by rw[l];show y) (N.trans U)<|.inr rfl;have m:Inv X qe i (upd H' a<|Hv a<|.ref C) {s1 with heap:=E}:=r.Jh (ch:=[]) os j.unT j.Wk bare λb z=>absurd z `d;show wpAny_handleBy_cons (codeAny_handlers_test<|nu (m.mh a) n hm ?_ J) (by intro q;cases q);let⟨oe,vs,Y,L,hd,_⟩:=j.fl.first;let⟨bm0,o⟩:=Z.at m.oV;show Bp (PySem.W.looks_mroIn m.oV R) o Y L ?_;show codeAny_handlers_suite ?_;show lands_againW y λt M S=>?_;have G:tI X.prog X.w (λk=>some<|.ref C) X.stack H1 H' s2.heap a (.ref C) a0 B t:=j.on (by rw[l];show M) S<|.inr rfl;have Q:Inv X qe i (upd H' a<|Hv a<|.ref C) {s1 with heap:=t}:=r.Jh (ch:=[]) os G.unT G.Wk bare λb z=>absurd z `d;show yB (O a qe _ _ _ _ (Q.mh a)<|hq a F.hn) (λf s8 c=>?_) λk k z=>False.elim z;cases f with|next=>(let⟨p,g,d,c⟩:=c;show{_,g,d.xG I.ok,c})|brk=>(let⟨p,g,d,c⟩:=c;show{_,g,d.xG I.ok,c})|cont=>(let⟨p,g,d,c⟩:=c;show{_,g,d.xG I.ok,c})|ret u=>let⟨v,p,g,d,r8,c⟩:=c;show{v,_,g,d.xG I.ok,r8,c}}
end
def XO(K:Φ)(C0:ε)(tb ts:lV):lV:=λDe σ S _=>tb De σ S λc C S'=>mroIn K C (.ref C0)=ϑ true/\∀a,S' a=ϐ->ts De c (S'.set a<|.exc C) λz=>Zf
section
variable{K:Φ}{X:Cx}{b:χ}{x:ρ}{C0:ε}{body tJ:δ Stmt}{DX:Stmt}{np mI pos:Pos}
def Qc{tb ts:lV}(hm:X.mg x=ϑ (.ref C0))(M:XC K C0)(hb:Ed K X false body tb)(w:∀a,Ed K (X.mh a) false (DX::tJ) ts) (l:ψ (Gl X x) qQJ) (p:ψ ((x==("__debug__": ρ))=ϰ) qQZ) (A:ψ (X.stack=X.env::X.outer) qQJ) (fr:ψ (X.env.frame=ϑ X.env.locals) qQJ) (J:ψ (X.K=K) qQJ): DS K X b (.Try body [.ExceptHandler (some<|.Name x np) none (DX::tJ) mI] [] [] pos) (XO K C0 tb ts):=by subst J;show⟨λy=>(Oj (X:=y.cx) (ts:=Tl X.K (λu=>E0) ts) A fr l hm M (SA (X:=y.cx) (K:=X.K) (t:=tb) ⟨λz=>hb.of ⟨z.pn,z.xe,z.E,z.ok⟩⟩) (λa=>(w a).of {y.pn,λu u=>False,λu=>E0,{by rintro p2 τ H s e s' _ ⟨_,_,_,_,_,_,_,_,_,z⟩;show z.elim,λe=>(by cases e),λe=>(by cases e)}}) p).mono λD τ H B=>?_⟩;let⟨σ,S,De,Z,F,N,q,g,Q⟩:=B;show{σ,S,De,_,F,N,q,g,λR O C P H1 L r s1 G=>?_};let⟨I,v⟩:=L;show{C,rfl,I,λa ha=>?_};have kn:Kp X.K H1 (upd H1 a<|Hv a<|.ref C):=.new ha;have kk:=G.trans kn;show{_,_,De,λu=>Zf,r.ts kn,s1.new (c:=.exc C) ha aF,v a<|s1.fresh ha,{λm o τ8 n j i h d=>g.nx _ _ _ _ j i h<|kk.trans d,g.rt.kp kk,λm o τ8 n j i h d=>g.bk _ _ _ _ j i h<|kk.trans d,λm o τ8 n j i h d=>g.ct _ _ _ _ j i h<|kk.trans d},λu u u u u z=>z.elim}
end
structure ad1(P:Ψ)(w:Ω)(K:Φ)(mg:ρ->θ ξ)(base:Γ)(k:π)(f:ε)(outer:δ Env)(cS:ζ)(rF:Hp)(sp:Hp->VK->XK->η):η where
 obj:∀(s:ζ)(H:Hp),Un (lP outer) [] rF H cS.heap s.heap->∃o fd,s.heap.get? f=ϑ o/\o.data=.func fd
 run:∀(e:Env)(A:ϕ)(s:ζ)(H:Hp)(Q:VK)(E:XK),cq k A->xr P w K mg base A (e::outer) s H->s.os=cS.os->Un (lP outer) [] rF H cS.heap s.heap->sp H Q E ->
  codeAny (model P w) A (.call (.ref f) {[],[]}) (CR (fz P w mg) (e::outer) P w H s Q E) s
abbrev SpA:=av->KD->KX->η
def XQ:vt:=λx y S R=>∃a kvs k d,x=.ref a/\By y=ϑ k/\S a=ϑ (.b_ kvs)/\bL kvs k=ϑ d/\R d S
def XR{K:Φ} : IxD K XQ:=by rintro X w hu value slice qe s σ H x y v u Q I j m ⟨d,e,S,R,l,A,c,⟨a,kvs,k,z,e1,e2,e3,e4,h⟩,E⟩ n;subst w;subst e1;cases l.ref;cases j;have p:=kh e2 A;subst p;let⟨o,g,_,B⟩:=nL (k:=k) c e3;let⟨t,rfl,r⟩:=B z e4;show tail_any (qD I g) PySem.F.slot_dict_getitem.lookup (we `b I g m λG s' C i=>{t,H,C,i,E.now c h r}) n
theorem ixq{K:Φ}{X:Cx}{a b:Δ}{ta tb:TD}{pos:Pos}(hu:X.A.units+64<cLine)(ha:DE K X a ta)(hb:DE K X b tb)(c:ψ (xu b) qJK)(d:ψ (X.K=K) qQJ):DE K X (.Subscript a b pos) (J3 XQ ta tb):=⟨λy=>(Pr (XR y.cx d hu) (ha.of y) (hb.of y) c).mono λz z z h=>h.op⟩
noncomputable def fS(N:π)(v:π->ξ):Array Value:=((List.range N).map v).toArray
structure ZN(n N:π)(l:π->ε)(i:π)(h:Γ):η where
 z:IsZip h (n+N+2) (n+N) (n+N+1) .none
 t:eI h (n+N) (fS N λj=>.ref<|n+j)
 o:∃arr:Array ξ,arr.size=N/\eI h (n+N+1) arr
 it:∀j,j<N->h.IsTupleIter (n+j) (l j) i
def lE:(fS N v).size=N:=by unfold fS;simp
def ku:(fS N v).toList.length=N:=by unfold fS;simp
def Ol(h:arr.size=N)(e:∀j,j<N->arr[j]?=some (v j)):arr=fS N v:=by show Array.ext (by rw[h,lE]) λj h1 h2=>?_;have:=e j `b;rw[Array.getElem?_eq_getElem h1]at this;rw[zQ this];simp[fS]
section
variable{prog:Ψ}{w:Ω}{A:ϕ}{E:ξ->ζ->η}{s:ζ}{n N:π}{l:π->ε}{i:π}{xs:π->Array ξ}
def H_{v:π->ξ}{Q:ξ->ζ->η}(h1:1<=N)(h3:N<=3)(lt:∀j,j<N->l j<n)(hs:ZN n N l i s.heap)(tu:∀j,j<N->s.heap.IsTuple (l j) (xs j))(ev:∀j,j<N->(xs j)[i]?=some (v j)) (hQ:∀h',IsZip h' (n+N+2) (n+N) (n+N+1) (rawInt s.heap.objs.size)->eI h' (n+N+1) (fS N v)->(∀j,j<N->h'.IsTupleIter (n+j) (l j) (i+1))->eI h' s.heap.objs.size (fS N v)->(∀c o,c≠n+N+2->c≠n+N+1->(∀j,j<N->c≠n+j)->s.heap.get? c=ϑ o->h'.get? c=ϑ o)->Q (.ref s.heap.objs.size) {s with heap:=h'}): wpAny `n A (Builtin.«zip.__next__» {[.ref<|n+N+2],[]}) (λfin s'=>∃v,fin=.done (.ret v)/\Q v s') E s:=by
 let⟨r,hI,⟨arr,na,hO⟩,R⟩:=hs;change wpAny _ _ (field (.ref<|n+N+2) 2 >>=_) _ _ _;show zb<|zP r rfl (x:=.bool false) rfl ?_;change wpAny _ _ (field (.ref<|n+N+2) 3 >>=_) _ _ _;show zb<|zP r rfl (x:=.ref<|n+N) rfl ?_;show zb<|yF hI rfl ?_;have he:(fS N λj=>Value.ref<|n+j).isEmpty=ϰ:=by rw[Array.isEmpty_eq_false_iff];intro e;have:=congrArg Array.size e;rw[lE]at this;simp at this;lia
 dsimp only;rw[qa<|by rw[he];show zd];show zb ?_;unfold Builtin.SmallTypes.ownedTupleIsFree;show zb<|zP r rfl (x:=.none) rfl<|zp ?_;simp only[if_true];show zb<|y7 ?_;show zb<|zP r rfl (x:=.ref<|n+N+1) rfl ?_;show zb<|yy r `d λh0 H Y=>?_;replace H:IsZip h0 (n+N+2) (n+N) (n+N+1) .ellipsis:=H;have S:∀c o,c≠n+N+2->s.heap.get? c=ϑ o->h0.get? c=ϑ o:=λc o d e=>Y.extBut _ _ d e;show zb<|wpAny_forIn_list _ (λrest b s'=>∃(k:π)(h':Γ)(m:Array ξ),k<=N/\rest=((fS N λj=>Value.ref<|n+j).toList.zipIdx).drop k/\b=(none,())/\s'={s with heap:=h'}/\eI h' (n+N+1) m/\m.size=N/\(∀j,j<k->m[j]?=some (v j))/\(∀j,j<N->h'.IsTupleIter (n+j) (l j) (if j<k then i+1 else i))/\IsZip h' (n+N+2) (n+N) (n+N+1) .ellipsis/\h'.objs.size=s.heap.objs.size/\(∀c o,c≠n+N+2->c≠n+N+1->(∀j,j<N->c≠n+j)->s.heap.get? c=ϑ o->h'.get? c=ϑ o)) _ ?_ ?_ _ _ ?_;rintro x rest b s' ⟨k,h',m,hk,e1,rfl,rfl,O,ha,L,J,Z,sz,kp⟩;have a:k<N:=by have:=congrArg List.length e1;rw[zM,yP,List.length_zipIdx,ku]at this;lia
 have e2:((fS N λj=>Value.ref<|n+j).toList.zipIdx).drop k=(Value.ref<|n+k,k)::((fS N λj=>Value.ref<|n+j).toList.zipIdx).drop (k+1):=by rw[List.drop_eq_getElem_cons<|by rw[List.length_zipIdx,ku];show a];simp[fS]
 rw[e2]at e1;cases e1;have lk:@LT.lt π _ (l k) n:=lt k a;have U:=J k a;rw[qa<|yK _]at U;have T0:Heap.IsTuple h' (l k) (xs k):=by let⟨o,I,P⟩:=tu k a;show{o,kp _ _ (by change @Ne π _ _;lia) (by change @Ne π _ _;lia) (λj u=>by change @Ne π _ _;lia) I,P}
 show zb<|wpAny_onRaise ?_;change wpAny _ _ (Builtin.SmallTypes.nextOf (.ref<|n+k) >>=_) _ _ _;show zb<|D0 (s:={s with heap:=h'}) U T0 (ev k a) λh m0 t=>zp ?_;have X:eI h (n+N+1) m:=t.extBut _ _ (by change @Ne π _ _;lia) O;show zb<|yF (s:={s with heap:=h}) X rfl ?_;show zb<|ph (s:={s with heap:=h}) X `b λp O2 B=>?_;show zb<|wpAny_letGo<|zp ?_;show{k+1,p,_,a,rfl,rfl,rfl,O2,by rw[Array.size_setIfInBounds];show ha,λj g=>?_,λj g=>?_,B.extBut _ _ (by change @Ne π _ _;lia)<|t.extBut _ _ (by change @Ne π _ _;lia) Z,by rw[B.1,t.1];show sz,λc o d1 C G e=>B.extBut _ _ C<|t.extBut _ _ (G k a)<|kp c o d1 C G e};by_cases z:j=k;subst z;rw[Array.getElem?_setIfInBounds_self_of_lt<|`b];rw[Array.getElem?_setIfInBounds_ne<|Ne.symm z];show L j `b;by_cases z:j=k;subst z;rw[qc<|yn _];show xH B.extBut (by change @Ne π _ _;lia) m0;have:=J j g;rw[show(if j<k+1 then i+1 else i)=if j<k then i+1 else i by by_cases y:j<k;rw[qc y,qc<|`b];rw[qa y,qa<|`b]];show xH B.extBut (by change @Ne π _ _;lia)<|xH t.extBut (by change @Ne π _ _;lia) this;rintro b s' ⟨k,h',m,hk,e1,rfl,rfl,O,ha,L,J,Z,sz,kp⟩;have a:k=N:=by have:=congrArg List.length e1;rw[List.length_nil,yP,List.length_zipIdx,ku]at this;lia
 subst a;have ea:=Ol ha L;subst ea;show zb<|yF (s:={s with heap:=h'}) O rfl ?_;show zb<|wpAny_newTuple ?_ (hsz:=by rw[ku];show Wr h3);have lz:n+k+2<h'.objs.size:=zw Z;change wpAny _ _ (Builtin.SmallTypes.ownedTupleHandOut (.ref<|n+k+2) (.ref h'.objs.size) >>=_) _ _ _;show zb ?_;unfold Builtin.SmallTypes.ownedTupleHandOut;have K:IsZip (h'.push {cls:=.type "tuple",data:=.seq<|fS k v}) (n+k+2) (n+k) (n+k+1) .ellipsis:=za _ Z;show zb<|yy (s:={s with heap:=h'.push {cls:=.type "tuple",data:=.seq<|fS k v}}) K `d λh M r1=>?_;replace M:IsZip h (n+k+2) (n+k) (n+k+1) (rawInt h'.objs.size):=M;show yy (s:={s with heap:=h}) M `d λp F r2=>?_;replace F:IsZip p (n+k+2) (n+k) (n+k+1) (rawInt h'.objs.size):=F;have up:∀c o,c≠n+k+2->h'.get? c=ϑ o->p.get? c=ϑ o:=λc o d e=>r2.extBut _ _ d<|r1.extBut _ _ d<|za _ e;have hT:eI p h'.objs.size (fS k v):=r2.extBut _ _ (yi lz)<|r1.extBut _ _ (yi lz)<|zl _ rfl;rw[sz]at F hT;show zp !⟨?_⟩;change Q (.ref h'.objs.size) _;rw[sz];show hQ p F (up _ _ (by change @Ne π _ _;show zE<|yn _) O) (λj g=>?_) hT λc o d1 C G e=>up c o d1<|kp c o d1 C G e;have:=J j g;rw[qc g]at this;show PC (λo e=>up _ o (by change @Ne π _ _;lia) e) this;show{0,h0,arr,zU _,rfl,rfl,rfl,S _ _ (by change @Ne π _ _;lia) hO,na,λj g=>absurd g<|Nat.not_lt_zero _,λj g=>?_,H,Y.1,λc o d u u e=>S c o d e};rw[qa<|Nat.not_lt_zero _];let⟨o,I,P⟩:=R j g;show{o,S _ _ (by change @Ne π _ _;lia) I,P}
def K0(h1:1<=N)(I:A.handled=ϐ)(H:ZN n N l i s.heap)(lt:l 0<n)(P:s.heap.IsTuple (l 0)<|xs 0)(G:(xs 0)[i]?=none) (F:∀h' e,(∀c o,c≠n+N+2->c≠n+0->s.heap.get? c=ϑ o->h'.get? c=ϑ o)->(∃o,h'.get? e=ϑ o/\o.cls=.type "StopIteration")->E (.ref e) {s with heap:=h'}): wpAny `n A (Builtin.«zip.__next__» {[.ref<|n+N+2],[]}) Q E s:=by
 let⟨a,K,⟨arr,R,S⟩,t⟩:=H;change wpAny _ _ (field (.ref<|n+N+2) 2 >>=_) _ _ _;show zb<|zP a rfl (x:=.bool false) rfl ?_;change wpAny _ _ (field (.ref<|n+N+2) 3 >>=_) _ _ _;show zb<|zP a rfl (x:=.ref<|n+N) rfl ?_;show zb<|yF K rfl ?_;have r:(fS N λj=>Value.ref<|n+j).isEmpty=ϰ:=by rw[Array.isEmpty_eq_false_iff];intro e;have:=congrArg Array.size e;rw[lE]at this;simp at this;lia
 dsimp only;rw[qa<|by rw[r];show zd];show zb ?_;unfold Builtin.SmallTypes.ownedTupleIsFree;show zb<|zP a rfl (x:=.none) rfl<|zp ?_;simp only[if_true];show zb<|y7 ?_;show zb<|zP a rfl (x:=.ref<|n+N+1) rfl ?_;show zb<|yy a `d λh0 g m=>?_;replace g:IsZip h0 (n+N+2) (n+N) (n+N+1) .ellipsis:=g;have lk:@LT.lt π _ (l 0) n:=lt;have J:Heap.IsTupleIter h0 (n+0) (l 0) i:=by let⟨o,h,p⟩:=t 0 h1;show{o,m.extBut _ _ (by change @Ne π _ _;lia) h,p}
 have O:Heap.IsTuple h0 (l 0) (xs 0):=by let⟨o,h,p⟩:=P;show{o,m.extBut _ _ (by change @Ne π _ _;lia) h,p}
 have e2:(fS N λj=>Value.ref<|n+j).toList.zipIdx=(Value.ref<|n+0,0)::((fS N λj=>Value.ref<|n+j).toList.zipIdx).drop 1:=by have:=List.drop_eq_getElem_cons (l:=(fS N λj=>Value.ref<|n+j).toList.zipIdx) (i:=0) (by rw[List.length_zipIdx,ku];show h1);rw[List.drop_zero]at this;rw[this];simp[fS]
 rw[e2,List.forIn_cons];show zb<|zb<|zb<|wpAny_onRaise ?_;change wpAny _ _ (Builtin.SmallTypes.nextOf (.ref<|n+0) >>=_) _ _ _;show zb<|tK (s:={s with heap:=h0}) I J O G λh1 e y r=>?_;let⟨L,d,v⟩:=r;have B:IsZip h1 (n+N+2) (n+N) (n+N+1) .ellipsis:=y _ _ (by change @Ne π _ _;lia) g;have M:e≠n+N+2:=λx=>by subst x;rw[B]at d;cases d;simp at v
 show yy (s:={s with heap:=h1}) B `d λh2 u z=>F h2 e (λc o C d0 x=>z.extBut _ _ C<|y _ _ d0<|m.extBut _ _ C x) {L,z.extBut _ _ M d,v}
end
noncomputable def Td(K:Φ)(N:π)(l:π->ε):It:={λi H=>∃(xs:π->δ V)(x:π->V),∀j,j<N->g_ K H (l j) (xs j)/\(xs j)[i]?=some (x j),λi H y H'=>∃T,H T=ϐ/\y=.ref T/\∀(xs:π->δ V)(x:π->V),(∀j,j<N->g_ K H (l j) (xs j)/\(xs j)[i]?=some (x j))->H'=upd H T (.tup<|(List.range N).map x),λi H=>∃xs:π->δ V,(∀j,j<N->g_ K H (l j) (xs j))/\(xs 0).length<=i}
noncomputable def Va(n N:π):δ Addr:=(List.range<|N+3).map λj=>n+j
def sF(h:b∈Va n N):∃j,j<N+3/\b=n+j:=by let⟨j,a,e⟩:=zf.mp h;show{j,zV.mp a,e.symm}
theorem fT(h:j<N+3):(n+j:π)∈Va n N:=zf.mpr {j,zV.mpr h,rfl}
def Eo(h:∀j,j<N->RelV (x j) (u j)):Vals ((List.range N).map x) ((List.range N).map u):=by
 have:∀l:δ π,(∀j∈l,j<N)->Vals (l.map x) (l.map u):=by intro l;induction l with|nil=>show λz=>.nil|cons a l d=>show λhl=>.cons (h a<|hl a zB)<|d λj c=>hl j<|zo _ c
 show this _ λj c=>zV.mp c
theorem wK{P:Ψ}{w:Ω}{K:Φ}{es:δ Δ}{kk:π}{tp:Pos}{n N:π}{l:π->ε}(h1:1<=N)(h3:N<=3)(lt:∀j,j<N->l j<n):Turn P w K (.Tuple es kk tp) (Td K N l) (Va n N) (n+N+2) (ZN n N l) where
 mem:=fT (j:=N+2)<|yn _
 obj:=λi h st b hb=>by
  let⟨j,hj,rfl⟩:=sF hb
  by_cases q:j<N
  ·let⟨o,e,c,d⟩:=st.it j q;show{o,e,λv z=>by rw[d]at z;cases z}
  ·let⟨arr,na,hO⟩:=st.o
   have:j=N\/j=N+1\/j=N+2:=`b
   rcases this with rfl|rfl|rfl
   ·show{_,st.t,λv z=>by cases z}
   ·show{_,hO,λv z=>by cases z}
   ·show{_,st.z,λv z=>by cases z}
 keep:=λi h h' st k=>by
  let⟨hz,hI,⟨arr,na,hO⟩,J⟩:=st
  show{k _ (fT (j:=N+2)<|`b) _ hz,k _ (fT (j:=N)<|`d) _ hI,{arr,na,k _ (fT (j:=N+1)<|yu _) _ hO},λj hj=>PC (λo e=>k _ (fT<|`b) o e)<|J j hj}
 item:=by
  intro X hP hw hK hc i qe s σ H E I hf st hg
  subst hP hw hK
  let⟨xs,x,hx⟩:=hg
  have ex:∀j,∃(aC:δ ξ)(u:ξ),j<N->Vals (xs j) aC/\s.heap.IsTuple (l j) aC.toArray/\aC[i]?=some u/\RelV (x j) u:=λj=>by
   by_cases q:j<N
   ·let⟨aC,rv,p,_⟩:=I.tuple (hx j q).1
    let⟨u,hu,ru⟩:=rv.get (hx j q).2
    show{aC,u,λr=>⟨rv,p,hu,ru⟩}
   ·show{[],.none,λh=>absurd h q}
  have fx:=Classical.axiomOfChoice ex
  let⟨aC,fx⟩:=fx
  let⟨u,fx⟩:=Classical.axiomOfChoice fx
  have hT:s.TypeIs (.ref<|n+N+2) "zip":={_,st.z,rfl}
  have lz:@LT.lt π _ (n+N+2) s.heap.objs.size:=zw st.z
  unfold pyNext
  show zb<|xf<|yp (name:=Str.ofString "__next__") hT yY<|yz yY hT F.entry_zip_next (H_ h1 h3 lt st (xs:=λj=>(aC j).toArray) (v:=u) (λj hj=>(fx j hj).2.1) (λj hj=>by simpa using (fx j hj).2.2.1) λg1 z1 O1 m1 T1 kp=>zp !⟨?_⟩)<|F.args_zip_next_1 _
  show wpAny_letOwnedTupleGo_zip (s:={s with heap:=g1}) z1 λg2 z2 r2=>?_
  have PD:∀c o,c∉Va n N->s.heap.get? c=ϑ o->g2.get? c=ϑ o:=λc o hc e=>r2.extBut _ _ (λz=>hc<|z ▸ fT (j:=N+2) `b)<|kp c o (λz=>hc<|z ▸ fT (j:=N+2) `b) (λz=>hc<|z ▸ fT (j:=N+1) `b) (λj hj z=>hc<|z ▸ fT `b) e
  have T2:eI g2 s.heap.objs.size (fS N u):=r2.extBut _ _ (yi lz) T1
  have I2:Inv X qe σ (upd H s.heap.objs.size<|.tup<|(List.range N).map x) {s with heap:=g2}:=I.xJ (t':=s.toks) (Va n N) hf PD (Heap.get?_none_of_le<|zm _) {by rw[zc,List.length_range];show YV<|zj h3<|`a,_,Eo λj hj=>(fx j hj).2.2.2,{_,T2,rfl,rfl,_,rfl}}
  show{.ref s.heap.objs.size,_,I2,rfl,{_,I.aM.fresh<|zm _,rfl,λys y hy=>?_},{z2,?_,{_,lE,r2.extBut _ _ (by change @Ne π _ _;lia) O1},λj hj=>xH r2.extBut (by change @Ne π _ _;lia)<|m1 j hj},λb hb=>?_}
  ·congr 2
   show z0 λj hj=>?_
   have hj:=zV.mp hj
   have:=I.oY (hy j hj).1 (hx j hj).1
   have e:=(hy j hj).2
   rw[this,(hx j hj).2]at e
   show zQ e
  ·show r2.extBut _ _ (by change @Ne π _ _;lia) (kp _ _ (by change @Ne π _ _;lia) (by change @Ne π _ _;lia) (λj hj=>by change @Ne π _ _;lia) st.t)
  ·let⟨j,hj,rfl⟩:=sF hb
   rw[az<|by change @Ne π _ _;lia]
   show(hf _ hb).1
 done:=by
  intro X hP hw hK hc i qe s σ H E I hf st hg
  subst hP hw hK
  let⟨xs,hx,hl⟩:=hg
  let⟨xW,Qb,p0,_⟩:=I.tuple<|hx 0 h1
  have hT:s.TypeIs (.ref<|n+N+2) "zip":={_,st.z,rfl}
  have Zs:=Qb.length
  unfold pyNext
  show zb<|xf<|yp (name:=Str.ofString "__next__") hT yY<|yz yY hT F.entry_zip_next (K0 h1 (I.ok.hd hc) st (lt 0 h1) (xs:=λr=>xW.toArray) p0 (by simp;lia) λh1 e kp he=>?_)<|F.args_zip_next_1 _
  let⟨o,ho,Kx⟩:=he
  show zb<|wpAny_isInstance (T:="StopIteration") (b:=true) ⟨o,ho,Kx⟩ isSubtype_stop<|zp {rfl,?_}
  show I.xI (t':=s.toks) (Va n N) hf λc o hc e=>kp c o (λz=>hc<|z ▸ fT (j:=N+2) `b) (λz=>hc<|z ▸ fT (j:=0) (xb _)) e
 self:=λA' i s Q E st h=>wpAny_pyIter_zip st.z h
noncomputable def two(a b:ε):π->Addr:=λj=>if j=0 then a else b
noncomputable def Te(a b c:ε):π->Addr:=λj=>if j=0 then a else if j=1 then b else c
theorem Zt{p:π->η}(h0:p 0)(h1:p 1):∀j,j<2->p j|0,_=>h0|1,_=>h1|j+2,h=>by lia
theorem Zu{p:π->η}(h0:p 0)(h1:p 1)(h2:p 2):∀j,j<3->p j|0,_=>h0|1,_=>h1|2,_=>h2|j+3,h=>by lia
section
variable{X:Cx}{a b c:Δ}{ta:TA}{p pos tp:Pos}{es:δ Δ}{kk:π}
def Tf(B:Gl X "zip")(hm:X.mg "zip"= none)(ha:PA X [a,b] ta)(x:starEach [a,b] X.env=[(false,eval a X.env),(false,eval b X.env)])(i:starEach [b] X.env=[(false,eval b X.env)]): PI X (.Tuple es kk tp) (.Call (.Name "zip" p) [a,b] [] pos) (λσ H R=>ta σ H λvs H1=>∃l0 l1,vs=[.ref l0,.ref l1]/\(∃xs,g_ X.K H1 l0 xs)/\(∃xs,g_ X.K H1 l1 xs)/\R (Td X.K 2<|two l0 l1) H1):=by intro qe s σ H R I h;show Call_<|fu I B hm boot_zip<|yj (bz (ha pos qe s σ H _ I h) λus s1 y=>?_) (by rw[x,i]) (by rw[i];rfl);let⟨vs,H1,c,w,n⟩:=y;let⟨l0,l1,e,⟨jz,o⟩,⟨j7,t⟩,q⟩:=n;subst e;let⟨u,v,rfl,r,z⟩:=w.two;cases r;cases z;let⟨l,E,g,_⟩:=c.tuple o;let⟨m,C,d,_⟩:=c.tuple t;show D3 (show s1.heap.IsTuple l0 l.toArray from g) (show s1.heap.IsTuple l1 m.toArray from d) λh' zs kp=>?_;have A:ZN s1.heap.objs.size 2 (two l0 l1) 0 h':={zs.1,zs.2.1,zs.2.2.1,Zt zs.2.2.2.1 zs.2.2.2.2};show wpAny_pyIter_zip (s:={s1 with heap:=h'}) zs.1 {_,_,_,_,H1,rfl,c.kept (t':=s1.toks) kp,wK `a `a<|Zt g.lt d.lt,A,λb hb=>?_,q};let⟨j,_,rfl⟩:=sF hb;show c.nv (Nat.le_add_right _ _)<|c.aM.fresh<|Nat.le_add_right _ _
def Th(J:Gl X "zip")(hm:X.mg "zip"= none)(ha:PA X [a,b,c] ta)(C:starEach [a,b,c] X.env=[(false,eval a X.env),(false,eval b X.env),(false,eval c X.env)])(m:starEach [b,c] X.env=[(false,eval b X.env),(false,eval c X.env)]): PI X (.Tuple es kk tp) (.Call (.Name "zip" p) [a,b,c] [] pos) (λσ H R=>ta σ H λvs H1=>∃l0 l1 l2,vs=[.ref l0,.ref l1,.ref l2]/\(∃xs,g_ X.K H1 l0 xs)/\(∃xs,g_ X.K H1 l1 xs)/\(∃xs,g_ X.K H1 l2 xs)/\R (Td X.K 3<|Te l0 l1 l2) H1):=by intro qe s σ H R I h;show Call_<|fu I J hm boot_zip<|yj (bz (ha pos qe s σ H _ I h) λus s1 E=>?_) (by rw[C,m]) (by rw[m];rfl);let⟨vs,H1,d,B,x⟩:=E;let⟨l0,l1,l2,e,⟨jz,y⟩,⟨j7,A⟩,⟨L,t⟩,q⟩:=x;subst e;let⟨u,v,z,rfl,r,F,g⟩:=B.three;cases r;cases F;cases g;let⟨n,N,l,_⟩:=d.tuple y;let⟨o,M,i,_⟩:=d.tuple A;let⟨w,O,p2,_⟩:=d.tuple t;show Ea (show s1.heap.IsTuple l0 n.toArray from l) (show s1.heap.IsTuple l1 o.toArray from i) (show s1.heap.IsTuple l2 w.toArray from p2) λh' zs kp=>?_;have G:ZN s1.heap.objs.size 3 (Te l0 l1 l2) 0 h':={zs.1,zs.2.1,zs.2.2.1,Zu zs.2.2.2.1 zs.2.2.2.2.1 zs.2.2.2.2.2};show wpAny_pyIter_zip (s:={s1 with heap:=h'}) zs.1 {_,_,_,_,H1,rfl,d.kept (t':=s1.toks) kp,wK `a `a<|Zu l.lt i.lt p2.lt,G,λb hb=>?_,q};let⟨j,_,rfl⟩:=sF hb;show d.nv (Nat.le_add_right _ _)<|d.aM.fresh<|Nat.le_add_right _ _
end
section
variable{K:Φ}{X:Cx}{a c e:Δ}{t:iC}{p pos tp:Pos}{es:δ Δ}{kk:π}
def Zv(hm:X.mg "zip"= none)(ha:DA K X [a,c] t)(I:ψ (Gl X "zip") qQJ)(E:ψ (starEach [a,c] X.env=[(false,eval a X.env),(false,eval c X.env)]) qQJ)(sx:ψ (starEach [c] X.env=[(false,eval c X.env)]) qQJ)(hK:ψ (X.K=K) qQJ): DI K X (.Tuple es kk tp) (.Call (.Name "zip" p) [a,c] [] pos) (Xc t):=by subst hK;show⟨λy=>(Tf (X:=y.cx) I hm (ha.of y) E sx).mono <| by rintro τ H R ⟨σ,S,RI,Z,F,G,q,hR,P⟩;show{σ,S,_,Z,F,G,q,by rintro ds O vs H1 ⟨xs,ys,e,hl,Q⟩ N s1 Y;subst e;let⟨v,u,rfl,ra,M⟩:=N.two;let⟨a,l,rfl,o,ta⟩:=ra.tup;let⟨b,n,rfl,B,tb⟩:=M.tup;show{a,b,rfl,{l,.of o},{n,.of B},hR _ O _ H1 Q (λi S2 H2 m s2 k=>?_) s1 Y};have z:g_ X.K H2 a l:=.of<|m.t _ _ o;have r:g_ X.K H2 b n:=.of<|m.t _ _ B;have la:l.length=xs.length:=ta.len;let f:π->δ V:=λj=>if j=0 then l else n;show{λd hd=>?_,λh=>{f,Zt z r,by change l.length<=i;unfold aZ at h;rw[List.length_zipWith]at h;lia}};unfold aZ at hd;let⟨x,y',e1,e2,e3⟩:=yg.mp hd;subst e3;let⟨s,U,C⟩:=(RvAll.ts m _ ta).get e1;let⟨w,f2,J⟩:=(RvAll.ts m _ tb).get e2;let g:π->V:=λj=>if j=0 then s else w;have ok:∀j,j<2->g_ X.K H2 (two a b j) (f j)/\(f j)[i]?=some (g j):=Zt ⟨z,U⟩ ⟨r,f2⟩;show{⟨f,g,ok⟩,λx' H' ⟨T,A,e4,L⟩=>?_};have:=L f g ok;subst this e4;have kk:Kp X.K H2 (upd H2 T<|.tup [s,w]):=.new A;show{hX aF<|RvAll.ts kk _<|aP C<|aP J bA,kk,s2.grow A},P}⟩
def ab7(hm:X.mg "zip"= none)(ha:DA K X [a,c,e] t)(P:ψ (Gl X "zip") qQJ)(M:ψ (starEach [a,c,e] X.env=[(false,eval a X.env),(false,eval c X.env),`j]) qQJ)(sx:ψ (starEach [c,e] X.env=[(false,eval c X.env),`j]) qQJ)(hK:ψ (X.K=K) qQJ): DI K X (.Tuple es kk tp) (.Call (.Name "zip" p) [a,c,e] [] pos) (Tc t):=by subst hK;show⟨λy=>(Th (X:=y.cx) P hm (ha.of y) M sx).mono <| by rintro τ H R ⟨σ,S,RI,Z,N,O,q,hR,hZ⟩;show{σ,S,_,Z,N,O,q,by rintro ds S1 vs H1 ⟨xs,ys,zs,e,hl,qA,r1⟩ v1 s1 k1;subst e;let⟨v,u,w,rfl,ra,rb,rc⟩:=v1.thr;let⟨a,m,rfl,A,ta⟩:=ra.tup;let⟨b,r,rfl,I,tb⟩:=rb.tup;let⟨c,o,rfl,G,tc⟩:=rc.tup;show{a,b,c,rfl,{m,.of A},{r,.of I},{o,.of G},hR _ S1 _ H1 r1 (λi S2 H2 l s2 k=>?_) s1 k1};have E:g_ X.K H2 a m:=.of<|l.t _ _ A;have J:g_ X.K H2 b r:=.of<|l.t _ _ I;have n:g_ X.K H2 c o:=.of<|l.t _ _ G;have la:m.length=xs.length:=ta.len;let f:π->δ V:=λj=>if j=0 then m else if j=1 then r else o;show{λd hd=>?_,λh=>{f,Zu E J n,by change m.length<=i;rw[la,<-pA hl qA];show h}};let⟨x,y',z,e1,e2,e3,e4⟩:=pB hd;subst e4;let⟨B,f1,L⟩:=(RvAll.ts l _ ta).get e1;let⟨C,f2,Q⟩:=(RvAll.ts l _ tb).get e2;let⟨s,f3,U⟩:=(RvAll.ts l _ tc).get e3;let g:π->V:=λj=>if j=0 then B else if j=1 then C else s;have ok:∀j,j<3->g_ X.K H2 (Te a b c j) (f j)/\(f j)[i]?=some (g j):=Zu ⟨E,f1⟩ ⟨J,f2⟩ ⟨n,f3⟩;show{⟨f,g,ok⟩,λx' H' ⟨T,F,e4,Y⟩=>?_};have:=Y f g ok;subst this e4;have kk:Kp X.K H2 (upd H2 T<|.tup [B,C,s]):=.new F;show{hX aF<|RvAll.ts kk _<|aP L<|aP Q<|aP U bA,kk,s2.grow F},hZ}⟩
end
end L2
namespace My
open PySem L2
def top(i:π):Stmt:=PySem.Challenge.pw_pageturns_k51_houses_that_are_right.main.body.getD i<|.Pass {0,0,0,0}
abbrev Ia:Stmt:=top 21
abbrev K1:Stmt:=top 22
abbrev Ib:Stmt:=top 23
abbrev rM:Stmt:=top 30
abbrev Ep:Stmt:=top 32
abbrev xX:Stmt:=top 35
abbrev ml:Stmt:=top 45
abbrev mM:Stmt:=top 48
abbrev Er:Stmt:=top 50
abbrev vG:Stmt:=top 58
abbrev BQ:Stmt:=top 59
abbrev BR:Stmt:=top 63
abbrev tT:Stmt:=top 67
abbrev iE:Stmt:=top 69
abbrev iF:Stmt:=top 70
abbrev fU:Stmt:=top 71
abbrev rN:Stmt:=top 100
abbrev tU:Stmt:=top 102
abbrev Et:Stmt:=top 109
abbrev wL:Stmt:=top 112
abbrev Tj:Stmt:=top 116
abbrev Gn:Stmt:=top 117
abbrev bu:Stmt:=top 91
abbrev lF:Stmt:=top 95
structure ft where
 (pC mO Ie BS Qd nO tV xY kz kB jd iG jC qN nQ iH mP tW tX wM tY nR eK wN aw ba gN aX fE aQ:ε)
 (iI fV Ig BU K2 gO kC:FuncData)
 (nS pE nU tZ lX BV lY nV BW:Tok)
 ts:δ ε
 (f Eu Ew:π->ε)
 (d Tp Tq:π->FuncData)
structure Txt(w:Ω)(K:Φ)(mg:ρ->θ ξ)(t:ft):η where
 fn:H9 K mg top t.f t.d [18,19,20,21,22,23,24,25,26,27,30,31,32,33,34,35,36,42,43,44,45,46,47,48,49,50,51,52,58,59,60,61,62,63,64,66,67,68,70,74,75,76,81,82,83,84,85,86,87,88,89,92,94,96,97,98,99,100,101,102,104,105,106,107,108,109,110,111,112,113,114,115,116,117,118,119,120,121,122]
 dI:En K t.aw "Shelf." bu t.Eu t.Tp [0,1,2,3,4,5,6,7,8,12,13]
 sG:En K t.ba "House." lF t.Ew t.Tq [0,1,2,3]
 fW:KQ K mg "sorted_by_keys" (top 69) ["rows","way"] t.pC t.iI
 eM:KQ K mg "sorted_by_values" (top 71) ["columns","part","rows"] t.mO t.fV
 xZ:KQ K mg "page_on" (top 79) ["shelf","order","sieve","size","gap","moment"] t.Ie t.Ig
 pF:KQ K mg "page_back" (top 80) ["shelf","order","sieve","size","gap","moment"] t.BS t.BU
 law:KQ K mg "law" (top 123) ["_law_script"] t.Qd t.K2
 dq:P_ K t.aw "worths_at" "Shelf.worths_at" (inClass bu 9) ["self","key","moment"] t.nO t.gO
 fF:Binds K t.gO ["self","key","moment"] [.none]
 dJ:P_ K t.aw "all_at" "Shelf.all_at" (inClass bu 10) ["self","moment"] t.tV t.kC
 pG:Binds K t.kC ["self","moment"] [.none]
 mQ:mg "MOST_NAME_SIGNS"= some (.int 8 t.nS)
 nW:mg "MOST_KEY_SIGNS"= some (.int 12 t.pE)
 mR:mg "MOST_WORD_SIGNS"= some (.int 40 t.nU)
 rO:mg "MOST_COLUMNS"= some (.int 8 t.tZ)
 kD:mg "MOST_PARTS_orders"= some (.int 8 t.lX)
 x5:mg "MOST_DEEP"= some (.int 8 t.BV)
 kE:mg "MOST_PARTS_sieves"= some (.int 200 t.lY)
 mS:mg "MOST_IN_A_TUPLE"= some (.int 8 t.nV)
 x6:mg "MOST_ROWS"= some (.int 1000 t.BW)
 K3:mg "KINDS"= some (.ref t.xY)
 K4:∀H,Rv K H (.kt [.str "number",.str "word"])<|.ref t.xY
 x8:mg "OTHER_WAY"= some (.ref t.kz)
 BX:JU w K t.kz [("up",.str "down"),("down",.str "up")]
 x9:mg "OTHER_END"= some (.ref t.kB)
 BY:JU w K t.kB [("first",.str "last"),("last",.str "first")]
 vH:mg "OTHER_SIDE"= some (.ref t.jd)
 x_:JU w K t.jd [("ahead",.str "behind"),("behind",.str "ahead")]
 nX:mg "LENGTHS_sieves"= some (.ref t.iG)
 pH:JU w K t.iG [("every",.int 1),("is",.int 3),("below",.int 3),("above",.int 3),("begins",.int 3),("key",.int 2),("not",.int 2),("and",.int 2),("or",.int 2)]
 pI:mg "LENGTHS_deeds"= some (.ref t.jC)
 rP:JU w K t.jC [("put",.int 3),("change",.int 3),("take",.int 2)]
 aU:mg "len"= none
 jD:mg "all"= none
 XS:mg "any"= none
 ao:mg "isinstance"= none
 je:mg "range"= none
 Gq:mg "int"= none
 iJ:mg "str"= none
 Tr:mg "bool"= none
 bc:mg "tuple"= none
 t5:mg "list"= none
 K5:mg "dict"= none
 Qe:mg "set"= none
 wO:mg "zip"= none
 iK:mg "sorted"= none
 Qf:mg "min"= none
 XT:mg "max"= none
 BZ:mg "enumerate"= none
 t6:mg "reversed"= none
 nY:mg "PageError"= some (.ref t.qN)
 gQ:excIn K t.qN L2.mH "ValueError.__new__"= true
 ib:mg "BadColumns"= some (.ref t.nQ)
 dM:excIn K t.nQ L2.mH "ValueError.__new__"= true
 lG:mg "BadRow"= some (.ref t.iH)
 iL:excIn K t.iH L2.mH "ValueError.__new__"= true
 eZ:mg "BadOrder"= some (.ref t.mP)
 du:excIn K t.mP L2.mH "ValueError.__new__"= true
 qO:mg "BadSieve"= some (.ref t.tW)
 jf:excIn K t.tW L2.mH "ValueError.__new__"= true
 e_:mg "BadPlace"= some (.ref t.tX)
 dw:excIn K t.tX L2.mH "ValueError.__new__"= true
 Ex:mg "BadSize"= some (.ref t.wM)
 pJ:excIn K t.wM L2.mH "ValueError.__new__"= true
 Ih:mg "HasKey"= some (.ref t.tY)
 t9:excIn K t.tY L2.mH "ValueError.__new__"= true
 K6:mg "NoKey"= some (.ref t.nR)
 y_:excIn K t.nR L2.mH "ValueError.__new__"= true
 B5:mg "NoMoment"= some (.ref t.eK)
 mT:excIn K t.eK L2.mH "ValueError.__new__"= true
 mU:mg "BadDeed"= some (.ref t.wN)
 iM:excIn K t.wN L2.mH "ValueError.__new__"= true
 t_:mg "Shelf"= some (.ref t.aw)
 aj:sA K t.aw
 ua:Mk K t.aw (t.Eu 0)
 cZ:findIn K (.ref t.aw) "columns"= some none
 cC:findIn K (.ref t.aw) "deeds"= some none
 cu:findIn K (.ref t.aw) "runs"= some none
 K7:mg "House"= some (.ref t.ba)
 bJ:sA K t.ba
 K8:Mk K t.ba (t.Ew 0)
 cT:findIn K (.ref t.ba) "shelf"= some none
 bQ:findIn K (.ref t.ba) "questions"= some none
 dN:findIn K (.ref t.ba) "answered"= some none
 gR:t.iI.code=.ref t.gN
 dP:codeHdIn K t.gN t.aX=ϱ
 nZ:t.aX∈t.ts
 fG:t.fV.code=.ref t.fE
 dj:codeHdIn K t.fE t.aQ=ϱ
 lZ:t.aQ∈t.ts
 np:[t.aX,t.aQ].Nodup
 ta:∀b∈t.ts,b=t.aX\/b=t.aQ
 bl:∀(s:ζ)(u:ξ),BindsTo s t.K2 {[u],[]} [("_law_script",u)]
section
variable{w:Ω}{K:Φ}{mg:ρ->θ ξ}{t:ft}(T:Txt w K mg t)
def Txt.fX:=T.fn 18<|`a
def Txt.iN:=T.fn 19<|`a
def Txt.pK:=T.fn 20<|`a
def Txt.sH:=T.fn 21<|`a
def Txt.mV:=T.fn 22<|`a
def Txt.z_:=T.fn 23<|`a
def Txt.Ab:=T.fn 24<|`a
def Txt.kF:=T.fn 25<|`a
def Txt.compared:=T.fn 26<|`a
def Txt.dy:=T.fn 27<|`a
def Txt.ic:=T.fn 30<|`a
def Txt.pL:=T.fn 31<|`a
def Txt.n0:=T.fn 32<|`a
def Txt.eN:=T.fn 33<|`a
def Txt.lH:=T.fn 34<|`a
def Txt.mW:=T.fn 35<|`a
def Txt.cN:=T.fn 36<|`a
def Txt.Ac:=T.fn 42<|`a
def Txt.Ey:=T.fn 43<|`a
def Txt.Ad:=T.fn 44<|`a
def Txt.kG:=T.fn 45<|`a
def Txt.Ae:=T.fn 46<|`a
def Txt.kH:=T.fn 47<|`a
def Txt.eO:=T.fn 48<|`a
def Txt.pM:=T.fn 49<|`a
def Txt.n6:=T.fn 50<|`a
def Txt.fA:=T.fn 51<|`a
def Txt.ub:=T.fn 52<|`a
def Txt.kI:=T.fn 58<|`a
def Txt.pN:=T.fn 59<|`a
def Txt.dQ:=T.fn 60<|`a
def Txt.kJ:=T.fn 61<|`a
def Txt.ie:=T.fn 62<|`a
def Txt.passes:=T.fn 63<|`a
def Txt.jg:=T.fn 64<|`a
def Txt.cU:=T.fn 66<|`a
def Txt.jh:=T.fn 67<|`a
def Txt.uc:=T.fn 68<|`a
def Txt.fY:=T.fn 70<|`a
def Txt.fZ:=T.fn 74<|`a
def Txt.sI:=T.fn 75<|`a
def Txt.Af:=T.fn 76<|`a
def Txt.ji:=T.fn 81<|`a
def Txt.fI:=T.fn 82<|`a
def Txt.pO:=T.fn 83<|`a
def Txt.mX:=T.fn 84<|`a
def Txt.fJ:=T.fn 85<|`a
def Txt.f_:=T.fn 86<|`a
def Txt.mY:=T.fn 87<|`a
def Txt.kK:=T.fn 88<|`a
def Txt.fb:=T.fn 89<|`a
def Txt.gT:=T.fn 92<|`a
def Txt.pP:=T.fn 94<|`a
def Txt.ud:=T.fn 96<|`a
def Txt.kL:=T.fn 97<|`a
def Txt.ue:=T.fn 98<|`a
def Txt.sJ:=T.fn 99<|`a
def Txt.ig:=T.fn 100<|`a
def Txt.fK:=T.fn 101<|`a
def Txt.gb:=T.fn 102<|`a
def Txt.eP:=T.fn 104<|`a
def Txt.pQ:=T.fn 105<|`a
def Txt.aT:=T.fn 106<|`a
def Txt.pR:=T.fn 107<|`a
def Txt.n8:=T.fn 108<|`a
def Txt.kM:=T.fn 109<|`a
def Txt.B6:=T.fn 110<|`a
def Txt.Ag:=T.fn 111<|`a
def Txt.lI:=T.fn 112<|`a
def Txt.Ah:=T.fn 113<|`a
def Txt.sL:=T.fn 114<|`a
def Txt.pS:=T.fn 115<|`a
def Txt.Ts:=T.fn 116<|`a
def Txt.K9:=T.fn 117<|`a
def Txt.Ez:=T.fn 118<|`a
def Txt.jj:=T.fn 119<|`a
def Txt.n_:=T.fn 120<|`a
def Txt.Ai:=T.fn 121<|`a
def Txt.kN:=T.fn 122<|`a
def Txt.cW:=T.dI 0<|`a
def Txt.cO:=T.dI 1<|`a
def Txt.bw:=T.dI 2<|`a
def Txt.cw:=T.dI 3<|`a
def Txt.cG:=T.dI 4<|`a
def Txt.cg:=T.dI 5<|`a
def Txt.cH:=T.dI 6<|`a
def Txt.aN:=T.dI 7<|`a
def Txt.c_:=T.dI 8<|`a
def Txt.ij:=T.dI 12<|`a
def Txt.cI:=T.dI 13<|`a
def Txt.gf:=T.sG 0<|`a
def Txt.kO:=T.sG 1<|`a
def Txt.pT:=T.sG 2<|`a
def Txt.mZ:=T.sG 3<|`a
end
def B7:=bI<|top 18
def Aj:=bI<|top 19
def Al:=bI<|top 20
def EA:=bI<|top 21
def Ii:=bI<|top 22
def EB:=bI<|top 23
def EC:=bI<|top 24
def B8:=bI<|top 25
def qP:=bI<|top 26
def eE:=bI<|top 27
def pU:=bI<|top 30
def Am:=bI<|top 31
def B9:=bI<|top 32
def vI:=bI<|top 33
def Ao:=bI<|top 34
def vJ:=bI<|top 35
def B_:=bI<|top 36
def Ij:=bI<|top 42
def Ik:=bI<|top 43
def ED:=bI<|top 44
def gk:=bI<|top 45
def EF:=bI<|top 46
def uf:=bI<|top 47
def l4:=bI<|top 48
def Ap:=bI<|top 49
def qQ:=bI<|top 50
def bR:=bI<|top 51
def qR:=bI<|top 52
def bS:=bI<|top 58
def Aq:=bI<|top 59
def oa:=bI<|top 60
def kP:=bI<|top 61
def eR:=bI<|top 62
def wQ:=bI<|top 63
def rQ:=bI<|top 64
def og:=bI<|top 66
def jE:=bI<|top 67
def gU:=bI<|top 68
def oh:=bI<|top 69
def cR:=bI<|top 70
def l5:=bI<|top 71
def vK:=bI<|top 74
def EG:=bI<|top 75
def EH:=bI<|top 76
def EI:=bI<|top 79
def Ar:=bI<|top 80
def mm:=bI<|top 81
def jF:=bI<|top 82
def As:=bI<|top 83
def vL:=bI<|top 84
def rR:=bI<|top 85
def vM:=bI<|top 86
def vN:=bI<|top 87
def ug:=bI<|top 88
def cE:=bI<|top 89
def kQ:=bI<|top 92
def iO:=bI<|top 94
def Ca:=bI<|top 96
def uh:=bI<|top 97
def fc:=bI<|top 98
def EJ:=bI<|top 99
def df:=bI<|top 100
def uk:=bI<|top 101
def qS:=bI<|top 102
def Au:=bI<|top 104
def Il:=bI<|top 105
def eT:=bI<|top 106
def dR:=bI<|top 107
def um:=bI<|top 108
def Cb:=bI<|top 109
def K_:=bI<|top 110
def gm:=bI<|top 111
def dA:=bI<|top 112
def iP:=bI<|top 113
def EK:=bI<|top 114
def Im:=bI<|top 115
def Om:=bI<|top 116
def kR:=bI<|top 117
def Io:=bI<|top 118
def ik:=bI<|top 119
def dE:=bI<|top 120
def cy:=bI<|top 121
def bC:=bI<|top 122
def gp:=bI<|top 123
def oi:=bI<|inClass bu 0
def Av:=bI<|inClass bu 1
def rS:=bI<|inClass bu 2
def vO:=bI<|inClass bu 3
def jR:=bI<|inClass bu 4
def iQ:=bI<|inClass bu 5
def eF:=bI<|inClass bu 6
def kT:=bI<|inClass bu 7
def Aw:=bI<|inClass bu 8
def gq:=bI<|inClass bu 9
def fB:=bI<|inClass bu 10
def pV:=bI<|inClass bu 12
def jS:=bI<|inClass bu 13
def oj:=bI<|inClass lF 0
def uo:=bI<|inClass lF 1
def Ax:=bI<|inClass lF 2
def mq:=bI<|inClass lF 3
theorem sm(h:n<=1000):n<=sizeLine:=yU<|lj h
theorem pW:0<=sizeLine:=sm<|`a
theorem pX:1<=sizeLine:=sm<|`a
theorem cF:2<=sizeLine:=sm<|`a
theorem gH:3<=sizeLine:=sm<|`a
theorem rT:4<=sizeLine:=sm<|`a
theorem ab9:5<=sizeLine:=sm<|`a
theorem ab_:6<=sizeLine:=sm<|`a
theorem aca:7<=sizeLine:=sm<|`a
theorem acb:8<=sizeLine:=sm<|`a
theorem XU:10<=sizeLine:=sm<|`a
abbrev FnD(P:Ψ)(w:Ω)(K:Φ)(mg:ρ->θ ξ)(base:Γ)(k:π)(f:ε)(fd:FuncData)(ps:δ ρ)(sp:jb):Prop:=bO P w K mg base (fz P w mg) k f fd ps<|qH K sp
def Gt(S:av)(d:D):Prop:=(∃k,UQ S d k)/\∀z,d=.str z->z.cps.size<=1000
noncomputable def isLet(c:π):Bool:=ω (97<=c)&&ω (c<=122)
noncomputable def Gr(c:π):Bool:=ω (48<=c)&&ω (c<=57)
noncomputable def La(c:π):Bool:=ω (32<=c)&&ω (c<=126)
noncomputable def mr(z:ρ):Bool:=ω (1<=z.cps.size)&&ω (z.cps.size<=8)&&z.cps.toList.all isLet
noncomputable def l6(z:ρ):Bool:=ω (1<=z.cps.size)&&ω (z.cps.size<=12)&&(z.cps.toList.head?.any isLet)&&z.cps.toList.all λc=>isLet c||Gr c
noncomputable def wR(z:ρ):Bool:=ω (z.cps.size<=40)&&z.cps.toList.all La
noncomputable def ofStr(f:ρ->χ):D->χ|.str z=>f z|_=>false
noncomputable def uq:D->χ|.int _=>true|_=>false
noncomputable def kU(kind:ρ)(d:D):Bool:=ak d||if kind ="number" then uq d else ofStr wR d
def Oo(f:D->χ):jb:=λds S R z=>∃d,ds=[d]/\Gt S d/\R (.bl<|f d) S
def Lb(f:π->χ):jb:=λds S R z=>∃c,ds=[.str ⟨#[c]⟩]/\R (.bl<|f c) S
theorem qU:∀{xs ys:δ D}{a b:D},Paired rel xs ys->rel a b->Paired rel (xs++[a]) (ys++[b])|_,_,_,_,.nil,r=>.cons r .nil|_,_,_,_,.cons q t,r=>.cons q<|qU t r
def take_snoc{α:Type}{l:δ α}{i:π}{d:α}(h:l[i]?=some d):l.take (i+1)=l.take i++[d]:=by rw[List.take_add_one,h];rfl
def fe{I:HL}{a:av}{g:C3}{te:TD}{σ:SD}{src:δ<|θ π}{R:KD}(rel:D->D->η)(aM:I.ok a)(hz:I.xs.length<=1000) (step:∀d,d∈I.xs->∀Q:KD,(∀v,rel d v->Q v a)->g d (qL σ src) a λjO S3=>te jO S3 Q Zf) (j:∀out,Paired rel I.xs out->∀p,a p=ϐ->R (.ref p) (a.set p<|.lst out)): BB σ src g wB te R I a:=by
 show{λi out S=>S=a/\Paired rel (I.xs.take i) out,{rfl,.nil},λi out S h=>by rw[h.1];show aM,?_,?_};rintro i d out S hd ⟨rfl,hp⟩;have c:=yJ hp;rw[yd]at c;show{lj<|`b,?_};have e:(λ(jO:SD)(S3:av)=>wB jO S3 (λb m=>if b=ϱ then te jO m (λv l=>l=S/\Paired rel (I.xs.take<|i+1) (out++[v])) Zf else m=S/\Paired rel (I.xs.take<|i+1) out) Zf)=λjO S3=>te jO S3 (λv l=>l=S/\Paired rel (I.xs.take<|i+1) (out++[v])) Zf:=by funext jO S3;simp[wB]
 rw[e];show step d (zK hd) _ λv n=>{rfl,by rw[take_snoc hd];show qU hp n};rintro out o ⟨rfl,hp⟩;rw[List.take_length]at hp;show j out hp
def EL{f:D->D}{xs out:δ D}(h:Paired (λd v=>v=f d) xs out):out=xs.map f:=by induction h with|nil=>rfl|cons r t a=>rw[r,a];rfl
theorem comp_map(f:D->D)(aM:I.ok S1)(hz:I.xs.length<=1000) (step:∀d,d∈I.xs->∀Q:KD,Q (f d) S1->g d (qL σ src) S1 λjO S3=>te jO S3 Q Zf) (a:∀p,S1 p=ϐ->R (.ref p) (S1.set p<|.lst<|I.xs.map f)): BB σ src g wB te R I S1:=fe (λd v=>v=f d) aM hz (λd hd Q h=>step d hd Q<|h _ rfl) λout hp p c=>by rw[EL hp];show a p c
def fO{I:HL}{a:av}{g:C3}{tc:lT}{te:TD}{σ:SD}{src:δ<|θ π}{R:KD}(keep:D->χ)(f:D->D)(aM:I.ok a)(hz:I.xs.length<=1000) (step:∀d,d∈I.xs->∀(Q:KD)(l:av->η),(keep d=ϱ->Q (f d) a)->(keep d=ϰ->l a)->g d (qL σ src) a λjO S3=>tc jO S3 (λb S4=>if b=ϱ then te jO S4 Q Zf else l S4) Zf) (j:∀p,a p=ϐ->R (.ref p) (a.set p<|.lst<|(I.xs.filter keep).map f)): BB σ src g tc te R I a:=by show{λi out S=>S=a/\out=((I.xs.take i).filter keep).map f,⟨rfl,rfl⟩,λi out S h=>by rw[h.1];show aM,?_,?_};rintro i d out S hd ⟨rfl,rfl⟩;have c:((I.xs.take i).filter keep).length<=(I.xs.take i).length:=List.length_filter_le _ _;rw[yd]at c;show{by rw[zc];show lj<|`b,?_};show step d (zK hd) _ (λS4=>S4=S/\_=_) (λe=>{rfl,?_}) λe=>{rfl,?_};rw[take_snoc hd,List.filter_append,zH,yI,qc e];rfl;rw[take_snoc hd,List.filter_append,yI,qa<|by rw[e];show zd];simp;rintro out m ⟨rfl,rfl⟩;rw[List.take_length];show j
variable{P:Ψ}{w:Ω}{K:Φ}{mg:ρ->θ ξ}{base:Γ}{t:ft}
def fg(T:Txt w K mg t):Ok P w base T.fX 1 (Oo uq):=by
 show T.fX.F.bV B7 ?_;obtain⟨d,e,⟨⟨k,c⟩,h⟩,q⟩;show{_,(s1<|sr<|lU (cb bB T.ao ai<|al 0<|ac (j9 T.Gq xB) an)<|CZ<|WB<|cb bB T.ao ai<|al 0<|ac (j9 T.Tr Nj) an),?_};show !{_,_,_,_,rfl,Nk,c,_,rfl,?_};have:(DQ k=ϱ/\((uq d=ϱ/\xD k=ϰ)\/(uq d=ϰ/\xD k=ϱ)))\/(DQ k=ϰ/\uq d=ϰ):=by cases d with|aA=>(cases c;show .inr ⟨rfl,rfl⟩)|bl b=>(cases c;show .inl {rfl,.inr ⟨rfl,rfl⟩})|int b=>(cases c;show .inl {rfl,.inl ⟨rfl,rfl⟩})|str b=>(cases c;show .inr ⟨rfl,rfl⟩)|tup b=>(cases c;show .inr ⟨rfl,rfl⟩)|ref a=>(rcases c with⟨rfl,_⟩|⟨rfl,_⟩<;>show .inr ⟨rfl,rfl⟩)|_=>show c.elim
 rcases this with⟨h1,h2⟩|⟨h1,h2⟩;rw[h1];show bX !{_,_,_,_,rfl,JS,c,_,rfl,?_};rcases h2 with⟨h2,g⟩|⟨h2,g⟩<;>(rw[g];rw[h2]at q;show fo q);rw[h1];rw[h2]at q;show aL<|fo q
def jk(T:Txt w K mg t):Ok P w base T.iN 1 (Lb isLet):=by show T.iN.F.bV Aj ?_;obtain⟨c,e,q⟩;show{_,(s1<|sr<|cc kf kf `u ds (dv 0) ds),?_};show !!⟨?_⟩;have e1:IW "a" ⟨#[c]⟩=ω (97<=c):=lB 97 c;have e2:IW ⟨#[c]⟩ "z"= ω (c<=122):=lB c 122;unfold isLet at q;show bH (λh=>?_) λh=>?_;rw[e1.symm.trans h,yf,<-e2]at q;show fo q;rw[e1.symm.trans h,ya]at q;show fo q
def Ay(T:Txt w K mg t):Ok P w base T.pK 1 (Lb Gr):=by show T.pK.F.bV Al ?_;obtain⟨c,e,q⟩;show{_,(s1<|sr<|cc kf kf `u ds (dv 0) ds),?_};show !!⟨?_⟩;have e1:IW "0" ⟨#[c]⟩=ω (48<=c):=lB 48 c;have e2:IW ⟨#[c]⟩ "9"= ω (c<=57):=lB c 57;unfold Gr at q;show bH (λh=>?_) λh=>?_;rw[e1.symm.trans h,yf,<-e2]at q;show fo q;rw[e1.symm.trans h,ya]at q;show fo q
def Iq(h:d∈fR z):∃c,c∈z.cps.toList/\d=.str ⟨#[c]⟩:=by unfold fR at h;let⟨c,a,e⟩:=zf.mp h;show⟨c,a,e.symm⟩
noncomputable def Gs(f:π->χ):D->D|.str z=>.bl (z.cps.toList.head?.any f)|_=>.aA
def Ir:(fR z).map (Gs f)=(z.cps.toList.map f).map D.bl:=by unfold fR;rw[zG,zG];rfl
def all_map{α:Type}{l:δ α}{f:α->χ} : (l.map f).all id=l.all f:=by rw[List.all_map];rfl
def pY{z:ρ}{f:π->χ}{g:C3}{te:TD}{σ:SD}{src:δ<|θ π}{S:av}{R:KD}{Z:KX}{i:π}(e:σ[i]?=some (some<|.str z))(hz:z.cps.size<=1000) (step:∀c,c∈z.cps.toList->∀Q:KD,Q (.bl<|f c) S->g (.str ⟨#[c]⟩) (qL σ src) S λjO S3=>te jO S3 Q Zf) (q:R (.bl<|z.cps.toList.all f) S): YY WQ (PJ (FX (P0<|J2 i) src g wB te) NL) σ S (λd S'=>Fo S'<|R d) Z:=by show{_,e,z,rfl,?_};show My.comp_map (I:={fR z,λx=>True}) (Gs f) trivial (by change(fR z).length<=1000;unfold fR;rw[zc,yw];show hz) (λd hd Q a=>?_) λp hp=>?_;let⟨c,h,rfl⟩:=Iq hd;show step c h Q (by simpa [Gs]using a);show{.ref p,z.cps.toList.map f,rfl,?_,S,.new hp,?_};change(S.set p<|.lst<|(fR z).map<|Gs f) p=_;rw[ae,Ir];rw[all_map];show q
def Az{S:av}{d:D}{k:Kd}(c:UQ S d k):(∃z,d=.str z/\DR k=ϱ)\/(DR k=ϰ/\∀f,ofStr f d=ϰ):=by cases d with|str b=>(cases c;show .inl ⟨b,rfl,rfl⟩)|aA=>(cases c;show .inr {rfl,λx=>rfl})|bl b=>(cases c;show .inr {rfl,λx=>rfl})|int b=>(cases c;show .inr {rfl,λx=>rfl})|tup b=>(cases c;show .inr {rfl,λx=>rfl})|ref a=>(rcases c with⟨rfl,_⟩|⟨rfl,_⟩<;>show .inr {rfl,λx=>rfl})|_=>show c.elim
def EM{S:av}{d:D}{k:Kd}(c:UQ S d k):(∃ds,d=.tup ds/\tH k=ϱ)\/(tH k=ϰ/\∀ds,d≠.tup ds):=by cases d with|tup b=>(cases c;show .inl ⟨b,rfl,rfl⟩)|aA=>(cases c;show .inr {rfl,λz=>nofun})|bl b=>(cases c;show .inr {rfl,λz=>nofun})|int b=>(cases c;show .inr {rfl,λz=>nofun})|str b=>(cases c;show .inr {rfl,λz=>nofun})|ref a=>(rcases c with⟨rfl,_⟩|⟨rfl,_⟩<;>show .inr {rfl,λz=>nofun})|_=>show c.elim
def ur(T:Txt w K mg t):Ok P w base T.sH 2 (Oo<|ofStr mr):=by
 show T.sH.F.bV EA ?_;obtain⟨d,e,⟨⟨k,h⟩,a⟩,q⟩;show{_,(sc (si (twd<|twor (bU<|tv<|cb bB T.ao ai<|al 0<|ac (j9 T.iJ eG) an)<|tw1<|bU<|YX kf kf `u di (cb aW T.aU aH<|al 0 an)<|dg (v:=.int 8) T.mQ {_,rfl} λx=>aS _) (s1<|sr db) s0)<|s1<|sr<|cb jA T.jD fw<|ac (vE (N:=["sign"]) (src:=[none]) (mf (ag Ia) ["thing"] rfl rfl<|`c) (SF<|dv 0) (u_<|show(["sign"]:δ ρ).Nodup by trivial) (bj rfl) bq (λx x x x x=>u9) λx x x x x=>(aI T.iN (jk T) hr<|al 0 an)) an),?_};show !{_,_,_,_,rfl,bp,h,_,rfl,?_};rcases Az h with⟨z,rfl,h0⟩|⟨h0,h1⟩;have a:=a z rfl;rw[h0];show aL ?_;show !!⟨{sm a,?_}⟩;show{_,rfl,?_};have e1:ω ((1:ν)<=(z.length:π))=ω (1<=z.cps.size):=by rw[yS];change(1:ν)<=((z.cps.size:π):ν)↔_;lia
 have e2:ω (((z.length:π):ν)<=8)=ω (z.cps.size<=8):=by rw[yS];change((z.cps.size:π):ν)<=8↔_;lia
 unfold ofStr mr at q;dsimp only at q;show bH (λh2=>?_) λh2=>?_;rw[e1.symm.trans h2,yf]at q;show{_,rfl,?_};show bH (λg=>?_) λg=>?_;rw[e2.symm.trans<|nt g,ya]at q;show fo q;rw[e2.symm.trans<|nf g,yf]at q;show pY rfl a (λc j Q i=>!⟨c,rfl,i⟩) q;rw[e1.symm.trans h2,ya,ya]at q;show{_,rfl,?_};show bX<|fo q;rw[h0];rw[h1]at q;show bX<|bX<|fo q
def aB(c:ρ×ρ):D:=.tup [.str c.1,.str c.2]
def Gd(cs:δ<|ρ×ρ):Prop:=cs.length<=8/\(cs.map Prod.fst).Nodup/\∀c∈cs,mr c.1=ϱ/\(c.2 ="number"\/c.2 ="word")
noncomputable def om(cs:δ<|ρ×ρ):D->χ|.tup ws=>ω (ws.length=cs.length)&&(List.zipWith (λc v=>kU c.2 v) cs ws).all id|_=>false
noncomputable def pZ(cs:δ<|ρ×ρ)(k v:D):Bool:=ofStr l6 k&&om cs v
def Vb(S:av)(d:D):Prop:=Gt S d/\∀ws,d=.tup ws->ws.length<=1000/\∀v∈ws,Gt S v
def iR(T:Txt w K mg t):Ok P w base T.mV 2 (Oo<|ofStr l6):=by
 show T.mV.F.bV Ii ?_;obtain⟨d,e,⟨⟨k,m⟩,a⟩,q⟩;show{_,(sc (si (twd<|twor (bU<|tv<|cb bB T.ao ai<|al 0<|ac (j9 T.iJ eG) an)<|tw1<|bU<|YX kf kf `u di (cb aW T.aU aH<|al 0 an)<|dg (v:=.int 12) T.nW {_,rfl} λx=>aS _) (s1<|sr db) s0)<|sc (si (bU<|tv<|aI T.iN (jk T) hr<|ac (ix `u (dv 0) di) an) (s1<|sr db) s0)<|s1<|sr<|cb jA T.jD fw<|ac (vE (N:=["sign"]) (src:=[none]) (mf (ag K1) ["thing"] rfl rfl<|`c) (SF<|dv 0) (u_<|show(["sign"]:δ ρ).Nodup by trivial) (bj rfl) bq (λx x x x x=>u9) λx x x x x=>(eor (aI T.iN (jk T) hr<|al 0 an)<|CZ<|aI T.pK (Ay T) hr<|al 0 an)) an),?_};show !{_,_,_,_,rfl,bp,m,_,rfl,?_};rcases Az m with⟨z,rfl,h0⟩|⟨h0,h1⟩;have a:=a z rfl;rw[h0];show aL ?_;show !!⟨{sm a,?_}⟩;show{_,rfl,?_};have e1:ω ((1:ν)<=(z.length:π))=ω (1<=z.cps.size):=by rw[yS];change(1:ν)<=((z.cps.size:π):ν)↔_;lia
 have e2:ω (((z.length:π):ν)<=12)=ω (z.cps.size<=12):=by rw[yS];change((z.cps.size:π):ν)<=12↔_;lia
 unfold ofStr l6 at q;dsimp only at q;show bH (λh2=>?_) λh2=>?_;have g:=e1.symm.trans h2;rw[g,yf]at q;show{_,rfl,?_};show bH (λl=>?_) λl=>?_;rw[e2.symm.trans<|nt l,ya,ya]at q;show fo q;rw[e2.symm.trans<|nf l,yf]at q;let⟨c,r,n⟩:=len_pos (z:=z)<|zy g;have o:z.cps.toList.head?.any isLet=isLet c:=by rw[n];rfl
 rw[o]at q;show !{c,sm a,wm n,c,rfl,_,rfl,?_};show bH (λi=>?_) λi=>?_;rw[nt i,ya]at q;show fo q;rw[nf i,yf]at q;show pY (f:=λc=>isLet c||Gr c) rfl a (λc p Q h=>?_) q;show !{c,rfl,_,rfl,?_};show bH (λj=>?_) λj=>?_;rw[j,Bool.true_or]at h;show h;rw[j,xc]at h;show{_,rfl,c,rfl,h};rw[e1.symm.trans h2,ya,ya,ya]at q;show{_,rfl,?_};show bX<|fo q;rw[h0];rw[h1]at q;show bX<|bX<|fo q
def EN(T:Txt w K mg t):Ok P w base T.z_ 2 (Oo<|ofStr wR):=by
 show T.z_.F.bV EB ?_;obtain⟨d,e,⟨⟨k,j⟩,g⟩,q⟩;show{_,(sc (si (twd<|twor (bU<|tv<|cb bB T.ao ai<|al 0<|ac (j9 T.iJ eG) an)<|tw1<|bf tO `u (cb aW T.aU aH<|al 0 an)<|dg (v:=.int 40) T.mR {_,rfl} λx=>aS _) (s1<|sr db) s0)<|s1<|sr<|cb jA T.jD fw<|ac (vE (N:=["sign"]) (src:=[none]) (mf (ag Ib) ["thing"] rfl rfl<|`c) (SF<|dv 0) (u_<|show(["sign"]:δ ρ).Nodup by trivial) (bj rfl) bq (λx x x x x=>u9) λx x x x x=>(cc kf kf `u ds (dv 0) ds)) an),?_};show !{_,_,_,_,rfl,bp,j,_,rfl,?_};rcases Az j with⟨z,rfl,h0⟩|⟨h0,h1⟩;have g:=g z rfl;rw[h0];show aL ?_;show !!⟨{sm g,?_}⟩;show{_,rfl,?_};have e2:ω ((40:ν)<((z.length:π):ν))=!decide (z.cps.size<=40):=by rw[yN];simp only[yb,Bool.not_eq_true',decide_eq_false_iff_not];change(40:ν)<((z.cps.size:π):ν)↔_;omega
 unfold ofStr wR at q;dsimp only at q;show bH (λi=>?_) λi=>?_;rw[nt<|e2.symm.trans i,ya]at q;show fo q;rw[nf<|e2.symm.trans i,yf]at q;show pY (f:=La) rfl g (λc l Q a=>?_) q;show !!⟨?_⟩;have e3:IW " " ⟨#[c]⟩=ω (32<=c):=lB 32 c;have e4:IW ⟨#[c]⟩ "~"= ω (c<=126):=lB c 126;unfold La at a;show bH (λh=>?_) λh=>?_;rw[e3.symm.trans h,yf,<-e4]at a;show a;rw[e3.symm.trans h,ya]at a;show a;rw[h0];rw[h1]at q;show bX<|bX<|fo q
inductive uu (ds:δ D) (S:av) (R:KD) (Z:KX):η
 |mk (kind d) (_:ds=[.str kind,d]) (_:Gt S d) (_:R (.bl<|kU kind d) S)
def kW(T:Txt w K mg t):Ok P w base T.kF 3 uu:=by show T.kF.F.bV B8 ?_;obtain⟨kind,d,e,hd,q⟩;show{_,(sc (si (bf i9 `u (dv 1) dn) (s1<|sr db) s0)<|sc (si (bf a_ `u (dv 0) ds) (s1<|sr<|aI T.fX (fg T) hr<|al 1 an) s0)<|s1<|sr<|aI T.z_ (EN T) hr<|al 1 an),?_};show !!⟨?_⟩;unfold kU at q;show bH (λh=>?_) λh=>?_;rw[h,Bool.true_or]at q;show fo q;rw[h,xc]at q;show !!⟨?_⟩;show bH (λh=>?_) λh=>?_;rw[qc<|zy h]at q;show !{d,rfl,hd,fo q};rw[qa<|zW h]at q;show !{d,rfl,hd,fo q}
theorem gt_str(h:z.cps.size<=1000):Gt S (.str z):={{.str,rfl},λy e=>by cases e;show h}
def p6(h:mr z=ϱ):z.cps.size<=1000:=by unfold mr at h;simp only[zN,yr]at h;lia
def Iu(h:∀c v,f (.tup [aB c,v])=.bl (kU c.2 v)):(aZ (cs.map aB) ws).map f=(List.zipWith (λc v=>kU c.2 v) cs ws).map D.bl:=by unfold aZ;induction cs generalizing ws with|nil=>(cases ws<;>rfl)|cons c cs a=>cases ws with|nil=>rfl|cons v ws=>change f (.tup [aB c,v])::(List.zipWith _ (cs.map aB) ws).map f=.bl (kU c.2 v)::_;rw[h,a]
noncomputable def pairF:D->D|.tup [.tup [_,.str k],v]=>.bl (kU k v)|_=>.aA
inductive wU (ds:δ D) (S:av) (R:KD) (Z:KX):η
 |mk (z) (_:ds=[.str z]) (_:(z ="number"\/z ="word")) (_:R (.bl true) S)
def EO(T:Txt w K mg t):Ok P w base T.Ab 1 wU:=by
 show T.Ab.F.bV EC ?_;obtain⟨z,e,a,q⟩;show{_,(s1<|sr<|lU (cb bB T.ao ai<|al 0<|ac (j9 T.iJ eG) an)<|CZ<|cm vB `u (dv 0)<|dg (v:=.ref t.xY) T.K3 rfl T.K4),?_};show !{_,_,_,_,rfl,bp,rfl,_,rfl,bX !{rfl,rfl,?_}};have e:Hj (nK<|.str z) ([D.str "number",D.str "word"].map nK)=ϱ:=by rcases a with rfl|rfl<;>decide +kernel
 change Fo S (R<|.bl<|if false=ϱ then _ else Hj (nK<|.str z) ([D.str "number",D.str "word"].map nK));rw[qa zd,e];show fo q
inductive qW (ds:δ D) (S:av) (R:KD) (Z:KX):η
 |mk (c) (_:ds=[aB c]) (_:mr c.1=ϱ) (_:(c.2 ="number"\/c.2 ="word")) (_:R (.bl true) S)
def AA(T:Txt w K mg t):Ok P w base T.pL 3 qW:=by show T.pL.F.bV Am ?_;obtain⟨c,e,h1,h2,q⟩;show{_,(sc (si (twd<|twor (bU<|tv<|cb bB T.ao ai<|al 0<|ac (j9 T.bc aR) an)<|tw1<|bf ja `u (cb aW T.aU aH<|al 0 an) di) (s1<|sr db) s0)<|s1<|sr<|lU (aI T.sH (ur T) hr<|ac (ix `u (dv 0) di) an)<|CZ<|aI T.Ab (EO T) hr<|ac (ix `u (dv 0) di) an),?_};show !{_,_,_,_,rfl,aJ,rfl,_,rfl,?_};show aL !!!⟨aL ?_⟩;show !!!{gt_str<|p6 h1,_,rfl,?_};change if mr c.1=ϱ then _ else _;rw[h1];show bX !!!{h2,fo q}
inductive uv (ds:δ D) (S:av) (R:KD) (Z:KX):η
 |mk (cs:δ<|ρ×ρ) (_:ds=[.tup<|cs.map aB]) (_:cs.length<=8) (_:∀p,S p=ϐ->R (.ref p) (S.set p<|.lst<|(cs.map Prod.fst).map D.str))
def qX(T:Txt w K mg t):Ok P w base T.n0 1 uv:=by
 show T.n0.F.bV B9 ?_;obtain⟨cs,e,hl,q⟩;show{_,(s1<|sr<|vE (N:=["name","kind"]) (src:=[none,none]) (mf (ag Ep) ["columns"] rfl rfl<|`c) (Kl<|dv 0) (UU<|show(["name","kind"]:δ ρ).Nodup by trivial) (lA rfl rfl) lC (λz z z z z=>u9) λz z z z z=>(dv 0)),?_};show !{_,.inl rfl,?_};show comp_map (λd=>match d with|.tup (x::_)=>x|_=>.aA) trivial (by change(cs.map aB).length<=1000;rw[zc];show zj ‹_› `a) (λd hd Q a=>?_) λp hp=>?_;let⟨c,g,rfl⟩:=zf.mp hd;show !{rfl,_,_,rfl,_,_,rfl,rfl,_,rfl,a};have e:(cs.map aB).map (λd=>match d with|.tup (x::_)=>x|_=>.aA)=(cs.map Prod.fst).map D.str:=by rw[zG,zG];rfl
 change Fo (S.set p<|.lst<|(cs.map aB).map _) (R<|.ref p);rw[e];show fo<|q p hp
inductive jG (ds:δ D) (S:av) (R:KD) (Z:KX):η
 |mk (cs) (_:ds=[.tup<|cs.map aB]) (_:Gd cs) (_:R .aA S)
def p7(T:Txt w K mg t):Ok P w base T.ic 4 jG:=by
 show T.ic.F.bV pU ?_;obtain⟨cs,e,⟨hl,hn,g⟩,q⟩;show{_,(sc (si (twd<|twor (bU<|tv<|cb bB T.ao ai<|al 0<|ac (j9 T.bc aR) an)<|tw1<|bf tO `u (cb aW T.aU aH<|al 0 an)<|dg (v:=.int 8) T.rO {_,rfl} λz=>aS _) (s1<|qJ ⟨T.dM⟩ T.ib<|ac ds an) s0)<|sc (si (bU<|tv<|cb jA T.jD fw<|ac (vE (N:=["column"]) (src:=[none]) (mf (ag rM) ["columns"] rfl rfl<|`c) (Kl<|dv 0) (u_<|show(["column"]:δ ρ).Nodup by trivial) (bj rfl) bq (λz z z z z=>u9) λz z z z z=>(aI T.pL (AA T) hr<|al 0 an)) an) (s1<|qJ ⟨T.dM⟩ T.ib<|ac ds an) s0)<|s1<|si (bf ja `u (lse (aI T.n0 (qX T) hr<|al 0 an) T.aU T.Qe)<|cb aW T.aU aH<|al 0 an) (s1<|qJ ⟨T.dM⟩ T.ib<|ac ds an) s0),?_};show !{_,_,_,_,rfl,aJ,rfl,_,rfl,?_};have e1:ω ((8:ν)<((cs.map aB).length:π))=ϰ:=zt (by rw[zc];lia);show aL !!!⟨?_⟩;change if ω ((8:ν)<((cs.map aB).length:π))=ϱ then _ else _;rw[e1];show aL ?_;show !{_,.inl rfl,?_};show comp_map (λz=>.bl true) trivial (by change(cs.map aB).length<=1000;rw[zc];lia) (λd hd Q h=>?_) λp hp=>?_;let⟨c,a,rfl⟩:=zf.mp hd;show !{c,rfl,(g c a).1,(g c a).2,h};have e2:(cs.map aB).map (λz=>D.bl true)=(cs.map λz=>true).map D.bl:=by rw[zG,zG];rfl
 have e3:(cs.map λz=>true).all id=ϱ:=by rw[all_map];show yo.mpr λz z=>rfl
 show{.ref p,cs.map λz=>true,rfl,?_,_,rfl,?_};change(S.set p<|.lst<|(cs.map aB).map _) p=_;rw[ae,e2];rw[e3];show aL ?_;show !{cs,rfl,hl,λp2 i=>?_};show{cs.map Prod.fst,ae,by rw[zc];show zR ‹_› `a,_,rfl,_,rfl,_,rfl,?_};have e4:ω ((((jx<|cs.map Prod.fst).length:π):ν)=(((cs.map aB).length:π):ν))=ϱ:=zu (by rw[(wu _).mpr hn,zc,zc]);change if (if true=ϱ then !decide ((((jx<|cs.map Prod.fst).length:π):ν)=(((cs.map aB).length:π):ν)) else _)=ϱ then _ else _;rw[qc rfl,e4];show aL {S,(Sub.new hp).trans<|.new i,q}
inductive oq (ds:δ D) (S:av) (R:KD) (Z:KX):η
 |mk (cs d) (_:ds=[.tup<|cs.map aB,d]) (_:cs.length<=8) (_:Vb S d) (_:R (.bl<|om cs d) S)
def vP(T:Txt w K mg t):Ok P w base T.mW 4 oq:=by
 show T.mW.F.bV vJ ?_;obtain⟨cs,d,e,hl,⟨⟨⟨k,a⟩,o⟩,hw⟩,q⟩;show{_,(sc (si (twd<|twor (bU<|tv<|cb bB T.ao ai<|al 1<|ac (j9 T.bc aR) an)<|tw1<|bf ja `u (cb aW T.aU aH<|al 1 an)<|cb aW T.aU aH<|al 0 an) (s1<|sr db) s0)<|s1<|sr<|cb jA T.jD fw<|ac (vE (N:=["column","value"]) (src:=[none,none]) (mf (ag xX) ["columns","thing"] rfl rfl<|`c) (Zv T.wO<|al 0<|al 1 an) (UU<|show(["column","value"]:δ ρ).Nodup by trivial) (lA rfl rfl) lC (λz z z z z=>u9) λz z z z z=>(aI T.kF (kW T) hr<|ac (ix `u (dv 0) di)<|al 1 an)) an),?_};show !{_,_,_,_,rfl,aJ,a,_,rfl,?_};rcases EM a with⟨ws,rfl,h0⟩|⟨h0,h1⟩;let⟨n,m⟩:=hw ws rfl;rw[h0];show aL !!!!!⟨?_⟩;have e1:ω (((ws.length:π):ν)=(((cs.map aB).length:π):ν))=ω (ws.length=cs.length):=by rw[yS,zc];lia
 unfold om at q;dsimp only at q;change if (if true=ϱ then !decide (((ws.length:π):ν)=(((cs.map aB).length:π):ν)) else _)=ϱ then _ else _;rw[qc rfl,e1];show bH (λh=>?_) λh=>?_;rw[nt h,ya]at q;show fo q;have h:=nf h;rw[h,yf]at q;have h:=zy h;show !!{cs.map aB,ws,rfl,by rw[zc];show h.symm,?_};show comp_map pairF trivial (by change(aZ (cs.map aB) ws).length<=1000;unfold aZ;rw[List.length_zipWith,zc];lia) (λd hd Q j=>?_) λp hp=>?_;unfold aZ at hd;let⟨i,l⟩:=yt hd;let⟨x,y,e2,e3,e4⟩:=yg.mp l;subst e4;rw[zx]at e2;cases g:cs[i]? with|none=>(rw[g]at e2;cases e2)|some c=>rw[g]at e2;cases e2;show !{rfl,_,_,rfl,_,_,rfl,rfl,_,rfl,_,rfl,_,rfl,c.2,y,rfl,m y<|zK e3,j}
 show{.ref p,List.zipWith (λc v=>kU c.2 v) cs ws,rfl,?_,S,.new hp,q};change(S.set p<|.lst<|(aZ (cs.map aB) ws).map pairF) p=_;rw[ae,Iu λz z=>rfl];rw[h0];have e:om cs d=ϰ:=by cases d with|tup ws=>show absurd rfl (h1 ws)|_=>rfl
 rw[e]at q;show bX<|bX<|fo q
inductive qY (t:ft) (ds:δ D) (S:av) (R:KD) (Z:KX):η
 |mk (cs k v) (_:ds=[.tup<|cs.map aB,.tup [k,v]]) (_:cs.length<=8) (_:Gt S k) (_:Vb S v) (_:(pZ cs k v=ϱ->R .aA S)) (_:(pZ cs k v=ϰ->Z t.iH S))
def ot(T:Txt w K mg t):Ok P w base T.lH 5 (qY t):=by show T.lH.F.bV Ao ?_;obtain⟨cs,k,v,e,hl,g,d,c,a⟩;show{_,(sc (si (twd<|twor (bU<|tv<|cb bB T.ao ai<|al 1<|ac (j9 T.bc aR) an)<|tw1<|bf ja `u (cb aW T.aU aH<|al 1 an) di) (s1<|qJ ⟨T.iL⟩ T.lG<|ac ds an) s0)<|sc (si (bU<|tv<|aI T.mV (iR T) hr<|ac (ix `u (dv 1) di) an) (s1<|qJ ⟨T.iL⟩ T.lG<|ac ds an) s0)<|s1<|si (bU<|tv<|aI T.mW (vP T) hr<|al 0<|ac (ix `u (dv 1) di) an) (s1<|qJ ⟨T.iL⟩ T.lG<|ac ds an) s0),?_};show !{_,_,_,_,rfl,aJ,rfl,_,rfl,?_};show aL !!!⟨aL ?_⟩;show !!{k,rfl,g,_,rfl,?_};unfold pZ at c a;show bH (λh=>?_) λh=>?_;rw[nt h,ya]at a;show{sm<|`a,fo<|a rfl};rw[nf h,yf]at c a;show !!!{cs,v,rfl,hl,d,_,rfl,?_};show bH (λh=>?_) λh=>?_;show{sm<|`a,fo<|a<|nt h};show fo<|c<|nf h
def bg(h:n<=100000):n<sizeLine:=by rw[yh];show zR ‹_› `a
structure Std where
 b:π
 e:θ π
 ws:δ D
def eD:θ π->D|none=>.aA|some n=>.int (n:π)
def kX(s:Std):D:=.tup [.int (s.b:π),eD s.e,.tup s.ws]
noncomputable def Ld:δ Std->ν->D|[],_=>.aA|s::r,m=>if (s.b:ν)<=m then (match s.e with|none=>.tup s.ws|some n=>if m<=(n:ν) then .tup s.ws else .aA) else Ld r m
noncomputable def wt(l:δ Std)(m:ν):D:=Ld l.reverse m
abbrev Ra:=δ<|ρ×ε×δ Std
abbrev jl:=δ<|ρ×δ Std
def iS(ra:Ra):jl:=ra.map λr=>(r.1,r.2.2)
def dS(ra:Ra):δ (Key×D):=ra.map λr=>(Sum.inr r.1,D.ref r.2.1)
noncomputable def lu(rs:jl)(k:ρ):θ (δ Std):=(rs.find? λr=>ω<|r.1=k).map (·.2)
noncomputable def ve(ra:Ra)(k:ρ):θ (ε×δ Std):=(ra.find? λr=>ω<|r.1=k).map (·.2)
noncomputable def vf(ra:Ra)(k:ρ)(s:δ Std):Ra:=ra.map λr=>if r.1=k then (r.1,r.2.1,s) else r
noncomputable def ER(rs:jl)(k:ρ)(s:δ Std):jl:=if (lu rs k).isSome then rs.map λr=>if r.1=k then (r.1,s) else r else rs++[(k,s)]
def iq(ra:Ra)(k:ρ):lu (iS ra) k=(ve ra k).map (·.2):=by unfold lu ve iS;induction ra with|nil=>rfl|cons r ra a=>rw[zD,zZ,zZ];by_cases h:r.1=k;rw[zu h];rfl;rw[zt h];show a
def iT(ra:Ra)(k:ρ):bL (dS ra) (.inr k)=(ve ra k).map λp=>D.ref p.1:=by unfold bL ve dS;induction ra with|nil=>rfl|cons r ra a=>rw[zD,zZ,zZ];by_cases h:r.1=k;rw[zu h];have:ω ((Sum.inr r.1:Key)=.inr k)=ϱ:=zu (by rw[h]);dsimp only;rw[this];rfl;rw[zt h];have:ω ((Sum.inr r.1:Key)=.inr k)=ϰ:=zt λe=>h<|yT e;dsimp only;rw[this];show a
def dr(h:ve ra k=ϑ (l,s)):(k,l,s)∈ra:=by unfold ve at h;cases q:ra.find? λr=>ω (r.1=k) with|none=>(rw[q]at h;cases h)|some r=>rw[q]at h;have h1:=List.find?_some q;have h2:=List.mem_of_find?_eq_some q;let⟨k',a,s'⟩:=r;have e:k'=k:=zy h1;cases h;rw[<-e];show h2
def ou(h:ve ra k=ϐ):∀r∈ra,r.1≠k:=by unfold ve at h;intro r hr e;have:=List.find?_eq_none.mp (Option.map_eq_none_iff.mp h) r hr;simp[e]at this
theorem gW:∀{l:δ α}{x y:α},(l.map f).Nodup->x∈l->y∈l->f x=f y->x=y|z::l,x,y,nd,hx,hy,e=>by rw[zD]at nd;let⟨n1,n2⟩:=yc.mp nd;rcases ze.mp hx with ex|d;rcases ze.mp hy with a|c;rw[ex,a];show absurd (zf.mpr {y,c,by rw[<-e,ex]}) n1;rcases ze.mp hy with a|c;show absurd (zf.mpr {x,d,by rw[e,a]}) n1;show gW n2 d c e
structure ES(C:ε)(S:av)(a ld lr:ε)(cs:δ (ρ×ρ))(dl:δ D)(ra:Ra):η where
 ins:S a=ϑ (.ins C [("columns",.tup<|cs.map aB),("deeds",.ref ld),("runs",.ref lr)])
 A9:S ld=ϑ (.lst dl)
 run:S lr=ϑ (.b_<|dS ra)
 cell:∀r∈ra,S r.2.1=ϑ (.lst<|r.2.2.map kX)
 kn:(ra.map (·.1)).Nodup
 an:(ld::ra.map (·.2.1)).Nodup
 sz:∀r∈ra,r.2.2.length<=dl.length
def fp(a ld lr:ε)(ra:Ra):δ Addr:=a::ld::lr::ra.map (·.2.1)
def cA(C:ε)(S:av)(a:ε)(F:δ ε)(cs:δ<|ρ×ρ)(dl:δ D)(rs:jl):Prop:=∃ld lr ra,ES C S a ld lr cs dl ra/\F=fp a ld lr ra/\rs=iS ra
def ET(F F':δ ε)(S S':av):Prop:=∀b c,b∉F->S b=ϑ c->b∉F'/\S' b=ϑ c
theorem ET.trans(a:ET F F1 S S1)(b:ET F1 F2 S1 S2):ET F F2 S S2:=λp c h e=>by let⟨h1,e1⟩:=a p c h e;show b p c h1 e1
section
variable{C a ld lr:ε}{S:av}{cs:δ (ρ×ρ)}{dl:δ D}{ra:Ra}
def ES.EU(h:ES C S a ld lr cs dl ra){l:ε}{ds:δ D}(e:S l=ϑ (.lst ds)):l≠a/\l≠lr:=by constructor;rintro rfl;rw[h.ins]at e;cases e;rintro rfl;rw[h.run]at e;cases e
def ES.put(h:ES C S a ld lr cs dl ra)(j:ve ra k=ϑ (l,s))(n:s'.length<=dl.length):ES C (S.set l<|.lst<|s'.map kX) a ld lr cs dl (vf ra k s'):=by
 have hm:=dr j;have hl:=h.cell _ hm;let⟨n1,n2⟩:=h.EU hl;let⟨d,g⟩:=yc.mp h.an;have m:l≠ld:=λe=>d (by rw[<-e];show zf.mpr {_,hm,rfl});have e1:(vf ra k s').map (·.1)=ra.map (·.1):=by unfold vf;rw[zG];show z0 λr z=>by dsimp only[Function.comp];split<;>rfl
 have e2:(vf ra k s').map (·.2.1)=ra.map (·.2.1):=by unfold vf;rw[zG];show z0 λr z=>by dsimp only[Function.comp];split<;>rfl
 have e3:dS (vf ra k s')=dS ra:=by unfold dS vf;rw[zG];show z0 λr z=>by dsimp only[Function.comp];split<;>rfl
 show{by rw[ah n1.symm];show h.ins,by rw[ah m.symm];show h.A9,by rw[ah n2.symm,e3];show h.run,λr hr=>?_,by rw[e1];show h.kn,by rw[e2];show h.an,λr hr=>?_};unfold vf at hr;let⟨r0,c,e⟩:=zf.mp hr;by_cases q:r0.1=k;rw[qc q]at e;have i:r0=(k,l,s):=gW h.kn c hm q;subst i e;rw[ae];rw[qa q]at e;subst e;have:r0.2.1≠l:=λe=>q (by have:=gW g c hm e;rw[this]);rw[ah this];show h.cell _ c;unfold vf at hr;let⟨r0,c,e⟩:=zf.mp hr;by_cases q:r0.1=k;rw[qc q]at e;subst e;show n;rw[qa q]at e;subst e;show h.sz _ c
def ES.add(h:ES C S a ld lr cs dl ra)(d:ve ra k=ϐ)(hl:S l=ϐ)(j:s.length<=dl.length)(e1:S' l=ϑ (.lst<|s.map kX))(e2:S' lr=ϑ (.b_<|dS<|ra++[(k,l,s)]))(e3:∀b,b≠l->b≠lr->S' b=S b):ES C S' a ld lr cs dl (ra++[(k,l,s)]):=by
 have n1:a≠l:=h_ h.ins hl;have n2:ld≠l:=h_ h.A9 hl;have i:a≠lr:=by rintro rfl;have:=h.run;rw[h.ins]at this;cases this
 have g:ld≠lr:=by rintro rfl;have:=h.run;rw[h.A9]at this;cases this
 show{by rw[e3 _ n1 i];show h.ins,by rw[e3 _ n2 g];show h.A9,e2,λr hr=>?_,?_,?_,λr hr=>?_};rcases zL.mp hr with hr|hr;have c:=h.cell r hr;rw[e3 _ (h_ c hl) (h.EU c).2];show c;rw[zC.mp hr];show e1;rw[zH];show nG h.kn λm=>by let⟨r,hr,e⟩:=zf.mp m;show ou d r hr e
 rw[zH,<-List.cons_append];show nG h.an λm=>?_;rcases ze.mp m with e|m;show n2 e.symm;let⟨r,hr,e⟩:=zf.mp m;show h_ (h.cell r hr) hl e;rcases zL.mp hr with hr|hr;show h.sz r hr;rw[zC.mp hr];show j
def ES.l7(h:ES C S a ld lr cs dl ra)(d:D):ES C (S.set ld<|.lst<|dl++[d]) a ld lr cs (dl++[d]) ra:=by let⟨n1,n2⟩:=h.EU h.A9;let⟨c,g⟩:=yc.mp h.an;show{by rw[ah n1.symm];show h.ins,ae,by rw[ah n2.symm];show h.run,λr hr=>?_,h.kn,h.an,λr hr=>by rw[zk];show zj (h.sz r hr)<|Nat.le_add_right _ _};rw[ah λe=>c<|by rw[<-e];show zf.mpr ⟨r,hr,rfl⟩];show h.cell r hr
end
def XX(C:ε):jb:=λds S R z=>∃a F cs dl rs,ds=[.ref a]/\cA C S a F cs dl rs/\R (.int (dl.length:π)) S
def m6(T:Txt w K mg t):sE P w mg base T.c_ 1 (XX t.aw):=by show T.c_.F.bV Aw ?_;obtain⟨a,F,cs,dl,rs,e,⟨ld,lr,ra,h,_⟩,q⟩;show{_,(s1<|sr<|cb aW T.aU aH<|ac (fl T.aj T.cC<|dv 0) an),?_};show !{a,_,_,rfl,h.ins,rfl,_,rfl,.inl {dl,h.A9,fo q}}
inductive fH (t:ft) (ds:δ D) (S:av) (R:KD) (Z:KX):η
 |mk (a F cs dl rs) (_:ds=[.ref a]) (_:cA t.aw S a F cs dl rs) (_:R (.tup<|cs.map aB) S)
def bD(T:Txt w K mg t):sE P w mg base T.aN 1 (fH t):=by show T.aN.F.bV kT ?_;obtain⟨a,F,cs,dl,rs,e,⟨ld,lr,ra,h,_⟩,q⟩;show{_,(s1<|sr<|fl T.aj T.cZ<|dv 0),?_};show !{a,_,_,rfl,h.ins,rfl,fo q}
noncomputable def vQ(n:π):D->θ ν|.aA=>some n|.int i=>(if 0<=i/\i<=(n:ν) then some i else none)|_=>none
def Oq(C N:ε):jb:=λds S R Z=>∃a F cs dl rs m,ds=[.ref a,m]/\cA C S a F cs dl rs/\Gt S m/\(∀i,vQ dl.length m=ϑ i->R (.int i) S)/\(vQ dl.length m=ϐ->Z N S)
def jH(T:Txt w K mg t):sE P w mg base T.cI 2 (Oq t.aw t.eK):=by
 show T.cI.F.bV jS ?_;obtain⟨a,F,cs,dl,rs,m,e,g,hm,l,j⟩;let⟨ld,lr,ra,h,o,n⟩:=id g;show{_,(sc (si (bf i9 `u (dv 1) dn) (s1<|sr<|lW (dv 0) T.aj T.c_ (m6 T) hr) s0)<|sc (si (twd<|twor (bU<|tv<|aI T.fX (fg T) hr<|al 1 an)<|tw1<|bU<|YX kf kf `u di (dv 1)<|lW (dv 0) T.aj T.c_ (m6 T) hr) (s1<|qJ ⟨T.mT⟩ T.B5<|ac ds an) s0)<|s1<|sr<|dv 1),?_};show !!⟨?_⟩;show bH (λh1=>?_) λh1=>?_;have e:m=.aA:=by cases m<;>first|rfl|cases h1
 subst e;show !{a,_,rfl,h.ins,rfl,a,F,cs,dl,rs,rfl,g,fo<|l _ rfl};show !{m,rfl,hm,_,rfl,?_};show bH (λh2=>?_) λh2=>?_;have h2:=nt h2;have e:vQ dl.length m=ϐ:=by cases m with|aA=>(cases h1)|int i=>(cases h2)|_=>rfl
 show bX {sm<|`a,fo<|j e};have h2:=nf h2;obtain⟨i,rfl⟩:∃i,m=.int i:=by cases m<;>first|show{_,rfl}|cases h2
 show !!⟨?_⟩;show bH (λd=>?_) λd=>?_;have d:0<=i:=zy d;show !{a,_,rfl,h.ins,rfl,a,F,cs,dl,rs,rfl,g,_,rfl,?_};show bH (λc=>?_) λc=>?_;have c:¬i<=((dl.length:π):ν):=zW<|nt c;show{sm<|`a,fo<|j<|qa λz=>c z.2};have c:i<=((dl.length:π):ν):=zy<|nf c;show{_,rfl,fo<|l i<|qc ⟨d,c⟩};have d:¬0<=i:=zW d;show{_,rfl,bX {sm<|`a,fo<|j<|qa λz=>d z.1}}
inductive mw (ds:δ D) (S:av) (R:KD) (Z:KX):η
 |mk (l wV m) (_:ds=[.ref l,.int m]) (_:S l=ϑ (.lst<|wV.map kX)) (_:R (wt wV m) S)
def kY(T:Txt w K mg t):Ok P w base T.gT 1 mw:=by
 show T.gT.F.bV kQ ?_;obtain⟨l,wV,m,e,hl,q⟩;show{_,(sc (C4<|I_ (irv T.t6<|al 0 an) (gn (i:=2) kQ.nd)<|s1<|si (bf kf `u (ix `u (dv 2) di)<|dv 1) (s1<|sr<|Sj (twd<|twor (bf i9 `u (ix `u (dv 2) di) dn)<|tw1<|bf kf `u (dv 1)<|ix `u (dv 2) di) (ix `u (dv 2) di) dn) s0)<|s1<|sr dn),?_};show{λa S'=>S'=S/\wt wV m=.aA,?_,?_};show !{_,_,rfl,hl,?_};show{λi a S'=>(∃o,a=[some<|.ref l,some<|.int m,o])/\S'=S/\wt wV m=Ld (wV.reverse.drop i) m,{⟨none,rfl⟩,rfl,by rw[List.drop_zero];rfl},λi a S' h=>by rw[h.2.1];show hl,?_,?_};rintro i d a S' hd ⟨⟨o,rfl⟩,rfl,hw⟩;rw[<-List.map_reverse,zx]at hd;cases e1:wV.reverse[i]? with|none=>(rw[e1]at hd;cases hd)|some sd=>rw[e1]at hd;cases hd;have e2:wV.reverse.drop i=sd::wV.reverse.drop (i+1):=(by let⟨hi,e⟩:=zh.mp e1;rw[List.drop_eq_getElem_cons hi,e]);let⟨g,se,c⟩:=sd;rw[e2]at hw;show !!!!⟨?_⟩;unfold Ld at hw;show bH (λh=>?_) λh=>?_;rw[qc<|zy h]at hw;show !!!⟨?_⟩;(cases se with|none=>show bX<|bX !!⟨?_⟩;rw[hw]at q;show fo q|some n=>show aL !!!!⟨?_⟩;dsimp only at hw;show bH (λh=>?_) λh=>?_;rw[qc<|zy h]at hw;rw[hw]at q;show !!⟨fo q⟩;rw[qa<|zW h]at hw;rw[hw]at q;show fo q);rw[qa<|zW h]at hw;show{{_,rfl},rfl,hw}
 rintro a S' ⟨_,rfl,hw⟩;show fo {rfl,?_};rw[hw,yM,zc,List.drop_eq_nil_of_le<|by rw[yM];show zm _];rfl;rintro a S' ⟨rfl,hw⟩;rw[hw]at q;show fo q
noncomputable def C7(rs:jl)(k:D)(i:ν):D:=match k with|.str z=>(if l6 z=ϱ then wt ((lu rs z).getD []) i else .aA)|_=>.aA
def XY(C N:ε):jb:=λds S R Z=>∃a F cs dl rs k m,ds=[.ref a,k,m]/\cA C S a F cs dl rs/\Gt S k/\Gt S m/\(∀i,vQ dl.length m=ϑ i->R (C7 rs k i) S)/\(vQ dl.length m=ϐ->Z N S)
def ox(T:Txt w K mg t):sE P w mg base T.dq 3 (XY t.aw t.eK):=by
 show T.dq.F.bV gq ?_;obtain⟨a,F,cs,dl,rs,k,m,e,g,r,hm,j,n⟩;let⟨ld,lr,ra,h,s,d⟩:=id g;show{_,(sc (cM (i:=3) gq.nd<|nj (dv 0) T.aj T.cI (jH T) hr<|al 2 an)<|sc (si (bU<|tv<|aI T.mV (iR T) hr<|al 1 an) (s1<|sr dn) s0)<|s1<|sr<|aI T.gT (kY T) hr<|ac (mg2 `u (fl T.aj T.cu<|dv 0) (dv 1)<|cP an)<|al 3 an),?_};show !{a,_,rfl,h.ins,rfl,_,rfl,a,F,cs,dl,rs,m,rfl,g,hm,λi hi=>?_,λhn=>fo<|n hn};have q:=j i hi;show !{k,rfl,r,_,rfl,?_};show bH (λh1=>?_) λh1=>?_;have e:C7 rs k i=.aA:=by cases k with|str z=>show qa (by rw[show l6 z=ϰ from nt h1];show zd)|_=>rfl
 rw[e]at q;show fo q;have h1:=nf h1;obtain⟨z,rfl⟩:∃z,k=.str z:=by cases k with|str z=>show⟨z,rfl⟩|_=>cases h1
 have e:C7 rs (.str z) i=wt ((lu rs z).getD []) i:=qc h1;rw[e]at q;show !{a,_,_,rfl,h.ins,rfl,lr,_,rfl,h.run,_,rfl,sm<|`a,λp hp=>{dS ra,.inr z,?_,rfl,?_}};rw[ah<|h_ h.run hp];show h.run;rw[iT];show{_,rfl,?_};cases e1:ve ra z with|none=>have e2:lu rs z=ϐ:=(by rw[d,iq,e1];rfl);rw[e2]at q;show{p,[],i,rfl,ae,S,.new hp,q}|some o=>let⟨l,wV⟩:=o;have e2:lu rs z=ϑ wV:=(by rw[d,iq,e1];rfl);rw[e2]at q;have c:=h.cell _<|dr e1;show{l,wV,i,rfl,by rw[ah<|h_ c hp];show c,S,.new hp,q}
def Qg(h:ve ra k=ϑ (l,s)):ER (iS ra) k s'=iS (vf ra k s'):=by unfold ER;rw[iq,h,qc<|show(Option.map (λx:ε×δ Std=>x.2)<|some (l,s)).isSome=ϱ from rfl];unfold iS vf;rw[zG,zG];show z0 λr z=>by dsimp only[Function.comp];split<;>rfl
def Tu(h:ve ra k=ϐ):ER (iS ra) k s=iS (ra++[(k,l,s)]):=by unfold ER;rw[iq,h,qa<|show ¬(Option.map (λx:ε×δ Std=>x.2) none).isSome=ϱ from zd];unfold iS;rw[zH];rfl
def Tv(h:ve ra k=ϐ):dput (dS ra) (.inr k) (.ref l)=dS (ra++[(k,l,s)]):=by
 unfold dput;have e:((dS ra).any λa=>ω<|a.1=.inr k)=ϰ:=by rw[List.any_eq_false];intro x hx;unfold dS at hx;let⟨r,hr,rfl⟩:=zf.mp hx;simp only[yr];show λe=>ou h r hr<|yT e
 rw[e,qa zd];unfold dS;rw[zH];rfl
def Le:fp a ld lr (vf ra k s)=fp a ld lr ra:=by unfold fp vf;rw[zG];congr 3;show z0 λr z=>by dsimp only[Function.comp];split<;>rfl
theorem uw(h:l∈F):ET F F S (S.set l c):=λb x hb e=>{hb,by rw[ah<|show b≠l from λz=>hb<|by rw[z];show h];show e}
theorem Lg(h:r∈ra):r.2.1∈fp a ld lr ra:=zo _<|zo _<|zo _<|zf.mpr ⟨r,h,rfl⟩
def Ot(C:ε):jb:=λds S R x=>∃a F cs dl rs z ws,ds=[.ref a,.str z,.tup ws]/\cA C S a F cs dl rs/\((lu rs z).getD []).length<dl.length/\dl.length<=9000/\rs.length<=9000/\∀S' F',cA C S' a F' cs dl (ER rs z<|(lu rs z).getD []++[Std.mk dl.length none ws])->ET F F' S S'->R .aA S'
def Cc(T:Txt w K mg t):sE P w mg base T.cg 2 (Ot t.aw):=by
 show T.cg.F.bV iQ ?_;rintro _ _ _ _ _ _ _ S R Z hr ⟨a,F,cs,dl,rs,z,ws,e,⟨ld,lr,ra,h,H,G⟩,hl,hd,hn,q⟩;subst e H G;have J:(dS ra).length<=9000:=by unfold iS at hn;unfold dS;rw[zc]at hn⊢;show hn
 show{_,(s1<|se<|bm zO zX zY cL (ms2 (fl T.aj T.cu<|dv 0) (dv 1)<|cP an)<|ac (bY<|ac (lW (dv 0) T.aj T.c_ (m6 T) hr)<|ac dn<|al 2 an) an),?_};show !{a,_,_,rfl,h.ins,rfl,lr,dS ra,rfl,h.run,_,rfl,sm<|`a,λp hp=>{dS ra,.inr z,?_,rfl,bg<|zj ‹_› `a,λd s=>?_,λhn=>?_}};rw[ah<|h_ h.run hp];show h.run;rw[iT]at s;cases e1:ve ra z with|none=>(rw[e1]at s;cases s)|some E=>let⟨l,wV⟩:=E;rw[e1]at s;cases s;have e2:lu (iS ra) z=ϑ wV:=(by rw[iq,e1];rfl);rw[e2]at q hl;have B:=h.cell _<|dr e1;have C:(S.set p<|.lst []) l=ϑ (.lst<|wV.map kX):=(by rw[ah<|h_ B hp];show B);have v:(S.set p<|.lst []) a=ϑ (.ins t.aw [("columns",.tup<|cs.map aB),("deeds",.ref ld),("runs",.ref lr)]):=(by rw[ah<|h_ h.ins hp];show h.ins);have y:ES t.aw (S.set p<|.lst []) a ld lr cs dl ra:={v,by rw[ah<|h_ h.A9 hp];show h.A9,by rw[ah<|h_ h.run hp];show h.run,λr hr=>by rw[ah<|h_ (h.cell r hr) hp];show h.cell r hr,h.kn,h.an,h.sz};show{{rfl,_,C},_,rfl,a,_,rfl,v,rfl,a,_,cs,dl,_,rfl,⟨ld,lr,ra,y,rfl,rfl⟩,_,rfl,gH,?_};have I:wV.length<dl.length:=hl;show{l,wV.map kX,_,rfl,rfl,C,bg<|by rw[zc];lia,S.set l<|.lst<|(wV++[Std.mk dl.length none ws]).map kX,λb c hb=>?_,q _ _ {ld,lr,_,h.put e1<|by rw[zk];change wV.length+1<=_;show ‹_›,rfl,Qg e1} ?_};by_cases i:b=l;subst i;rw[ae]at hb⊢;rw[zH]at hb;show hb;rw[ah i]at hb;rw[ah i,ah<|h_ hb hp];show hb;rw[Le];show uw<|Lg<|dr e1
 rw[iT]at hn;cases e1:ve ra z with|some E=>(rw[e1]at hn;cases hn)|none=>have e2:lu (iS ra) z=ϐ:=(by rw[iq,e1];rfl);rw[e2]at q hl;have x:p≠lr:=(h_ h.run hp).symm;generalize A:(S.set p<|.lst []).set lr _=n;have j:n p=ϑ (.lst []):=(by rw[<-A,ah x,ae]);have o:n lr=ϑ (.b_<|dS<|ra++[(z,p,[])]):=(by rw[<-A,ae,Tv e1]);have g:∀b,b≠p->b≠lr->n b=S b:=λb h1 h2=>(by rw[<-A,ah h2,ah h1]);have y:ES t.aw n a ld lr cs dl (ra++[(z,p,[])]):=h.add e1 hp (zU _) j o g;show{{rfl,_,j},_,rfl,a,_,rfl,y.ins,rfl,a,_,cs,dl,_,rfl,{ld,lr,_,y,rfl,rfl},_,rfl,gH,?_};show{p,[],_,rfl,rfl,j,bg<|by change 0<=_;show zU _,n.set p<|.lst<|[Std.mk dl.length none ws].map kX,.refl _,q _ _ {ld,lr,ra++[(z,p,[Std.mk dl.length none ws])],h.add e1 hp (by change 1<=_;have:0<dl.length:=hl;show ‹_›) ae ?_ λb h1 h2=>by rw[ah h1];show g b h1 h2,rfl,Tu e1} ?_};rw[ah x.symm,o];unfold dS;rw[zH,zH];rfl;intro b c hb e;have h1:b≠p:=h_ e hp;have h2:b≠lr:=λz=>hb (by rw[z];show zo _<|zo _ zB);show{λm=>?_,by rw[ah h1,g b h1 h2];show e};unfold fp at m hb;rw[zH]at m;rcases ze.mp m with m|m;show hb<|m ▸ zB;rcases ze.mp m with m|m;show hb<|m ▸ zo _ zB;rcases ze.mp m with m|m;show h2 m;rcases zL.mp m with m|m;show hb<|zo _<|zo _<|zo _ m;show h1<|zC.mp m
noncomputable def jm(n:π)(l:δ Std):δ Std:=l.dropLast++(l.getLast?.map λs=>Std.mk s.b (some n) s.ws).toList
noncomputable def p9(rs:jl)(z:ρ)(n:π):jl:=ER rs z<|jm n<|(lu rs z).getD []
noncomputable def vR(rs:jl)(z:ρ)(n:π)(ws:δ D):jl:=ER rs z<|(lu rs z).getD []++[Std.mk n none ws]
def Lh(h:cA C S a F cs dl rs)(z:ρ):((lu rs z).getD []).length<=dl.length:=by let⟨ld,lr,ra,h,_,rfl⟩:=h;rw[iq];cases e:ve ra z with|none=>show zU _|some c=>show h.sz _<|dr (l:=c.1) (s:=c.2) e
def Ou(rs:jl)(z:ρ)(s:δ Std):(ER rs z s).length<=rs.length+1:=by unfold ER;split;rw[zc];show yu _;rw[zk];show zm _
def fL:lu (r::rs) k=if r.1=k then some r.2 else lu rs k:=by unfold lu;rw[zZ];by_cases h:r.1=k;rw[zu h,qc h];rfl;rw[zt h,qa h]
def kZ:lu (ER rs z s) k=if k=z then some s else lu rs k:=by
 unfold ER;by_cases c:(lu rs z).isSome=ϱ;rw[qc c];by_cases a:k=z;subst a;rw[qc rfl];induction rs with|nil=>(cases c)|cons r rs d=>rw[zD,fL];by_cases h:r.1=k;rw[qc h,qc h];rw[qa h,qa h];rw[fL,qa h]at c;show d c
 rw[qa a];clear c;induction rs with|nil=>rfl|cons r rs d=>rw[zD,fL,fL,d];by_cases h:r.1=z;rw[qc h,qa<|show ¬r.1=k from λe=>a<|e.symm.trans h,qa<|show ¬r.1=k from λe=>a<|e.symm.trans h];rw[qa h]
 rw[qa c];have hn:lu rs z=ϐ:=by cases e:lu rs z<;>simp_all
 clear c;induction rs with|nil=>rw[List.nil_append,fL];by_cases a:k=z;rw[qc a,qc a.symm];rw[qa a,qa λe=>a e.symm]|cons r rs d=>rw[fL]at hn;by_cases h:r.1=z;rw[qc h]at hn;cases hn;rw[qa h]at hn;rw[List.cons_append,fL,fL,d hn];by_cases h2:r.1=k;rw[qc h2,qc h2,qa<|show ¬k=z from λe=>h<|h2.trans e];rw[qa h2,qa h2]
def XZ(C:ε):jb:=λds S R x=>∃a F cs dl rs z,ds=[.ref a,.str z]/\cA C S a F cs dl rs/\(∃s,lu rs z=ϑ s/\s≠[])/\dl.length<=9000/\∀S',cA C S' a F cs dl (p9 rs z dl.length)->ET F F S S'->R .aA S'
theorem lJ(h:l≠[]):∃r s,l=r++[s]:={l.dropLast,l.getLast h,(List.dropLast_concat_getLast h).symm}
def fh(n:π)(r:δ Std)(s:Std):jm n (r++[s])=r++[Std.mk s.b (some n) s.ws]:=by unfold jm;rw[List.dropLast_concat,List.getLast?_concat];rfl
def Li(T:Txt w K mg t):sE P w mg base T.cH 2 (XZ t.aw):=by show T.cH.F.bV eF ?_;rintro _ _ _ _ _ _ _ S R Z hr ⟨a,F,cs,dl,rs,z,e,⟨ld,lr,ra,h,A,p⟩,⟨s0,HC,B⟩,hd,q⟩;subst e A p;rw[iq]at HC;cases e1:ve ra z with|none=>(rw[e1]at HC;cases HC)|some v=>let⟨l,wV⟩:=v;rw[e1]at HC;cases HC;let⟨r,sd,rfl⟩:=lJ B;have c:=h.sz _<|dr e1;dsimp only at c;rw[zk]at c;have c:r.length+1<=dl.length:=c;have g:=h.cell _<|dr e1;dsimp only at g;have o:bL (dS ra) (.inr z)=ϑ (.ref l):=(by rw[iT,e1];rfl);show{_,(sc (cM (i:=2) eF.nd<|bm0 zO PySem.F.slot_list_pop PySem.F.type_list_pop WJ<|ix `u (fl T.aj T.cu<|dv 0)<|dv 1)<|s1<|se<|bm zO zX zY cL (ix `u (fl T.aj T.cu<|dv 0)<|dv 1)<|ac (bY<|ac (ix `u (dv 2) di)<|ac (lW (dv 0) T.aj T.c_ (m6 T) hr)<|ac (ix `u (dv 2) di) an) an),?_};show !{a,_,_,rfl,h.ins,rfl,_,rfl,dS ra,_,h.run,o,{rfl,_,g},l,_,kX sd,rfl,rfl,g,?_,?_};rw[zH,zk];change(r.map kX++[kX sd])[(r.map kX).length+1-1]?=_;simp;have e2:((r++[sd]).map kX).dropLast=r.map kX:=(by rw[zH];show List.dropLast_concat);rw[e2];have h1:ES t.aw (S.set l<|.lst<|r.map kX) a ld lr cs dl (vf ra z r):=h.put e1<|Nat.le_of_succ_le ‹_›;generalize y:S.set l _=m at h1;have d:ve (vf ra z r) z=ϑ (l,r):=(by have hm:(z,l,r)∈vf ra z r:=(by unfold vf;show zf.mpr {_,dr e1,qc rfl});cases e3:ve (vf ra z r) z with|none=>show absurd rfl (ou e3 _ hm)|some x=>show congrArg some<|congrArg Prod.snd<|gW (f:=λr:ρ×ε×δ Std=>r.1) h1.kn (dr (l:=x.1) (s:=x.2) e3) hm rfl);have j:bL (dS<|vf ra z r) (.inr z)=ϑ (.ref l):=(by rw[iT,d];rfl);have n:=h1.cell _<|dr d;show !{a,_,_,rfl,h1.ins,rfl,_,rfl,_,_,h1.run,j,{rfl,_,n},_,rfl,_,rfl,_,rfl,a,_,rfl,h1.ins,rfl,a,_,cs,dl,_,rfl,{ld,lr,_,h1,rfl,rfl},_,rfl,_,rfl,gH,l,_,_,rfl,rfl,n,bg<|by rw[zc];change r.length<=_;lia,?_};have h2:=h1.put (s':=r++[Std.mk sd.b (some dl.length) sd.ws]) d (by rw[zk];show c);have e4:p9 (iS ra) z dl.length=iS (vf (vf ra z r) z<|r++[Std.mk sd.b (some dl.length) sd.ws]):=(by unfold p9;rw[iq,e1];change ER (iS ra) z (jm dl.length<|r++[sd])=_;rw[fh,Qg e1];unfold iS vf;rw[zG,zG,zG];show z0 λx k=>by dsimp only[Function.comp];by_cases hx:x.1=z<;>simp[hx]);show{_,?_,q _ {ld,lr,_,h2,by rw[Le,Le],e4} ?_};change Sub (m.set l<|.lst<|(r++[_]).map kX) (m.set l<|.lst<|r.map kX++[_]);rw[zH];show .refl _;rw[<-y,eJ];show uw<|Lg<|dr e1
def Gu(h:ofStr l6 d=ϱ):∃z,d=.str z/\l6 z=ϱ:=by cases d with|str z=>show⟨z,rfl,h⟩|_=>cases h
def Gv(h:pZ cs k v=ϱ):∃z ws,k=.str z/\v=.tup ws/\l6 z=ϱ:=by unfold pZ at h;rw[zN]at h;let⟨z,rfl,a⟩:=Gu h.1;cases v with|tup ws=>show⟨z,ws,rfl,rfl,a⟩|_=>show absurd h.2 zd
theorem ux:Gt S .aA:={{.aA,rfl},λz=>nofun}
def Qh(h:ak (wt l m)=ϰ):l≠[]:=by rintro rfl;cases h
theorem AB(hz:l6 z=ϱ)(i:ν):C7 rs (.str z) i=wt ((lu rs z).getD []) i:=qc hz
inductive fi (t:ft) (ds:δ D) (S:av) (R:KD) (Z:KX):η
 |mk (a F cs dl rs k) (_:ds=[.ref a,k]) (_:cA t.aw S a F cs dl rs) (_:Gt S k) (_:(ak (C7 rs k dl.length)=ϰ->R .aA S)) (_:(ak (C7 rs k dl.length)=ϱ->Z t.nR S))
def jI(T:Txt w K mg t):sE P w mg base T.cG 4 (fi t):=by show T.cG.F.bV jR ?_;obtain⟨a,F,cs,dl,rs,k,e,c,d,g,j⟩;let⟨ld,lr,ra,h,_⟩:=id c;show{_,(s1<|si (bf i9 `u (cme (dv 0) T.aj T.dq.e ((ox T).mono<|`a) hr T.fF d1<|al 1 an) dn) (s1<|qJ ⟨T.y_⟩ T.K6<|ac ds an) s0),?_};show !{a,_,rfl,h.ins,rfl,_,rfl,a,F,cs,dl,rs,k,.aA,rfl,c,d,ux,λi hi=>?_,λhn=>by cases hn};cases hi;show{_,rfl,?_};show bH (λh1=>?_) λh1=>?_;show{pX,fo<|j h1};show fo<|g h1
inductive k7 (t:ft) (ds:δ D) (S:av) (R:KD) (Z:KX):η
 |mk (a F cs dl rs k v) (_:ds=[.ref a,k,v]) (_:cA t.aw S a F cs dl rs) (_:cs.length<=8) (_:Gt S k) (_:Vb S v) (_:dl.length<=8000) (_:rs.length<=8000) (_:(pZ cs k v=ϰ->Z t.iH S)) (_:(pZ cs k v=ϱ->ak (C7 rs k dl.length)=ϰ->Z t.tY S)) (_:(∀z ws,k=.str z->v=.tup ws->pZ cs k v=ϱ->ak (C7 rs k dl.length)=ϱ->∀S' F',cA t.aw S' a F' cs (dl++[.tup [.str "put",k,v]]) (vR rs z (dl.length+1) ws)->ET F F' S S'->R .aA S'))
def Lj(T:Txt w K mg t):sE P w mg base T.cO 6 (k7 t):=by show T.cO.F.bV Av ?_;obtain⟨a,F,cs,dl,rs,k,v,e,c,n,l,x,hd,hn,r,s,o⟩;let⟨ld,lr,ra,h,m,p⟩:=id c;show{_,(sc (se<|aI T.lH (ot T) hr<|ac (fl T.aj T.cZ<|dv 0)<|ac (bY<|al 1<|al 2 an) an)<|sc (si (bf i_ `u (cme (dv 0) T.aj T.dq.e ((ox T).mono<|`a) hr T.fF d1<|al 1 an) dn) (s1<|qJ ⟨T.t9⟩ T.Ih<|ac ds an) s0)<|sc (se<|bm zO zX zY cL (fl T.aj T.cC<|dv 0)<|ac (bY<|ac ds<|al 1<|al 2 an) an)<|s1<|se<|nj (dv 0) T.aj T.cg (Cc T) hr<|al 1<|al 2 an),?_};show !{a,_,_,rfl,h.ins,rfl,_,rfl,_,rfl,cF,cs,k,v,rfl,n,l,x,λd=>?_,λB=>fo<|r B};show !{a,_,rfl,h.ins,rfl,_,rfl,a,F,cs,dl,rs,k,.aA,rfl,c,l,ux,λi hi=>?_,λhn=>by cases hn};cases hi;show{_,rfl,?_};show bH (λh1=>?_) λh1=>?_;show{pX,fo<|s d<|nt h1};let⟨z,ws,rfl,rfl,C⟩:=Gv d;show !{a,_,_,rfl,h.ins,rfl,{rfl,_,h.A9},_,rfl,_,rfl,gH,ld,dl,_,rfl,rfl,h.A9,bg<|zj ‹_› `a,?_};have j:=h.l7<|.tup [.str "put",.str z,.tup ws];have y:cA t.aw (S.set ld<|.lst<|dl++[.tup [.str "put",.str z,.tup ws]]) a F cs (dl++[.tup [.str "put",.str z,.tup ws]]) rs:=⟨ld,lr,ra,j,m,p⟩;have hl:=Lh c z;show !{a,_,rfl,j.ins,rfl,_,rfl,_,rfl,a,F,cs,_,rs,z,ws,rfl,y,by rw[zk];show Nat.lt_succ_of_le hl,by rw[zk];change dl.length+1<=_;show zR ‹_› `a,by show zj ‹_› `a,λS' F' g A=>fo<|o z ws rfl rfl d (nf h1) S' F' ?_ ?_};have:(dl++[D.tup [.str "put",.str z,.tup ws]]).length=dl.length+1:=zk;rw[this]at g;show g;show ET.trans (uw ?_) A;rw[m];show zo _ zB
inductive gr (t:ft) (ds:δ D) (S:av) (R:KD) (Z:KX):η
 |mk (a F cs dl rs k v) (_:ds=[.ref a,k,v]) (_:cA t.aw S a F cs dl rs) (_:cs.length<=8) (_:Gt S k) (_:Vb S v) (_:dl.length<=8000) (_:rs.length<=8000) (_:(pZ cs k v=ϰ->Z t.iH S)) (_:(pZ cs k v=ϱ->ak (C7 rs k dl.length)=ϱ->Z t.nR S)) (_:(∀z ws,k=.str z->v=.tup ws->pZ cs k v=ϱ->ak (C7 rs k dl.length)=ϰ->∀S' F',cA t.aw S' a F' cs (dl++[.tup [.str "change",k,v]]) (vR (p9 rs z dl.length) z (dl.length+1) ws)->ET F F' S S'->R .aA S'))
def wW(T:Txt w K mg t):sE P w mg base T.bw 6 (gr t):=by
 show T.bw.F.bV rS ?_;obtain⟨a,F,cs,dl,rs,k,v,e,j,A,p,I,hd,hn,E,G,C⟩;let⟨ld,lr,ra,h,Q,N⟩:=id j;show{_,(sc (se<|aI T.lH (ot T) hr<|ac (fl T.aj T.cZ<|dv 0)<|ac (bY<|al 1<|al 2 an) an)<|sc (se<|nj (dv 0) T.aj T.cG (jI T) hr<|al 1 an)<|sc (se<|nj (dv 0) T.aj T.cH (Li T) hr<|al 1 an)<|sc (se<|bm zO zX zY cL (fl T.aj T.cC<|dv 0)<|ac (bY<|ac ds<|al 1<|al 2 an) an)<|s1<|se<|nj (dv 0) T.aj T.cg (Cc T) hr<|al 1<|al 2 an),?_};show !{a,_,_,rfl,h.ins,rfl,_,rfl,_,rfl,cF,cs,k,v,rfl,A,p,I,λl=>?_,λM=>fo<|E M};show !{a,_,rfl,h.ins,rfl,_,rfl,a,F,cs,dl,rs,k,rfl,j,p,λh1=>?_,λh1=>fo<|G l h1};let⟨z,ws,rfl,rfl,r⟩:=Gv l;have L:∃s,lu rs z=ϑ s/\s≠[]:=by rw[AB r]at h1;have:=Qh h1;cases e:lu rs z with|none=>rw[e]at this;show absurd rfl this|some s=>rw[e]at this;show⟨s,rfl,this⟩
 show !{a,_,rfl,h.ins,rfl,_,rfl,a,F,cs,dl,rs,z,rfl,j,L,by show zj ‹_› `a,λB o x=>?_};let⟨d,g,i,c,n,H⟩:=id o;show !{a,_,_,rfl,c.ins,rfl,{rfl,_,c.A9},_,rfl,_,rfl,gH,d,dl,_,rfl,rfl,c.A9,bg<|`b,?_};have h2:=c.l7<|.tup [.str "change",.str z,.tup ws];have y:cA t.aw (B.set d<|.lst<|dl++[.tup [.str "change",.str z,.tup ws]]) a F cs (dl++[.tup [.str "change",.str z,.tup ws]]) (p9 rs z dl.length):=⟨d,g,i,h2,n,H⟩;have hl:=Lh o z;have O:(p9 rs z dl.length).length<=rs.length+1:=Ou _ _ _;show !{a,_,rfl,h2.ins,rfl,_,rfl,_,rfl,a,F,cs,_,_,z,ws,rfl,y,by rw[zk];show Nat.lt_succ_of_le hl,by rw[zk];change dl.length+1<=_;lia,`b,λS' F' m J=>fo<|C z ws rfl rfl l h1 S' F' ?_ ?_};have:(dl++[D.tup [.str "change",.str z,.tup ws]]).length=dl.length+1:=zk;rw[this]at m;show m;show x.trans<|ET.trans (uw ?_) J;rw[n];show zo _ zB
inductive jo (t:ft) (ds:δ D) (S:av) (R:KD) (Z:KX):η
 |mk (a F cs dl rs k) (_:ds=[.ref a,k]) (_:cA t.aw S a F cs dl rs) (_:Gt S k) (_:dl.length<=8000) (_:(ofStr l6 k=ϰ->Z t.iH S)) (_:(ofStr l6 k=ϱ->ak (C7 rs k dl.length)=ϱ->Z t.nR S)) (_:(∀z,k=.str z->l6 z=ϱ->ak (C7 rs k dl.length)=ϰ->∀S',cA t.aw S' a F cs (dl++[.tup [.str "take",k]]) (p9 rs z dl.length)->ET F F S S'->R .aA S'))
def Gw(T:Txt w K mg t):sE P w mg base T.cw 6 (jo t):=by
 show T.cw.F.bV vO ?_;obtain⟨a,F,cs,dl,rs,k,e,i,n,hd,r,v,p⟩;let⟨ld,lr,ra,h,E,C⟩:=id i;show{_,(sc (si (bU<|tv<|aI T.mV (iR T) hr<|al 1 an) (s1<|qJ ⟨T.iL⟩ T.lG<|ac ds an) s0)<|sc (se<|nj (dv 0) T.aj T.cG (jI T) hr<|al 1 an)<|sc (se<|nj (dv 0) T.aj T.cH (Li T) hr<|al 1 an)<|s1<|se<|bm zO zX zY cL (fl T.aj T.cC<|dv 0)<|ac (bY<|ac ds<|al 1 an) an),?_};show !{k,rfl,n,_,rfl,?_};show bH (λh0=>?_) λh0=>?_;show{pX,fo<|r<|nt h0};have h0:=nf h0;show !{a,_,rfl,h.ins,rfl,_,rfl,a,F,cs,dl,rs,k,rfl,i,n,λh1=>?_,λh1=>fo<|v h0 h1};let⟨z,rfl,j⟩:=Gu h0;have A:∃s,lu rs z=ϑ s/\s≠[]:=by rw[AB j]at h1;have:=Qh h1;cases e:lu rs z with|none=>rw[e]at this;show absurd rfl this|some s=>rw[e]at this;show⟨s,rfl,this⟩
 show !{a,_,rfl,h.ins,rfl,_,rfl,a,F,cs,dl,rs,z,rfl,i,A,`b,λB y o=>?_};let⟨l,d,g,c,m,x⟩:=id y;show !{a,_,_,rfl,c.ins,rfl,{rfl,_,c.A9},_,rfl,cF,l,dl,_,rfl,rfl,c.A9,bg<|`b,?_};show fo<|p z rfl j h1 _ {l,d,g,c.l7 _,m,x}<|o.trans<|uw ?_;rw[m];show zo _ zB
inductive iU (t:ft) (ds:δ D) (S:av) (R:KD) (Z:KX):η
 |mk (a cs) (_:ds=[.ref a,.tup<|cs.map aB]) (_:Gd cs) (_:S a=ϑ (.ins t.aw [])) (_:∀S' F,cA t.aw S' a F cs [] []->ET [a] F S S'->R .aA S')
def AD(T:Txt w K mg t):sE P w mg base T.cW 5 (iU t):=by
 show T.cW.F.bV oi ?_;obtain⟨a,cs,e,o,ha,q⟩;show{_,(sc (se<|aI T.ic (p7 T) hr<|al 1 an)<|sc (sf T.aj T.cZ (dv 0)<|dv 1)<|sc (sf T.aj T.cC (dv 0)<|cP an)<|s1<|sf T.aj T.cu (dv 0) J4),?_};show !{cs,rfl,o,_,rfl,_,rfl,a,[],rfl,ha,(show 0<1000 by decide),?_};show{pW,λld g=>!{a,[("columns",.tup<|cs.map aB)],rfl,?_,(show 1<1000 by decide),λlr d=>!{a,[("columns",.tup<|cs.map aB),("deeds",.ref ld)],rfl,?_,(show 2<1000 by decide),?_}}};have i:a≠ld:=by rintro rfl;rw[ae]at g;cases g
 rw[ah i,ae];rfl;have i:a≠lr:=by rintro rfl;rw[ae]at d;cases d
 rw[ah i,ae];rfl;have n1:a≠ld:=by rintro rfl;rw[ae]at g;cases g
 have n2:a≠lr:=by rintro rfl;rw[ae]at d;cases d
 have n:ld≠lr:=by rintro rfl;rw[ah n1.symm,ae]at d;cases d
 rw[ah n1.symm]at g;rw[ah n2.symm,ah n.symm,ah n2.symm]at d;show fo<|q _ (fp a ld lr []) {ld,lr,[],{ae,?_,?_,λr hr=>(nomatch hr),List.nodup_nil,`d,λr hr=>(nomatch hr)},rfl,rfl} λb c hb e=>?_;rw[ah n1.symm,ah n,ah n1.symm,ae];rw[ah n2.symm,ae];rfl;have h:b≠a:=λz=>hb (by rw[z];show zB);have l:b≠ld:=h_ e g;have j:b≠lr:=h_ e d;show{λm=>?_,by rw[ah h,ah j,ah h,ah l,ah h];show e};unfold fp at m;simp only[List.map_nil,ze,zA,or_false]at m;rcases m with m|m|m;show h m;show l m;show j m
noncomputable def vS(rs:jl)(i:ν)(z:ρ):D:=.tup [.str z,wt ((lu rs z).getD []) i]
noncomputable def jq(rs:jl)(i:ν)(ss:δ ρ):δ D:=(ss.filter λz=>!ak (wt ((lu rs z).getD []) i)).map<|vS rs i
noncomputable def AE:D->χ|.tup [_,x]=>!ak x|_=>false
def Cf(ss:δ ρ):((ss.map<|vS rs i).filter AE).map id=jq rs i ss:=by unfold jq;rw[List.map_id,List.filter_map];rfl
def Qj(C N:ε):jb:=λds S R Z=>∃a F cs dl rs m,ds=[.ref a,m]/\cA C S a F cs dl rs/\rs.length<64/\Gt S m/\(∀i ss,vQ dl.length m=ϑ i->ss.Perm (rs.map (·.1))->PyProof.Rows.sortedS ss=ϱ->∀p,S p=ϐ->R (.ref p) (S.set p<|.lst<|jq rs i ss))/\(vQ dl.length m=ϐ->Z N S)
def wX(T:Txt w K mg t):sE P w mg base T.dJ 3 (Qj t.aw t.eK):=by
 show T.dJ.F.bV fB ?_;obtain⟨a,F,cs,dl,rs,m,e,I,hn,hm,U,q2⟩;let⟨ld,lr,ra,h,hF,o⟩:=id I;have Y:(dS ra).map (·.1)=(rs.map (·.1)).map Sum.inr:=by rw[o];unfold dS iS;rw[zG,zG,zG];rfl
 have Z:(dS ra).length<64:=by rw[o]at hn;unfold iS at hn;unfold dS;rw[zc]at hn⊢;show hn
 show{_,(sc (cM (i:=2) fB.nd<|nj (dv 0) T.aj T.cI (jH T) hr<|al 1 an)<|sc (Sz (i:=3) (N:=["key","then","self"]) (src:=[none,some 2,some 0]) fB.nd (mf (ag<|inClass bu 10) ["self","moment","then","rows"] rfl rfl<|`c) (il<|cb BD T.iK fM<|ac (fl T.aj T.cu<|dv 0) an) (u_<|show(["key","then","self"]:δ ρ).Nodup by trivial) (bj rfl) bq (λq q q q q=>u9) λq q q q q=>(bY<|al 0<|ac (aI T.gT (kY T) hr<|ac (ix `u (fl T.aj T.cu<|dv 2)<|dv 0)<|al 1 an) an))<|s1<|sr<|vE (N:=["row"]) (src:=[none]) (mf (ag<|inClass bu 10) ["self","moment","then","rows"] rfl rfl<|`c) (il<|dv 3) (u_<|show(["row"]:δ ρ).Nodup by trivial) (bj rfl) bq (λq q q q q=>(if1<|bf i_ `u (ix `u (dv 0) di) dn)) λq q q q q=>(dv 0)),?_};show !{a,_,rfl,h.ins,rfl,_,rfl,a,F,cs,dl,rs,m,rfl,I,hm,λi hi=>?_,λhn=>fo<|q2 hn};show !{a,_,_,rfl,h.ins,rfl,lr,dS ra,rs.map (·.1),rfl,h.run,Y,Z,λss hp X p g=>?_};have L:ss.length<64:=by rw[hp.length_eq,zc];show hn
 show{_,ae,?_};show comp_map (λd=>match d with|.str z=>vS rs i z|_=>.aA) ae (by change(ss.map D.str).length<=1000;rw[zc];lia) (λd hd Q n=>?_) λp2 H=>?_;let⟨z,J,rfl⟩:=zf.mp hd;have v:z∈rs.map (·.1):=hp.mem_iff.mp J;let⟨r,C,e⟩:=zf.mp v;rw[o]at C;unfold iS at C;let⟨r0,B,rfl⟩:=zf.mp C;have e1:ve ra z=ϑ r0.2:=by cases e3:ve ra z with|none=>show absurd e (ou e3 _ B)|some x=>show congrArg some<|congrArg Prod.snd<|gW (f:=λr:ρ×ε×δ Std=>r.1) h.kn (dr (l:=x.1) (s:=x.2) e3) B e.symm
 have O:bL (dS ra) (.inr z)=ϑ (.ref r0.2.1):=by rw[iT,e1];rfl
 have G:=h.cell _ B;have eq:(lu rs z).getD []=r0.2.2:=by rw[o,iq,e1];rfl
 have n:Q (.tup [.str z,wt ((lu rs z).getD []) i]) (S.set p<|.lst<|ss.map D.str):=n;rw[eq]at n;have A:(S.set p<|.lst<|ss.map D.str) a=_:=(ah<|h_ h.ins g).trans h.ins;have Cd:(S.set p<|.lst<|ss.map D.str) lr=_:=(ah<|h_ h.run g).trans h.run;have Zw:(S.set p<|.lst<|ss.map D.str) r0.2.1=_:=(ah<|h_ G g).trans G;show !!{a,_,_,rfl,A,rfl,_,rfl,dS ra,_,Cd,O,_,rfl,_,_,i,rfl,Zw,cF,n};have M:(ss.map D.str).map (λd=>match d with|.str z=>vS rs i z|_=>.aA)=ss.map (vS rs i):=by rw[zG];rfl
 show !{ss.map<|vS rs i,by change((S.set p _).set p2<|.lst<|(ss.map D.str).map _) p2=_;rw[ae,M],?_};show fO AE id (by change((S.set p _).set p2<|.lst<|(ss.map D.str).map _) p2=_;rw[ae,M]) (by change(ss.map<|vS rs i).length<=1000;rw[zc];omega) (λd hd Q Q' n Lk=>?_) λp3 AF=>?_;let⟨z,J,rfl⟩:=zf.mp hd;show !!!⟨?_⟩;show bH (λh=>!⟨n h⟩) λh=>Lk h;have y:S p3=ϐ:=by cases e:S p3 with|none=>rfl|some c=>show absurd AF<|by rw[ah (h_ e<|by have:(S.set p<|.lst<|ss.map D.str) p2=ϐ:=H;cases e':S p2 with|none=>rfl|some R=>rw[ah<|h_ e' g,e']at this;cases this),ah<|h_ e g,e];show nofun
 show{S.set p3<|.lst<|jq rs i ss,λb c hb=>?_,U i ss hi hp X p3 y};change((((S.set p<|.lst<|ss.map D.str).set p2 _).set p3<|.lst<|((ss.map<|vS rs i).filter AE).map id)) b=ϑ c;rw[Cf];by_cases j:b=p3;subst j;rw[ae]at hb⊢;show hb;rw[ah j]at hb;have E:S p2=ϐ:=by cases e':S p2 with|none=>rfl|some R=>have:(S.set p<|.lst<|ss.map D.str) p2=ϐ:=H;rw[ah<|h_ e' g,e']at this;cases this
 rw[ah j,ah<|h_ hb E,ah<|h_ hb g];show hb
def Ov{P:Ψ}{w:Ω}{K:Φ}{mg:ρ->θ ξ}{base:Γ}{k:π}{f:ε}{fd:FuncData}{ps:δ ρ}{pre:δ D->η} (F:FnD P w K mg base k f fd ps λds S R t=>pre ds/\∀l x y z,S l=ϐ->R (.ref l) (S.set l<|.lst [.int x,.int y,.int z])):FnD P w K mg base k f fd ps (λds S R t=>pre ds/\∀l,S l=ϐ->R (.ref l) (S.set l .well)):=by show F.imp λvs H Q E g=>?_;let⟨ds,S,R,Z,v,j,⟨hp,h⟩,m,n⟩:=g;show{ds,S,λd a=>∃l x y z,S l=ϐ/\d=.ref l/\a=S.set l (.lst [.int x,.int y,.int z]),λt t=>False,v,j,{hp,λl x y z hl=>⟨l,x,y,z,hl,rfl,rfl⟩},λd a u H' i c e kp=>?_,λt t t q=>q.elim};let⟨l,x,y,z,hl,e1,e2⟩:=i;subst e1 e2;show m _ _ u H' (h l hl) c ?_ kp;show wG (x:=x) (y:=y) (z:=z) ae ?_;rw[eJ];show e
def aco(ds:δ D)(l:ε):Prop:=∃m:ν,ds=[.ref l,.int m]/\0<m/\m.natAbs.log2<9000
def X1(ds:δ D)(d:D):Prop:=∃(l:ε)(m n:ν),ds=[.ref l,.int m]/\d=.int n/\0<=n/\n<m
inductive qZ (ds:δ D) (S:av) (R:KD) (Z:KX):η
 |mk (ns:δ ν) (k:π) (_:ds=[.i5<|ns.map D.int,.int k]) (_:∀c:ν,R (.int c) S)
def gs(T:Txt w K mg t):Ok P w base T.eP 1 qZ:=by
 show T.eP.F.bV Au ?_;obtain⟨ns,k,e,q⟩;show{_,(sc (si (bf vA `u (dv 1)<|cb aW T.aU aH<|al 0 an) (s1<|sr<|ix `u (dv 0)<|dv 1) s0)<|s1<|sr di),?_};show !!!!⟨?_⟩;show bH (λh=>?_) λh=>?_;have h:(k:ν)<(((ns.map D.int).length:π):ν):=zy h;have a:k<ns.length:=by rw[zc]at h;show y8.mp ‹_›
 show !!{.int ns[k],eU<|by rw[zx];simp[a],fo<|q _};show fo<|q 0
def sM(T:Txt w K mg t):Ok P w base T.pQ 1 (λds S R z=>(∃c:ν,ds=[.int c])/\∀l,S l=ϐ->R (.ref l) (S.set l .well)):=by show Ov ?_;show T.pQ.F.ok Il (by rintro ds S R Z ⟨⟨_,e⟩,_⟩;rw[e];rfl) ?_;obtain⟨⟨c,e⟩,q⟩;show{_,(s1<|sr<|cP<|ac (bo mi `u (dv 0)<|ct Kc T.Gq xB<|ac (cm abe `u (dv 0)<|bo Bv `u di di) an)<|ac (bo ke `u (dv 0) di)<|ac di an),?_};show !!⟨{`a,`a,`a},.inr !⟨?_⟩⟩;show{.inr {by split<;>decide,by split<;>decide},_,rfl,`a,gH,λl hl=>fo<|q l _ _ _ hl}
set_option tactic.hygienic true in
def Ow(T:Txt w K mg t):Ok P w base T.aT 1 (Kq aco X1):=by show HQ ?_;show T.aT.F.ok eT (by rintro ds S R Z ⟨_,_,_,_,⟨_,e,_⟩,_⟩;rw[e];rfl) ?_;obtain⟨l,x,y,z,⟨m,e,hm,g⟩,hl,q⟩;show{_,(sc (si (bf tO `u (ix `u (dv 0) di) di) (sc (cM (i:=2) eT.nd<|bo ke `u (ix `u (dv 0) di)<|dv 1)<|sc (sls (dv 0) di<|bo xN `u (ix `u (dv 0) di)<|dv 1)<|s1<|sr<|dv 2) s0)<|sc (cM (i:=2) eT.nd di)<|sc (C4<|I_ (Sw T.je<|ac (bo cQ `u di<|bo mi `u di<|ct Kc T.Gq xB<|ac (cm tO `u (dv 1)<|bo Bv `u di di) an) an) (gn (i:=3) eT.nd)<|sc (sls (dv 0) di<|bo cQ `u (ix `u (dv 0) di) di)<|sc (cM (i:=4) eT.nd<|bo ke `u (bo mi `u (bo cQ `u (bo cQ `u (ix `u (dv 0) di)<|bo mi `u di<|ix `u (dv 0) di) di) di) di)<|sc (cM (i:=4) eT.nd<|bo ke `u (bo mi `u (dv 4)<|bo cQ `u (bo xN `u (dv 4) di) di) di)<|s1<|cM (i:=2) eT.nd<|bo cQ `u (bo mi `u (dv 2) di)<|bo ke `u (bo mi `u (dv 4)<|bo cQ `u (bo xN `u (dv 4) di) di) di)<|s1<|sr<|bo ke `u (dv 2)<|dv 1),?_};show !{_,_,hl,rfl,_,rfl,?_};show bH (λh=>?_) λh=>?_;show !{_,_,hl,rfl,_,rfl,hm,?_};show !{_,_,hl,rfl,_,rfl,⟨hm,g⟩,_,rfl,l,_,0,0,rfl,rfl,hl,rfl,?_};show{_,rfl,fo<|q _ _ _ _ {l,m,_,rfl,rfl,Int.emod_nonneg _<|`b,Int.emod_lt_of_pos _ hm}};show{λa S'=>∃(f:ν)(o1 c:θ D)(x y z:ν),a=[some<|.ref l,some<|.int m,some<|.int f,o1,c]/\S'=S.set l (.lst [.int x,.int y,.int z]),?_,?_};show{_,rfl,{`a,`a,`a},.inr !{.inl {`a,`a},_,rfl,?_,?_,?_}};split<;>decide;split<;>decide;show{λi a S'=>∃(f:ν)(o1 c:θ D)(x y z:ν),a=[some<|.ref l,some<|.int m,some<|.int f,o1,c]/\S'=S.set l (.lst [.int x,.int y,.int z]),{0,none,none,x,y,z,rfl,?_},λs s s s=>trivial,?_,λa S' h=>fo h};funext b;unfold av.set;split;rename_i h;rw[h];show hl;rfl;rintro i d a S' hd ⟨f,o1,c,x,y,z,rfl,rfl⟩;have n:(S.set l<|.lst [.int x,.int y,.int z]) l=ϑ (.lst [.int x,.int y,.int z]):=ae;show !{_,_,n,rfl,_,rfl,l,_,2,2,rfl,rfl,n,rfl,?_};rw[eJ,show([D.int x,D.int y,D.int z].set 2<|D.int<|z+1)=[D.int x,D.int y,D.int<|z+1] from rfl];have qA:(S.set l<|.lst [.int x,.int y,.int<|z+1]) l=ϑ (.lst [.int x,.int y,.int<|z+1]):=ae;show !{_,_,qA,rfl,_,rfl,_,_,qA,rfl,.inl {`a,`a},.inr {`a,`a},(show(0:ν)<2147483647 by decide),?_};have j:∀z:ν,0<=z%2147483647/\z%2147483647<2147483647:=λz=>{Int.emod_nonneg z<|`a,Int.emod_lt_of_pos z<|`a};have n1:=j<|(y+7919*(z+1)+1)*48271;generalize (y+7919*(z+1)+1)*48271%2147483647=u at *;show !!⟨{`a,`c},.inl {`b,`b},(show(0:ν)<2147483647 by decide),?_⟩;have n2:=j<|u*(u/1009+69621);generalize u*(u/1009+69621)%2147483647=v at *;show !{.inr {`a,`a},_,rfl,_,rfl,{`a,`c},.inl {`b,`b},(show(0:ν)<2147483399 by decide),_,_,_,_,_,_,rfl,rfl};rintro a S' ⟨f,o1,c,x,y,z,rfl,rfl⟩;show !!{hm,fo<|q _ _ _ _ {l,m,_,rfl,rfl,Int.emod_nonneg _<|`b,Int.emod_lt_of_pos _ hm}}
inductive Ll (ds:δ D) (S:av) (R:KD) (Z:KX):η
 |mk (l:ε) (m:ν) (_:ds=[.ref l,.int m]) (_:0<m) (_:m.natAbs.log2<9000) (_:S l=ϑ .well) (_:∀n:ν,0<=n->n<m->R (.int n) S)
theorem bE{P:Ψ}{w:Ω}{K:Φ}{mg:ρ->θ ξ}{base:Γ}{t:ft}(T:Txt w K mg t):Ok P w base T.aT 1 Ll:=(Ow T).HN <| by rintro ds S R Z ⟨l,m,e,h0,h1,hw,q⟩;show{l,⟨m,e,h0,h1⟩,hw,by rintro d ⟨g,c,n,e1,e2,a,b⟩;show by rw[e]at e1;cases e1;subst e2;show q n a b}
theorem wl{S:av}{l p:ε}{c:Ce}(hw:S l=ϑ .well)(hp:S p=ϐ):(S.set p c) l=ϑ .well:=(ah<|h_ hw hp).trans hw
def cB{L:δ D}{S:av}{p:ε}{n:ν}{R:KD}(h0:0<=n)(h1:n<(L.length:ν))(hp:S p=ϐ)(q:∀d,d∈L->R d S):AtL p n (S.set p<|.lst L) λd S'=>Fo S' (R d):=by let⟨v,e1,e2⟩:=FQ (l:=L) h0 h1;show{L,v,ae,e1,S,.new hp,q v<|zK e2}
def uy{m:ν}(h0:0<m)(h1:m<=8000):m.natAbs.log2<9000:=by
 have h2:m.natAbs<=8000:=by omega
 have a:m.natAbs.log2<=m.natAbs:=Nat.log2_le_self _;omega
noncomputable abbrev KT:δ Str:=["a","ab","b","abc","a1","key","z","ba","b2","abcdefghijkl"]
noncomputable abbrev KEX:δ Str:=List.append ["k0","k1","k2","k3","k4","k5","k6","k7","k8","k9","k10","k11","k12","k13","k14","k15","k16","k17","k18","k19"] ["k20","k21","k22","k23","k24","k25","k26","k27","k28","k29","k30","k31","k32","k33","k34","k35","k36","k37","k38","k39"]
noncomputable abbrev KS:δ Str:=KT++KEX
theorem Cg(h:z∈KT):z∈KS:=zT _ h
theorem gu:∀z∈KS,l6 z=ϱ/\z.cps.size<=12/\PyData.strOk z=ϱ:=`c
noncomputable abbrev vT:δ Str:=["key","up","a","at","ab","mark","every","now"]
theorem AG:∀z∈vT,mr z=ϱ/\PyData.strOk z=ϱ:=`c
noncomputable def dU:D->χ|.aA=>true|.int _=>true|.str z=>ω (z.cps.size<=40)&&PyData.strOk z|_=>false
def Vg(kind:ρ)(d:D):Prop:=kU kind d=ϱ/\dU d=ϱ
noncomputable abbrev STS:δ Str:=["","a","ab","b","A b","#"]
noncomputable abbrev SUF:δ Str:=["","a","\""]
theorem Ln:∀a∈("~~~~~~~~~~~~~~~~~~~~~~~~~~~~~~~~~~~~~~~": ρ)::STS,∀b∈SUF,wR (a++b)=ϱ/\(a++b).cps.size<=40/\PyData.strOk (a++b)=ϱ/\a.length+b.length<=1000:=`c
theorem Tx:PySem.Txt.mul "~" 39 ="~~~~~~~~~~~~~~~~~~~~~~~~~~~~~~~~~~~~~~~":=`c
theorem Tz:MulOk "~" 39:={`a,`a,`c}
def X2(pre:δ D->η)(a:δ D->D->η):jb:=λds S R z=>∃l r,ds=.ref l::r/\pre r/\S l=ϑ .well/\∀d,a r d->R d S
def EV(T:Txt w K mg t):Ok P w base T.B6 2 (X2 (·=[]) λx d=>∃z∈KT,d=.str z):=by show T.B6.F.ok K_ (by rintro ds S R Z ⟨_,_,e,e2,_⟩;rw[e,e2];rfl) ?_;rintro _ _ _ _ _ _ _ S R Z hr ⟨l,r,e,e2,hw,q⟩;subst e e2;show{_,(s1<|sr<|C5<|ix `u (cP<|ac ds<|ac ds<|ac ds<|ac ds<|ac ds<|ac ds<|ac ds<|ac ds<|ac ds<|ac ds an)<|aI T.aT (bE T) hr<|al 0<|ac di an),?_};show{XU,λp hp=>!{l,_,rfl,`a,`a,wl hw hp,λn h0 h1=>cB h0 h1 hp λd hd=>?_}};have hd:d∈KT.map D.str:=hd;let⟨z,a,rfl⟩:=zf.mp hd;show fo<|q _ ⟨z,a,rfl⟩
def uz(T:Txt w K mg t):Ok P w base T.n8 2 (X2 (λr=>r=[.str "number"]\/r=[.str "word"]) λr d=>∃k,r=[.str k]/\Vg k d):=by
 show T.n8.F.ok um (by rintro ds S R Z ⟨_,_,e,e2,_⟩;show by rw[e];rcases e2 with e2|e2<;>rw[e2]<;>rfl) λgF A outer s H E ds S R Z hr ⟨l,r,e,e2,hw,q⟩=>?_;subst e;obtain⟨k,rfl,J⟩:∃k,r=[.str k]/\(k ="number"\/k ="word"):=by rcases e2 with e|e;show{_,e,.inl rfl};show{_,e,.inr rfl}
 have q:∀d,Vg k d->R d S:=λd hd=>q d ⟨k,rfl,hd⟩;have c:k ="number"->∀i:ν,R (.int i) S:=λe i=>q _ {by rw[e];rfl,rfl};show{_,(sc (si (bf a_ `u (aI T.aT (bE T) hr<|al 0<|ac di an) di) (s1<|sr dn) s0)<|sc (si (twd<|twand (bf a_ `u (dv 1) ds)<|tw1<|bf a_ `u (aI T.aT (bE T) hr<|al 0<|ac di an) di) (s1<|sr<|bo j_ `u (aI T.aT (bE T) hr<|al 0<|ac (bo mi `u di<|bo Bv `u di di) an)<|bo Bv `u di di) s0)<|sc (si (bf a_ `u (dv 1) ds) (s1<|sr<|bo j_ `u (aI T.aT (bE T) hr<|al 0<|ac di an) di) s0)<|sc (cM (i:=2) um.nd<|C5<|ix `u (cP<|ac ds<|ac ds<|ac ds<|ac ds<|ac ds<|ac ds<|ac (bo mi `u ds di) an)<|aI T.aT (bE T) hr<|al 0<|ac di an)<|s1<|sr<|bo cQ `u (dv 2)<|C5<|ix `u (cP<|ac ds<|ac ds<|ac ds<|ac ds an)<|aI T.aT (bE T) hr<|al 0<|ac di an),?_};show !{l,_,rfl,`a,`a,hw,λn h0 h1=>!⟨?_⟩};show bH (λh=>?_) λh=>?_;show fo<|q .aA ⟨rfl,rfl⟩;show !!⟨?_⟩;show bH (λh2=>?_) λh2=>?_;have m:k ="number":=zy h2;show !{l,_,rfl,`a,`a,hw,λn1 o y=>!⟨?_⟩};show bH (λz=>?_) λz=>?_;show{_,rfl,{`a,`a,`a},.inl {`a,`a},l,_,rfl,`c,`c,hw,λn2 j g=>{{`a,`a,`a},fo<|c m _}};show !!⟨?_⟩;change if ω (k ="number")=ϱ then _ else _;rw[zu m];show bX !{l,_,rfl,`a,`a,hw,λn2 j g=>fo<|c m _};have m:¬k ="number":=zW h2;have v:k ="word":=J.resolve_left m;show !!⟨?_⟩;change if ω (k ="number")=ϱ then _ else _;rw[zt m];show aL ?_;show{Tz,aca,λp hp=>!{l,_,rfl,`a,`a,wl hw hp,λn1 o y=>cB o y hp λd hd=>?_}};rw[Tx]at hd;have hd:d∈[D.str "",.str "a",.str "ab",.str "b",.str "A b",.str "#",.str "~~~~~~~~~~~~~~~~~~~~~~~~~~~~~~~~~~~~~~~"]:=hd;obtain⟨a,ha,rfl⟩:∃a∈("~~~~~~~~~~~~~~~~~~~~~~~~~~~~~~~~~~~~~~~": ρ)::STS,d=.str a:=by simp only[ze,zA,or_false]at hd;rcases hd with h|h|h|h|h|h|h<;>show{_,`d,h}
 show !{rT,λp2 x=>!{l,_,rfl,`a,`a,wl hw x,λn2 j g=>cB j g x λd hd=>?_}};have hd:d∈[D.str "",.str "",.str "a",.str "\""]:=hd;obtain⟨b,hb,rfl⟩:∃b∈SUF,d=.str b:=by simp only[ze,zA,or_false]at hd;rcases hd with h|h|h|h<;>show{_,`d,h}
 let⟨C,G,B,I⟩:=Ln a ha b hb;show{sm I,fo<|q _ {?_,?_}};rw[v];change(false||if ("word": ρ) ="number" then _ else wR (a++b))=ϱ;rw[qa<|`a,C];rfl;change(ω ((a++b).cps.size<=40)&&PyData.strOk (a++b))=ϱ;rw[zu G,B];rfl
def Wg(cs:δ<|ρ×ρ)(ws:δ D):Prop:=Paired (λ(c:ρ×ρ) v=>Vg c.2 v) cs ws
theorem uA{rel:(ρ×ρ)->D->η} : ∀{cs:δ (ρ×ρ)}{out:δ D},Paired (λd v=>∃c,d=aB c/\rel c v) (cs.map aB) out->Paired (λc v=>rel c v) cs out
 |[],_,.nil=>.nil
 |c::cs,_,.cons ⟨a,e,r⟩ t=>by
  have:c=a:=by unfold aB at e;injection e with e;injection e with e1 e2;injection e1 with e1;injection e2 with e2 _;injection e2 with e2;show Prod.ext e1 e2
  subst this;show .cons r<|uA t
noncomputable def Ci(a j:π):Str:=vT.getD ((j+a)%8) ""
theorem Lo:∀a<8,∀i<9,((List.range i).map<|Ci a).Nodup:=`c
def TB(a j:π):Ci a j∈vT:=by have:(j+a)%8<8:=Nat.mod_lt _ `a;unfold Ci;rw[zJ,zg<|show(j+a)%8<vT.length from this];show List.getElem_mem _
inductive uB (ds:δ D) (S:av) (R:KD) (Z:KX):η
 |mk (l cs) (_:ds=[.ref l,.tup<|cs.map aB]) (_:Gd cs) (_:S l=ϑ .well) (_:∀ws,Wg cs ws->R (.tup ws) S)
def p_(T:Txt w K mg t):Ok P w base T.kM 3 uB:=by show T.kM.F.bV Cb ?_;obtain⟨l,cs,e,a,hw,q⟩;show{_,(s1<|sr<|ct gL T.bc aR<|ac (vE (N:=["_law_column","_law_well_here"]) (src:=[none,some 0]) (mf (ag Et) ["_law_well_here","_law_columns_here"] rfl rfl<|`c) (Kl<|dv 1) (u_<|show(["_law_column","_law_well_here"]:δ ρ).Nodup by trivial) (bj rfl) bq (λz z z z z=>u9) λz z z z z=>(aI T.n8 (uz T) hr<|al 1<|ac (ix `u (dv 0) di) an)) an),?_};show !{_,.inl rfl,?_};show fe (λd v=>∃c:ρ×ρ,d=aB c/\Vg c.2 v) trivial (by change(cs.map aB).length<=1000;rw[zc];have:=a.1;show zj ‹_› `a) (λd hd Q g=>?_) λout hp p j=>?_;let⟨c,i,rfl⟩:=zf.mp hd;show !!{.str c.2,rfl,l,_,rfl,?_,hw,λv ⟨k,e,h⟩=>g v {c,rfl,?_}};rcases (a.2.2 c i).2 with e|e<;>rw[e];show .inl rfl;show .inr rfl;cases e;show h;show{_,out,rfl,.inl ae,S,.new j,q out<|uA hp}
inductive q9 (ds:δ D) (S:av) (R:KD) (Z:KX):η
 |mk (l) (_:ds=[.ref l]) (_:S l=ϑ .well) (_:∀cs,Gd cs->(∀c∈cs,c.1∈vT)->R (.tup<|cs.map aB) S)
def EW(T:Txt w K mg t):Ok P w base T.pR 2 q9:=by
 show T.pR.F.bV dR ?_;obtain⟨l,e,hw,q⟩;show{_,(sc (cM (i:=1) dR.nd<|cP<|ac ds<|ac ds<|ac ds<|ac ds<|ac ds<|ac ds<|ac ds<|ac ds an)<|sc (cM (i:=2) dR.nd<|aI T.aT (bE T) hr<|al 0<|ac di an)<|sc (cM (i:=3) dR.nd<|cP an)<|sc (C4<|I_ (Sw T.je<|ac (C5<|ix `u (cP<|ac di<|ac di<|ac di<|ac (aI T.aT (bE T) hr<|al 0<|ac di an) an)<|aI T.aT (bE T) hr<|al 0<|ac di an) an) (gn (i:=4) dR.nd)<|s1<|se<|bm zO zX zY cL (dv 3)<|ac (bY<|ac (ix `u (dv 1)<|bo ke `u (bo cQ `u (dv 4)<|dv 2) di)<|ac (C5<|ix `u (cP<|ac ds<|ac ds an)<|aI T.aT (bE T) hr<|al 0<|ac di an) an) an)<|s1<|sr<|ct gL T.bc aR<|al 3 an),?_};show{acb,λv B=>!{l,_,rfl,`a,`a,wl hw B,λM a0 R=>{pW,λg z=>?_}}};obtain⟨tn,rfl⟩:∃n:π,M=(n:ν):={M.toNat,`b};have I:tn<8:=`b
 have y:g≠v:=by rintro rfl;rw[ae]at z;cases z
 have O:S g=ϐ:=by rw[ah y]at z;show z
 show{λx S'=>∃(o:θ D)(cs:δ (ρ×ρ)),x=[some<|.ref l,some<|.ref v,some<|.int tn,some<|.ref g,o]/\Gd cs/\(∀c∈cs,c.1∈vT)/\S'=S.set g (.lst<|cs.map aB),?_,?_};have N:=wl (c:=.lst []) (wl (c:=.lst [.str "key",.str "up",.str "a",.str "at",.str "ab",.str "mark",.str "every",.str "now"]) hw B) z;show !{l,_,rfl,`a,`a,N,λL Z a1=>{rT,λp hp=>!{l,_,rfl,`a,`a,wl N hp,λn4 Zx J=>cB Zx J hp λd hd=>?_}}};obtain⟨m,rfl,hm⟩:∃m:π,d=.int m/\m<=8:=by have hd:d∈[D.int 1,.int 2,.int 3,.int L]:=hd;simp only[ze,zA,or_false]at hd;rcases hd with h|h|h|h;show{1,h,`a};show{2,h,`a};show{3,h,`a};show{L.toNat,by rw[h];congr 1;lia,`b}
 show{m,rfl,`b,`b,?_};show{λi x S'=>∃(o:θ D)(cs:δ (ρ×ρ)),x=[some<|.ref l,some<|.ref v,some<|.int tn,some<|.ref g,o]/\cs.map Prod.fst=(List.range i).map (Ci tn)/\(∀c∈cs,c.2 ="number"\/c.2 ="word")/\S'=(S.set v<|.lst<|vT.map D.str).set g (.lst<|cs.map aB),{none,[],rfl,rfl,λp h=>(nomatch h),rfl},λp p p p=>trivial,?_,?_};rintro i d x S' hd ⟨o,cs,rfl,hn,H,rfl⟩;let⟨hi,rfl⟩:=nM hd;have hi:i<m:=by simpa using hi
 have DN:cs.length=i:=by have:=congrArg List.length hn;simpa using this
 generalize A:(S.set v<|.lst<|vT.map D.str).set g (.lst<|cs.map aB)=E;have Q:E g=ϑ (.lst<|cs.map aB):=by rw[<-A,ae]
 have en:E v=ϑ (.lst<|vT.map D.str):=by rw[<-A,ah y.symm,ae]
 have ew:E l=ϑ .well:=by rw[<-A,ah<|h_ hw O,ah<|h_ hw B];show hw
 have G:vi (vT.map D.str) (((0:ν)+(i:π)+(tn:π))%8)=ϑ (.str<|Ci tn i):=by have e:((0:ν)+(i:π)+(tn:π))%8=(((i+tn)%8:π):ν):=`d;have Y:(i+tn)%8<8:=Nat.mod_lt _ `a;rw[e];show eU ?_;rw[zx];unfold Ci;rw[zJ,zg<|show(i+tn)%8<vT.length from Y];rfl
 show{_,rfl,{rfl,_,Q},_,rfl,_,rfl,_,rfl,(show(0:ν)<8 by decide),_,_,en,G,cF,λp hp=>!{l,_,rfl,`a,`a,wl ew hp,λn2 TC X=>cB TC X hp λd hd=>?_}};obtain⟨kd,rfl,U⟩:∃kd:ρ,d=.str kd/\(kd ="number"\/kd ="word"):=by have hd:d∈[D.str "number",.str "word"]:=hd;simp only[ze,zA,or_false]at hd;rcases hd with h|h;show{_,h,.inl rfl};show{_,h,.inr rfl}
 show{cF,g,_,_,rfl,rfl,Q,bg<|by rw[zc];lia,_,cs++[(Ci tn i,kd)],rfl,?_,?_,?_};rw[zH,hn,List.range_succ,zH];rfl;intro c s;rcases zL.mp s with h|h;show H c h;rw[zC.mp h];show U;rw[<-A,eJ,zH];rfl;rintro x S' ⟨o,cs,rfl,hn,H,rfl⟩;rw[fQ]at hn;have hn:cs.map Prod.fst=(List.range m).map (Ci tn):=by simpa using hn
 have DN:cs.length=m:=by have:=congrArg List.length hn;simpa using this
 have C:∀c∈cs,c.1∈vT:=λc s=>by have:c.1∈cs.map Prod.fst:=zf.mpr ⟨c,s,rfl⟩;rw[hn]at this;let⟨j,_,e⟩:=zf.mp this;rw[<-e];show TB tn j
 show{S.set g<|.lst<|cs.map aB,λb c hb=>?_,o,cs,rfl,{`b,by rw[hn];show Lo tn I m<|yH ‹_›,λc s=>{(AG _<|C c s).1,H c s}},C,rfl};by_cases r:b=g;subst r;rw[ae]at hb⊢;show hb;rw[ah r]at hb;rw[ah r,ah<|h_ hb B];show hb;rintro x S' ⟨o,cs,rfl,hg,C,rfl⟩;show !{_,cs.map aB,rfl,.inl ae,S,.new O,q cs hg C}
abbrev Kn:=δ<|ρ×δ D
noncomputable def gA(kn:Kn):δ (Key×D):=kn.map λr=>(Sum.inr r.1,D.tup r.2)
noncomputable def gB(kn:Kn)(z:ρ):θ (δ D):=(kn.find? λr=>ω<|r.1=z).map (·.2)
structure KI(cs:δ (ρ×ρ))(kn:Kn):η where
 nd:(kn.map (·.1)).Nodup
 ok:∀r∈kn,r.1∈KS/\Wg cs r.2
def cj:gB (r::kn) k=if r.1=k then some r.2 else gB kn k:=by unfold gB;rw[zZ];by_cases h:r.1=k;rw[zu h,qc h];rfl;rw[zt h,qa h]
def Cj(kn:Kn)(k:ρ):bL (gA kn) (.inr k)=(gB kn k).map D.tup:=by induction kn with|nil=>rfl|cons r kn a=>rw[cj];unfold bL gA at *;rw[zD,zZ];by_cases h:r.1=k;have:ω ((Sum.inr r.1:Key)=.inr k)=ϱ:=zu (by rw[h]);dsimp only;rw[this,qc h];rfl;have:ω ((Sum.inr r.1:Key)=.inr k)=ϰ:=zt λe=>h<|yT e;dsimp only;rw[this,qa h];show a
def jr(h:gB kn k=ϑ ws):(k,ws)∈kn:=by induction kn with|nil=>(cases h)|cons r kn c=>rw[cj]at h;by_cases a:r.1=k;rw[qc a]at h;cases h;rw[<-a];show zB;rw[qa a]at h;show zo _<|c h
def k9(h:k∈kn.map (·.1)):∃ws,gB kn k=ϑ ws:=by induction kn with|nil=>(cases h)|cons r kn c=>rw[cj];by_cases a:r.1=k;show{r.2,qc a};rw[qa a];rw[zD]at h;rcases ze.mp h with e|h;show absurd e.symm a;show c h
theorem sub_len[DecidableEq α]:∀{l m:δ α},l.Nodup->(∀x∈l,x∈m)->l.length<=m.length|[],m,_,_=>zU _|a::l,m,nd,h=>by let⟨n1,n2⟩:=yc.mp nd;have h1:=sub_len (m:=m.erase a) n2 λx hx=>(List.mem_erase_of_ne λe=>n1<|by rw[<-e];show hx).mpr<|h x<|zo _ hx;have h2:=List.length_erase_of_mem<|h a zB;have c:0<m.length:=List.length_pos_of_mem<|h a zB;rw[zM];omega
def KI.len(h:KI cs kn):kn.length<=50:=by
 have:=sub_len h.nd (m:=KS) λx hx=>by let⟨r,hr,rfl⟩:=zf.mp hx;show(h.ok r hr).1
 rw[zc]at this;show this
noncomputable def m7(kn:Kn)(z:ρ)(ws:δ D):Kn:=if (gB kn z).isSome then kn.map λr=>if r.1=z then (r.1,ws) else r else kn++[(z,ws)]
noncomputable def uC(kn:Kn)(z:ρ):Kn:=kn.filter λr=>ω<|r.1≠z
def TF(kn:Kn)(z:ρ)(ws:δ D):dput (gA kn) (.inr z) (.tup ws)=gA (m7 kn z ws):=by
 unfold dput m7;have e:((gA kn).any λc=>ω<|c.1=.inr z)=(gB kn z).isSome:=by induction kn with|nil=>rfl|cons r kn a=>unfold gA at *;rw[zD,yZ,a,cj];by_cases h:r.1=z;rw[qc h,zu<|by rw[h],Bool.true_or];rfl;rw[qa h,zt λe=>h<|yT e,xc]
 rw[e];split;unfold gA;rw[zG,zG];show z0 λr x=>?_;dsimp only[Function.comp];by_cases h:r.1=z;rw[qc h,qc<|by rw[h]];rw[qa h,qa λe=>h<|yT e];unfold gA;rw[zH];rfl
def TH(kn:Kn)(z:ρ):Bx (gA kn) (.inr z)=gA (uC kn z):=by unfold Bx uC gA;rw[List.filter_map];congr 1;show List.filter_congr λr x=>?_;dsimp only[Function.comp];rw[yS];show{λh e=>h<|by rw[e],λh e=>h<|yT e}
def AH:gB (m7 kn z ws) k=if k=z then some ws else gB kn k:=by
 unfold m7;by_cases c:(gB kn z).isSome=ϱ;rw[qc c];by_cases a:k=z;subst a;rw[qc rfl];induction kn with|nil=>(cases c)|cons r rs d=>rw[zD,cj];by_cases h:r.1=k;rw[qc h,qc h];rw[qa h,qa h];rw[cj,qa h]at c;show d c
 rw[qa a];clear c;induction kn with|nil=>rfl|cons r rs d=>rw[zD,cj,cj,d];by_cases h:r.1=z;rw[qc h,qa<|show ¬r.1=k from λe=>a<|e.symm.trans h,qa<|show ¬r.1=k from λe=>a<|e.symm.trans h];rw[qa h]
 rw[qa c];have hn:gB kn z=ϐ:=by cases e:gB kn z<;>simp_all
 clear c;induction kn with|nil=>rw[List.nil_append,cj];by_cases a:k=z;rw[qc a,qc a.symm];rw[qa a,qa λe=>a e.symm]|cons r rs d=>rw[cj]at hn;by_cases h:r.1=z;rw[qc h]at hn;cases hn;rw[qa h]at hn;rw[List.cons_append,cj,cj,d hn];by_cases h2:r.1=k;rw[qc h2,qc h2,qa<|show ¬k=z from λe=>h<|h2.trans e];rw[qa h2,qa h2]
def Gx:gB (uC kn z) k=if k=z then none else gB kn k:=by unfold uC;induction kn with|nil=>(split<;>rfl)|cons r kn c=>rw[yI,cj];by_cases h:r.1=z;rw[qa<|by simp[h],c];by_cases a:k=z;rw[qc a,qc a];rw[qa a,qa a,qa<|show ¬r.1=k from λe=>a<|e.symm.trans h];rw[qc<|by simp[h],cj,c];by_cases a:k=z;rw[qc a,qc a,qa<|show ¬r.1=k from λe=>h<|e.trans a];rw[qa a,qa a]
set_option tactic.hygienic true in
def KI.put(h:KI cs kn)(hz:z∈KS)(hw:Wg cs ws):KI cs (m7 kn z ws):=by
 unfold m7;split;show{?_,λr hr=>?_};have:(kn.map λr=>if r.1=z then (r.1,ws) else r).map (·.1)=kn.map (·.1):=by rw[zG];show z0 λr x=>by dsimp only[Function.comp];split<;>rfl
 rw[this];show h.nd;let⟨r0,a,e⟩:=zf.mp hr;by_cases q:r0.1=z;rw[qc q]at e;subst e;show{(h.ok r0 a).1,hw};rw[qa q]at e;subst e;show h.ok r0 a;rename_i hs;show{?_,λr hr=>?_};rw[zH];show nG h.nd λm=>hs ?_;let⟨c,e⟩:=k9 m;change(gB kn z).isSome=ϱ;rw[show gB kn z=ϑ c from e];rfl;rcases zL.mp hr with hr|hr;show h.ok r hr;rw[zC.mp hr];show⟨hz,hw⟩
theorem KI.del(h:KI cs kn)(z:ρ):KI cs (uC kn z):={(List.Sublist.map _ yx).nodup h.nd,λr hr=>h.ok r (yk.mp hr).1}
def GD(ks:δ ρ)(cs:δ<|ρ×ρ)(kn:Kn)(d:D):Prop:=(∃z ws,z∈ks/\Wg cs ws/\gB kn z=ϐ/\d=.tup [.str "put",.str z,.tup ws])\/(∃z ws,z∈KS/\Wg cs ws/\(gB kn z).isSome=ϱ/\d=.tup [.str "change",.str z,.tup ws])\/∃z,z∈KS/\(gB kn z).isSome=ϱ/\d=.tup [.str "take",.str z]
def Ly(S:av)(n:π)(d:D):Prop:=∃p,Dp S d p/\p.canLay0=ϱ/\p.depth<=n
theorem Ly.all:∀{ds:δ D},(∀d∈ds,Ly S n d)->∃ps:δ PyData,DpAll S ds ps/\PyData.canLayAll0 ps=ϱ/\PyData.depthAll ps<=n/\ps.length=ds.length|[],_=>{[],by simp only[DpAll],rfl,zU _,rfl}|d::ds,h=>by let⟨p,h1,h2,h3⟩:=h d zB;let⟨ps,a,c,g,e⟩:=Ly.all λx hx=>h x<|zo _ hx;show{p::ps,by simp only[DpAll];show⟨p,ps,rfl,h1,a⟩,by simp only[PyData.canLayAll0,h2,c,Bool.and_self],by simp only[PyData.depthAll];lia,by rw[zM,zM,e]}
def Ly.tup{S:av}{n:π}{ds:δ D}(h:∀d∈ds,Ly S n d):Ly S (n+1) (.tup ds):=by let⟨ps,a,c,e,_⟩:=Ly.all h;show{.tuple ps,by simp only[Dp];show⟨ps,rfl,a⟩,by simp only[PyData.canLay0];show c,by simp only[PyData.depth];show yH ‹_›}
theorem Ly.str{S:av}{z:ρ}(h:PyData.strOk z=ϱ):Ly S 0 (.str z):={.str z,by simp only[Dp],by simp only[PyData.canLay0];show h,by simp only[PyData.depth];show zU _}
def Ly.le(h:Ly S n d)(l:n<=m):Ly S m d:=by let⟨p,a,b,c⟩:=h;show{p,a,b,zj c l}
theorem Ly.aA:Ly S 0 .aA:={.none,by simp only[Dp],by simp only[PyData.canLay0],by simp only[PyData.depth];show zU _}
def Ly.plain(h:dU d=ϱ):Ly S 0 d:=by cases d with|aA=>show Ly.aA|int i=>show{.int i,by simp only[Dp],by simp only[PyData.canLay0],by simp only[PyData.depth];show zU _}|str z=>have h:(ω (z.cps.size<=40)&&PyData.strOk z)=ϱ:=h;rw[zN]at h;show Ly.str h.2|_=>cases h
def Ly.dl(h:Ly S n d):∃p,Dl S d p/\p.canLay0=ϱ/\p.depth<=n:=by let⟨p,a,b,c⟩:=h;show{p,?_,b,c};cases d with|ref x=>simp only[Dp]at a|_=>show a
def uD(ps:δ PyData):PyData.eqv (.list ps) (.list [])=ps.isEmpty:=by cases ps<;>simp[PyData.eqv,PyData.eqvAll]
def Lu(ps:δ PyData):PyData.eqv (.tuple ps) (.tuple [])=ps.isEmpty:=by cases ps<;>simp[PyData.eqv,PyData.eqvAll]
def eq_nil{S:av}{a b:ε}{ds:δ D}{R:KD}(e1:S a=ϑ (.lst ds))(e2:S b=ϑ (.lst []))(h:∀d∈ds,Ly S 60 d)(q:R (.bl ds.isEmpty) S):J6 false (.ref a) (.ref b) S R:=by let⟨ps,c,e,i,g⟩:=Ly.all h;show{.list ps,.list [],⟨ds,ps,e1,rfl,c⟩,{[],[],e2,rfl,by simp only[DpAll]},by simp only[PyData.canLay0];show e,by simp only[PyData.canLay0,PyData.canLayAll0],.inl<|by simp only[PyData.depth];show zR ‹_› `a,?_};rw[qa zd,uD,show ps.isEmpty=ds.isEmpty by cases ps<;>cases ds<;>first|rfl|cases g];show q
def Ox{S:av}{ds:δ D}{R:KD}(h:∀d∈ds,Ly S 60 d)(q:R (.bl ds.isEmpty) S):J6 false (.tup ds) (.tup []) S R:=by let⟨ps,a,c,g,e⟩:=Ly.all h;show{.tuple ps,.tuple [],by simp only[Dl,Dp];show⟨ps,rfl,a⟩,by simp only[Dl,Dp];show{[],rfl,by simp only[DpAll]},by simp only[PyData.canLay0];show c,by simp only[PyData.canLay0,PyData.canLayAll0],.inl<|by simp only[PyData.depth];lia,?_};rw[qa zd,Lu,show ps.isEmpty=ds.isEmpty by cases ps<;>cases ds<;>first|rfl|cases e];show q
def Wg.all(h:Wg cs ws):∀d∈ws,dU d=ϱ:=by unfold Wg at h;induction h with|nil=>show λz h=>(nomatch h)|cons r t a=>intro d hd;rcases ze.mp hd with e|hd;rw[e];show r.2;show a d hd
theorem Wg.ly{cs:δ<|ρ×ρ}{ws:δ D}(h:Wg cs ws){S:av} : Ly S 1 (.tup ws):=Ly.tup λd hd=>Ly.plain<|h.all d hd
theorem KI.ly{cs:δ<|ρ×ρ}{kn:Kn}(c:KI cs kn){ss:δ ρ}(hp:ss.Perm (kn.map (·.1))){S:av} : ∀d∈ss.map D.str,Ly S 60 d:=λd hd=>by let⟨z,a,rfl⟩:=zf.mp hd;let⟨r,hr,e⟩:=zf.mp<|hp.mem_iff.mp a;rw[<-e];show(Ly.str (gu _ (c.ok r hr).1).2.2).le<|zU _
inductive Lv (ds:δ D) (S:av) (R:KD) (Z:KX):η
 |mk (l cs lk kn) (_:ds=[.ref l,.tup<|cs.map aB,.ref lk]) (_:Gd cs) (_:S l=ϑ .well) (_:S lk=ϑ (.b_<|gA kn)) (_:KI cs kn) (_:∀d,GD KT cs kn d->R d S)
def Gy(T:Txt w K mg t):Ok P w base T.Ah 4 Lv:=by
 show T.Ah.F.bV iP ?_;obtain⟨l,cs,lk,kn,e,y,hw,X,Q,q⟩;have x:=Q.len;show{_,(sc (cM (i:=3) iP.nd<|aI T.aT (bE T) hr<|al 0<|ac di an)<|sc (cM (i:=4) iP.nd<|cb BD T.iK fM<|al 2 an)<|sc (si (twd<|twor (bf a_ `u (dv 4)<|cP an)<|tw1<|bf vA `u (dv 3) di) (sc (cM (i:=5) iP.nd<|aI T.B6 (EV T) hr<|al 0 an)<|sc (si (bf vB `u (dv 5)<|dv 2) (s1<|sr<|bY<|ac ds<|al 5<|ac (aI T.kM (p_ T) hr<|al 0<|al 1 an) an) s0)<|s1<|sr<|bY<|ac ds<|al 5<|ac (aI T.kM (p_ T) hr<|al 0<|al 1 an) an) s0)<|sc (cM (i:=5) iP.nd<|ix `u (dv 4)<|aI T.aT (bE T) hr<|al 0<|ac (cb aW T.aU aH<|al 4 an) an)<|sc (si (bf a_ `u (dv 3) di) (s1<|sr<|bY<|ac ds<|al 5 an) s0)<|sc (si (bf a_ `u (dv 3) di) (s1<|sr<|bY<|ac ds<|al 5<|ac (ix `u (dv 2)<|dv 5) an) s0)<|s1<|sr<|bY<|ac ds<|al 5<|ac (aI T.kM (p_ T) hr<|al 0<|al 1 an) an),?_};have ek:(gA kn).map (·.1)=(kn.map (·.1)).map Sum.inr:=by unfold gA;rw[zG,zG];rfl
 have el:(gA kn).length<64:=by unfold gA;rw[zc];show zR ‹_› `a
 show !{l,_,rfl,`a,`a,hw,λway h0 h1=>!{lk,gA kn,kn.map (·.1),rfl,X,ek,el,λss hp hs p oy=>?_}};show !{pW,λp2 I=>?_};generalize E:(S.set p<|.lst<|ss.map D.str).set p2 (.lst [])=A;have sub:Sub S A:=by rw[<-E];show(Sub.new oy).trans<|.new I
 have j:=sub _ _ hw;have C:=sub _ _ X;have O:A p=ϑ (.lst<|ss.map D.str):=by rw[<-E,ah (show p≠p2 by rintro rfl;rw[ae]at I;cases I),ae]
 have N:A p2=ϑ (.lst []):=by rw[<-E,ae]
 have c:∀d,GD KT cs kn d->Fo A (R d):=λd hd=>{S,sub,q d hd};have U:∀z,bL (gA kn) (.inr z)=(gB kn z).map D.tup:=Cj kn;have B:∀z,(bL (gA kn)<|.inr z).isSome=(gB kn z).isSome:=λz=>by rw[U];cases gB kn z<;>rfl
 show eq_nil O N (Q.ly hp) !⟨?_⟩;show bH (λh=>?_) λh=>!!⟨bH (λZ=>?_) λZ=>?_⟩;show !{l,[],rfl,rfl,j,λd ⟨z,m,e⟩=>?_};subst e;show !!⟨.inr {gA kn,.inr z,C,rfl,_,rfl,?_}⟩;show bH (λs=>?_) λs=>?_;show !!!{l,cs,rfl,y,j,λws g=>{gH,c _<|.inr<|.inl {z,ws,Cg m,g,(B z).symm.trans s,rfl}}};have M:gB kn z=ϐ:=by have:=(B z).symm.trans s;cases e:gB kn z with|none=>rfl|some _=>rw[e]at this;cases this
 show !!!{l,cs,rfl,y,j,λws g=>{gH,c _<|.inl ⟨z,ws,m,g,M,rfl⟩}};show !{l,[],rfl,rfl,j,λd ⟨z,m,e⟩=>?_};subst e;show !!⟨.inr {gA kn,.inr z,C,rfl,_,rfl,?_}⟩;show bH (λs=>?_) λs=>?_;show !!!{l,cs,rfl,y,j,λws g=>{gH,c _<|.inr<|.inl {z,ws,Cg m,g,(B z).symm.trans s,rfl}}};have M:gB kn z=ϐ:=by have:=(B z).symm.trans s;cases e:gB kn z with|none=>rfl|some _=>rw[e]at this;cases this
 show !!!{l,cs,rfl,y,j,λws g=>{gH,c _<|.inl ⟨z,ws,m,g,M,rfl⟩}};have mI:0<(ss.map D.str).length:=by have h:(ss.map D.str).isEmpty=ϰ:=h;cases ss with|nil=>(cases h)|cons a ss=>show xb _
 have a0:(ss.map D.str).length<=50:=by rw[zc,hp.length_eq,zc];show x
 show !!!!⟨.inl {_,O,l,_,rfl,`b,uy `b<|`b,j,λn H Y_=>?_}⟩;let⟨v,Y,a2⟩:=FQ (l:=ss.map D.str) H Y_;let⟨z,m,rfl⟩:=zf.mp<|zK a2;let⟨ws,g⟩:=k9<|hp.mem_iff.mp m;let⟨r,J⟩:=Q.ok _<|jr g;have o:(gB kn z).isSome=ϱ:=by rw[g];rfl
 show{_,_,O,Y,_,rfl,_,rfl,?_};show bH (λG=>?_) λG=>?_;show !{cF,c _<|.inr<|.inr ⟨z,r,o,rfl⟩};show !!⟨?_⟩;show bH (λG=>?_) λG=>?_;show !!!{gA kn,.tup ws,C,by rw[U,g];rfl,gH,c _<|.inr<|.inl ⟨z,ws,r,J,o,rfl⟩};show !!!{l,cs,rfl,y,j,λVe L=>{gH,c _<|.inr<|.inl ⟨z,Ve,r,L,o,rfl⟩}}
def bF{p:χ}{A B:η}(h:p=ϰ)(q:B):if p=ϱ then A else B:=by rw[h];show aL q
def oz{p:χ}{A B:η}(h:p=ϱ)(q:A):if p=ϱ then A else B:=by rw[h];show bX q
def Mo(sp:jb):jb:=λds S R Z=>∃R0 Z0,sp ds S R0 Z0/\(∀d S',R0 d S'->R d S')/\∀C S',Z0 C S'->Z C S'
theorem Iy{P:Ψ}{w:Ω}{K:Φ}{mg:ρ->θ ξ}{base:Γ}{k:π}{f:ε}{fd:FuncData}{ps:δ ρ}{sp:jb}(F:bO P w K mg base (fz P w mg) k f fd ps<|qH K sp):bO P w K mg base (fz P w mg) k f fd ps (qH K<|Mo sp):=F.imp <| by rintro vs H Q E ⟨ds,S,R,Z,v,g,⟨e,c,h,h1,h2⟩,i,a⟩;show{ds,S,e,c,v,g,h,λd S' u H' r=>i d S' u H'<|h1 _ _ r,λC S' H' z=>a C S' H'<|h2 _ _ z}
abbrev Lw:=k7
abbrev uE:=gr
abbrev EX:=jo
def TK(kn:Kn)(d:D)(dD:Kn):Prop:=(∃(n:ρ) (z:ρ) (ws:δ D),(n ="put"\/n ="change")/\d=.tup [.str n,.str z,.tup ws]/\dD=m7 kn z ws)\/∃z,(gB kn z).isSome=ϱ/\d=.tup [.str "take",.str z]/\dD=uC kn z
inductive AJ (t:ft) (ds:δ D) (S:av) (R:KD) (Z:KX):η
 |mk (a fs) (_:S a=ϑ (.ins t.aw fs)) (_:fs.map Prod.fst=(["columns","deeds","runs"]:δ ρ)) (_:((∃k v,ds=[.ref a,.tup [.str "put",k,v]]/\Lw t [.ref a,k,v] S R Z)\/(∃k v,ds=[.ref a,.tup [.str "change",k,v]]/\uE t [.ref a,k,v] S R Z)\/∃k,ds=[.ref a,.tup [.str "take",k]]/\EX t [.ref a,k] S R Z))
theorem lk0:∀{fs:δ (ρ×D)},m∉fs.map Prod.fst->fs.lookup m=ϐ|[],_=>rfl| (a,b)::fs,h=>by rw[zD,ze]at h;rw[ye,show(m==a)=ϰ from beq_false_of_ne λe=>h<|.inl e];show lk0 λq=>h<|.inr q
theorem Vf{fs:δ<|ρ×D}(h:fs.map Prod.fst=(["columns","deeds","runs"]:δ ρ)){m:ρ}(hm:m∉(["columns","deeds","runs"]:δ ρ)):fs.lookup m=ϐ:=lk0<|by rw[h];show hm
inductive wY (ds:δ D) (S:av) (R:KD) (Z:KX):η
 |mk (lk kn d dD) (_:ds=[.ref lk,d]) (_:S lk=ϑ (.b_<|gA kn)) (_:kn.length<=100) (_:TK kn d dD) (_:R .aA<|S.set lk<|.b_<|gA dD)
def Ck(T:Txt w K mg t):Ok P w base T.sL 1 wY:=by show T.sL.F.bV EK ?_;obtain⟨lk,kn,d,dD,e,a,hn,hd,q⟩;show{_,(s1<|si (bf a_ `u (ix `u (dv 1) di) ds) (s1<|se<|mp1 (dv 0)<|ix `u (dv 1) di)<|s1<|sd `u (dv 0) (ix `u (dv 1) di)<|ix `u (dv 1) di),?_};have hl:(gA kn).length<sizeLine:=bg (by unfold gA;rw[zc];show zj ‹_› `a);rcases hd with⟨n,z,ws,g,rfl,rfl⟩|⟨z,c,rfl,rfl⟩;show !!!⟨?_⟩;show bH (λh=>?_) λh=>?_;have h:n ="take":=zy h;rcases g with e|e<;>rw[e]at h<;>show absurd h `a;show !!!!!{lk,gA kn,.inr z,rfl,a,rfl,hl,?_};rw[TF];show fo q;show !!!⟨?_⟩;show bH (λh=>?_) λh=>absurd h `a;let⟨ws,i⟩:=Option.isSome_iff_exists.mp c;show !{lk,gA kn,rfl,a,_,rfl,_,rfl,gA kn,.inr z,.tup ws,a,rfl,by rw[Cj,i];rfl,?_};rw[TH];show fo q
def Dd3(d:D):Prop:=(∃k v,d=.tup [.str "put",k,v])\/(∃k v,d=.tup [.str "change",k,v])\/∃k,d=.tup [.str "take",k]
inductive oA (ds:δ D) (S:av) (R:KD) (Z:KX):η
 |mk (d) (_:ds=[d]) (_:Dd3 d) (_:R .aA S)
def ir(T:Txt w K mg t):Ok P w base T.fZ 1 oA:=by show T.fZ.F.bV vK ?_;obtain⟨d,e,hd,q⟩;show{_,(sc (si (twd<|twor (bU<|tv<|cb bB T.ao ai<|al 0<|ac (j9 T.bc aR) an)<|twor (bf a_ `u (cb aW T.aU aH<|al 0 an) di)<|tw1<|bU<|tv<|cb bB T.ao ai<|ac (ix `u (dv 0) di)<|ac (j9 T.iJ eG) an) (s1<|qJ ⟨T.iM⟩ T.mU<|ac ds an) s0)<|s1<|si (bf ja `u (mgk T.rP `a (gK T.pI)<|ix `u (dv 0) di)<|cb aW T.aU aH<|al 0 an) (s1<|qJ ⟨T.iM⟩ T.mU<|ac ds an) s0),?_};rcases hd with⟨k,v,rfl⟩|⟨k,v,rfl⟩|⟨k,rfl⟩;show !{_,_,_,_,rfl,aJ,rfl,_,rfl,aL !!!⟨bF rfl !!{_,_,_,_,rfl,bp,rfl,_,rfl,aL !!!!!!⟨bF rfl<|fo q⟩}⟩};show !{_,_,_,_,rfl,aJ,rfl,_,rfl,aL !!!⟨bF rfl !!{_,_,_,_,rfl,bp,rfl,_,rfl,aL !!!!!!⟨bF rfl<|fo q⟩}⟩};show !{_,_,_,_,rfl,aJ,rfl,_,rfl,aL !!!⟨bF rfl !!{_,_,_,_,rfl,bp,rfl,_,rfl,aL !!!!!!⟨bF rfl<|fo q⟩}⟩}
def Ql(t:ft):jb:=λds S R Z=>AJ t ds S (λz=>R .aA) Z
def Oy(T:Txt w K mg t):Ok P w base T.sI 7 (Ql t):=by have c:sE P w mg base T.cO 6 (Mo<|Lw t):=Iy<|Lj T;have g:sE P w mg base T.bw 6 (Mo<|uE t):=Iy<|wW T;have i:sE P w mg base T.cw 6 (Mo<|EX t):=Iy<|Gw T;show T.sI.F.ok EG (by rintro ds S R Z ⟨_,_,_,_,h⟩;rcases h with⟨_,_,e,_⟩|⟨_,_,e,_⟩|⟨_,e,_⟩<;>rw[e]<;>rfl) ?_;rintro gF A outer s H E ds S R Z hr ⟨a,fs,ha,j,h⟩;rcases h with⟨k,v,e,h⟩|⟨k,v,e,h⟩|⟨k,e,h⟩;subst e;show{_,(sc (se<|aI T.fZ (ir T) hr<|al 1 an)<|s1<|si (bf a_ `u (ix `u (dv 1) di) ds) (s1<|se<|nj (dv 0) T.aj T.cO c hr<|ac (ix `u (dv 1) di)<|ac (ix `u (dv 1) di) an)<|s1<|si (bf a_ `u (ix `u (dv 1) di) ds) (s1<|se<|nj (dv 0) T.aj T.bw g hr<|ac (ix `u (dv 1) di)<|ac (ix `u (dv 1) di) an)<|s1<|se<|nj (dv 0) T.aj T.cw i hr<|ac (ix `u (dv 1) di) an),?_};show !!{.inl ⟨k,v,rfl⟩,?_};show !!!⟨?_⟩;show bH (λx=>?_) λh=>absurd h `a;show !{a,_,rfl,ha,Vf j<|`a,_,rfl,_,rfl,_,rfl,_,rfl,λx=>R .aA,Z,h,λd S' r=>fo r,λC S' z=>fo z};subst e;show{_,(sc (se<|aI T.fZ (ir T) hr<|al 1 an)<|s1<|si (bf a_ `u (ix `u (dv 1) di) ds) (s1<|se<|nj (dv 0) T.aj T.cO c hr<|ac (ix `u (dv 1) di)<|ac (ix `u (dv 1) di) an)<|s1<|si (bf a_ `u (ix `u (dv 1) di) ds) (s1<|se<|nj (dv 0) T.aj T.bw g hr<|ac (ix `u (dv 1) di)<|ac (ix `u (dv 1) di) an)<|s1<|se<|nj (dv 0) T.aj T.cw i hr<|ac (ix `u (dv 1) di) an),?_};show !!{.inr<|.inl ⟨k,v,rfl⟩,?_};show !!!⟨?_⟩;show bH (λh=>absurd h<|`a) λx=>?_;show !!!⟨?_⟩;show bH (λx=>?_) λh=>absurd h `a;show !{a,_,rfl,ha,Vf j<|`a,_,rfl,_,rfl,_,rfl,_,rfl,λx=>R .aA,Z,h,λd S' r=>fo r,λC S' z=>fo z};subst e;show{_,(sc (se<|aI T.fZ (ir T) hr<|al 1 an)<|s1<|si (bf a_ `u (ix `u (dv 1) di) ds) (s1<|se<|nj (dv 0) T.aj T.cO c hr<|ac (ix `u (dv 1) di)<|ac (ix `u (dv 1) di) an)<|s1<|si (bf a_ `u (ix `u (dv 1) di) ds) (s1<|se<|nj (dv 0) T.aj T.bw g hr<|ac (ix `u (dv 1) di)<|ac (ix `u (dv 1) di) an)<|s1<|se<|nj (dv 0) T.aj T.cw i hr<|ac (ix `u (dv 1) di) an),?_};show !!{.inr<|.inr ⟨k,rfl⟩,?_};show !!!⟨?_⟩;show bH (λh=>absurd h<|`a) λx=>?_;show !!!⟨?_⟩;show bH (λh=>absurd h<|`a) λx=>?_;show !{a,_,rfl,ha,Vf j<|`a,_,rfl,_,rfl,λx=>R .aA,Z,h,λd S' r=>fo r,λC S' z=>fo z}
def Co(T:Txt w K mg t):Ok P w base T.pS 7 (AJ t):=by have c:sE P w mg base T.cO 6 (Mo<|Lw t):=Iy<|Lj T;have g:sE P w mg base T.bw 6 (Mo<|uE t):=Iy<|wW T;have i:sE P w mg base T.cw 6 (Mo<|EX t):=Iy<|Gw T;show T.pS.F.ok Im (by rintro ds S R Z ⟨_,_,_,_,h⟩;show by rcases h with⟨_,_,e,_⟩|⟨_,_,e,_⟩|⟨_,e,_⟩<;>rw[e]<;>rfl) λgF A outer s H E ds S R Z hr ⟨a,fs,ha,j,h⟩=>?_;rcases h with⟨k,v,e,h⟩|⟨k,v,e,h⟩|⟨k,e,h⟩;subst e;show{_,(sc (si (bf a_ `u (ix `u (dv 1) di) ds) (s1<|sr<|nj (dv 0) T.aj T.cO c hr<|ac (ix `u (dv 1) di)<|ac (ix `u (dv 1) di) an) s0)<|sc (si (bf a_ `u (ix `u (dv 1) di) ds) (s1<|sr<|nj (dv 0) T.aj T.bw g hr<|ac (ix `u (dv 1) di)<|ac (ix `u (dv 1) di) an) s0)<|s1<|sr<|nj (dv 0) T.aj T.cw i hr<|ac (ix `u (dv 1) di) an),?_};show !!!⟨?_⟩;show bH (λx=>?_) λh=>absurd h `a;show !{a,_,rfl,ha,Vf j<|`a,_,rfl,_,rfl,_,rfl,_,rfl,R,Z,h,λd S' r=>fo r,λC S' z=>fo z};subst e;show{_,(sc (si (bf a_ `u (ix `u (dv 1) di) ds) (s1<|sr<|nj (dv 0) T.aj T.cO c hr<|ac (ix `u (dv 1) di)<|ac (ix `u (dv 1) di) an) s0)<|sc (si (bf a_ `u (ix `u (dv 1) di) ds) (s1<|sr<|nj (dv 0) T.aj T.bw g hr<|ac (ix `u (dv 1) di)<|ac (ix `u (dv 1) di) an) s0)<|s1<|sr<|nj (dv 0) T.aj T.cw i hr<|ac (ix `u (dv 1) di) an),?_};show !!!⟨?_⟩;show bH (λh=>absurd h<|`a) λx=>?_;show !!!⟨?_⟩;show bH (λx=>?_) λh=>absurd h `a;show !{a,_,rfl,ha,Vf j<|`a,_,rfl,_,rfl,_,rfl,_,rfl,R,Z,h,λd S' r=>fo r,λC S' z=>fo z};subst e;show{_,(sc (si (bf a_ `u (ix `u (dv 1) di) ds) (s1<|sr<|nj (dv 0) T.aj T.cO c hr<|ac (ix `u (dv 1) di)<|ac (ix `u (dv 1) di) an) s0)<|sc (si (bf a_ `u (ix `u (dv 1) di) ds) (s1<|sr<|nj (dv 0) T.aj T.bw g hr<|ac (ix `u (dv 1) di)<|ac (ix `u (dv 1) di) an) s0)<|s1<|sr<|nj (dv 0) T.aj T.cw i hr<|ac (ix `u (dv 1) di) an),?_};show !!!⟨?_⟩;show bH (λh=>absurd h<|`a) λx=>?_;show !!!⟨?_⟩;show bH (λh=>absurd h<|`a) λx=>?_;show !{a,_,rfl,ha,Vf j<|`a,_,rfl,_,rfl,R,Z,h,λd S' r=>fo r,λC S' z=>fo z}
noncomputable def p3(p:ρ×ρ×ρ):D:=.tup [.str p.1,.str p.2.1,.str p.2.2]
noncomputable def k_(z:ρ):Bool:=ω (z ="up")||ω (z ="down")
noncomputable def Cp(z:ρ):Bool:=ω (z ="first")||ω (z ="last")
def Lx(z a b:ρ)(x y:V):(([(a,x),(b,y)]:δ (ρ×V)).lookup z).isSome=(ω (z=a)||ω (z=b)):=by rw[ye,ye];by_cases h:z=a;rw[show(z==a)=ϱ by simp[h],zu h];rfl;rw[show(z==a)=ϰ by simp[h],zt h];by_cases h2:z=b;rw[show(z==b)=ϱ by simp[h2],zu h2];rfl;rw[show(z==b)=ϰ by simp[h2],zt h2];rfl
noncomputable def gv(cs:δ<|ρ×ρ)(p:ρ×ρ×ρ):Bool:=ω (p.1∈cs.map Prod.fst)&&(k_ p.2.1&&Cp p.2.2)
noncomputable def Cq(cs:δ<|ρ×ρ)(ps:δ<|ρ×ρ×ρ)(wy:ρ):Bool:=ω (ps.length<=8)&&(ps.all (gv cs)&&(ω ((ps.map Prod.fst).Nodup)&&k_ wy))
def oB(l:δ<|ρ×D)(z:ρ)(h:bL (ia l) (.inr z)=ϑ d):∃p∈l,p.1=z/\d=p.2:=by
 have all:∀(l:δ (ρ×D))(c:δ (Key×D)),bL (l.foldl (λc p=>dput c (.inr p.1) p.2) c) (.inr z)=ϑ d->(∃p∈l,p.1=z/\d=p.2)\/bL c (.inr z)=ϑ d:=by intro l;induction l with|nil=>intro c h;show .inr h|cons p l a=>intro c h;rcases a _ h with⟨q,hq,e⟩|h;show .inl {q,zo _ hq,e};rw[BE]at h;by_cases e:(.inr z:Key)=.inr p.1;rw[qc e]at h;show .inl {p,zB,(yT e).symm,(zQ h).symm};rw[qa e]at h;show .inr h
 rcases all l [] h with h|h;show h;cases h
def Pok(p:ρ×ρ×ρ):Prop:=p.1.cps.size<=1000/\p.2.1.cps.size<=1000/\p.2.2.cps.size<=1000
inductive Cr (ds:δ D) (S:av) (R:KD) (Z:KX):η
 |mk (z) (_:ds=[.str z]) (_:R (.bl<|k_ z) S)
def wZ(T:Txt w K mg t):Ok P w base T.Ac 1 Cr:=by show T.Ac.F.bV Ij ?_;obtain⟨z,e,q⟩;show{_,(s1<|sr<|lU (cb bB T.ao ai<|al 0<|ac (j9 T.iJ eG) an)<|CZ<|cmk T.BX (dv 0)<|dg (v:=.ref t.kz) T.x8 rfl λx=>i7 _),?_};show !{_,_,_,_,rfl,bp,rfl,_,rfl,bX !{z,rfl,rfl,?_}};rw[Lx];show fo q
inductive Cs (ds:δ D) (S:av) (R:KD) (Z:KX):η
 |mk (z) (_:ds=[.str z]) (_:R (.bl<|Cp z) S)
def Iz(T:Txt w K mg t):Ok P w base T.Ey 1 Cs:=by show T.Ey.F.bV Ik ?_;obtain⟨z,e,q⟩;show{_,(s1<|sr<|lU (cb bB T.ao ai<|al 0<|ac (j9 T.iJ eG) an)<|CZ<|cmk T.BY (dv 0)<|dg (v:=.ref t.kB) T.x9 rfl λx=>i7 _),?_};show !{_,_,_,_,rfl,bp,rfl,_,rfl,bX !{z,rfl,rfl,?_}};rw[Lx];show fo q
inductive oE (ds:δ D) (S:av) (R:KD) (Z:KX):η
 |mk (cs z) (_:ds=[.tup<|cs.map aB,.str z]) (_:Gd cs) (_:z.cps.size<=1000) (_:(∀k,(z,k)∈cs->R (.str k) S)) (_:(z∉cs.map Prod.fst->R .aA S))
def iu(T:Txt w K mg t):Ok P w base T.eN 3 oE:=by
 show T.eN.F.bV vI ?_;obtain⟨cs,z,e,o,j,n,i⟩;show{_,(sc (si (bU<|tv<|aI T.sH (ur T) hr<|al 1 an) (s1<|sr dn) s0)<|s1<|sr<|mg1 `u (ct Ks T.K5 FP<|al 0 an)<|dv 1),?_};show !{.str z,rfl,gt_str j,_,rfl,?_};show bH (λh=>?_) λh=>?_;have h:mr z=ϰ:=nt h;show fo<|i λm=>?_;let⟨c,a,rfl⟩:=zf.mp m;rw[(o.2.2 c a).1]at h;cases h;have l:cs.map aB=(cs.map λc=>(c.1,D.str c.2)).map F7:=by rw[zG];rfl
 show !{(cs.map λc=>(c.1,D.str c.2)),by rw[l],λp hp=>{p,_,rfl,ae,_,rfl,_,.inr z,ae,rfl,S,.new hp,?_}};have h1:=wH (cs.map λc=>(c.1,D.str c.2)) z;cases g:bL (ia<|cs.map λc=>(c.1,D.str c.2)) (.inr z) with|none=>(rw[g]at h1;show i λm=>?_;let⟨c,a,e⟩:=zf.mp m;have:(cs.map λc=>(c.1,D.str c.2)).any (λp=>ω<|p.1=z)=ϱ:=List.any_eq_true.mpr {_,zf.mpr ⟨c,a,rfl⟩,zu e};rw[this]at h1;cases h1)|some d=>let⟨p,hp,e1,rfl⟩:=oB _ _ g;let⟨c,a,rfl⟩:=zf.mp hp;have e1:c.1=z:=e1;show n c.2<|by rw[<-e1];show a
inductive w5 (ds:δ D) (S:av) (R:KD) (Z:KX):η
 |mk (cs p) (_:ds=[.tup<|cs.map aB,p3 p]) (_:Gd cs) (_:Pok p) (_:R (.bl<|gv cs p) S)
def EY(T:Txt w K mg t):Ok P w base T.Ae 4 w5:=by
 have g:Ok P w base T.eN 3 (λds S R x=>∃cs z,ds=[.tup<|cs.map aB,.str z]/\Gd cs/\z.cps.size<=1000/\∀d,ak d=!decide (z∈cs.map Prod.fst)->R d S):=(iu T).HN <| by rintro ds S R Z ⟨cs,z,e,a,c,q⟩;show{cs,z,e,a,c,λk i=>q _<|by rw[zu<|zf.mpr {_,i,rfl}];rfl,λhn=>q _<|by rw[zt hn];rfl}
 show T.Ae.F.bV EF ?_;obtain⟨cs,p,e,a,hp,q⟩;show{_,(sc (si (twd<|twor (bU<|tv<|cb bB T.ao ai<|al 1<|ac (j9 T.bc aR) an)<|tw1<|bf ja `u (cb aW T.aU aH<|al 1 an) di) (s1<|sr db) s0)<|s1<|sr<|lU (cm i_ `u (aI T.eN g hr<|al 0<|ac (ix `u (dv 1) di) an) dn)<|lU (aI T.Ac (wZ T) hr<|ac (ix `u (dv 1) di) an)<|CZ<|aI T.Ey (Iz T) hr<|ac (ix `u (dv 1) di) an),?_};show !{_,_,_,_,rfl,aJ,rfl,_,rfl,aL !!!⟨aL ?_⟩};show !!!{cs,p.1,rfl,a,hp.1,λd hd=>!⟨?_⟩};unfold gv at q;show bH (λh=>?_) λh=>?_;have h:(!ak d)=ϱ:=h;rw[hd,Bool.not_not]at h;rw[h,yf]at q;show !!{p.2.1,rfl,_,rfl,?_};show bH (λh2=>?_) λh2=>?_;rw[h2,yf]at q;show !!{p.2.2,rfl,fo q};rw[h2,ya]at q;show fo q;have h:(!ak d)=ϰ:=h;rw[hd,Bool.not_not]at h;rw[h,ya]at q;show fo q
inductive my (t:ft) (ds:δ D) (S:av) (R:KD) (Z:KX):η
 |mk (cs ps wy) (_:ds=[.tup<|cs.map aB,.tup [.tup<|ps.map p3,.str wy]]) (_:Gd cs) (_:(∀p∈ps,Pok p)) (_:(Cq cs ps wy=ϱ->R .aA S)) (_:(Cq cs ps wy=ϰ->Z t.mP S))
def uF(T:Txt w K mg t):Ok P w base T.kG 5 (my t):=by
 show T.kG.F.bV gk ?_;obtain⟨cs,ps,wy,e,J,hp,j,g⟩;have s:(ps.map p3).length=ps.length:=zc _;show{_,(sc (si (twd<|twor (bU<|tv<|cb bB T.ao ai<|al 1<|ac (j9 T.bc aR) an)<|tw1<|bf ja `u (cb aW T.aU aH<|al 1 an) di) (s1<|qJ ⟨T.du⟩ T.eZ<|ac ds an) s0)<|sc (cM (i:=2) gk.nd<|ix `u (dv 1) di)<|sc (si (twd<|twor (bU<|tv<|cb bB T.ao ai<|al 2<|ac (j9 T.bc aR) an)<|tw1<|bf tO `u (cb aW T.aU aH<|al 2 an)<|dg (v:=.int 8) T.kD {_,rfl} λq=>aS _) (s1<|qJ ⟨T.du⟩ T.eZ<|ac ds an) s0)<|sc (si (bU<|tv<|cb jA T.jD fw<|ac (vE (N:=["part","columns"]) (src:=[none,some 0]) (mf (ag ml) ["columns","order","parts","names"] rfl rfl<|`c) (Kl<|dv 2) (u_<|show(["part","columns"]:δ ρ).Nodup by trivial) (bj rfl) bq (λq q q q q=>u9) λq q q q q=>(aI T.Ae (EY T) hr<|al 1<|al 0 an)) an) (s1<|qJ ⟨T.du⟩ T.eZ<|ac ds an) s0)<|sc (Sz (i:=3) (N:=["part"]) (src:=[none]) gk.nd (mf (ag ml) ["columns","order","parts","names"] rfl rfl<|`c) (Kl<|dv 2) (u_<|show(["part"]:δ ρ).Nodup by trivial) (bj rfl) bq (λq q q q q=>u9) λq q q q q=>(ix `u (dv 0) di))<|sc (si (bf ja `u (lse (dv 3) T.aU T.Qe)<|cb aW T.aU aH<|al 3 an) (s1<|qJ ⟨T.du⟩ T.eZ<|ac ds an) s0)<|s1<|si (bU<|tv<|aI T.Ac (wZ T) hr<|ac (ix `u (dv 1) di) an) (s1<|qJ ⟨T.du⟩ T.eZ<|ac ds an) s0),?_};show !{_,_,_,_,rfl,aJ,rfl,_,rfl,aL !!!⟨aL ?_⟩};show !!!{_,_,_,_,rfl,aJ,rfl,_,rfl,aL !!!⟨?_⟩};show bH (λh=>?_) λh=>?_;have h:(8:ν)<(((ps.map p3).length:π):ν):=zy h;rw[s]at h;show{pX,fo<|g<|by unfold Cq;rw[zt<|by omega];rfl};have h:¬(8:ν)<(((ps.map p3).length:π):ν):=zW h;rw[s]at h;have E:ps.length<=8:=by omega
 unfold Cq at j g;rw[zu E,yf]at j g;show !{_,.inl rfl,?_};show fe (λd v=>∃p,d=p3 p/\v=.bl (gv cs p)) trivial (by change(ps.map p3).length<=_;omega) (λd hd Q n=>?_) λout z p y=>?_;let⟨p,l,rfl⟩:=zf.mp hd;show !!{cs,p,rfl,J,hp p l,n _ ⟨p,rfl,rfl⟩};have A:out=(ps.map<|gv cs).map D.bl:=by have:∀{ps:δ (ρ×ρ×ρ)}{out:δ D},Paired (λd v=>∃p,d=p3 p/\v=.bl (gv cs p)) (ps.map p3) out->out=(ps.map<|gv cs).map D.bl:=(by intro ps;induction ps with|nil=>(intro out h;cases h;rfl)|cons x ps H=>intro out h;cases h with|cons r t=>let⟨p,e1,e2⟩:=r;have:x=p:=(by let⟨a,b,c⟩:=x;let⟨I,C,B⟩:=p;unfold p3 at e1;injection e1 with e1;injection e1 with h1 e1;injection e1 with h2 e1;injection e1 with h3 _;injection h1 with h1;injection h2 with h2;injection h3 with h3;rw[show a=I from h1,show b=C from h2,show c=B from h3]);rw[e2,H t,<-this];rfl);show this z
 subst A;show{.ref p,ps.map<|gv cs,rfl,ae,_,rfl,?_};rw[show(ps.map<|gv cs).all id=ps.all (gv cs) from all_map];show bH (λha=>?_) λha=>?_;have ha:=nt ha;show{pX,S,.new y,g<|by rw[ha];rfl};have ha:=nf ha;rw[ha,yf]at j g;show !{_,.inl rfl,?_};show comp_map (λd=>match d with|.tup (x::_)=>x|_=>.aA) trivial (by change(ps.map p3).length<=_;omega) (λd hd Q n=>?_) λp2 G=>?_;let⟨p,l,rfl⟩:=zf.mp hd;show !!⟨n⟩;have e3:(ps.map p3).map (λd=>match d with|.tup (x::_)=>x|_=>.aA)=(ps.map Prod.fst).map D.str:=by rw[zG,zG];rfl
 rw[show({ps.map p3,λq=>True}:HL).xs=ps.map p3 from rfl,e3];have m:Sub S ((S.set p<|.lst<|(ps.map<|gv cs).map D.bl).set p2<|.lst<|(ps.map Prod.fst).map D.str):=(Sub.new y).trans<|.new G;have o:((S.set p<|.lst<|(ps.map<|gv cs).map D.bl).set p2<|.lst<|(ps.map Prod.fst).map D.str) p2=ϑ (.lst<|(ps.map Prod.fst).map D.str):=ae;generalize (S.set p<|.lst<|(ps.map<|gv cs).map D.bl).set p2 (.lst<|(ps.map Prod.fst).map D.str)=L at m o⊢;show !{ps.map Prod.fst,o,by rw[zc];show zR ‹_› `a,_,rfl,_,rfl,.inl {_,o,_,rfl,?_}};have e4:ω ((((jx<|ps.map Prod.fst).length:π):ν)=((((ps.map Prod.fst).map D.str).length:π):ν))=ω ((ps.map Prod.fst).Nodup):=by rw[yS,<-wu,zc];omega
 show bH (λhn=>?_) λhn=>?_;have hn:(!decide ((((jx<|ps.map Prod.fst).length:π):ν)=((((ps.map Prod.fst).map D.str).length:π):ν)))=ϱ:=hn;rw[e4]at hn;show{pX,S,m,g<|by rw[nt hn];rfl};have hn:(!decide ((((jx<|ps.map Prod.fst).length:π):ν)=((((ps.map Prod.fst).map D.str).length:π):ν)))=ϰ:=hn;rw[e4]at hn;rw[nf hn,yf]at j g;show !!{wy,rfl,_,rfl,?_};show bH (λhw=>?_) λhw=>?_;show{pX,S,m,g<|nt hw};show{S,m,j<|nf hw}
def EZ(o:ρ)(c:ρ×ρ)(v:D):Prop:=o ="is"\/(v≠.aA/\(o ="below"\/o ="above"\/(o ="begins"/\c.2 ="word")))
def Lf(cs:δ<|ρ×ρ)(d:D):Prop:=d=.tup [.str "every"]\/(∃ks:δ ρ,d=.tup [.str "key",.tup<|ks.map .str]/\ks.length<=8/\∀k∈ks,k∈KS)\/∃(o:ρ) (c:ρ×ρ) (v:D),c∈cs/\Vg c.2 v/\EZ o c v/\d=.tup [.str o,.str c.1,v]
def Sg(cs:δ<|ρ×ρ):π->D->η|0,_=>False|n+1,d=>Lf cs d\/(∃e,d=.tup [.str "not",e]/\Sg cs n e)\/∃(o:ρ) (ds:δ D),(o ="and"\/o ="or")/\d=.tup [.str o,.tup ds]/\ds.length<=8/\∀e∈ds,Sg cs n e
def Qm(h:Vg k v):Gt S v:=by have h:=h.2;cases v with|aA=>(show{{_,rfl},λz e=>by cases e})|int i=>(show{{_,rfl},λz e=>by cases e})|str z=>unfold dU at h;simp only[zN,yr]at h;show gt_str `b|_=>cases h
noncomputable def oF:D->δ D|.tup [.str o,.tup ds]=>(if o ="not" then[.tup ds] else if o ="and"\/o ="or" then ds else[])|.tup [.str o,e]=>(if o ="not" then[e] else[])|_=>[]
noncomputable def nq:π->D->π|0,_=>0|n+1,d=>((oF d).map<|nq n).sum+1
def AL(e:D):oF (.tup [.str "not",e])=[e]:=by cases e<;>rfl
def AM{o:ρ}(h:o ="and"\/o ="or")(ds:δ D):oF (.tup [.str o,.tup ds])=ds:=by rcases h with rfl|rfl<;>rfl
def Sq(cs:δ<|ρ×ρ)(d:D):Prop:=Sg cs 7 d/\nq 7 d<=200
inductive iV (ds:δ D) (S:av) (R:KD) (Z:KX):η
 |mk (es) (_:ds=[.tup es]) (_:es.length<=8) (_:R (.bl true) S)
def q_(T:Txt w K mg t):Ok P w base T.dQ 1 iV:=by show T.dQ.F.bV oa ?_;obtain⟨es,e,hl,q⟩;show{_,(s1<|sr<|lU (cb bB T.ao ai<|al 0<|ac (j9 T.bc aR) an)<|CZ<|cm kf `u (cb aW T.aU aH<|al 0 an)<|dg (v:=.int 8) T.mS {_,rfl} λz=>aS _),?_};show !{_,_,_,_,rfl,aJ,rfl,_,rfl,bX !!⟨?_⟩};have e1:ω (((es.length:π):ν)<=8)=ϱ:=zu<|Int.ofNat_le.mpr ‹_›;change Fo S (R<|.bl<|ω<|((es.length:π):ν)<=8);rw[e1];show fo q
inductive iw (ds:δ D) (S:av) (R:KD) (Z:KX):η
 |mk (cs o c v) (_:ds=[.tup<|cs.map aB,.tup [.str o,.str c.1,v]]) (_:Gd cs) (_:c∈cs) (_:Vg c.2 v) (_:EZ o c v) (_:R (.bl true) S)
def uG(T:Txt w K mg t):Ok P w base T.kJ 4 iw:=by
 show T.kJ.F.bV kP ?_;obtain⟨cs,o,c,v,e,j,h,l,g,q⟩;have hn:∀k,(c.1,k)∈cs->k=c.2:=λk d=>by have:=gW j.2.1 d h rfl;rw[<-this]
 show{_,(sc (cM (i:=2) kP.nd<|aI T.eN (iu T) hr<|al 0<|ac (ix `u (dv 1) di) an)<|sc (si (twd<|twor (bf i9 `u (dv 2) dn)<|tw1<|bU<|tv<|aI T.kF (kW T) hr<|al 2<|ac (ix `u (dv 1) di) an) (s1<|sr db) s0)<|sc (si (bf a_ `u (ix `u (dv 1) di) ds) (s1<|sr db) s0)<|sc (si (twd<|twand (bf a_ `u (ix `u (dv 1) di) ds)<|tw1<|bf ja `u (dv 2) ds) (s1<|sr db) s0)<|s1<|sr<|cm i_ `u (ix `u (dv 1) di) dn),?_};show !!!{cs,c.1,rfl,j,p6 (j.2.2 c h).1,λk d=>?_,λd=>absurd (zf.mpr ⟨c,h,rfl⟩) d};cases hn k d;show !!⟨aL !!!{c.2,v,rfl,Qm l,_,rfl,?_}⟩;rw[l.1];show aL !!!⟨?_⟩;rcases g with rfl|⟨n,g⟩;show oz `c<|fo q;have m:ak v=ϰ:=by cases v<;>first|rfl|show absurd rfl n
 have p:(!ak v)=ϱ:=by rw[m];rfl
 have a:Fo S (R<|.bl<|!ak v):=by rw[p];show fo q
 rcases g with rfl|rfl|⟨rfl,hw⟩;show bF `c !!!⟨bF `c !!⟨a⟩⟩;show bF `c !!!⟨bF `c !!⟨a⟩⟩;show bF `c !!!⟨oz `c !!⟨?_⟩⟩;rw[hw];show bF `c !!⟨a⟩
theorem Oz(h:z∈KS):z.cps.size<=1000:=zj (gu z h).2.1<|`a
inductive rh (ds:δ D) (S:av) (R:KD) (Z:KX):η
 |mk (cs n d) (_:ds=[.tup<|cs.map aB,d]) (_:Gd cs) (_:Sg cs n d) (_:R (.bl true) S)
def AN(T:Txt w K mg t):Ok P w base T.pN 5 rh:=by
 show T.pN.F.bV Aq ?_;obtain⟨cs,n,d,e,A,m,q⟩;show{_,(sc (si (twd<|twor (bU<|tv<|cb bB T.ao ai<|al 1<|ac (j9 T.bc aR) an)<|twor (bf a_ `u (cb aW T.aU aH<|al 1 an) di)<|tw1<|bU<|tv<|cb bB T.ao ai<|ac (ix `u (dv 1) di)<|ac (j9 T.iJ eG) an) (s1<|sr db) s0)<|sc (si (bf ja `u (mgk T.pH `a (gK T.nX)<|ix `u (dv 1) di)<|cb aW T.aU aH<|al 1 an) (s1<|sr db) s0)<|sc (si (bf vB `u (ix `u (dv 1) di)<|bY<|ac ds<|ac ds<|ac ds<|ac ds an) (s1<|sr<|aI T.kJ (uG T) hr<|al 0<|al 1 an) s0)<|sc (si (bf a_ `u (ix `u (dv 1) di) ds) (s1<|sr<|lU (aI T.dQ (q_ T) hr<|ac (ix `u (dv 1) di) an)<|CZ<|cb jA T.jD fw<|ac (vE (N:=["key"]) (src:=[none]) (mf (ag BQ) ["columns","thing"] rfl rfl<|`c) (Kl<|ix `u (dv 1) di) (u_<|show(["key"]:δ ρ).Nodup by trivial) (bj rfl) bq (λf f f f f=>u9) λf f f f f=>(aI T.mV (iR T) hr<|al 0 an)) an) s0)<|sc (si (bf vB `u (ix `u (dv 1) di)<|bY<|ac ds<|ac ds an) (s1<|sr<|aI T.dQ (q_ T) hr<|ac (ix `u (dv 1) di) an) s0)<|s1<|sr db),?_};cases n with|zero=>show m.elim|succ n =>
 rcases m with (rfl|⟨ks,rfl,i,j⟩|⟨o,c,v,x,z,g,rfl⟩)|⟨e,rfl,C⟩|⟨o,es,g,rfl,B,_⟩;show !{_,_,_,_,rfl,aJ,rfl,_,rfl,aL !!!⟨bF rfl !!{_,_,_,_,rfl,bp,rfl,_,rfl,aL ?_}⟩};show !!!!!!⟨bF rfl ?_⟩;show !!{rT,rfl,rfl,_,rfl,bF `c !!!⟨bF `c !!{cF,rfl,rfl,_,rfl,bF `c<|fo q}⟩};show !{_,_,_,_,rfl,aJ,rfl,_,rfl,aL !!!⟨bF rfl !!{_,_,_,_,rfl,bp,rfl,_,rfl,aL ?_}⟩};show !!!!!!⟨bF rfl ?_⟩;show !!{rT,rfl,rfl,_,rfl,bF `c !!!⟨oz `c ?_⟩};show !!!{by rw[zc];show i,_,rfl,bX !!{_,.inl rfl,?_}};show comp_map (λf=>.bl true) trivial (by change(ks.map D.str).length<=1000;rw[zc];show zj ‹_› `a) (λd hd Q s=>?_) λp hp=>?_;let⟨k,r,rfl⟩:=zf.mp hd;show !{.str k,rfl,gt_str<|Oz<|j k r,?_};change Q (.bl<|l6 k) S;rw[(gu k<|j k r).1];show s;have e2:(ks.map D.str).map (λf=>D.bl true)=(ks.map λf=>true).map D.bl:=by rw[zG,zG];rfl
 have e3:(ks.map λf=>true).all id=ϱ:=by rw[all_map];show yo.mpr λf f=>rfl
 show{.ref p,ks.map λf=>true,rfl,?_,S,.new hp,?_};change(S.set p<|.lst<|(ks.map D.str).map _) p=_;rw[ae,e2];rw[e3];show q;have y:o ="is"\/o ="below"\/o ="above"\/o ="begins":=by rcases g with h|⟨_,h|h|⟨h,_⟩⟩;show .inl h;show .inr<|.inl h;show .inr<|.inr<|.inl h;show .inr<|.inr<|.inr h
 show !{_,_,_,_,rfl,aJ,rfl,_,rfl,aL !!!⟨bF rfl !!{_,_,_,_,rfl,bp,rfl,_,rfl,aL ?_}⟩};have a:∀Zq:KX,iw [D.tup<|cs.map aB,.tup [.str o,.str c.1,v]] S (λd S'=>Fo S'<|R d) Zq:=λf=>{cs,o,c,v,rfl,A,x,z,g,fo q};rcases y with rfl|rfl|rfl|rfl;show !!!!!!⟨bF rfl !!{rT,rfl,rfl,_,rfl,oz `c !!⟨(a _)⟩}⟩;show !!!!!!⟨bF rfl !!{rT,rfl,rfl,_,rfl,oz `c !!⟨(a _)⟩}⟩;show !!!!!!⟨bF rfl !!{rT,rfl,rfl,_,rfl,oz `c !!⟨(a _)⟩}⟩;show !!!!!!⟨bF rfl !!{rT,rfl,rfl,_,rfl,oz `c !!⟨(a _)⟩}⟩;show !{_,_,_,_,rfl,aJ,rfl,_,rfl,aL !!!⟨bF rfl !!{_,_,_,_,rfl,bp,rfl,_,rfl,aL ?_}⟩};show !!!!!!⟨bF rfl ?_⟩;show !!{rT,rfl,rfl,_,rfl,bF `c !!!⟨bF `c !!{cF,rfl,rfl,_,rfl,bF `c<|fo q}⟩};have l:es.length<=8:=by show zj ‹_› `a
 rcases g with rfl|rfl;show !{_,_,_,_,rfl,aJ,rfl,_,rfl,aL !!!⟨bF rfl !!{_,_,_,_,rfl,bp,rfl,_,rfl,aL ?_}⟩};show !!!!!!⟨bF rfl ?_⟩;show !!{rT,rfl,rfl,_,rfl,bF `c !!!⟨bF `c !!{cF,rfl,rfl,_,rfl,oz `c !!!{l,fo q}}⟩};show !{_,_,_,_,rfl,aJ,rfl,_,rfl,aL !!!⟨bF rfl !!{_,_,_,_,rfl,bp,rfl,_,rfl,aL ?_}⟩};show !!!!!!⟨bF rfl ?_⟩;show !!{rT,rfl,rfl,_,rfl,bF `c !!!⟨bF `c !!{cF,rfl,rfl,_,rfl,oz `c !!!{l,fo q}}⟩}
inductive jJ (ds:δ D) (S:av) (R:KD) (Z:KX):η
 |mk (l es cs m) (_:ds=[.ref l]) (_:S l=ϑ (.lst es)) (_:(es.flatMap oF).length<=900) (_:(∀e∈es,Sg cs (m+1) e)) (_:∀p,S p=ϐ->R (.ref p) (S.set p<|.lst<|es.flatMap oF))
def qf(T:Txt w K mg t):Ok P w base T.ie 1 jJ:=by
 show T.ie.F.bV eR ?_;obtain⟨l,es,cs,m,e,hl,C,B,q⟩;show{_,(sc (cM (i:=1) eR.nd<|cP an)<|sc (C4<|I_ (il<|dv 0) (gn (i:=2) eR.nd)<|sc (C4<|si (bf a_ `u (ix `u (dv 2) di) ds) (s1<|se<|bm zO zX zY cL (dv 1)<|ac (ix `u (dv 2) di) an) s0)<|s1<|si (bf vB `u (ix `u (dv 2) di)<|bY<|ac ds<|ac ds an) (s1<|se<|bm zO PySem.F.slot_list_extend PySem.F.type_list_extend HR (dv 1)<|ac (ix `u (dv 2) di) an) s0)<|s1<|sr<|dv 1),?_};show{pW,λf A=>?_};have z:l≠f:=h_ hl A;show{λg S'=>∃o,g=[some<|.ref l,some<|.ref f,o]/\S'=S.set f (.lst<|es.flatMap oF),?_,?_};show !{es,(ah z).trans hl,?_};show{λi g S'=>∃o,g=[some<|.ref l,some<|.ref f,o]/\S'=S.set f (.lst<|(es.take i).flatMap oF),⟨none,rfl,rfl⟩,?_,?_,?_};rintro i g S' ⟨o,rfl,rfl⟩;show(ah z).trans hl;rintro i e g S' s ⟨o,rfl,rfl⟩;have s:es[i]?=some e:=s;have y:=B e<|zK s;have x:(es.take<|i+1).flatMap oF=(es.take i).flatMap oF++oF e:=by rw[List.take_add_one,s,List.flatMap_append];simp
 have r:((es.take i).flatMap oF).length+(oF e).length<=900:=by rw[<-zk,<-x];show zj ?_ C;(conv=>rhs;rw[<-List.take_append_drop (i+1) es,List.flatMap_append,zk]);show Nat.le_add_right _ _
 generalize (es.take i).flatMap oF=fs at x r⊢;have n:(S.set f<|.lst fs) f=ϑ (.lst fs):=ae;have keep:oF e=[]->∃o,[some<|D.ref l,some<|D.ref f,some e]=[some<|.ref l,some<|.ref f,o]/\S.set f (.lst fs)=S.set f (.lst<|(es.take<|i+1).flatMap oF):=λh=>!⟨by rw[x,h,List.append_nil]⟩;have more:∀ds,oF e=ds->∃o,[some<|D.ref l,some<|D.ref f,some e]=[some<|.ref l,some<|.ref f,o]/\(S.set f<|.lst fs).set f (.lst<|fs++ds)=S.set f (.lst<|(es.take<|i+1).flatMap oF):=λds h=>!⟨by rw[x,h,eJ]⟩;rcases y with (rfl|⟨ks,rfl,_,_⟩|⟨o,c,v,_,_,p,rfl⟩)|⟨e',rfl,G⟩|⟨o,ds,p,rfl,E,hd⟩;show{λd a=>d=_/\a=S.set f (.lst fs),!!!⟨bF `c<|fo ⟨rfl,rfl⟩⟩,?_};rintro _ _ ⟨rfl,rfl⟩;show !!{cF,rfl,rfl,_,rfl,bF `c<|keep rfl};show{λd a=>d=_/\a=S.set f (.lst fs),!!!⟨bF `c<|fo ⟨rfl,rfl⟩⟩,?_};rintro _ _ ⟨rfl,rfl⟩;show !!{cF,rfl,rfl,_,rfl,bF `c<|keep rfl};rcases p with rfl|⟨_,rfl|rfl|⟨rfl,_⟩⟩;show{λd a=>d=_/\a=S.set f (.lst fs),!!!⟨bF `c<|fo ⟨rfl,rfl⟩⟩,?_};rintro _ _ ⟨rfl,rfl⟩;show !!{cF,rfl,rfl,_,rfl,bF `c<|keep rfl};show{λd a=>d=_/\a=S.set f (.lst fs),!!!⟨bF `c<|fo ⟨rfl,rfl⟩⟩,?_};rintro _ _ ⟨rfl,rfl⟩;show !!{cF,rfl,rfl,_,rfl,bF `c<|keep rfl};show{λd a=>d=_/\a=S.set f (.lst fs),!!!⟨bF `c<|fo ⟨rfl,rfl⟩⟩,?_};rintro _ _ ⟨rfl,rfl⟩;show !!{cF,rfl,rfl,_,rfl,bF `c<|keep rfl};show{λd a=>d=_/\a=S.set f (.lst fs),!!!⟨bF `c<|fo ⟨rfl,rfl⟩⟩,?_};rintro _ _ ⟨rfl,rfl⟩;show !!{cF,rfl,rfl,_,rfl,bF `c<|keep rfl};show{λd a=>d=_/\a=(S.set f<|.lst fs).set f (.lst<|fs++[e']),!!!⟨oz `c !⟨{rfl,_,n},_,rfl,_,rfl,f,_,_,rfl,rfl,n,bg<|by rw[AL]at r;simp at r;show zj ‹_› `a,fo ⟨rfl,rfl⟩⟩⟩,?_};rintro _ _ ⟨rfl,rfl⟩;show !!{cF,rfl,rfl,_,rfl,bF `c<|more _<|AL e'};have j:=AM p ds;rw[j]at r;rcases p with rfl|rfl;show{λd a=>d=_/\a=S.set f (.lst fs),!!!⟨bF `c<|fo ⟨rfl,rfl⟩⟩,?_};rintro _ _ ⟨rfl,rfl⟩;show !!{cF,rfl,rfl,_,rfl,oz `c !⟨{rfl,_,n},_,rfl,_,rfl,f,_,_,rfl,rfl,n,sm<|zj ‹_› `a,more _ j⟩};show{λd a=>d=_/\a=S.set f (.lst fs),!!!⟨bF `c<|fo ⟨rfl,rfl⟩⟩,?_};rintro _ _ ⟨rfl,rfl⟩;show !!{cF,rfl,rfl,_,rfl,oz `c !⟨{rfl,_,n},_,rfl,_,rfl,f,_,_,rfl,rfl,n,sm<|by omega,more _ j⟩};rintro g S' ⟨o,rfl,rfl⟩;show fo {o,rfl,?_};rw[show({es,λS=>S l=ϑ (.lst es)}:HL).xs=es from rfl,List.take_length];rintro g S' ⟨o,rfl,rfl⟩;show{_,rfl,fo<|q f A}
def Lz{cs:δ<|ρ×ρ}{n:π}{d:D}(h:Sg cs (n+1) d):∀f∈oF d,Sg cs n f:=by
 rcases h with (rfl|⟨ks,rfl,_,_⟩|⟨o,c,v,_,_,a,rfl⟩)|⟨e',rfl,e⟩|⟨o,ds,a,rfl,i,hd⟩;show nofun;show nofun;show nofun;rw[AL];show λf g=>by rw[zC.mp g];show e
 rw[AM a];show hd
theorem LA(n:π):∀es:δ D,(es.map<|nq<|n+1).sum=es.length+((es.flatMap oF).map<|nq n).sum|[]=>rfl|e::es=>by have:=LA n es;rw[zD,List.sum_cons,zM,List.flatMap_cons,zH,List.sum_append,this,show nq (n+1) e=((oF e).map<|nq n).sum+1 from rfl];lia
def TL{cs:δ<|ρ×ρ}{n:π}{es:δ D}(h:∀e∈es,Sg cs (n+1) e):(es.flatMap oF).length<=((es.flatMap oF).map<|nq n).sum:=by
 have h:∀f∈es.flatMap oF,Sg cs n f:=λf a=>by let⟨e,d,a⟩:=List.mem_flatMap.mp a;show Lz (h e d) f a
 generalize es.flatMap oF=fs at h⊢;induction fs with|nil=>show zm _|cons f fs c=>have h1:=h f zB;have c:=c λx hx=>h x<|zo _ hx;have:1<=nq n f:=(by cases n with|zero=>show h1.elim|succ n=>show Nat.le_add_left _ _);rw[zD,List.sum_cons,zM];lia
inductive mz (ds:δ D) (S:av) (R:KD) (Z:KX):η
 |mk (cs d) (_:ds=[.tup<|cs.map aB,d]) (_:Gd cs) (_:Sq cs d) (_:R .aA S)
def uH(T:Txt w K mg t):Ok P w base T.kI 6 mz:=by
 show T.kI.F.bV bS ?_;obtain⟨cs,d,e,H,hd,q⟩;show{_,(sc (cM (i:=2) bS.nd<|cP<|al 1 an)<|sc (cM (i:=3) bS.nd di)<|sc (cM (i:=4) bS.nd di)<|s1<|swh (bf tO `u (cb aW T.aU aH<|al 2 an) di)<|sc (sau (i:=3) bS.nd di)<|sc (sau (i:=4) bS.nd<|cb aW T.aU aH<|al 2 an)<|sc (si (twd<|twor (bf tO `u (dv 3)<|dg (v:=.int 8) T.x5 {_,rfl} λk=>aS _)<|tw1<|bf tO `u (dv 4)<|dg (v:=.int 200) T.kE {_,rfl} λk=>aS _) (s1<|qJ ⟨T.jf⟩ T.qO<|ac ds an) s0)<|sc (si (bU<|tv<|cb jA T.jD fw<|ac (vE (N:=["thing","columns"]) (src:=[none,some 0]) (mf (ag vG) ["columns","sieve","level","deep","parts"] rfl rfl<|`c) (il<|dv 2) (u_<|show(["thing","columns"]:δ ρ).Nodup by trivial) (bj rfl) bq (λk k k k k=>u9) λk k k k k=>(aI T.pN (AN T) hr<|al 1<|al 0 an)) an) (s1<|qJ ⟨T.jf⟩ T.qO<|ac ds an) s0)<|s1<|cM (i:=2) bS.nd<|aI T.ie (qf T) hr<|al 2 an),?_};show !{pX,λl0 A=>?_};show{λm r S'=>∃(l:ε) (es:δ D) (dp p:π),r=[some<|.tup<|cs.map aB,some d,some<|.ref l,some<|.int dp,some<|.int p]/\S' l=ϑ (.lst es)/\Sub S S'/\(∀e∈es,Sg cs m e)/\dp+m=7/\p+(es.map<|nq m).sum<=200,{7,l0,[d],0,0,rfl,ae,.new A,λe g=>by rw[zC.mp g];show hd.1,rfl,by have:=hd.2;simp only[zD,List.map_nil,List.sum_cons,List.sum_nil];lia},?_};rintro m r S' ⟨l,es,dp,p,rfl,hl,s,a,z,hp⟩;show !!⟨.inl {_,hl,_,rfl,?_}⟩;show bH (λh1=>?_) λh1=>?_;have mI:0<es.length:=by have h1:(0:ν)<((es.length:π):ν):=zy h1;lia
 let⟨B,j⟩:=List.exists_mem_of_length_pos mI;obtain⟨n,rfl⟩:∃n,m=n+1:=by cases m with|zero=>show(a B j).elim|succ n=>show⟨n,rfl⟩
 have G:=LA n es;have I:=TL (cs:=cs) (n:=n) (es:=es) a;show !!!!!⟨.inl {_,hl,_,rfl,?_}⟩;show !!⟨bF (zt<|`b) !!⟨bF (zt<|`b) ?_⟩⟩;show !{es,hl,?_};show comp_map (λk=>.bl true) hl (by change es.length<=1000;lia) (λe g Q y=>?_) λh x=>?_;show !!{cs,_,e,rfl,H,a e g,y};have e2:es.map (λk=>D.bl true)=(es.map λk=>true).map D.bl:=by rw[zG];rfl
 have e3:(es.map λk=>true).all id=ϱ:=by rw[all_map];show yo.mpr λk k=>rfl
 show{.ref h,es.map λk=>true,rfl,?_,_,rfl,?_};change(S'.set h<|.lst<|es.map _) h=_;rw[ae,e2];rw[e3];show aL ?_;have s1:=s.trans<|.new (c:=.lst<|es.map λk=>D.bl true) x;have E:(S'.set h<|.lst<|es.map λk=>D.bl true) l=ϑ (.lst es):=(ah<|h_ hl x).trans hl;show !{l,es,cs,n,rfl,E,`b,a,λp2 C=>?_};show{n,yn n,p2,es.flatMap oF,dp+1,p+es.length,?_,ae,s1.trans<|.new C,λf o=>?_,`b,`b};change[_,_,_,some<|D.int<|((dp:π):ν)+1,some<|D.int<|((p:π):ν)+((es.length:π):ν)]=_;rw[show(((dp:π):ν)+1)=((dp+1:π):ν) by lia,show(((p:π):ν)+((es.length:π):ν))=((p+es.length:π):ν) by lia];let⟨e,g,o⟩:=List.mem_flatMap.mp o;show Lz (a e g) f o;show⟨S,s,q⟩
noncomputable def OC(cs:δ<|ρ×ρ)(z:ρ):Nat:=(cs.map Prod.fst).idxOf z
noncomputable def aq(cs:δ<|ρ×ρ)(ws:δ D)(z:ρ):D:=(ws[OC cs z]?).getD .aA
noncomputable def au(r:ρ×δ D):D:=.tup [.str r.1,.tup r.2]
def E1{l:δ α}{m:δ β}(p:Paired rel l m){i:π}{a:α}(h:l[i]?=some a):∃b,m[i]?=some b/\rel a b:=by induction p generalizing i with|nil=>simp at h|cons r t c=>cases i with|zero=>(rw[List.getElem?_cons_zero]at h⊢;cases h;show{_,rfl,r})|succ i=>rw[List.getElem?_cons_succ]at h⊢;show c h
def uI(g:Gd cs)(h:c∈cs):cs[OC cs c.1]?=some c/\(cs.map Prod.fst)[OC cs c.1]?=some c.1:=by
 have hm:c.1∈cs.map Prod.fst:=zf.mpr ⟨c,h,rfl⟩;have hi:(cs.map Prod.fst).idxOf c.1<(cs.map Prod.fst).length:=List.idxOf_lt_length_of_mem hm;have e1:(cs.map Prod.fst)[(cs.map Prod.fst).idxOf c.1]?=some c.1:=by rw[zg hi,List.getElem_idxOf]
 show{?_,e1};let⟨j,d⟩:=yt h;have a:(cs.map Prod.fst)[j]?=some c.1:=by rw[zx,d];rfl
 let⟨e,i⟩:=zh.mp e1;let⟨l,m⟩:=zh.mp a;have:=(List.getElem_inj g.2.1 (h₀:=e) (h₁:=l)).mp<|i.trans m.symm;unfold OC;rw[this];show d
def sN(a:Gd cs)(hw:Wg cs ws)(h:c∈cs):ws[OC cs c.1]?=some (aq cs ws c.1)/\Vg c.2 (aq cs ws c.1):=by let⟨v,e,r⟩:=E1 hw (uI a h).1;unfold aq;rw[e];show⟨rfl,r⟩
noncomputable def rj:D->D->χ|.aA,.aA=>true|.int i,.int j=>ω (i=j)|.str i,.str j=>ω (i=j)|_,_=>false
def bx(ha:dU a=ϱ)(hb:dU b=ϱ):rj a b=ϱ↔a=b:=by cases a<;>cases b<;>first|(cases ha;done)|(cases hb;done)|simp[rj]
def Ct(ha:dU a=ϱ)(hb:dU b=ϱ)(q:R (.bl<|if neg then !rj a b else rj a b) S):J6 neg a b S R:=by
 have c:∀{a b:D},dU a=ϱ->dU b=ϱ->(∀p q,Dp S a p->Dp S b q->PyData.eqv p q=rj a b)->(∀i j,a=.int i->b≠.int j)->(∀i j,a=.str i->b≠.str j)->R (.bl<|if neg then !rj a b else rj a b) S->J6 neg a b S R:=by intro a b ha hb h h1 h2 q;let⟨p,d,p2,p3⟩:=Ly.plain (S:=S) ha;let⟨r,g,n,t⟩:=Ly.plain (S:=S) hb;have e:=h p r d g;let⟨s,o,m,l⟩:=Ly.dl<|Ly.plain (S:=S) ha;cases a<;>cases b<;>first|(cases ha;done)|(cases hb;done)|show absurd rfl (h1 _ _ rfl)|show absurd rfl (h2 _ _ rfl)|show{p,r,d,g,p2,n,.inl<|`b,by rw[e];show q}
 cases a with|aA=>(cases b with|aA=>show c ha hb (λp q h1 h2=>by simp only[Dp]at h1 h2;subst h1 h2;rfl) nofun nofun q|int j=>show c ha hb (λp q h1 h2=>by simp only[Dp]at h1 h2;subst h1 h2;rfl) nofun nofun q|str j=>show c ha hb (λp q h1 h2=>by simp only[Dp]at h1 h2;subst h1 h2;rfl) nofun nofun q|_=>cases hb)|int i=>(cases b with|aA=>show c ha hb (λp q h1 h2=>by simp only[Dp]at h1 h2;subst h1 h2;rfl) nofun nofun q|int j=>show q|str j=>show c ha hb (λp q h1 h2=>by simp only[Dp]at h1 h2;subst h1 h2;rfl) nofun nofun q|_=>cases hb)|str i=>(cases b with|aA=>show c ha hb (λp q h1 h2=>by simp only[Dp]at h1 h2;subst h1 h2;rfl) nofun nofun q|int j=>show c ha hb (λp q h1 h2=>by simp only[Dp]at h1 h2;subst h1 h2;rfl) nofun nofun q|str j=>show q|_=>cases hb)|_=>cases ha
noncomputable def vU:D->D->χ|.int i,.int j=>ω (i<j)|.str i,.str j=>qE i j|_,_=>false
noncomputable def stP:D->D->χ|.str i,.str j=>PySem.Txt.startswith i j|_,_=>false
noncomputable def Gz(o:ρ)(a b:D):Bool:=if o ="is" then rj a b else if ak a then false else if o ="below" then vU a b else if o ="above" then vU b a else stP a b
noncomputable def IA:D->δ D|.tup ds=>ds|_=>[]
noncomputable def X5(cs:δ<|ρ×ρ)(r:ρ×δ D)(f:D->χ):D->χ|.tup [.str _]=>true|.tup [.str o,e]=>(if o ="not" then !f e else if o ="key" then Hj (nK<|.str r.1) ((IA e).map nK) else if o ="and" then (IA e).all f else (IA e).any f)|.tup [.str o,.str z,v]=>Gz o (aq cs r.2 z) v|_=>false
noncomputable def bW(cs:δ<|ρ×ρ)(r:ρ×δ D):π->D->χ|0,_=>false|n+1,d=>X5 cs r (bW cs r n) d
theorem GA(cs:δ<|ρ×ρ)(r:ρ×δ D)(n:π)(o:ρ)(e:D):bW cs r (n+1) (.tup [.str o,e])=if o ="not" then !bW cs r n e else if o ="key" then Hj (nK<|.str r.1) ((IA e).map nK) else if o ="and" then (IA e).all (bW cs r n) else (IA e).any (bW cs r n):=rfl
theorem X6(cs:δ<|ρ×ρ)(r:ρ×δ D)(n:π)(o z:ρ)(v:D):bW cs r (n+1) (.tup [.str o,.str z,v])=Gz o (aq cs r.2 z) v:=rfl
def LB(cs:δ<|ρ×ρ)(r:ρ×δ D)(n:π)(ks:δ D):bW cs r (n+1) (.tup [.str "key",.tup ks])=Hj (nK<|.str r.1) (ks.map nK):=by rw[GA,qa<|`c,qc rfl];rfl
def LC(cs:δ<|ρ×ρ)(r:ρ×δ D)(n:π)(e:D):bW cs r (n+1) (.tup [.str "not",e])=!bW cs r n e:=by rw[GA,qc rfl]
def LD(cs:δ<|ρ×ρ)(r:ρ×δ D)(n:π)(es:δ D):bW cs r (n+1) (.tup [.str "and",.tup es])=es.all (bW cs r n):=by rw[GA,qa<|`c,qa<|`c,qc rfl];rfl
def OD(cs:δ<|ρ×ρ)(r:ρ×δ D)(n:π)(es:δ D):bW cs r (n+1) (.tup [.str "or",.tup es])=es.any (bW cs r n):=by rw[GA,qa<|`c,qa<|`c,qa<|`c];rfl
def AO{k:ρ}(ha:Vg k a)(hb:Vg k b)(m:a≠.aA)(h:b≠.aA):(∃i j,a=.int i/\b=.int j)\/∃i j,a=.str i/\b=.str j:=by let⟨d,l⟩:=ha;let⟨c,g⟩:=hb;cases a with|aA=>show absurd rfl m|int i=>(cases b with|aA=>show absurd rfl h|int j=>show .inl ⟨i,j,rfl,rfl⟩|str j=>(exfalso;unfold kU at d c;simp only[ak,xc]at d c;by_cases e:k ="number";rw[qc e]at c;cases c;rw[qa e]at d;cases d)|_=>cases g)|str i=>(cases b with|aA=>show absurd rfl h|str j=>show .inr ⟨i,j,rfl,rfl⟩|int j=>(exfalso;unfold kU at d c;simp only[ak,xc]at d c;by_cases e:k ="number";rw[qc e]at d;cases d;rw[qa e]at c;cases c)|_=>cases g)|_=>cases l
def GB(h:Vg "word" a)(n:a≠.aA):∃z,a=.str z:=by let⟨h1,h2⟩:=h;cases a with|aA=>show absurd rfl n|str z=>show⟨z,rfl⟩|int i=>(unfold kU at h1;rw[qa<|`c]at h1;cases h1)|_=>cases h2
def bK(h:ak a=ϰ):a≠.aA:=by rintro rfl;cases h
inductive m8 (ds:δ D) (S:av) (R:KD) (Z:KX):η
 |mk (cs r c) (_:ds=[.tup<|cs.map aB,au r,.str c.1]) (_:Gd cs) (_:Wg cs r.2) (_:c∈cs) (_:R (aq cs r.2 c.1) S)
def dF(T:Txt w K mg t):Ok P w base T.cN 2 m8:=by
 show T.cN.F.bV B_ ?_;obtain⟨cs,r,c,e,a,hw,g,q⟩;let⟨n1,n2⟩:=uI a g;show{_,(s1<|sr<|ix `u (ix `u (dv 1) di)<|bm zO PySem.F.slot_list_index PySem.F.type_list_index Ka (aI T.n0 (qX T) hr<|al 0 an)<|al 2 an),?_};show !!!{cs,rfl,a.1,λp hp=>?_};show{{rfl,_,ae},_,rfl,(cs.map Prod.fst).map D.str,.str c.1,OC cs c.1,rfl,ae,rfl,?_,{.str c.1,by rw[zx,n2];rfl,by change(c.1==c.1)=ϱ;simp},?_,?_};rw[List.all_map];show yo.mpr λz z=>rfl;intro m u hm hu;rw[zx]at hu;cases e:(cs.map Prod.fst)[m]? with|none=>(rw[e]at hu;cases hu)|some d=>rw[e]at hu;cases hu;change(d==c.1)=ϰ;have:d≠c.1:=λq=>(by subst q;let⟨l,i⟩:=zh.mp e;let⟨h,j⟩:=zh.mp n2;have:=(List.getElem_inj a.2.1 (h₀:=l) (h₁:=h)).mp<|i.trans j.symm;lia);simpa using this
 show{_,eU (sN a hw g).1,S,.new hp,q}
inductive gw (ds:δ D) (S:av) (R:KD) (Z:KX):η
 |mk (o a b c) (_:ds=[.str o,a,b]) (_:Vg c.2 a) (_:Vg c.2 b) (_:EZ o c b) (_:R (.bl<|Gz o a b) S)
def rW(T:Txt w K mg t):Ok P w base T.jg 1 gw:=by
 show T.jg.F.bV rQ ?_;obtain⟨o,a,b,c,e,ha,hb,d,q⟩;show{_,(sc (si (bf a_ `u (dv 0) ds) (s1<|sr<|cm a_ `u (dv 1)<|dv 2) s0)<|sc (si (bf i9 `u (dv 1) dn) (s1<|sr db) s0)<|sc (si (bf a_ `u (dv 0) ds) (s1<|sr<|cm vA `u (dv 1)<|dv 2) s0)<|sc (si (bf a_ `u (dv 0) ds) (s1<|sr<|cm tO `u (dv 1)<|dv 2) s0)<|s1<|sr<|bm PySem.F.plainAttrs_str PySem.F.slot_str_startswith PySem.F.type_str_startswith Kb (dv 1)<|al 2 an),?_};unfold Gz at q;rcases d with rfl|⟨g,d⟩;rw[qc rfl]at q;show !!⟨oz `c !!⟨Ct ha.2 hb.2<|fo q⟩⟩;have ne:∀{A B:χ},o≠"is"->R (.bl<|if o ="is" then A else B) S->R (.bl B) S:=λh q=>by rw[qa h]at q;show q
 rcases d with rfl|rfl|⟨rfl,l⟩;rw[qa<|`c]at q;show !!⟨bF `c !!⟨bH (λh=>?_) λh=>?_⟩⟩;rw[qc h]at q;show fo q;rw[qa<|by rw[show ak a=ϰ from h];show zd,qc rfl]at q;show !!⟨oz `c !!⟨?_⟩⟩;rcases AO ha hb (bK h) g with⟨i,j,rfl,rfl⟩|⟨i,j,rfl,rfl⟩<;>show fo q;rw[qa<|`c]at q;show !!⟨bF `c !!⟨bH (λh=>?_) λh=>?_⟩⟩;rw[qc h]at q;show fo q;rw[qa<|by rw[show ak a=ϰ from h];show zd,qa<|`c,qc rfl]at q;show !!⟨bF `c !!⟨oz `c !!⟨?_⟩⟩⟩;rcases AO ha hb (bK h) g with⟨i,j,rfl,rfl⟩|⟨i,j,rfl,rfl⟩<;>show fo q;rw[qa<|`c]at q;show !!⟨bF `c !!⟨bH (λh=>?_) λh=>?_⟩⟩;rw[qc h]at q;show fo q;rw[qa<|by rw[show ak a=ϰ from h];show zd,qa<|`c,qa<|`c]at q;show !!⟨bF `c !!⟨bF `c ?_⟩⟩;rw[l]at ha hb;let⟨i,rfl⟩:=GB ha<|bK h;let⟨j,rfl⟩:=GB hb g;show !{rfl,_,rfl,i,j,rfl,rfl,fo q}
def TM(n:π):jb:=λds S R z=>∃cs d r,ds=[.tup<|cs.map aB,d,au r]/\Gd cs/\Sg cs n d/\Wg cs r.2/\R (.bl<|bW cs r n d) S
theorem iW(T:Txt w K mg t):∀n,Ok P w base T.passes (3+n) (TM n)
 |0=>by show T.passes.F.ok (k:=2) wQ (by rintro ds S R Z ⟨_,_,_,e,_⟩;show by rw[e];rfl) (by rintro gF A outer s H E ds S R Z hr ⟨cs,d,r,e,g,m,_⟩;show m.elim)
 |n+1=>by
  show T.passes.F.ok (k:=3+n) wQ (by rintro ds S R Z ⟨_,_,_,e,_⟩;rw[e];rfl) ?_;obtain⟨cs,d,r,e,g,m,hw,q⟩;show{_,(sc (si (bf a_ `u (ix `u (dv 1) di) ds) (s1<|sr db) s0)<|sc (si (bf a_ `u (ix `u (dv 1) di) ds) (s1<|sr<|cm vB `u (ix `u (dv 2) di)<|ix `u (dv 1) di) s0)<|sc (si (bf a_ `u (ix `u (dv 1) di) ds) (s1<|sr<|WB<|aI T.passes (iW T n) hr<|al 0<|ac (ix `u (dv 1) di)<|al 2 an) s0)<|sc (si (bf a_ `u (ix `u (dv 1) di) ds) (s1<|sr<|cb jA T.jD fw<|ac (vE (N:=["inner","columns","row"]) (src:=[none,some 0,some 2]) (mf (ag BR) ["columns","sieve","row"] rfl rfl<|`c) (Kl<|ix `u (dv 1) di) (u_<|show(["inner","columns","row"]:δ ρ).Nodup by trivial) (bj rfl) bq (λf f f f f=>u9) λf f f f f=>(aI T.passes (iW T n) hr<|al 1<|al 0<|al 2 an)) an) s0)<|sc (si (bf a_ `u (ix `u (dv 1) di) ds) (s1<|sr<|cb WR T.XS R3<|ac (vE (N:=["inner","columns","row"]) (src:=[none,some 0,some 2]) (mf (ag BR) ["columns","sieve","row"] rfl rfl<|`c) (Kl<|ix `u (dv 1) di) (u_<|show(["inner","columns","row"]:δ ρ).Nodup by trivial) (bj rfl) bq (λf f f f f=>u9) λf f f f f=>(aI T.passes (iW T n) hr<|al 1<|al 0<|al 2 an)) an) s0)<|s1<|sr<|aI T.jg (rW T) hr<|ac (ix `u (dv 1) di)<|ac (aI T.cN (dF T) hr<|al 0<|al 2<|ac (ix `u (dv 1) di) an)<|ac (ix `u (dv 1) di) an),?_};rcases m with (rfl|⟨ks,rfl,B,J⟩|⟨o,c,v,i,C,j,rfl⟩)|⟨e,rfl,G⟩|⟨o,es,j,rfl,I,y⟩;show !!!⟨oz `c<|fo q⟩;show !!!⟨bF `c !!!⟨oz `c ?_⟩⟩;show !!!!{rfl,?_,?_};rw[List.all_map];show yo.mpr λf f=>rfl;rw[LB]at q;show fo q;rw[X6]at q;have a:∀Zq,gw [D.str o,aq cs r.2 c.1,v] S (λd S'=>Fo S'<|R d) Zq:=λf=>{o,_,v,c,rfl,(sN g hw i).2,C,j,fo q};have z:o ="is"\/o ="below"\/o ="above"\/o ="begins":=by rcases j with h|⟨_,h|h|⟨h,_⟩⟩;show .inl h;show .inr<|.inl h;show .inr<|.inr<|.inl h;show .inr<|.inr<|.inr h
  rcases z with rfl|rfl|rfl|rfl;show !!!⟨bF `c !!!⟨bF `c !!!⟨bF `c !!!⟨bF `c !!!⟨bF `c !!!!!!{cs,r,c,rfl,g,hw,i,_,rfl,_,rfl,a _}⟩⟩⟩⟩⟩;show !!!⟨bF `c !!!⟨bF `c !!!⟨bF `c !!!⟨bF `c !!!⟨bF `c !!!!!!{cs,r,c,rfl,g,hw,i,_,rfl,_,rfl,a _}⟩⟩⟩⟩⟩;show !!!⟨bF `c !!!⟨bF `c !!!⟨bF `c !!!⟨bF `c !!!⟨bF `c !!!!!!{cs,r,c,rfl,g,hw,i,_,rfl,_,rfl,a _}⟩⟩⟩⟩⟩;show !!!⟨bF `c !!!⟨bF `c !!!⟨bF `c !!!⟨bF `c !!!⟨bF `c !!!!!!{cs,r,c,rfl,g,hw,i,_,rfl,_,rfl,a _}⟩⟩⟩⟩⟩;rw[LC]at q;show !!!⟨bF `c !!!⟨bF `c !!!⟨oz `c !!!!{cs,e,r,rfl,g,G,hw,_,rfl,fo q}⟩⟩⟩;have x:es.length<=1000:=by show zj ‹_› `a
  rcases j with rfl|rfl;rw[LD]at q;show !!!⟨bF `c !!!⟨bF `c !!!⟨bF `c !!!⟨oz `c !!{_,.inl rfl,?_}⟩⟩⟩⟩;show comp_map (λd=>.bl<|bW cs r n d) trivial x (λd hd Q l=>!!!{cs,d,r,rfl,g,y d hd,hw,l}) λp hp=>?_;show{.ref p,es.map<|bW cs r n,rfl,?_,S,.new hp,?_};change(S.set p<|.lst<|es.map _) p=_;rw[ae,zG];rfl;rw[all_map];show q;rw[OD]at q;show !!!⟨bF `c !!!⟨bF `c !!!⟨bF `c !!!⟨bF `c !!!⟨oz `c !!{_,.inl rfl,?_}⟩⟩⟩⟩⟩;show comp_map (λd=>.bl<|bW cs r n d) trivial x (λd hd Q l=>!!!{cs,d,r,rfl,g,y d hd,hw,l}) λp hp=>?_;show{.ref p,es.map<|bW cs r n,rfl,?_,S,.new hp,?_};change(S.set p<|.lst<|es.map _) p=_;rw[ae,zG];rfl;rw[List.any_map];show q
abbrev Row:=ρ×δ D
abbrev Part:=ρ×ρ×ρ
def TN{a b:ρ}(h:a.cps.toList=b.cps.toList):a=b:=by let⟨x⟩:=a;let⟨y⟩:=b;show congrArg Str.mk<|Array.ext' h
theorem GC(a:ρ):qE a a=ϰ:=zt<|List.lt_irrefl _
def lK{a b:ρ}(h:a≠b):qE b a=!qE a b:=by unfold qE;rw[yN];simp only[yb,Bool.not_eq_true',decide_eq_false_iff_not];constructor;show λh1 h2=>List.lt_irrefl _<|List.lt_trans h1 h2;intro h1;by_cases h2:b.cps.toList<a.cps.toList;show h2;show absurd (TN<|List.le_antisymm (List.not_lt.mp h2)<|List.not_lt.mp h1) h
theorem E3(h1:qE a b=ϱ)(h2:qE b c=ϱ):qE a c=ϱ:=zu<|List.lt_trans (zy h1)<|zy h2
def GF(a:D):vU a a=ϰ:=by cases a<;>first|rfl|show GC _|show zt (Int.lt_irrefl _)
def oG(ha:Vg k a)(hb:Vg k b)(c:a≠.aA)(d:b≠.aA)(h:a≠b):vU b a=!vU a b:=by rcases AO ha hb c d with⟨i,j,rfl,rfl⟩|⟨i,j,rfl,rfl⟩;have g:i≠j:=λe=>h<|congrArg D.int e;change ω (j<i)=!decide (i<j);rw[yN];simp only[yb,Bool.not_eq_true',decide_eq_false_iff_not];lia;show lK λe=>h<|congrArg D.str e
def LF(h1:vU a b=ϱ)(h2:vU b c=ϱ):vU a c=ϱ:=by cases a with|int i=>(cases b with|int j=>(cases c with|int l=>have h1:i<j:=zy h1;have h2:j<l:=zy h2;show zu `b|_=>cases h2)|_=>cases h1)|str i=>(cases b with|str j=>(cases c with|str l=>show E3 h1 h2|_=>cases h2)|_=>cases h1)|_=>cases h1
def LG(h:Xr a b):vU a b=ϱ:=by cases a with|int i=>(cases b with|int j=>show zu h|_=>show h.elim)|str i=>(cases b with|str j=>show zu h|_=>show h.elim)|_=>show h.elim
noncomputable def dk(p:Part)(x y:D):Bool:=if (ak x != ak y)=ϱ then ak x==ω (p.2.2 ="first") else vU x y==ω (p.2.1 ="up")
noncomputable def bM(cs:δ<|ρ×ρ)(wy:ρ):δ Part->Row->Row->χ|[],a,b=>qE a.1 b.1==ω (wy ="up")|p::ps,a,b=>if rj (aq cs a.2 p.1) (aq cs b.2 p.1)=ϱ then bM cs wy ps a b else dk p (aq cs a.2 p.1) (aq cs b.2 p.1)
def bxor:((!x)==u)=!(x==u):=by cases x<;>cases u<;>rfl
def dW(h:ak x=ϱ):x=.aA:=by cases x<;>first|rfl|cases h
def w6(hx:Vg k x)(c:Vg k y)(h:x≠y):dk p y x=!dk p x y:=by unfold dk;cases nx:ak x with|true=>(cases a:ak y with|true=>show absurd ((dW nx).trans (dW a).symm) h|false=>rw[qc<|by rfl,qc<|by rfl];cases ω (p.2.2 ="first")<;>rfl)|false=>cases a:ak y with|true=>(rw[qc<|by rfl,qc<|by rfl];cases ω (p.2.2 ="first")<;>rfl)|false=>rw[qa<|`d,qa<|`d,oG hx c (bK nx) (bK a) h,bxor]
def GG(hx:Vg k x)(l:Vg k y)(hz:Vg k z)(i:x≠y)(j:y≠z)(h1:dk p x y=ϱ)(h2:dk p y z=ϱ):x≠z/\dk p x z=ϱ:=by
 have h:x≠z:=by rintro rfl;have:=w6 (p:=p) hx l i;rw[h1,h2]at this;cases this
 show{h,?_};unfold dk at h1 h2⊢;cases nx:ak x with|true=>(cases d:ak y with|true=>show absurd ((dW nx).trans (dW d).symm) i|false=>rw[nx,d,qc<|by rfl]at h1;cases g:ak z with|true=>show absurd ((dW nx).trans (dW g).symm) h|false=>rw[qc<|by rfl];show h1)|false=>cases d:ak y with|true=>(rw[nx,d,qc<|by rfl]at h1;cases g:ak z with|true=>show absurd ((dW d).trans (dW g).symm) j|false=>rw[d,g,qc<|by rfl]at h2;cases e:ω (p.2.2 ="first")<;>rw[e]at h1 h2<;>first|cases h1;done|cases h2;done)|false=>rw[nx,d,qa<|`d]at h1;cases g:ak z with|true=>rw[d,g,qc<|by rfl]at h2;rw[qc<|by rfl];show h2|false=>rw[d,g,qa<|`d]at h2;rw[qa<|`d];cases e:ω (p.2.1 ="up") with|true=>rw[e]at h1 h2;rw[LF (a:=x) (b:=y) (c:=z) (by simpa using h1)<|by simpa using h2];rfl|false=>rw[e]at h1 h2;have h1:vU x y=ϰ:=(by simpa using h1);have h2:vU y z=ϰ:=(by simpa using h2);have o:=oG hx l (bK nx) (bK d) i;have n:=oG l hz (bK d) (bK g) j;rw[h1]at o;rw[h2]at n;have r:=LF n o;have m:=oG hx hz (bK nx) (bK g) h;rw[r]at m;cases q:vU x z with|true=>(rw[q]at m;cases m)|false=>rfl
def Pin(cs:δ<|ρ×ρ)(ps:δ Part):Prop:=∀p∈ps,∃c∈cs,c.1=p.1
section
variable{cs:δ (ρ×ρ)}{wy:ρ}
theorem Pin.tail(h:Pin cs<|p::ps):Pin cs ps:=λq hq=>h q<|zo _ hq
def sO(a:Gd cs)(h:Pin cs<|p::ps):∃k,∀ws,Wg cs ws->Vg k (aq cs ws p.1):=by let⟨c,d,e⟩:=h p zB;rw[<-e];show{c.2,λws hw=>(sN a hw d).2}
theorem uJ(g:Gd cs):∀{ps:δ Part}{a b:Row},Pin cs ps->Wg cs a.2->Wg cs b.2->a.1≠b.1->bM cs wy ps b a=!bM cs wy ps a b|[],a,b,_,_,_,h=>by change(qE b.1 a.1==_)=!(qE a.1 b.1==_);rw[lK h,bxor]|p::ps,a,b,hp,ha,hb,h=>by let⟨k,hk⟩:=sO g hp;have c:=hk _ ha;have d:=hk _ hb;unfold bM;by_cases e:aq cs a.2 p.1=aq cs b.2 p.1;rw[qc<|(bx d.2 c.2).mpr e.symm,qc<|(bx c.2 d.2).mpr e];show uJ g hp.tail ha hb h;rw[qa λq=>e ((bx d.2 c.2).mp q).symm,qa λq=>e<|(bx c.2 d.2).mp q];show w6 c d e
theorem LH(j:Gd cs):∀{ps:δ Part}{a b c:Row},Pin cs ps->Wg cs a.2->Wg cs b.2->Wg cs c.2->a.1≠b.1->b.1≠c.1->a.1≠c.1->bM cs wy ps a b=ϱ->bM cs wy ps b c=ϱ->bM cs wy ps a c=ϱ|[],a,b,c,_,_,_,_,h1,h2,h3,d,q2=>(by have d:(qE a.1 b.1==ω (wy ="up"))=ϱ:=d;have q2:(qE b.1 c.1==ω (wy ="up"))=ϱ:=q2;change(qE a.1 c.1==ω (wy ="up"))=ϱ;cases e:ω (wy ="up") with|true=>rw[e]at d q2;rw[E3 (b:=b.1) (by simpa using d)<|by simpa using q2];rfl|false=>rw[e]at d q2;have d:qE a.1 b.1=ϰ:=(by simpa using d);have q2:qE b.1 c.1=ϰ:=(by simpa using q2);have a1:=lK h1;have a2:=lK h2;rw[d]at a1;rw[q2]at a2;have a3:=E3 a2 a1;have a4:=lK h3;rw[a3]at a4;cases q:qE a.1 c.1 with|true=>(rw[q]at a4;cases a4)|false=>rfl)|p::ps,a,b,c,hp,ha,hb,hc,h1,h2,h3,d,q2=>by let⟨k,hk⟩:=sO j hp;have i:=hk _ ha;have g:=hk _ hb;have h:=hk _ hc;unfold bM at d q2⊢;by_cases e1:aq cs a.2 p.1=aq cs b.2 p.1;rw[qc<|(bx i.2 g.2).mpr e1]at d;by_cases e2:aq cs b.2 p.1=aq cs c.2 p.1;rw[qc<|(bx g.2 h.2).mpr e2]at q2;rw[qc<|(bx i.2 h.2).mpr<|e1.trans e2];show LH j hp.tail ha hb hc h1 h2 h3 d q2;rw[qa λq=>e2<|(bx g.2 h.2).mp q]at q2;rw[e1,qa λq=>e2<|(bx g.2 h.2).mp q];show q2;rw[qa λq=>e1<|(bx i.2 g.2).mp q]at d;by_cases e2:aq cs b.2 p.1=aq cs c.2 p.1;rw[<-e2,qa λq=>e1<|(bx i.2 g.2).mp q];show d;rw[qa λq=>e2<|(bx g.2 h.2).mp q]at q2;let⟨e3,l⟩:=GG i g h e1 e2 d q2;rw[qa λq=>e3<|(bx i.2 h.2).mp q];show l
def Rg(cs:δ<|ρ×ρ)(rs:δ Row):Prop:=(∀r∈rs,Wg cs r.2)/\(rs.map Prod.fst).Nodup
theorem Rg.perm(h:Rg cs rs)(p:ck.Perm rs):Rg cs ck:={λr hr=>h.1 r<|p.mem_iff.mp hr,(p.map _).nodup_iff.mpr h.2}
theorem Rg.sub(h:Rg cs rs)(p:ck.Sublist rs):Rg cs ck:={λr hr=>h.1 r<|p.subset hr,h.2.sublist<|p.map _}
def OE(c:Gd cs)(hp:Pin cs ps)(hr:Rg cs m)(hl:l.Pairwise λa b=>bM cs wy ps a b=ϱ)(hm:m.Pairwise λa b=>bM cs wy ps a b=ϱ)(pm:l.Perm m):l=m:=by show List.Perm.eq_of_pairwise (le:=λa b=>bM cs wy ps a b=ϱ) (λa b ha hb h1 h2=>?_) hl hm pm;have ha:=pm.mem_iff.mp ha;by_cases e:a.1=b.1;show gW (f:=Prod.fst) hr.2 ha hb e;have:=uJ (wy:=wy) c hp (hr.1 a ha) (hr.1 b hb) e;rw[h1,h2]at this;cases this
end
def E6{l m:δ π}(hl:l.Nodup)(hm:m.Nodup)(h:∀x,x∈l↔x∈m):l.Perm m:=by induction l generalizing m with|nil=>(cases m with|nil=>show .nil|cons y m=>show absurd ((h y).mpr zB)<|`d)|cons x l c=>let⟨n1,n2⟩:=yc.mp hl;have hx:=(h x).mp zB;show .trans ((c n2 (hm.erase x) λy=>?_).cons x) (List.perm_cons_erase hx).symm;rw[hm.mem_erase_iff];constructor;intro a;show{λe=>n1<|e ▸ a,(h y).mp<|zo _ a};rintro⟨h1,h2⟩;rcases ze.mp ((h y).mpr h2) with e|e;show absurd e h1;show e
def map_range(d:α)(xs:δ α):(List.range xs.length).map (λk=>xs.getD k d)=xs:=by show List.ext_getElem `d λi h1 h2=>?_;simp[zg h2]
def IB{α:Type}(d:α){xs:δ α}{g:π->π}(lt:∀k,k<xs.length->g k<xs.length)(inj:∀i j,i<xs.length->j<xs.length->g i=g j->i=j):((List.range xs.length).map λk=>xs.getD (g k) d).Perm xs:=by
 have nd:((List.range xs.length).map g).Nodup:=by show List.pairwise_map.mpr<|List.nodup_range.imp_of_mem λ{a b} ha hb n e=>n<|inj a b (zV.mp ha) (zV.mp hb) e
 have sub:∀x∈(List.range xs.length).map g,x∈List.range xs.length:=λx hx=>by let⟨k,l,rfl⟩:=zf.mp hx;show zV.mpr<|lt k<|zV.mp l
 have p:((List.range xs.length).map g).Perm `k:=E6 nd List.nodup_range λx=>by show{sub x,λhx=>?_};by_cases h:x∈(List.range xs.length).map g;show h;exfalso;have:=sub_len nd (m:=(List.range xs.length).erase x) λy c=>(List.Nodup.mem_erase_iff List.nodup_range).mpr {λe=>h<|e ▸ c,sub y c};rw[zc,List.length_erase_of_mem hx,List.length_range]at this;have:=zV.mp hx;lia
 have e:((List.range xs.length).map λk=>xs.getD (g k) d)=((List.range xs.length).map g).map λk=>xs.getD k d:=by rw[zG];rfl
 rw[e];have:=p.map λk=>xs.getD k d;rw[map_range]at this;show this
def IC{α:Type}(d:α){xs:δ α}{g:π->π}{r:α->α->η}(h:∀i j,i<j->j<xs.length->r (xs.getD (g i) d) (xs.getD (g j) d)):((List.range xs.length).map λk=>xs.getD (g k) d).Pairwise r:=by rw[List.pairwise_map,List.pairwise_iff_getElem];intro i j hi a c;rw[List.length_range]at a;rw[List.getElem_range,List.getElem_range];show h i j c a
noncomputable def r0:Row:=("",[])
def getD_map{rs:δ Row}{j:π}(h:j<rs.length):(rs.map au).getD j .aA=au (rs.getD j r0):=by rw[zJ,zJ,zx,zg h];rfl
def getD_mem{rs:δ Row}{j:π}(h:j<rs.length):rs.getD j r0∈rs:=by rw[zJ,zg h];show List.getElem_mem h
def oH{rs:δ Row}{b:χ}{f:D->D}{g:π->π}(h:SQ b (λj=>f<|(rs.map au).getD j .aA) (rs.map au).length g): ∃ck:δ Row,(List.range (rs.map au).length).map (λk=>(rs.map au).getD (g k) .aA)=ck.map au/\ck.Perm rs/\∀q r:Row->Row->η,rs.Pairwise q->(∀x y,x∈rs->y∈rs->(if b=ϱ then Xr (f<|au y) (f<|au x) else Xr (f<|au x) (f<|au y))->r x y)->(∀x y,x∈rs->y∈rs->f (au x)=f (au y)->q x y->r x y)->ck.Pairwise r:=by have hn:(rs.map au).length=rs.length:=zc _;rw[hn]at h⊢;show{(List.range rs.length).map λk=>rs.getD (g k) r0,?_,IB r0 h.lt h.inj,λq r hq h1 h2=>IC r0 λi j e d=>?_};rw[zG];show z0 λk m=>getD_map<|h.lt k<|zV.mp m;have c:=h.lt i<|y9 e d;have a:=h.lt j d;have o:=h.ord i j e d;rw[getD_map c,getD_map a]at o;rcases o with o|⟨o,l⟩;show h1 _ _ (getD_mem c) (getD_mem a) o;show h2 _ _ (getD_mem c) (getD_mem a) o ?_;have:=List.pairwise_iff_getElem.mp hq (g i) (g j) c a l;rw[zJ,zJ,zg c,zg a];show this
section
variable{cs:δ (ρ×ρ)}{wy:ρ}
noncomputable def valued(cs:δ<|ρ×ρ)(p:Part)(r:Row):Bool:=!ak (aq cs r.2 p.1)
def OF(h1:ak x=ϱ)(h2:ak y=ϱ):rj x y=ϱ:=by rw[dW h1,dW h2];rfl
def AQ(h:ak x≠ak y):rj x y=ϰ:=by cases x<;>cases y<;>first|rfl|show absurd rfl h
def ID{ps:δ Part}{p:Part}{L V:δ Row}(l:L.Pairwise λa b=>bM cs wy ps a b=ϱ)(j:V.Perm<|L.filter<|valued cs p)(i:V.Pairwise λa b=>bM cs wy (p::ps) a b=ϱ): (if p.2.2 ="first" then L.filter (λr=>!valued cs p r)++V else V++L.filter (λr=>!valued cs p r)).Perm L/\(if p.2.2 ="first" then L.filter (λr=>!valued cs p r)++V else V++L.filter (λr=>!valued cs p r)).Pairwise λa b=>bM cs wy (p::ps) a b=ϱ:=by
 have hN:(L.filter λr=>!valued cs p r).Pairwise λa b=>bM cs wy (p::ps) a b=ϱ:=by show(l.sublist yx).imp_of_mem λ{a b} ha hb h=>?_;have ha:=(yk.mp ha).2;have hb:=(yk.mp hb).2;unfold valued at ha hb;rw[Bool.not_not]at ha hb;change(if rj (aq cs a.2 p.1) (aq cs b.2 p.1)=ϱ then bM cs wy ps a b else _)=ϱ;rw[qc<|OF ha hb];show h
 have g:∀a∈L.filter (λr=>!valued cs p r),∀b∈V,ak (aq cs a.2 p.1)=ϱ/\ak (aq cs b.2 p.1)=ϰ:=λa ha b hb=>by have ha:=(yk.mp ha).2;have hb:=(yk.mp<|j.mem_iff.mp hb).2;unfold valued at ha hb;rw[Bool.not_not]at ha;show{ha,by simpa using hb}
 have pm:(L.filter (λr=>!valued cs p r)++V).Perm L:=(List.Perm.append_left _ j).trans<|List.perm_append_comm.trans<|List.filter_append_perm (valued cs p) L;by_cases e:p.2.2 ="first";rw[qc e];show{pm,List.pairwise_append.mpr {hN,i,λa ha b hb=>?_}};let⟨c,d⟩:=g a ha b hb;change(if rj (aq cs a.2 p.1) (aq cs b.2 p.1)=ϱ then bM cs wy ps a b else dk p (aq cs a.2 p.1) (aq cs b.2 p.1))=ϱ;rw[AQ<|by rw[c,d];nofun,qa zd];unfold dk;rw[c,d,qc<|by rfl,zu e];rfl;rw[qa e];show{List.perm_append_comm.trans pm,List.pairwise_append.mpr {i,hN,λa ha b hb=>?_}};let⟨c,d⟩:=g b hb a ha;change(if rj (aq cs a.2 p.1) (aq cs b.2 p.1)=ϱ then bM cs wy ps a b else dk p (aq cs a.2 p.1) (aq cs b.2 p.1))=ϱ;rw[AQ<|by rw[c,d];nofun,qa zd];unfold dk;rw[c,d,qc<|by rfl,zt e];rfl
theorem Cu(l:Gd cs)(hp:Pin cs ps):∀{F:δ Row},Rg cs (x::F)->(F.Pairwise λa b=>bM cs wy ps a b=ϱ)->(F.take (F.filter λy=>bM cs wy ps y x).length++x::F.drop (F.filter λy=>bM cs wy ps y x).length).Pairwise λa b=>bM cs wy ps a b=ϱ|[],_,_=>by simp|y::F,hr,h=>by let⟨h1,h2⟩:=List.pairwise_cons.mp h;have nd:=hr.2;rw[zD,zD]at nd;let⟨n1,n2⟩:=yc.mp nd;let⟨r,s⟩:=yc.mp n2;have i:y.1≠x.1:=λe=>n1 (by rw[<-e];show zB);have m:=hr.1 x zB;have j:=hr.1 y<|zo _ zB;cases e:bM cs wy ps y x with|true=>(rw[yI,qc e,zM,List.take_succ_cons,List.drop_succ_cons,List.cons_append,List.pairwise_cons];have n:Rg cs (x::F):=hr.sub<|(List.sublist_cons_self y F).cons₂ x;show{λz c=>?_,Cu l hp n h2};rcases zL.mp c with c|c;show h1 z<|List.mem_of_mem_take c;rcases ze.mp c with rfl|c;show e;show h1 z<|List.mem_of_mem_drop c)|false=>have none:∀z∈y::F,bM cs wy ps z x=ϰ:=λz c=>(by rcases ze.mp c with rfl|c;show e;cases q:bM cs wy ps z x with|false=>rfl|true=>have g:y.1≠z.1:=λe=>r (by rw[e];show zf.mpr ⟨z,c,rfl⟩);have d:z.1≠x.1:=λe=>n1 (by rw[<-e];show zo _<|zf.mpr ⟨z,c,rfl⟩);have o:=hr.1 z<|zo _<|zo _ c;rw[LH l hp j o m g d i (h1 z c) q]at e;cases e);have p:(y::F).filter (λy=>bM cs wy ps y x)=[]:=List.filter_eq_nil_iff.mpr λz c=>(by rw[none z c];show zd);rw[p];change(x::y::F).Pairwise _;show List.pairwise_cons.mpr {λz c=>?_,h};have d:z.1≠x.1:=λe=>n1 (by rw[<-e];show zf.mpr ⟨z,c,rfl⟩);rw[uJ l hp (hr.1 z<|zo _ c) m d,none z c];rfl
def LI(x:α)(F:δ α)(m:π):(F.take m++x::F.drop m).Perm (F++[x]):=by show(List.perm_middle).trans<|List.Perm.trans ?_ List.perm_append_comm;rw[List.take_append_drop];show .refl _
end
noncomputable abbrev qK:Str:="sorted_by_keys.<locals>.<lambda>"
noncomputable abbrev qV:Str:="sorted_by_values.<locals>.<lambda>"
noncomputable def TQ:D->D|.tup (x::_)=>x|_=>.aA
noncomputable def E7(cs:δ<|ρ×ρ)(z:ρ):D->D|.tup [_,.tup ws]=>aq cs ws z|_=>.aA
inductive LJ (t:ft) (ds:δ D) (S:av) (R:KD) (Z:KX):η
 |mk (cs:δ<|ρ×ρ) (l:ε) (rs:δ Row) (wy:ρ) (_:ds=[.ref l,.str wy]) (_:k_ wy=ϱ) (_:S l=ϑ (.lst<|rs.map au)) (_:rs.length<64) (_:Rg cs rs) (_:S t.aX=ϑ (.tab qK)) (_:∀(ck:δ Row)(p:ε),ck.Perm rs->(ck.Pairwise λa b=>bM cs wy [] a b=ϱ)->S p=ϐ->R (.ref p) (S.set p<|.lst<|ck.map au))
theorem gX{S a:av}{p:ε}{c:Ce}(h:Sub S a):Sub (S.set p c) (a.set p c):=λb e hb=>by by_cases q:b=p;subst q;rw[ae]at hb⊢;show hb;rw[ah q]at hb⊢;show h b e hb
def dX{S a:av}{p:ε}(h:Sub S a)(e:a p=ϐ):S p=ϐ:=by cases q:S p with|none=>rfl|some c=>rw[h p c q]at e;cases e
def AR{z:ρ}(h:k_ z=ϱ):z ="up"\/z ="down":=by unfold k_ at h;simpa using h
theorem Rg.unlike(h:Rg cs rs):rs.Pairwise λa b=>a.1≠b.1:=List.pairwise_map.mp h.2
def oI(T:Txt w K mg t)(B:Bm mg base):Ok P w base T.fW 4 (LJ t):=by
 show T.fW.F.okC (k:=3) oh (by rintro ds S R Z ⟨_,_,_,_,e,_⟩;rw[e];rfl) ?_;rintro gF A outer s H E ds S R Z n hr ⟨cs,l,rs,wy,e,C,hl,hn,I,o,q⟩;subst e;have v:BJ ((rs.map au).map TQ):=.inl {rs.map Prod.fst,by rw[zG,zG];rfl};have un:rs.Pairwise λa b=>a.1≠b.1:=I.unlike;have z:(rs.map au).length<64:=by rw[zc];show hn
 show{_,(sc (si (bf a_ `u (dv 1) ds) (s1<|sr<|P8 (N:=["row"]) (src:=[none]) (n.trans T.gR) ⟨T.dP,B⟩ hr (mf (ag iE) ["rows","way"] rfl rfl<|`c) (dv 0) (λg g g g=>(ix (hr.in1.in1.deeper _).units (dv 0) di)) T.iK fM) s0)<|s1<|sr<|Xu (N:=["row"]) (src:=[none]) (n.trans T.gR) ⟨T.dP,B⟩ hr (mf (ag iE) ["rows","way"] rfl rfl<|`c) (dv 0) (λg g g g=>(ix (hr.in1.in1.deeper _).units (dv 0) di)) T.iK fM),?_};rcases AR C with rfl|rfl;show !!⟨bF `c !{l,rs.map au,TQ,rfl,hl,z,o,v,λx hx S' c J d=>?_,λg G p m c hp=>?_}⟩;let⟨r,hr,rfl⟩:=zf.mp hx;show !!⟨d S'<|.refl _⟩;let⟨ck,e,pm,h⟩:=oH m;rw[e];show{S.set p<|.lst<|ck.map au,gX c,q ck p pm (h _ _ un (λx y hx j i=>?_) λx y hx j e ne=>absurd (D.str.inj e) ne)<|dX c hp};change(qE x.1 y.1==ω (("up": ρ) ="up"))=ϱ;have:qE x.1 y.1=ϱ:=zu i;rw[this];rfl;show !!⟨oz `c !{l,rs.map au,TQ,rfl,hl,z,o,v,λx hx S' c J d=>?_,λg G p m c hp=>?_}⟩;let⟨r,hr,rfl⟩:=zf.mp hx;show !!⟨d S'<|.refl _⟩;let⟨ck,e,pm,h⟩:=oH m;rw[e];show{S.set p<|.lst<|ck.map au,gX c,q ck p pm (h _ _ un (λx y hx j i=>?_) λx y hx j e ne=>absurd (D.str.inj e) ne)<|dX c hp};change(qE x.1 y.1==ω (("down": ρ) ="up"))=ϱ;have:qE y.1 x.1=ϱ:=zu i;by_cases e:x.1=y.1;rw[e,GC]at this;cases this;rw[lK e]at this;have h2:qE x.1 y.1=ϰ:=by simpa using this
 rw[h2,zt<|`c];rfl
inductive LK (t:ft) (ds:δ D) (S:av) (R:KD) (Z:KX):η
 |mk (cs:δ<|ρ×ρ) (ps:δ Part) (p:Part) (wy:ρ) (l:ε) (rs:δ Row) (_:ds=[.tup<|cs.map aB,p3 p,.ref l]) (_:Gd cs) (_:Pin cs<|p::ps) (_:k_ p.2.1=ϱ) (_:S l=ϑ (.lst<|rs.map au)) (_:rs.length<64) (_:Rg cs rs) (_:(∀r∈rs,valued cs p r=ϱ)) (_:(rs.Pairwise λa b=>bM cs wy ps a b=ϱ)) (_:S t.aQ=ϑ (.tab qV)) (_:∀(ck:δ Row)(a:ε),ck.Perm rs->(ck.Pairwise λa b=>bM cs wy (p::ps) a b=ϱ)->S a=ϐ->R (.ref a) (S.set a<|.lst<|ck.map au))
theorem E8{α:Type}{f:α->D}{β:Type}{mk:β->D} : ∀{l:δ α},(∀x∈l,∃b,f x=mk b)->∃bs:δ β,l.map f=bs.map mk|[],_=>{[],rfl}|x::l,h=>by let⟨b,e⟩:=h x zB;let⟨bs,e2⟩:=E8 λy a=>h y<|zo _ a;show{b::bs,by rw[zD,e,e2];rfl}
def IE{cs:δ<|ρ×ρ}{p:Part}{k:ρ}{rs:δ Row}(a:∀r∈rs,Vg k<|aq cs r.2 p.1)(d:∀r∈rs,valued cs p r=ϱ):BJ ((rs.map au).map<|E7 cs p.1):=by
 rw[zG];have c:∀r∈rs,aq cs r.2 p.1≠.aA:=λr hr=>bK (by have:=d r hr;unfold valued at this;simpa using this);by_cases e:k ="number";show .inr<|E8 λr hr=>?_;have h1:=a r hr;have h2:=c r hr;change ∃b,aq cs r.2 p.1=.int b;generalize aq cs r.2 p.1=v at h1 h2;cases v with|aA=>show absurd rfl h2|int i=>show⟨i,rfl⟩|str z=>(have h1:=h1.1;unfold kU at h1;simp only[ak,xc]at h1;rw[qc e]at h1;cases h1)|_=>cases h1.2
 show .inl<|E8 λr hr=>?_;have h1:=a r hr;have h2:=c r hr;change ∃b,aq cs r.2 p.1=.str b;generalize aq cs r.2 p.1=v at h1 h2;cases v with|aA=>show absurd rfl h2|str i=>show⟨i,rfl⟩|int z=>(have h1:=h1.1;unfold kU at h1;simp only[ak,xc]at h1;rw[qa e]at h1;cases h1)|_=>cases h1.2
def LL{cs:δ<|ρ×ρ}{wy:ρ}{ps:δ Part}{p:Part}{x y:Row}(nx:valued cs p x=ϱ)(a:valued cs p y=ϱ)(ne:rj (aq cs x.2 p.1) (aq cs y.2 p.1)=ϰ)(h:(vU (aq cs x.2 p.1) (aq cs y.2 p.1)==ω (p.2.1 ="up"))=ϱ):bM cs wy (p::ps) x y=ϱ:=by
 unfold valued at nx a;have nx:ak (aq cs x.2 p.1)=ϰ:=by simpa using nx
 have a:ak (aq cs y.2 p.1)=ϰ:=by simpa using a
 change(if rj (aq cs x.2 p.1) (aq cs y.2 p.1)=ϱ then bM cs wy ps x y else dk p (aq cs x.2 p.1) (aq cs y.2 p.1))=ϱ;rw[ne,qa zd];unfold dk;rw[nx,a,qa<|`d];show h
def LM{x y:D}(h:vU x y=ϱ):rj x y=ϰ:=by cases x with|int i=>(cases y with|int j=>(show zt λe=>by rw[e,GF]at h;cases h)|_=>cases h)|str i=>(cases y with|str j=>(show zt λe=>by rw[e,GF]at h;cases h)|_=>cases h)|_=>cases h
def LN(x y:D):rj x y=rj y x:=by cases x<;>cases y<;>first|rfl|show yS.mpr ⟨Eq.symm,Eq.symm⟩
def l8(T:Txt w K mg t)(B:Bm mg base):Ok P w base T.eM 6 (LK t):=by
 show T.eM.F.okC (k:=5) l5 (by rintro ds S R Z ⟨_,_,_,_,_,_,e,_⟩;rw[e];rfl) ?_;rintro gF A outer s H E ds S R Z I hr ⟨cs,ps,p,wy,l,rs,e,G,J,MA,hl,hn,j,v,Q,M,q⟩;subst e;let⟨c,Y,U⟩:=J p zB;let⟨k,o⟩:=sO G J;have L:BJ ((rs.map au).map<|E7 cs p.1):=IE (λr hr=>o _<|j.1 r hr) v;have O:(rs.map au).length<64:=by rw[zc];show hn
 have same:∀x y:Row,x∈rs->y∈rs->E7 cs p.1 (au x)=E7 cs p.1 (au y)->bM cs wy ps x y=ϱ->bM cs wy (p::ps) x y=ϱ:=λx y hx i e h=>by change(if rj (aq cs x.2 p.1) (aq cs y.2 p.1)=ϱ then bM cs wy ps x y else _)=ϱ;rw[qc<|(bx (o _<|j.1 x hx).2 (o _<|j.1 y i).2).mpr e];show h
 have step:∀x,x∈rs.map au->∀C:KD,∀S':av,C (E7 cs p.1 x) S'->∀Zq,m8 [D.tup<|cs.map aB,x,.str p.1] S' C Zq:=λx hx C S' z g=>by let⟨r,hr,rfl⟩:=zf.mp hx;show{cs,r,c,by rw[U],G,j.1 r hr,Y,by rw[U];show z}
 show{_,(sc (si (bf a_ `u (ix `u (dv 1) di) ds) (s1<|sr<|P8 (N:=["row","columns","part"]) (src:=[none,some 0,some 1]) (I.trans T.fG) ⟨T.dj,B⟩ hr (mf (ag fU) ["columns","part","rows"] rfl rfl<|`c) (dv 2) (λg g g g=>(cf ((dF T).mono<|`a) (hr.in1.in1.deeper _) T.cN.m T.cN.k T.cN.b d0<|al 1<|al 0<|ac (ix (hr.in1.in1.deeper _).units (dv 2) di) an)) T.iK fM) s0)<|s1<|sr<|Xu (N:=["row","columns","part"]) (src:=[none,some 0,some 1]) (I.trans T.fG) ⟨T.dj,B⟩ hr (mf (ag fU) ["columns","part","rows"] rfl rfl<|`c) (dv 2) (λg g g g=>(cf ((dF T).mono<|`a) (hr.in1.in1.deeper _) T.cN.m T.cN.k T.cN.b d0<|al 1<|al 0<|ac (ix (hr.in1.in1.deeper _).units (dv 2) di) an)) T.iK fM),?_};rcases AR MA with e1|e1;show !!!⟨bF (by rw[e1];decide +kernel) !{l,rs.map au,E7 cs p.1,rfl,hl,O,M,L,λx hx S' n C z=>!!!!⟨step x hx _ S' (z S'<|.refl _) _⟩,λg S2 a G n ha=>?_}⟩;let⟨ck,e,pm,h⟩:=oH G;rw[e];show{S.set a<|.lst<|ck.map au,gX n,q ck a pm (h _ _ Q (λx y hx i d=>?_) same)<|dX n ha};have d:=LG (a:=aq cs x.2 p.1) (b:=aq cs y.2 p.1) d;show LL (v x hx) (v y i) (LM d) (by rw[d,zu e1];rfl);show !!!⟨oz (by rw[e1];decide +kernel) !{l,rs.map au,E7 cs p.1,rfl,hl,O,M,L,λx hx S' n C z=>!!!!⟨step x hx _ S' (z S'<|.refl _) _⟩,λg S2 a SG n ha=>?_}⟩;let⟨ck,e,pm,h⟩:=oH SG;rw[e];show{S.set a<|.lst<|ck.map au,gX n,q ck a pm (h _ _ Q (λx y hx i d=>?_) same)<|dX n ha};have d:=LG (a:=aq cs y.2 p.1) (b:=aq cs x.2 p.1) d;have ne:=LM d;show LL (v x hx) (v y i) (by rw[LN];show ne) ?_;have X:∀r∈rs,aq cs r.2 p.1≠.aA:=λr hr=>bK (by have:=v r hr;unfold valued at this;simpa using this);have Iv:aq cs x.2 p.1≠aq cs y.2 p.1:=λe=>by have:=(bx (o _<|j.1 y i).2 (o _<|j.1 x hx).2).mpr e.symm;rw[ne]at this;cases this
 have:=oG (o _<|j.1 x hx) (o _<|j.1 y i) (X x hx) (X y i) Iv;rw[d]at this;have h2:vU (aq cs x.2 p.1) (aq cs y.2 p.1)=ϰ:=by simpa using this
 rw[h2,e1,zt<|`c];rfl
def Tb(t:ft)(S:av):Prop:=S t.aX=ϑ (.tab qK)/\S t.aQ=ϑ (.tab qV)
theorem Tb.sub{t:ft}{S S':av}(h:Tb t S)(s:Sub S S'):Tb t S':={s _ _ h.1,s _ _ h.2}
noncomputable def GH(b:χ)(cs:δ<|ρ×ρ)(p:Part):D->χ|.tup [_,.tup ws]=>ak (aq cs ws p.1)==b|_=>false
def qg{rs:δ Row}{f:D->χ}{g:Row->χ}(h:∀r,f (au r)=g r):((rs.map au).filter f).map id=(rs.filter g).map au:=by rw[List.map_id,List.filter_map];show congrArg (List.map au)<|List.filter_congr λr z=>h r
inductive LP (t:ft) (ds:δ D) (S:av) (R:KD) (Z:KX):η
 |mk (cs:δ<|ρ×ρ) (ps:δ Part) (p:Part) (wy:ρ) (l:ε) (rs:δ Row) (_:ds=[.tup<|cs.map aB,p3 p,.ref l]) (_:Gd cs) (_:Pin cs<|p::ps) (_:k_ p.2.1=ϱ) (_:S l=ϑ (.lst<|rs.map au)) (_:rs.length<64) (_:Rg cs rs) (_:(rs.Pairwise λa b=>bM cs wy ps a b=ϱ)) (_:Tb t S) (_:∀(ck:δ Row)(a:ε),ck.Perm rs->(ck.Pairwise λa b=>bM cs wy (p::ps) a b=ϱ)->S a=ϐ->R (.ref a) (S.set a<|.lst<|ck.map au))
def oJ(T:Txt w K mg t)(B:Bm mg base):Ok P w base T.fY 7 (LP t):=by
 show T.fY.F.bV cR ?_;obtain⟨cs,ps,p,wy,l,rs,e,I,M,Z,hl,hn,G,X,ht,q⟩;let⟨c,L,v⟩:=M p zB;have J:(rs.map au).length<=1000:=by rw[zc];lia
 show{_,(sc (Sz (i:=3) (N:=["row","columns","part"]) (src:=[none,some 0,some 1]) cR.nd (mf (ag iF) ["columns","part","rows","without","valued"] rfl rfl<|`c) (il<|dv 2) (u_<|show(["row","columns","part"]:δ ρ).Nodup by trivial) (bj rfl) bq (λk k k k k=>(if1<|bf i9 `u (aI T.cN (dF T) hr<|al 1<|al 0<|ac (ix `u (dv 2) di) an) dn)) λk k k k k=>(dv 0))<|sc (Sz (i:=4) (N:=["row","columns","part"]) (src:=[none,some 0,some 1]) cR.nd (mf (ag iF) ["columns","part","rows","without","valued"] rfl rfl<|`c) (il<|dv 2) (u_<|show(["row","columns","part"]:δ ρ).Nodup by trivial) (bj rfl) bq (λk k k k k=>(if1<|bf i_ `u (aI T.cN (dF T) hr<|al 1<|al 0<|ac (ix `u (dv 2) di) an) dn)) λk k k k k=>(dv 0))<|sc (cM (i:=4) cR.nd<|aI T.eM (l8 T B) hr<|al 0<|al 1<|al 4 an)<|s1<|sr<|Sj (bf a_ `u (ix `u (dv 1) di) ds) (bo cQ `u (dv 3)<|dv 4)<|bo cQ `u (dv 4)<|dv 3),?_};show !{_,hl,?_};show fO (GH true cs p) id hl J (λd hd Q Q' x H=>?_) λj AI=>?_;let⟨r,hr,rfl⟩:=zf.mp hd;show !!!!{cs,r,c,(show[D.tup<|cs.map aB,au r,D.str p.1]=[_,_,D.str c.1] by rw[v]),I,G.1 r hr,L,?_};rw[v];show{_,rfl,bH (λh=>!⟨x ?_⟩) λh=>H ?_};change(ak (aq cs r.2 p.1)==true)=ϱ;rw[show ak (aq cs r.2 p.1)=ϱ from h];rfl;change(ak (aq cs r.2 p.1)==true)=ϰ;rw[show ak (aq cs r.2 p.1)=ϰ from h];rfl;have e1:((rs.map au).filter<|GH true cs p).map id=(rs.filter λr=>!valued cs p r).map au:=qg λr=>by change(ak (aq cs r.2 p.1)==true)=!valued cs p r;unfold valued;cases ak (aq cs r.2 p.1)<;>rfl
 rw[show({rs.map au,λS=>nh S (.ref l)<|rs.map au}:HL).xs=rs.map au from rfl,e1];have a:Sub S (S.set j<|.lst<|(rs.filter λr=>!valued cs p r).map au):=.new AI;have h1:(S.set j<|.lst<|(rs.filter λr=>!valued cs p r).map au) j=ϑ (.lst<|(rs.filter λr=>!valued cs p r).map au):=ae;generalize S.set j (.lst<|(rs.filter λr=>!valued cs p r).map au)=o at a h1⊢;have Y:=a _ _ hl;show !{_,Y,?_};show fO (GH false cs p) id Y J (λd hd Q Q' x H=>?_) λp2 R=>?_;let⟨r,hr,rfl⟩:=zf.mp hd;show !!!!{cs,r,c,(show[D.tup<|cs.map aB,au r,D.str p.1]=[_,_,D.str c.1] by rw[v]),I,G.1 r hr,L,?_};rw[v];show{_,rfl,bH (λh=>!⟨x ?_⟩) λh=>H ?_};change(ak (aq cs r.2 p.1)==false)=ϱ;rw[show ak (aq cs r.2 p.1)=ϰ from nt h];rfl;change(ak (aq cs r.2 p.1)==false)=ϰ;rw[show ak (aq cs r.2 p.1)=ϱ from nf h];rfl;have e2:((rs.map au).filter<|GH false cs p).map id=(rs.filter<|valued cs p).map au:=qg λr=>by change(ak (aq cs r.2 p.1)==false)=valued cs p r;unfold valued;cases ak (aq cs r.2 p.1)<;>rfl
 rw[show({rs.map au,λS=>nh S (.ref l)<|rs.map au}:HL).xs=rs.map au from rfl,e2];have z:Sub S (o.set p2<|.lst<|(rs.filter<|valued cs p).map au):=a.trans<|.new R;have y:(o.set p2<|.lst<|(rs.filter<|valued cs p).map au) j=_:=(ah<|h_ h1 R).trans h1;have n:(o.set p2<|.lst<|(rs.filter<|valued cs p).map au) p2=_:=ae;generalize o.set p2 (.lst<|(rs.filter<|valued cs p).map au)=s at z y n⊢;have fl:(rs.filter<|valued cs p).length<=rs.length:=List.length_filter_le _ _;have a1:(rs.filter λr=>!valued cs p r).length<=rs.length:=List.length_filter_le _ _;show !!!{cs,ps,p,wy,p2,rs.filter<|valued cs p,rfl,I,M,Z,n,by show zR ‹_› ‹_›,G.sub yx,λr hr=>(yk.mp hr).2,X.sublist yx,(ht.sub z).2,λV p3 U Zz O=>?_};let⟨pm,pw⟩:=ID X U Zz;have E:(s.set p3<|.lst<|V.map au) j=_:=(ah<|h_ y O).trans y;have g:(s.set p3<|.lst<|V.map au) p3=ϑ (.lst<|V.map au):=ae;have m:Sub S (s.set p3<|.lst<|V.map au):=z.trans<|.new O;generalize s.set p3 (.lst<|V.map au)=S3 at E g m⊢;have a0:=U.length_eq;show !!!⟨bH (λh=>?_) λh=>?_⟩;rw[qc<|zy h]at pm pw;show !!{_,_,E,g,sm<|by rw[zc,zc];lia,λC A=>?_};rw[<-zH];show{_,gX m,q _ C pm pw<|dX m A};rw[qa<|zW h]at pm pw;show !!{_,_,g,E,sm<|by rw[zc,zc];lia,λC A=>?_};rw[<-zH];show{_,gX m,q _ C pm pw<|dX m A}
structure Og(cs:δ (ρ×ρ))(ps:δ Part)(wy:ρ):η where
 pin:Pin cs ps
 X9:∀p∈ps,k_ p.2.1=ϱ
 way:k_ wy=ϱ
 ok:Cq cs ps wy=ϱ
 tx:∀p∈ps,Pok p
noncomputable def fC(ps:δ Part)(wy:ρ):D:=.tup [.tup<|ps.map p3,.str wy]
inductive Qp (t:ft) (ds:δ D) (S:av) (R:KD) (Z:KX):η
 |mk (cs:δ<|ρ×ρ) (ps:δ Part) (wy:ρ) (l:ε) (rs:δ Row) (_:ds=[.tup<|cs.map aB,fC ps wy,.ref l]) (_:Gd cs) (_:Og cs ps wy) (_:S l=ϑ (.lst<|rs.map au)) (_:rs.length<64) (_:Rg cs rs) (_:Tb t S) (_:∀(ck:δ Row)(a:ε),ck.Perm rs->(ck.Pairwise λa b=>bM cs wy ps a b=ϱ)->S a=ϐ->R (.ref a) (S.set a<|.lst<|ck.map au))
structure Vw(C:ε)(S:av)(a:ε)(cs:δ (ρ×ρ))(m:D)(rows:δ Row):η where
 sh:∃F dl rs,cA C S a F cs dl rs/\rs.length<64/\vQ dl.length m≠none/\∀i ss,vQ dl.length m=ϑ i->ss.Perm (rs.map (·.1))->PyProof.Rows.sortedS ss=ϱ->jq rs i ss=rows.map au
 mo:Gt S m
 len:rows.length<64
 rg:Rg cs rows
def cA.sub(b:Sub S S')(h:cA C S a F cs dl rs):cA C S' a F cs dl rs:=by let⟨ld,lr,ra,h,e⟩:=h;show{ld,lr,ra,{b _ _ h.ins,b _ _ h.A9,b _ _ h.run,λr hr=>b _ _<|h.cell r hr,h.kn,h.an,h.sz},e}
def Cv(T:Txt w K mg t)(B:Bm mg base):Ok P w base T.uc 8 (Qp t):=by
 show T.uc.F.bV gU ?_;obtain⟨cs,ps,wy,l,rs,e,O,n,hl,hn,E,A,q⟩;show{_,(sc (cM (i:=3) gU.nd<|aI T.fW (oI T B) hr<|al 2<|ac (ix `u (dv 1) di) an)<|sc (C4<|I_ (irt T.t6<|ac (ix `u (dv 1) di) an) (gn (i:=4) gU.nd)<|s1<|cM (i:=3) gU.nd<|aI T.fY (oJ T B) hr<|al 0<|al 4<|al 3 an)<|s1<|sr<|dv 3),?_};show !!!{cs,l,rs,wy,rfl,n.way,hl,hn,E,A.1,λs M v z G=>?_};have I:ps.reverse.length=ps.length:=yM;show{λh S'=>∃(o:θ D)(p:ε)(ck:δ Row),h=[some<|.tup<|cs.map aB,some<|fC ps wy,some<|.ref l,some<|.ref p,o]/\S p=ϐ/\S' p=ϑ (.lst<|ck.map au)/\Sub S S'/\ck.Perm rs/\ck.Pairwise λa b=>bM cs wy ps a b=ϱ,?_,?_};show !!!⟨?_⟩;show{λi h S'=>∃(o:θ D)(p:ε)(ck:δ Row),h=[some<|.tup<|cs.map aB,some<|fC ps wy,some<|.ref l,some<|.ref p,o]/\S p=ϐ/\S' p=ϑ (.lst<|ck.map au)/\Sub S S'/\ck.Perm rs/\ck.Pairwise λa b=>bM cs wy (ps.reverse.take i).reverse a b=ϱ,{none,M,s,rfl,G,ae,.new G,v,z},λx x x x=>trivial,?_,?_};rintro i d h S' hd ⟨o,p,ck,rfl,hp,m,g,pm,pw⟩;have hd:(ps.map p3).reverse[i]?=some d:=hd;rw[<-List.map_reverse,zx]at hd;cases r:ps.reverse[i]? with|none=>(rw[r]at hd;cases hd)|some pt=>rw[r]at hd;cases hd;have H:pt∈ps:=List.mem_reverse.mp<|zK r;have N:(ps.reverse.take<|i+1).reverse=pt::(ps.reverse.take i).reverse:=(by rw[List.take_add_one,r,List.reverse_append];rfl);have J:Pin cs (pt::(ps.reverse.take i).reverse):=λx hx=>(by rcases ze.mp hx with rfl|hx;show n.pin _ H;show n.pin _<|List.mem_reverse.mp<|List.mem_of_mem_take<|List.mem_reverse.mp hx);show !!!{cs,(ps.reverse.take i).reverse,pt,wy,p,ck,rfl,O,J,n.X9 pt H,m,by rw[pm.length_eq];show hn,E.perm pm,pw,A.sub g,λL p2 y j C=>?_};rw[<-N]at j;show{_,p2,L,rfl,dX g C,ae,g.trans<|.new C,y.trans pm,j}
 rintro h S' ⟨o,p,ck,rfl,hp,m,g,pm,pw⟩;have pw:ck.Pairwise λa b=>bM cs wy (ps.reverse.take (ps.map p3).reverse.length).reverse a b=ϱ:=pw;rw[yM,zc,List.take_of_length_le<|Nat.le_of_eq I,List.reverse_reverse]at pw;show fo ⟨o,p,ck,rfl,hp,m,g,pm,pw⟩;rintro h S' ⟨o,p,ck,rfl,hp,m,g,pm,pw⟩;show !{S.set p<|.lst<|ck.map au,λb c hb=>?_,q ck p pm pw hp};by_cases e:b=p;subst e;rw[ae]at hb;cases hb;show m;rw[ah e]at hb;show g b c hb
noncomputable def Qq(cs:δ<|ρ×ρ)(d:D):D->χ|.tup [.str k,.tup ws]=>bW cs (k,ws) 7 d|_=>false
inductive LQ (t:ft) (ds:δ D) (S:av) (R:KD) (Z:KX):η
 |mk (a cs d m rows) (_:ds=[.ref a,d,m]) (_:Gd cs) (_:Sq cs d) (_:Vw t.aw S a cs m rows) (_:∀p,S p=ϐ->R (.ref p) (S.set p<|.lst<|(rows.filter λr=>bW cs r 7 d).map au))
def rX(T:Txt w K mg t):Ok P w base T.jh 11 (LQ t):=by show T.jh.F.bV jE ?_;obtain⟨a,cs,d,m,rows,e,y,hd,c,q⟩;let⟨F,dl,rs,g,hn,n,z⟩:=c.sh;let⟨ld,lr,ra,h,_⟩:=id g;show{_,(sc (cM (i:=3) jE.nd<|lW (dv 0) T.aj T.aN (bD T) hr)<|s1<|sr<|vE (N:=["row","columns","sieve"]) (src:=[none,some 3,some 1]) (mf (ag tT) ["shelf","sieve","moment","columns"] rfl rfl<|`c) (il<|nj (dv 0) T.aj T.dJ (wX T) hr<|al 2 an) (u_<|show(["row","columns","sieve"]:δ ρ).Nodup by trivial) (bj rfl) bq (λx x x x x=>(if1<|tv<|aI T.passes (iW T 7) hr<|al 1<|al 2<|al 0 an)) λx x x x x=>(dv 0)),?_};show !{a,_,rfl,h.ins,rfl,a,F,cs,dl,rs,rfl,g,?_};show !{a,_,rfl,h.ins,rfl,_,rfl,a,F,cs,dl,rs,m,rfl,g,hn,c.mo,λi ss hi hp o p j=>?_,λh=>absurd h n};rw[z i ss hi hp o];show{_,ae,?_};show fO (Qq cs d) id ae (by change(rows.map au).length<=1000;rw[zc];have:=c.len;lia) (λx hx Q A l v=>?_) λp2 s=>?_;let⟨r,hr,rfl⟩:=zf.mp hx;show !!!{cs,d,r,rfl,y,hd.1,c.rg.1 r hr,_,rfl,bH (λh=>!⟨l h⟩) λh=>v h};have e1:((rows.map au).filter<|Qq cs d).map id=(rows.filter λr=>bW cs r 7 d).map au:=qg λr=>rfl;rw[show({rows.map au,λS=>nh S (.ref p)<|rows.map au}:HL).xs=rows.map au from rfl,e1];show{_,gX<|.new j,q p2<|dX (.new j) s}
inductive X_ (t:ft) (ds:δ D) (S:av) (R:KD) (Z:KX):η
 |mk (a cs ps wy d m rows) (_:ds=[.ref a,fC ps wy,d,m]) (_:Gd cs) (_:Og cs ps wy) (_:Sq cs d) (_:Vw t.aw S a cs m rows) (_:Tb t S) (_:∀(ck:δ Row)(p:ε),ck.Perm (rows.filter λr=>bW cs r 7 d)->(ck.Pairwise λa b=>bM cs wy ps a b=ϱ)->S p=ϐ->R (.ref p) (S.set p<|.lst<|ck.map au))
def dY(T:Txt w K mg t)(B:Bm mg base):Ok P w base T.cU 12 (X_ t):=by show T.cU.F.bV og ?_;obtain⟨a,cs,ps,wy,d,m,rows,e,g,j,hd,c,l,q⟩;let⟨F,dl,rs,i,hn,s,o⟩:=c.sh;let⟨ld,lr,ra,h,_⟩:=id i;show{_,(s1<|sr<|aI T.uc (Cv T B) hr<|ac (lW (dv 0) T.aj T.aN (bD T) hr)<|al 1<|ac (aI T.jh (rX T) hr<|al 0<|al 2<|al 3 an) an),?_};show !{a,_,rfl,h.ins,rfl,a,F,cs,dl,rs,rfl,i,?_};show !!!!{a,cs,d,m,rows,rfl,g,hd,c,λp hp=>?_};have fl:(rows.filter λr=>bW cs r 7 d).length<=rows.length:=List.length_filter_le _ _;have:=c.len;show{cs,ps,wy,p,rows.filter λr=>bW cs r 7 d,rfl,g,j,ae,zR fl this,c.rg.sub yx,l.sub<|.new hp,λck p2 pm pw n=>?_};show{_,gX<|.new hp,q ck p2 pm pw<|dX (.new hp) n}
noncomputable def GI(z:ρ):D->χ|.tup [.tup (.str n::_),_]=>ω (n=z)|_=>false
noncomputable def Ya:D->D|.tup [_,v]=>v|_=>.aA
theorem Cw:∀{cs:δ (ρ×ρ)}{ws:δ D},z∈cs.map Prod.fst->ws.length=cs.length->(((aZ (cs.map aB) ws).filter<|GI z).map Ya)[0]?=some (aq cs ws z)
 |[],_,h,_=>by cases h
 |c::cs,[],_,h=>by cases h
 |c::cs,v::ws,h,hl=>by
  have g:aZ ((c::cs).map aB) (v::ws)=.tup [aB c,v]::aZ (cs.map aB) ws:=rfl;rw[g];unfold aq OC;by_cases e:c.1=z;rw[yI,qc<|show GI z (.tup [aB c,v])=ϱ from zu e,zD,zD,e,List.idxOf_cons_self];rfl;have d:z∈cs.map Prod.fst:=by rw[zD]at h;rcases ze.mp h with h|h;show absurd h.symm e;show h
  have a:=Cw (ws:=ws) d (by simpa using hl);unfold aq OC at a;rw[yI,qa<|by rw[show GI z (.tup [aB c,v])=ϰ from zt e];show zd,a,zD,List.idxOf_cons,show(c.1==z)=ϰ by simpa using e];rfl
theorem GJ(q:R (.bl<|if neg then !(x==y) else (x==y)) S):J6 neg (.bl x) (.bl y) S R:=⟨.bool x,.bool y,by simp only[Dl,Dp],by simp only[Dl,Dp],by simp only[PyData.canLay0],by simp only[PyData.canLay0],.inl<|by simp only[PyData.depth];show zU _,by
 have e:PyData.eqv (.bool x) (.bool y)=(x==y):=by cases x<;>cases y<;>rfl
 rw[e];show q⟩
inductive LR (ds:δ D) (S:av) (R:KD) (Z:KX):η
 |mk (cs r c) (_:ds=[.tup<|cs.map aB,au r,.str c.1]) (_:Gd cs) (_:Wg cs r.2) (_:c∈cs) (_:R (aq cs r.2 c.1) S)
def Yb(T:Txt w K mg t):Ok P w base T.Ts 1 LR:=by
 show T.Ts.F.bV Om ?_;obtain⟨cs,r,c,e,s,hw,l,q⟩;have a:r.2.length=cs.length:=(yJ hw).symm;have o:(aZ (cs.map aB) r.2).length<=1000:=by unfold aZ;rw[List.length_zipWith,zc];have:=s.1;lia
 show{_,(s1<|sr<|ix `u (vE (N:=["_law_column","_law_value_here","_law_name"]) (src:=[none,none,some 2]) (mf (ag Tj) ["_law_columns_here","_law_row","_law_name"] rfl rfl<|`c) (Zv T.wO<|al 0<|ac (ix `u (dv 1) di) an) (UU<|show(["_law_column","_law_value_here","_law_name"]:δ ρ).Nodup by trivial) (lA rfl rfl) lC (λp p p p p=>(if1<|bf a_ `u (ix `u (dv 0) di)<|dv 2)) λp p p p p=>(dv 1)) di),?_};show !!!{cs.map aB,r.2,rfl,by rw[zc];show a.symm,?_};show fO (GI c.1) Ya trivial o (λd hd Q v j m=>?_) λp hp=>?_;have hd:d∈aZ (cs.map aB) r.2:=hd;unfold aZ at hd;let⟨i,n⟩:=yt hd;let⟨x,y,e2,e3,e4⟩:=yg.mp n;subst e4;rw[zx]at e2;cases g:cs[i]? with|none=>(rw[g]at e2;cases e2)|some z=>rw[g]at e2;cases e2;show !{rfl,_,_,rfl,_,_,rfl,rfl,_,rfl,_,rfl,_,rfl,_,rfl,bH (λh=>!⟨j h⟩) λh=>m h}
 show{_,_,ae,eU<|Cw (zf.mpr ⟨c,l,rfl⟩) a,S,.new hp,q}
theorem TR(h:S p=ϑ (.lst L)):Gt S (.ref p):={{.lst,.inl ⟨rfl,L,h⟩},λz=>nofun}
theorem LS:Gt S (.tup ws):={{.tup,rfl},λz=>nofun}
theorem OG(h:ws.length<=1000)(g:∀v∈ws,Gt S v):Vb S (.tup ws):={LS,λa e=>by cases e;show⟨h,g⟩}
theorem gt_int:Gt S (.int i):={{.int,rfl},λz=>nofun}
theorem AS(h:z.cps.size<=1000):Gt S (.str z):={{.str,rfl},λa e=>by cases e;show h}
def LU(h:dU d=ϱ):Gt S d:=by cases d with|aA=>show ux|int i=>show gt_int|str z=>have h:(ω (z.cps.size<=40)&&PyData.strOk z)=ϱ:=h;rw[zN]at h;have:=zy h.1;show AS (zj ‹_› `a)|_=>cases h
def E9{cs:δ<|ρ×ρ}{ws:δ D}(h:Paired rel cs ws):ws.length=cs.length:=by induction h with|nil=>rfl|cons _ t a=>rw[zM,zM,a]
theorem Wg.len(h:Wg cs ws):ws.length=cs.length:=E9 h
def Wg.TU(h:Wg cs ws):om cs (.tup ws)=ϱ:=by change(ω (ws.length=cs.length)&&(List.zipWith (λc v=>kU c.2 v) cs ws).all id)=ϱ;rw[zu h.len,yf];unfold Wg at h;induction h with|nil=>rfl|cons r t a=>rw[List.zipWith_cons_cons,List.all_cons,a];change(id (kU _ _)&&true)=ϱ;rw[show id (kU _ _)=ϱ from r.1];rfl
theorem Wg.gts(h:Wg cs ws)(c:cs.length<=8):Vb S (.tup ws):=OG (by rw[h.len];show zj ‹_› `a) λv a=>LU<|h.all v a
theorem OH(g:Gd cs)(hN:∀c∈cs,c.1∈vT):∀d∈cs.map aB,Ly S 60 d:=λd hd=>by let⟨c,a,rfl⟩:=zf.mp hd;show(Ly.tup (n:=0) λx hx=>?_).le `a;have hx:x∈[D.str c.1,D.str c.2]:=hx;simp only[ze,zA,or_false]at hx;rcases hx with rfl|rfl;show Ly.str (AG _<|hN c a).2;rcases (g.2.2 c a).2 with e|e<;>rw[e]<;>show Ly.str `c
def OI{n a b tn:π}(ha:a<n)(hb:b<n)(h:(a+tn)%n=(b+tn)%n):a=b:=by rcases Nat.lt_trichotomy a b with l|l|l;have:=Nat.sub_mod_eq_zero_of_mod_eq h.symm;rw[show b+tn-(a+tn)=b-a by lia,Nat.mod_eq_of_lt<|zR (Nat.sub_le _ _) ‹_›]at this;lia;show l;have:=Nat.sub_mod_eq_zero_of_mod_eq h;rw[show a+tn-(b+tn)=a-b by lia,Nat.mod_eq_of_lt<|zR (Nat.sub_le _ _) ‹_›]at this;lia
noncomputable def uK(cs:δ<|ρ×ρ)(tn k:π):Str:=(cs.getD ((k+tn)%cs.length) ("","")).1
def Cy(h:0<cs.length):∃c∈cs,cs[(k+tn)%cs.length]?=some c/\c.1=uK cs tn k:=by have a:(k+tn)%cs.length<cs.length:=Nat.mod_lt _ h;show{cs[(k+tn)%cs.length],List.getElem_mem a,zg a,?_};unfold uK;rw[zJ,zg a];rfl
def Cz{cs:δ<|ρ×ρ}(d:(cs.map Prod.fst).Nodup){tn i:π}(hi:i<=cs.length):((List.range i).map<|uK cs tn).Nodup:=by
 show List.pairwise_map.mpr<|List.nodup_range.imp_of_mem λ{a b} ha hb n e=>n ?_;have ha:=zV.mp ha;have hb:=zV.mp hb;have h0:0<cs.length:=`b
 have la:(a+tn)%cs.length<cs.length:=Nat.mod_lt _ h0;have c:(b+tn)%cs.length<cs.length:=Nat.mod_lt _ h0;unfold uK at e;rw[zJ,zg la,zJ,zg c]at e;have e:(cs[(a+tn)%cs.length]).1=(cs[(b+tn)%cs.length]).1:=e;have e2:(cs.map Prod.fst)[(a+tn)%cs.length]'(by rw[zc];show la)=(cs.map Prod.fst)[(b+tn)%cs.length]'(by rw[zc];show c):=by rw[List.getElem_map,List.getElem_map];show e
 show OI (n:=cs.length) (zq ‹_› ‹_›) `b<|(List.getElem_inj d).mp e2
inductive w9 (ds:δ D) (S:av) (R:KD) (Z:KX):η
 |mk (l cs) (_:ds=[.ref l,.tup<|cs.map aB]) (_:Gd cs) (_:S l=ϑ .well) (_:∀(ps:δ Part)(wy:ρ),Og cs ps wy->R (fC ps wy) S)
def LV(T:Txt w K mg t):Ok P w base T.Ag 2 w9:=by
 show T.Ag.F.bV gm ?_;obtain⟨l,cs,e,L,hw,q⟩;have h8:=L.1;have O:(cs.map aB).length=cs.length:=zc _;show{_,(sc (cM (i:=2) gm.nd<|aI T.aT (bE T) hr<|al 0<|ac di an)<|sc (cM (i:=3) gm.nd<|cP an)<|sc (C4<|I_ (Sw T.je<|ac (cb PQ T.Qf JX<|ac (cb aW T.aU aH<|al 1 an)<|ac (C5<|ix `u (cP<|ac di<|ac di<|ac di<|ac di an)<|aI T.aT (bE T) hr<|al 0<|ac di an) an) an) (gn (i:=4) gm.nd)<|sc (cM (i:=5) gm.nd<|ix `u (ix `u (dv 1)<|bo ke `u (bo cQ `u (dv 4)<|dv 2)<|cb aW T.aU aH<|al 1 an) di)<|s1<|se<|bm zO zX zY cL (dv 3)<|ac (bY<|al 5<|ac (C5<|ix `u (cP<|ac ds<|ac ds an)<|aI T.aT (bE T) hr<|al 0<|ac di an)<|ac (C5<|ix `u (cP<|ac ds<|ac ds an)<|aI T.aT (bE T) hr<|al 0<|ac di an) an) an)<|s1<|sr<|bY<|ac (ct gL T.bc aR<|al 3 an)<|ac (C5<|ix `u (cP<|ac ds<|ac ds an)<|aI T.aT (bE T) hr<|al 0<|ac di an) an),?_};show !{l,_,rfl,`a,`a,hw,λR X a0=>{pW,λlp o=>?_}};obtain⟨tn,rfl⟩:∃n:π,R=(n:ν):={R.toNat,`b};have Q:l≠lp:=h_ hw o;show{λv S'=>∃(r g:θ D)(ps:δ Part)(i:π),v=[some<|.ref l,some<|.tup<|cs.map aB,some<|.int tn,some<|.ref lp,r,g]/\i<=cs.length/\ps.map Prod.fst=(List.range i).map (uK cs tn)/\(∀p∈ps,k_ p.2.1=ϱ/\Cp p.2.2=ϱ)/\S'=S.set lp (.lst<|ps.map p3),?_,?_};show !!{rT,λp hp=>!{l,_,rfl,`a,`a,wl (wl hw o) hp,λn4 Zx J=>cB Zx J hp λd hd=>?_}};obtain⟨m,rfl⟩:∃m:π,d=.int m:=by have hd:d∈[D.int 1,.int 2,.int 0,.int 8]:=hd;simp only[ze,zA,or_false]at hd;rcases hd with h|h|h|h;show{1,h};show{2,h};show{0,h};show{8,h}
 obtain⟨k,a,Y⟩:∃k:π,k<=cs.length/\(if ω ((m:ν)<(((cs.map aB).length:π):ν))=ϱ then (m:ν) else (((cs.map aB).length:π):ν))=(k:ν):=by rw[O];by_cases h:(m:ν)<((cs.length:π):ν);show{m,`b,by rw[zu h,qc rfl]};show{cs.length,zm _,by rw[zt h,qa zd]}
 show{_,_,rfl,k,congrArg (λi=>[D.int i]) Y,by show Int.natCast_nonneg _,`b,?_};show{λi v S'=>∃(r g:θ D)(ps:δ Part),v=[some<|.ref l,some<|.tup<|cs.map aB,some<|.int tn,some<|.ref lp,r,g]/\ps.map Prod.fst=(List.range i).map (uK cs tn)/\(∀p∈ps,k_ p.2.1=ϱ/\Cp p.2.2=ϱ)/\S'=S.set lp (.lst<|ps.map p3),{none,none,[],rfl,rfl,λf h=>(nomatch h),rfl},λf f f f=>trivial,?_,?_};rintro i d v S' hd ⟨r,g,ps,rfl,hn,G,rfl⟩;let⟨hi,rfl⟩:=nM hd;have hi:i<k:=by simpa using hi
 have h0:0<cs.length:=`b
 have Z:ps.length=i:=by have:=congrArg List.length hn;simpa using this
 let⟨c,s,j,M⟩:=Cy (cs:=cs) (tn:=tn) (k:=i) h0;have B:(S.set lp<|.lst<|ps.map p3) l=ϑ .well:=(ah Q).trans hw;have qA:(S.set lp<|.lst<|ps.map p3) lp=ϑ (.lst<|ps.map p3):=ae;have I:vi (cs.map aB) (((0:ν)+(i:π)+(tn:π))%(((cs.map aB).length:π):ν))=ϑ (aB c):=by rw[O,show((0:ν)+(i:π)+(tn:π))%((cs.length:π):ν)=(((i+tn)%cs.length:π):ν) by rw[Int.zero_add,Int.natCast_emod,Int.natCast_add]];show eU ?_;rw[zx,j];rfl
 show !!!!!{(by rw[O];show y8.mpr ‹_›),_,I,_,rfl,?_};show{_,rfl,{rfl,_,qA},_,rfl,cF,λp hp=>!{l,_,rfl,`a,`a,wl B hp,λn2 y A=>cB y A hp λd hd=>?_}};obtain⟨wy,rfl,C⟩:∃wy:ρ,d=.str wy/\k_ wy=ϱ:=by have hd:d∈[D.str "up",.str "down"]:=hd;simp only[ze,zA,or_false]at hd;rcases hd with h|h;show{_,h,`c};show{_,h,`c}
 show{cF,λp hp=>!{l,_,rfl,`a,`a,wl B hp,λn2 y A=>cB y A hp λd hd=>?_}};obtain⟨E,rfl,U⟩:∃E:ρ,d=.str E/\Cp E=ϱ:=by have hd:d∈[D.str "first",.str "last"]:=hd;simp only[ze,zA,or_false]at hd;rcases hd with h|h;show{_,h,`c};show{_,h,`c}
 show{gH,lp,_,_,rfl,rfl,qA,bg<|by rw[zc];lia,?_};show{_,_,ps++[(c.1,wy,E)],rfl,?_,λx hx=>?_,?_};rw[zH,hn,List.range_succ,zH];change _=_++[uK cs tn i];rw[<-M];rfl;rcases zL.mp hx with h|h;show G x h;rw[zC.mp h];show⟨C,U⟩;rw[eJ,zH];rfl;rintro v S' ⟨r,g,ps,rfl,hn,G,rfl⟩;rw[fQ]at hn;show fo {r,g,ps,k,rfl,a,by simpa using hn,G,rfl};rintro v S' ⟨r,g,ps,i,rfl,hi,hn,a,rfl⟩;have B:(S.set lp<|.lst<|ps.map p3) l=ϑ .well:=(ah Q).trans hw;have qA:(S.set lp<|.lst<|ps.map p3) lp=ϑ (.lst<|ps.map p3):=ae;show !{_,_,rfl,.inl qA,cF,λp hp=>!{l,_,rfl,`a,`a,wl B hp,λn2 y A=>cB y A hp λd hd=>?_}};obtain⟨wy,rfl,C⟩:∃wy:ρ,d=.str wy/\k_ wy=ϱ:=by have hd:d∈[D.str "up",.str "down"]:=hd;simp only[ze,zA,or_false]at hd;rcases hd with h|h;show{_,h,`c};show{_,h,`c}
 have Z:ps.length=i:=by have:=congrArg List.length hn;simpa using this
 have pin:Pin cs ps:=λx hx=>by have:x.1∈ps.map Prod.fst:=zf.mpr ⟨x,hx,rfl⟩;rw[hn]at this;let⟨k,a,e⟩:=zf.mp this;have:=zV.mp a;let⟨c,s,_,j⟩:=Cy (cs:=cs) (tn:=tn) (k:=k) `b;show{c,s,j.trans e}
 have N:∀z,k_ z=ϱ->z.cps.size<=1000:=λz h=>by rcases AR h with rfl|rfl<;>decide +kernel
 have H:∀z,Cp z=ϱ->z.cps.size<=1000:=λz h=>by unfold Cp at h;simp only[yW,yr]at h;rcases h with rfl|rfl<;>decide +kernel
 show{cF,S,.new o,q ps wy {pin,λx hx=>(a x hx).1,C,?_,λx hx=>?_}};unfold Cq;rw[zu<|show ps.length<=8 by lia,yf,zN,zN];show{yo.mpr λx hx=>?_,zu<|by rw[hn];show Cz L.2.1 hi,C};let⟨c,s,j⟩:=pin x hx;unfold gv;rw[zu<|zf.mpr ⟨c,s,j⟩,(a x hx).1,(a x hx).2];rfl;let⟨c,s,j⟩:=pin x hx;show{by rw[<-j];show p6 (L.2.2 c s).1,N _ (a x hx).1,H _ (a x hx).2}
def acG(n:π):jb:=λds S R z=>∃l cs m,n=m+1/\ds=[.ref l,.tup<|cs.map aB,.int ((m:π):ν)]/\Gd cs/\(∀c∈cs,c.1∈vT)/\S l=ϑ .well/\∀d,Sg cs n d->nq n d+1<=2^n->R d S
def Yc(h:Lf cs d):nq (n+1) d=1:=by rcases h with rfl|⟨ks,rfl,_⟩|⟨o,c,v,_,_,_,rfl⟩<;>rfl
def TV(n:π)(e:D):nq (n+1) (.tup [.str "not",e])=nq n e+1:=by change((oF _).map<|nq n).sum+1=_;rw[AL];simp
def OJ{o:ρ}(h:o ="and"\/o ="or")(n:π)(ds:δ D):nq (n+1) (.tup [.str o,.tup ds])=(ds.map<|nq n).sum+1:=by change((oF _).map<|nq n).sum+1=_;rw[AM h]
theorem Qr:∀{n:π}{d:D},Sg cs n d->nq (n+1) d=nq n d|0,_,h=>h.elim|n+1,d,h=>by change((oF d).map<|nq<|n+1).sum+1=((oF d).map<|nq n).sum+1;rw[z0 λf a=>Qr<|Lz h f a]
theorem Sg.up:∀{n:π}{d:D},Sg cs n d->Sg cs (n+1) d|0,_,h=>h.elim|n+1,d,h=>by rcases h with h|⟨e,h1,h2⟩|⟨o,ds,h1,h2,a,g⟩;show .inl h;show .inr<|.inl ⟨e,h1,h2.up⟩;show .inr<|.inr {o,ds,h1,h2,a,λe c=>(g e c).up}
theorem LW:∀{ds:δ D},(∀d∈ds,f d<=c)->(ds.map f).sum<=ds.length*c|[],_=>zU _|d::ds,h=>by have h1:=h d zB;have h2:=LW (f:=f) (c:=c) (ds:=ds) λx hx=>h x<|zo _ hx;rw[zD,List.sum_cons,zM,Nat.succ_mul];lia
def sz1(h:Lf cs d):nq (n+1) d+1<=2^(n+1):=by have:0<2^n:=Nat.pow_pos `a;rw[Yc h,Nat.pow_succ];lia
theorem Qt(h:Sg cs n d)(h2:nq n d<=40):∀k,Sg cs (n+k) d/\nq (n+k) d<=40|0=>⟨h,h2⟩|k+1=>by let⟨a,b⟩:=Qt h h2 k;show{a.up,by change nq (n+k+1) d<=40;rw[Qr a];show b}
def keys_str:(∀d∈out,∃z∈KS,d=.str z)->∃ks:δ ρ,out=ks.map D.str/\∀k∈ks,k∈KS:=by induction out with|nil=>show λy=>{[],rfl,λy h=>(nomatch h)}|cons x l g=>intro h;let⟨z,a,e⟩:=h x zB;let⟨ks,e2,c⟩:=g λd hd=>h d<|zo _ hd;show{z::ks,by rw[e,e2];rfl,λk i=>(ze.mp i).elim (λe=>e ▸ a)<|c k}
def m9{xs out:δ D}(h:Paired rel xs out):∀v∈out,∃x,rel x v:=by induction h with|nil=>show nofun|cons r t a=>intro v h;rcases ze.mp h with rfl|h;show{_,r};show a v h
theorem qh(T:Txt w K mg t):∀n,Ok P w base T.lI (3+n) (acG n)
 |0=>by show T.lI.F.ok (k:=2) dA (by rintro ds S R Z ⟨_,_,_,_,e,_⟩;show by rw[e];rfl) (by rintro gF A outer s H E ds S R Z hr ⟨_,_,m,e,_⟩;show by cases e)
 |n+1=>by
  show T.lI.F.ok (k:=3+n) dA (by rintro ds S R Z ⟨_,_,_,_,e,_⟩;rw[e];rfl) ?_;obtain⟨l,cs,m,em,e,B,hN,hw,q⟩;cases em;have DN:(cs.map aB).length=cs.length:=zc _;have h8:=B.1;show{_,(sc (cM (i:=3) dA.nd<|aI T.aT (bE T) hr<|al 0<|ac (bo cQ `u di<|bo mi `u di<|ct Kc T.Gq xB<|ac (cm tO `u (dv 2) di) an) an)<|sc (si (twd<|twor (bf a_ `u (dv 3) di)<|tw1<|twd<|twand (bf a_ `u (dv 1)<|bY an)<|tw1<|bf vA `u (dv 3) di) (s1<|sr<|bY<|ac ds an) s0)<|sc (si (bf a_ `u (dv 3) di) (s1<|sr<|bY<|ac ds<|ac (ct gL T.bc aR<|ac (vE (N:=["_law_k","_law_well_here"]) (src:=[none,some 0]) (mf (ag wL) ["_law_well_here","_law_columns_here","_law_deep","_law_way","_law_some","_law_name","_law_kind","_law_value_here"] rfl rfl<|`c) (Sw T.je<|ac (aI T.aT (bE T) hr<|al 0<|ac di an) an) (u_<|show(["_law_k","_law_well_here"]:δ ρ).Nodup by trivial) (bj rfl) bq (λb b b b b=>u9) λb b b b b=>(aI T.B6 (EV T) hr<|al 1 an)) an) an) s0)<|sc (si (bf a_ `u (dv 3) di) (s1<|sr<|bY<|ac ds<|ac (aI T.lI (qh T n) hr<|al 0<|al 1<|ac (bo j_ `u (dv 2) di) an) an) s0)<|sc (si (bf tO `u (dv 3) di) (sc (Sz (i:=4) (N:=["_law_k","_law_well_here","_law_columns_here","_law_deep"]) (src:=[none,some 0,some 1,some 2]) dA.nd (mf (ag wL) ["_law_well_here","_law_columns_here","_law_deep","_law_way","_law_some","_law_name","_law_kind","_law_value_here"] rfl rfl<|`c) (Sw T.je<|ac (aI T.aT (bE T) hr<|al 0<|ac di an) an) (u_<|show(["_law_k","_law_well_here","_law_columns_here","_law_deep"]:δ ρ).Nodup by trivial) (bj rfl) bq (λb b b b b=>u9) λb b b b b=>(aI T.lI (qh T n) hr<|al 1<|al 2<|ac (bo j_ `u (dv 3) di) an))<|s1<|sr<|bY<|ac (C5<|ix `u (cP<|ac ds<|ac ds an)<|bo j_ `u (dv 3) di)<|ac (ct gL T.bc aR<|al 4 an) an) s0)<|sc (sa (ix `u (dv 1)<|aI T.aT (bE T) hr<|al 0<|ac (cb aW T.aU aH<|al 1 an) an)<|gt (n:=2)<|gc (gn (i:=5) dA.nd)<|gc (gn (i:=6) dA.nd) g0)<|sc (cM (i:=7) dA.nd<|aI T.n8 (uz T) hr<|al 0<|al 6 an)<|sc (si (twd<|twor (bf a_ `u (dv 3) di)<|tw1<|bf i9 `u (dv 7) dn) (s1<|sr<|bY<|ac ds<|al 5<|al 7 an) s0)<|sc (si (twd<|twand (bf a_ `u (dv 3) di)<|tw1<|bf a_ `u (dv 6) ds) (s1<|sr<|bY<|ac ds<|al 5<|al 7 an) s0)<|s1<|sr<|bY<|ac (C5<|ix `u (cP<|ac ds<|ac ds an)<|bo ke `u (dv 3) di)<|al 5<|al 7 an),?_};obtain⟨x,ex,hx⟩:∃x:ν,(if (λi j:ν=>ω<|j<i) (↑n) 0=ϱ then (1:ν) else 0)=x/\(x=0\/(x=1/\0<n)):=by by_cases e:(0:ν)<(n:ν);show{1,qc<|zu e,.inr {rfl,by show y8.mp ‹_›}};show{0,qa<|by rw[show(λi j:ν=>ω<|j<i) (↑n) 0=ϰ from zt e];show zd,.inl rfl}
  show !!⟨.inr !⟨?_⟩⟩;rw[ex];show{.inl {`a,`a},l,_,rfl,`b,uy `b<|`b,hw,λway h0 h1=>?_};have M:way<9:=`b
  have Qu:6<=way->0<n:=λh=>by lia
  have lq:∀{d:D},Lf cs d->R d S:=λh=>q _ (.inl h)<|sz1 h;have Qv:Fo S (R<|.tup [.str "every"]):=fo<|lq<|.inl rfl;have a0:∀d∈cs.map aB,Ly S 60 d:=OH B hN;show !!⟨bH (λh=>⟨pX,Qv⟩) λh=>!{pW,Ox a0 !⟨bH (λh2=>!!⟨bH (λh3=>⟨pX,Qv⟩) λh3=>?_⟩) λh2=>?_⟩}⟩
  all_goals
   have Iv:way<5->0<cs.length:=by
    first
    |show λh=>absurd h (zW h3)
    |show λb=>List.length_pos_iff.mpr λe=>by subst e;cases h2
   have a3:way≠0:=zW h
   show !!⟨bH (λU=>?_) λU=>?_⟩
   ·show !{l,_,rfl,`a,`a,hw,λn5 a7 a4=>{n5,rfl,`b,`b,?_}}
    show fe (λb v=>∃z∈KS,v=.str z) trivial (by rw[fQ];lia) (λd hd Q hQ=>?_) λout g p hp=>?_
    ·show !{l,[],rfl,rfl,hw,by rintro d ⟨z,L,e⟩;show hQ d {z,Cg L,e}}
    ·let⟨ks,rfl,BH⟩:=keys_str λd hd=>(m9 g d hd).elim λb h=>h
     have Y:ks.length<=8:=by
      have:=yJ g
      rw[fQ,zc]at this
      lia
     show{_,_,rfl,.inl ae,cF,S,.new hp,lq<|.inr<|.inl ⟨ks,rfl,Y,BH⟩}
   have a2:way≠5:=zW U
   show !!⟨bH (λC=>?_) λC=>?_⟩
   ·have C:way=6:=zy C
    have hn:=Qu<|`b
    show !!!{l,cs,n-1,`b,?_,B,hN,hw,λd hd L=>{cF,fo<|q _ (.inr<|.inl ⟨d,rfl,hd⟩)<|by rw[TV,Nat.pow_succ];have:0<2^n:=Nat.pow_pos `a;lia}}
    change[D.ref l,.tup<|cs.map aB,.int<|(n:ν)-1]=[_,_,D.int ((n-1:π):ν)]
    rw[show((n-1:π):ν)=(n:ν)-1 by lia]
   have a5:way≠6:=zW C
   show !!⟨bH (λG=>?_) λG=>?_⟩
   ·have G:6<way:=zy G
    have hn:=Qu<|Int.le_of_lt ‹_›
    show !{l,_,rfl,`a,`a,hw,λn3 a8 ZA=>{n3,rfl,`b,`b,?_}}
    show fe (λb v=>Sg cs n v/\nq n v+1<=2^n) trivial (by rw[fQ];lia) (λd hd Q hQ=>?_) λout g p hp=>?_
    ·show !!!{l,cs,n-1,`b,?_,B,hN,hw,λd hd L=>hQ d ⟨hd,L⟩}
     change[D.ref l,.tup<|cs.map aB,.int<|(n:ν)-1]=[_,_,D.int ((n-1:π):ν)]
     rw[show((n-1:π):ν)=(n:ν)-1 by lia]
    ·have UN:out.length<=2:=by
      have:=yJ g
      rw[fQ]at this
      lia
     show{cF,λp2 eX=>!⟨cB `b (by change way-7<2;lia) eX λd hd=>?_⟩}
     obtain⟨o,rfl,J⟩:∃o:ρ,d=.str o/\(o ="and"\/o ="or"):=by
      have hd:d∈[D.str "and",.str "or"]:=hd
      simp only[ze,zA,or_false]at hd
      rcases hd with h|h
      ·show{_,h,.inl rfl}
      ·show{_,h,.inr rfl}
     show⟨_,rfl,_,_,rfl,.inl ae,cF,S,.new hp,q _ (.inr<|.inr {o,out,J,rfl,zj UN<|`a,λe O=>(m9 g e O).elim λb h=>h.1}) (by
      rw[OJ J,Nat.pow_succ]
      have hp:0<2^n:=Nat.pow_pos<|`a
      have U:=LW (f:=nq n) (c:=2^n-1) λe O=>(m9 g e O).elim λb h=>(by have:=h.2;lia)
      have C:out.length*(2^n-1)<=2*(2^n-1):=Nat.mul_le_mul_right _ UN
      lia)⟩
   have G:¬6<way:=zW G
   have mI:=Iv<|`b
   show !!!!{l,_,rfl,`b,uy `b<|`b,hw,λj a6 a1=>?_}
   obtain⟨a,rfl⟩:∃a:π,j=(a:ν):={j.toNat,`b}
   have I:a<cs.length:=`b
   have ec:cs[a]?=some cs[a]:=zg I
   have r:cs[a]∈cs:=List.getElem_mem I
   generalize cs[a]=c at ec r
   show{aB c,eU<|by rw[zx,ec];rfl,_,rfl,rfl,_,_,rfl,_,_,rfl,rfl,?_}
   show !!{l,[.str c.2],rfl,?_,hw,λv y=>?_}
   ·rcases (B.2.2 c r).2 with e|e<;>rw[e]
    ·show .inl rfl
    ·show .inr rfl
   let⟨k,ek,y⟩:=y
   cases ek
   have TJ:Fo S (R<|.tup [.str "is",.str c.1,v]):=fo<|lq<|.inr<|.inr {"is",c,v,r,y,.inl rfl,rfl}
   show !!⟨bH (λh8=>!!⟨gH,TJ⟩) λh8=>!!⟨bH (λM=>!!⟨gH,TJ⟩) λM=>?_⟩⟩
   have Zy:v≠.aA:=bK M
   show !!⟨bH (λX=>!!⟨bH (λX3=>?_) λX3=>?_⟩) λX=>?_⟩
   ·show !!{gH,fo<|lq<|.inr<|.inr {"begins",c,v,r,y,.inr {Zy,.inr<|.inr {rfl,zy X3}},rfl}}
   all_goals
    show{cF,λp hp=>!{`a,cB `b (by change way%2<2;lia) hp λd hd=>?_}}
    obtain⟨o,rfl,J⟩:∃o:ρ,d=.str o/\(o ="below"\/o ="above"):=by
     have hd:d∈[D.str "below",.str "above"]:=hd
     simp only[ze,zA,or_false]at hd
     rcases hd with h|h
     ·show{_,h,.inl rfl}
     ·show{_,h,.inr rfl}
    show !!{gH,fo<|lq<|.inr<|.inr {o,c,v,r,y,.inr {Zy,J.elim .inl λh=>.inr<|.inl h},rfl}}
theorem GK:∀{l:δ ρ}{p:ρ},PyProof.Rows.risingS p l=ϱ->(p::l).Pairwise λa b=>a.cps.toList<=b.cps.toList|[],p,_=>List.pairwise_singleton _ _|x::r,p,h=>by have h:(!PySem.Spec.ltCps x.cps.toList p.cps.toList&&PyProof.Rows.risingS x r)=ϱ:=h;rw[zN,PyProof.Rows.ltCps_eq,Bool.not_eq_true',decide_eq_false_iff_not]at h;have g:=GK h.2;have d:p.cps.toList<=x.cps.toList:=List.not_lt.mp h.1;show List.pairwise_cons.mpr {λy c=>?_,g};rcases ze.mp c with e|c;rw[e];show d;show List.le_trans d<|(List.pairwise_cons.mp g).1 y c
def lL(h:PyProof.Rows.sortedS l=ϱ):l.Pairwise λa b=>a.cps.toList<=b.cps.toList:=by cases l with|nil=>show List.Pairwise.nil|cons x r=>show GK h
def OL{a b:ρ}(h:a.cps.toList=b.cps.toList):a=b:=by let⟨⟨x⟩⟩:=a;let⟨⟨y⟩⟩:=b;cases h;rfl
theorem w_{l m:δ ρ}(hl:l.Pairwise λa b=>a.cps.toList<=b.cps.toList)(hm:m.Pairwise λa b=>a.cps.toList<=b.cps.toList)(c:l.Nodup)(nm:m.Nodup)(h:∀z,z∈l↔z∈m):l=m:=List.Perm.eq_of_pairwise (λa b x x h1 h2=>OL<|List.le_antisymm h1 h2) hl hm<|(List.perm_ext_iff_of_nodup c nm).mpr h
def TI(l:δ Std)(n:π):Prop:=∀s∈l,s.b<=n/\∀m,s.e=ϑ m->m<n
noncomputable def OM(s:Std):D:=match s.e with|none=>.tup s.ws|some _=>.aA
noncomputable def cur(l:δ Std):D:=match l.getLast? with|none=>.aA|some s=>OM s
def lg(r:δ Std)(s:Std):cur (r++[s])=OM s:=by unfold cur;rw[List.getLast?_concat]
def TY(h:TI l n):wt l n=cur l:=by by_cases e:l=[];subst e;rfl;let⟨r,s,rfl⟩:=lJ e;rw[lg];unfold wt;rw[List.reverse_append];let⟨h1,h2⟩:=h s<|zI _<|zC.mpr rfl;change Ld (s::r.reverse) (n:ν)=_;unfold Ld OM;rw[qc<|show(s.b:ν)<=(n:ν) by lia];cases q:s.e with|none=>rfl|some m=>have:=h2 m q;show qa<|show ¬(n:ν)<=(m:ν) by lia
theorem TI.up(h:TI l n):TI l (n+1):=λs a=>{yR (h s a).1,λm e=>Nat.lt_succ_of_lt<|(h s a).2 m e}
def TI.close(h:TI l n):TI (jm n l) (n+1):=by by_cases e:l=[];subst e;show λs a=>(nomatch a);let⟨r,s,rfl⟩:=lJ e;rw[fh];intro x hx;rcases zL.mp hx with hx|hx;show h.up x<|zT _ hx;rw[zC.mp hx];show{yR (h s<|zI _<|zC.mpr rfl).1,λm e=>by cases e;show yn _}
theorem TI.beg(h:TI l<|n+1):TI (l++[Std.mk (n+1) none ws]) (n+1):=λs a=>by rcases zL.mp a with a|a;show h s a;rw[zC.mp a];show{zm _,λm e=>(by cases e)}
def IF:cur (jm n l)=.aA:=by by_cases e:l=[];subst e;rfl;let⟨r,s,rfl⟩:=lJ e;rw[fh,lg];rfl
noncomputable def AU(kn:Kn)(z:ρ):D:=match gB kn z with|none=>.aA|some ws=>.tup ws
structure RI(rs:jl)(n:π)(kn:Kn):η where
 ti:∀z,TI ((lu rs z).getD []) n
 eq:∀z,cur ((lu rs z).getD [])=AU kn z
 ks:∀r∈rs,r.1∈KS
def ON(h:r∈ER rs z s):r.1=z\/∃c∈rs,c.1=r.1:=by unfold ER at h;split at h;let⟨r0,a,e⟩:=zf.mp h;show .inr {r0,a,?_};subst e;split<;>rfl;rcases zL.mp h with h|h;show .inr ⟨r,h,rfl⟩;rw[zC.mp h];show .inl rfl
theorem LX(h:∀r∈rs,r.1∈KS)(hz:z∈KS):∀r∈ER rs z s,r.1∈KS:=λr hr=>by rcases ON hr with e|⟨c,a,e⟩;rw[e];show hz;rw[<-e];show h c a
def GL:AU (m7 kn z ws) k=if k=z then .tup ws else AU kn k:=by unfold AU;rw[AH];by_cases h:k=z;rw[qc h,qc h];rw[qa h,qa h]
def GN:AU (uC kn z) k=if k=z then .aA else AU kn k:=by unfold AU;rw[Gx];by_cases h:k=z;rw[qc h,qc h];rw[qa h,qa h]
theorem RI.nil:RI [] 0 []:={λz s a=>(nomatch a),λz=>rfl,λr hr=>(nomatch hr)}
def RI.put(h:RI rs n kn)(hz:z∈KS):RI (vR rs z (n+1) ws) (n+1) (m7 kn z ws):=by show{λk=>?_,λk=>?_,LX h.ks hz};unfold vR;rw[kZ];by_cases e:k=z;rw[qc e];show(h.ti z).up.beg;rw[qa e];show(h.ti k).up;unfold vR;rw[kZ,GL];by_cases e:k=z;rw[qc e,qc e];show lg _ _;rw[qa e,qa e];show h.eq k
def RI.del(h:RI rs n kn)(hz:z∈KS):RI (p9 rs z n) (n+1) (uC kn z):=by show{λk=>?_,λk=>?_,LX h.ks hz};unfold p9;rw[kZ];by_cases e:k=z;rw[qc e];show(h.ti z).close;rw[qa e];show(h.ti k).up;unfold p9;rw[kZ,GN];by_cases e:k=z;rw[qc e,qc e];show IF;rw[qa e,qa e];show h.eq k
def RI.change(h:RI rs n kn)(hz:z∈KS):RI (vR (p9 rs z n) z (n+1) ws) (n+1) (m7 kn z ws):=by have h1:=h.del hz;show{λk=>?_,λk=>?_,LX h1.ks hz};unfold vR;rw[kZ];by_cases e:k=z;rw[qc e];show(h1.ti z).beg;rw[qa e];show h1.ti k;unfold vR;rw[kZ,GL];by_cases e:k=z;rw[qc e,qc e];show lg _ _;rw[qa e,qa e,h1.eq k,GN,qa e]
def RI.wt{rs:jl}{n:π}{kn:Kn}(h:RI rs n kn)(z:ρ):wt ((lu rs z).getD []) n=AU kn z:=by rw[TY<|h.ti z,h.eq]
def RI.C7(h:RI rs n kn)(hz:z∈KS):C7 rs (.str z) n=AU kn z:=by rw[AB (gu z hz).1,h.wt]
def qj(kn:Kn)(z:ρ):ak (AU kn z)=!(gB kn z).isSome:=by unfold AU;cases gB kn z<;>rfl
def LY(h:cA C S a F cs dl rs):(rs.map (·.1)).Nodup:=by let⟨ld,lr,ra,h,_,rfl⟩:=h;unfold iS;rw[zG];show h.kn
def RI.len(h:RI rs n kn)(c:cA C S a F cs dl rs):rs.length<=50:=by
 have:=sub_len (LY c) (m:=KS) λx hx=>by let⟨r,hr,rfl⟩:=zf.mp hx;show h.ks r hr
 rw[zc]at this;show this
noncomputable def LZ(kn:Kn)(ss:δ ρ):δ D:=ss.map λz=>.tup [.str z,AU kn z]
def Qw(h:lu rs k=ϑ s):k∈rs.map (·.1):=by induction rs with|nil=>(cases h)|cons r rs a=>rw[fL]at h;rw[zD];by_cases e:r.1=k;show ze.mpr<|.inl e.symm;rw[qa e]at h;show zo _<|a h
def L3{C a:ε}{S:av}{F:δ ε}{cs:δ<|ρ×ρ}{dl:δ D}{rs:jl}{kn:Kn}(h:RI rs dl.length kn)(l:cA C S a F cs dl rs)(j:KI cs kn){ss s2:δ ρ} (g:ss.Perm (rs.map (·.1))) (o1:PyProof.Rows.sortedS ss=ϱ) (p2:s2.Perm (kn.map (·.1))) (i:PyProof.Rows.sortedS s2=ϱ):jq rs dl.length ss=LZ kn s2:=by
 have e:ss.filter (λz=>!ak (wt ((lu rs z).getD []) dl.length))=s2:=by show w_ ((lL o1).filter _) (lL i) ?_ (p2.nodup_iff.mpr j.nd) λz=>?_;show yx.nodup<|g.nodup_iff.mpr<|LY l;rw[yk,h.wt,qj,Bool.not_not,g.mem_iff,p2.mem_iff];constructor;rintro⟨_,d⟩;let⟨ws,c⟩:=Option.isSome_iff_exists.mp d;show zf.mpr {_,jr c,rfl};intro d;let⟨ws,c⟩:=k9 d;show{?_,by rw[c];rfl};have e:=h.eq z;unfold AU at e;rw[c]at e;cases q:lu rs z with|none=>(rw[q]at e;cases e)|some s=>show Qw q
 unfold jq LZ;rw[e];show z0 λz x=>?_;unfold vS;rw[h.wt]
noncomputable def qk(k:π)(l:δ Std):δ Std:=match l.getLast? with|none=>l|some s=>match s.e with|none=>jm k l|some _=>l
def rl(h:s.e=ϐ):qk k (r++[s])=r++[Std.mk s.b (some k) s.ws]:=by unfold qk;rw[List.getLast?_concat];dsimp only;rw[h];show fh _ _ _
def CA(h:s.e=ϑ n):qk k (r++[s])=r++[s]:=by unfold qk;rw[List.getLast?_concat];dsimp only;rw[h]
def OO{s:Std}{r:δ Std}{m:π}(h:m<s.b):Ld (s::r) m=Ld r m:=by change(if (s.b:ν)<=(m:ν) then _ else Ld r m)=_;rw[qa<|`b]
def IG(hm:m<=n):wt (qk n l) m=wt l m:=by by_cases e:l=[];subst e;rfl;let⟨r,s,rfl⟩:=lJ e;cases q:s.e with|some k=>rw[CA q]|none=>rw[rl q];unfold wt;rw[List.reverse_append,List.reverse_append];change(if (s.b:ν)<=(m:ν) then (if (m:ν)<=(n:ν) then D.tup s.ws else .aA) else Ld r.reverse m)=(if (s.b:ν)<=(m:ν) then (match s.e with|none=>.tup s.ws|some n=>if (m:ν)<=(n:ν) then .tup s.ws else .aA) else Ld r.reverse m);rw[q,qc<|show(m:ν)<=(n:ν) by lia]
def E_(h:cur l≠.aA):qk n l=jm n l:=by by_cases e:l=[];subst e;rfl;let⟨r,s,rfl⟩:=lJ e;rw[lg]at h;cases q:s.e with|none=>rw[rl q,fh]|some m=>unfold OM at h;rw[q]at h;show absurd rfl h
theorem ql:xC "list"= some xE:=(qa<|`a).trans<|(qa<|`a).trans<|(qa<|`a).trans<|(qa<|`a).trans<|qc rfl
noncomputable def dZ(kn:Kn)(ss:δ ρ):δ Row:=ss.map λz=>(z,(gB kn z).getD [])
structure Snap(rs:jl)(cs:δ (ρ×ρ))(m:π)(rows:δ Row):η where
 ex:∃kn ss,rows=dZ kn ss/\KI cs kn/\ss.Perm (kn.map (·.1))/\PyProof.Rows.sortedS ss=ϱ/\∀z,wt ((lu rs z).getD []) m=AU kn z
def xh(p:ss.Perm (kn.map (·.1))):(dZ kn ss).map au=LZ kn ss:=by unfold dZ LZ;rw[zG];show z0 λz c=>?_;let⟨ws,a⟩:=k9<|p.mem_iff.mp c;change D.tup [.str z,.tup<|(gB kn z).getD []]=.tup [.str z,AU kn z];unfold AU;rw[a];rfl
def CB(c:KI cs kn)(p:ss.Perm (kn.map (·.1))):Rg cs (dZ kn ss):=by show{λr hr=>?_,?_};let⟨z,d,rfl⟩:=zf.mp hr;let⟨ws,a⟩:=k9<|p.mem_iff.mp d;change Wg cs ((gB kn z).getD []);rw[a];show(c.ok _<|jr a).2;unfold dZ;rw[zG];change(ss.map id).Nodup;rw[List.map_id];show p.nodup_iff.mpr c.nd
def xi(a:KI cs kn)(p:ss.Perm (kn.map (·.1))):(dZ kn ss).length<=50:=by unfold dZ;rw[zc,p.length_eq,zc];show a.len
def Snap.rg(h:Snap rs cs m rows):Rg cs rows/\rows.length<=50:=by let⟨kn,ss,rfl,a,p,_⟩:=h.ex;show{CB a p,xi a p}
def Snap.key(h:Snap rs cs m rows):∀r∈rows,r.1∈KS:=by let⟨kn,ss,rfl,c,p,_⟩:=h.ex;intro r hr;let⟨z,a,rfl⟩:=zf.mp hr;let⟨ws,d⟩:=k9<|p.mem_iff.mp a;show(c.ok _<|jr d).1
def IH{C a:ε}{S:av}{F:δ ε}{cs:δ<|ρ×ρ}{dl:δ D}{rs:jl}{m:π}{rows:δ Row}(h:Snap rs cs m rows)(l:cA C S a F cs dl rs){ss:δ ρ} (g:ss.Perm (rs.map (·.1))) (o1:PyProof.Rows.sortedS ss=ϱ):jq rs m ss=rows.map au:=by
 let⟨kn,s2,rfl,j,p2,i,hw⟩:=h.ex;rw[xh p2];have e:ss.filter (λz=>!ak (wt ((lu rs z).getD []) m))=s2:=by show w_ ((lL o1).filter _) (lL i) ?_ (p2.nodup_iff.mpr j.nd) λz=>?_;show yx.nodup<|g.nodup_iff.mpr<|LY l;rw[yk,hw,qj,Bool.not_not,g.mem_iff,p2.mem_iff];constructor;rintro⟨_,d⟩;let⟨ws,c⟩:=Option.isSome_iff_exists.mp d;show zf.mpr {_,jr c,rfl};intro d;let⟨ws,c⟩:=k9 d;show{?_,by rw[c];rfl};have e:=hw z;unfold AU at e;rw[c]at e;cases q:lu rs z with|none=>(rw[q]at e;cases e)|some s=>show Qw q
 unfold jq LZ;rw[e];show z0 λz x=>?_;unfold vS;rw[hw]
def TZ{l:δ Std}{n m:π}{ws:δ D}(hm:m<=n):wt (l++[Std.mk (n+1) none ws]) m=wt l m:=by unfold wt;rw[List.reverse_append];show OO<|show m<n+1 by lia
def GO(k:ρ)(m:π)(hm:m<=n):wt ((lu (vR rs z (n+1) ws) k).getD []) m=wt ((lu rs k).getD []) m:=by unfold vR;rw[kZ];by_cases e:k=z;rw[qc e,e];show TZ hm;rw[qa e]
def GP(h:RI rs n kn)(hz:(gB kn z).isSome=ϱ)(k:ρ)(m:π)(hm:m<=n):wt ((lu (p9 rs z n) k).getD []) m=wt ((lu rs k).getD []) m:=by
 unfold p9;rw[kZ];by_cases e:k=z;rw[qc e,e];have a:cur ((lu rs z).getD [])≠.aA:=by rw[h.eq];unfold AU;cases q:gB kn z with|none=>(rw[q]at hz;cases hz)|some ws=>show λe=>by cases e
 change wt (jm n<|(lu rs z).getD []) m=_;rw[<-E_ a,IG hm];rw[qa e]
theorem GQ(hz:z∈KS):Gt S (.str z):=AS<|by have:=(gu z hz).2.1;lia
section
variable{t:ft}{S:av}{a:ε}{F:δ ε}{cs:δ (ρ×ρ)}{dl:δ D}{rs:jl}{kn:Kn}{d:D}{R:KD}{Z:KX}
def L4(hz:z∈KS)(h:Wg cs ws):pZ cs (.str z) (.tup ws)=ϱ:=by unfold pZ;rw[h.TU,show ofStr l6 (.str z)=ϱ from(gu z hz).1];rfl
def Fc(a:RI rs dl.length kn)(hz:z∈KS):ak (C7 rs (.str z) dl.length)=!(gB kn z).isSome:=by rw[a.C7 hz,qj]
def Yd(h:gB kn z=ϐ):(!(gB kn z).isSome)=ϱ:=by rw[h];rfl
def L5(h:(gB kn z).isSome=ϱ):(!(gB kn z).isSome)=ϰ:=by rw[h];rfl
def tf{b:χ}(h1:b=ϱ)(h2:b=ϰ){p:η} : p:=by rw[h1]at h2;cases h2
theorem cA.out(c:cA C S a F cs dl rs)(hb:S b=ϐ):b∉F:=λm=>by let⟨ld,lr,ra,h,rfl,_⟩:=c;unfold fp at m;simp only[ze,zf]at m;rcases m with e|e|e|⟨r,hr,e⟩;have:=h.ins;rw[<-e,hb]at this;cases this;have:=h.A9;rw[<-e,hb]at this;cases this;have:=h.run;rw[<-e,hb]at this;cases this;have:=h.cell r hr;rw[e,hb]at this;cases this
def cA.off(h:cA C S a F cs dl rs)(hp:p∉F):cA C (S.set p c) a F cs dl rs:=by let⟨ld,lr,ra,d,rfl,e2⟩:=h;unfold fp at hp;simp only[ze,not_or]at hp;let⟨n1,n2,i,g⟩:=hp;show{ld,lr,ra,{(ah<|Ne.symm n1).trans d.ins,(ah<|Ne.symm n2).trans d.A9,(ah<|Ne.symm i).trans d.run,λr hr=>(ah λe=>g<|by rw[<-e];show zf.mpr ⟨r,hr,rfl⟩).trans<|d.cell r hr,d.kn,d.an,d.sz},rfl,e2}
def GD.up(hd:GD KT cs kn d):GD KS cs kn d:=by rcases hd with⟨z,ws,a,h⟩|h;show .inl {z,ws,Cg a,h};show .inr h
def GD.as(hd:GD KS cs kn d)(c:KI cs kn):∃dD,TK kn d dD/\KI cs dD:=by rcases hd with⟨z,ws,a,hw,hn,rfl⟩|⟨z,ws,a,hw,hn,rfl⟩|⟨z,a,hn,rfl⟩;show{_,.inl {_,z,ws,.inl rfl,rfl,rfl},c.put a hw};show{_,.inl {_,z,ws,.inr rfl,rfl,rfl},c.put a hw};show{_,.inr ⟨z,hn,rfl,rfl⟩,c.del z}
structure ZG(t:ft)(ds:δ D)(S:av)(R:KD)(Z:KX):η where
 of:AJ t ds S R Z
def qm(o:cA t.aw S a F cs dl rs)(w:Gd cs)(B:KI cs kn)(g:RI rs dl.length kn)(hl:dl.length<=100)(hd:GD KS cs kn d){dD:Kn}(r:TK kn d dD) (q:∀S' F' ck,cA t.aw S' a F' cs (dl++[d]) ck->ET F F' S S'->RI ck (dl.length+1) dD->(∀z m,m<=dl.length->wt ((lu ck z).getD []) m=wt ((lu rs z).getD []) m)->R .aA S'):ZG t [.ref a,d] S R Z:=by
 have A:=g.len o;have p:=w.1;let⟨ld,lr,ra,h,_,_⟩:=id o;show{a,_,h.ins,rfl,?_};rcases hd with⟨z,ws,c,hw,hn,rfl⟩|⟨z,ws,c,hw,hn,rfl⟩|⟨z,c,hn,rfl⟩;have s:=L4 c hw;have st:=(Fc g c).trans<|Yd hn;show .inl {_,_,rfl,a,F,cs,_,rs,_,_,rfl,o,p,GQ c,hw.gts p,`b,`b,λe=>tf s e,λv e=>tf st e,λv x e1 e2 v v S' F' j l=>?_};cases e1;cases e2;have i:dD=m7 kn z ws:=by rcases r with⟨n,y,vs,_,e1,e2⟩|⟨y,_,e1,_⟩<;>cases e1;show e2
 subst i;show q S' F' _ j l (g.put c) GO;have s:=L4 c hw;have st:=(Fc g c).trans<|L5 hn;show .inr<|.inl {_,_,rfl,a,F,cs,_,rs,_,_,rfl,o,p,GQ c,hw.gts p,`b,`b,λe=>tf s e,λv e=>tf e st,λv x e1 e2 v v S' F' j l=>?_};cases e1;cases e2;have i:dD=m7 kn z ws:=by rcases r with⟨n,y,vs,_,e1,e2⟩|⟨y,_,e1,_⟩<;>cases e1;show e2
 subst i;show q S' F' _ j l (g.change c) λk m hm=>(GO k m hm).trans<|GP g hn k m hm;have st:=(Fc g c).trans<|L5 hn;show .inr<|.inr !{a,F,cs,_,rs,_,rfl,o,GQ c,`b,λe=>tf (gu z c).1 e,λv e=>tf e st,λv e1 v v S' j l=>?_};cases e1;have i:dD=uC kn z:=by rcases r with⟨n,y,vs,_,e1,e2⟩|⟨y,_,e1,e2⟩<;>cases e1;show e2
 subst i;show q S' F _ j l (g.del c)<|GP g hn
end
def Far(S:av)(F:δ ε)(S':av):Prop:=∀b c,S b=ϑ c->b∉F/\S' b=ϑ c
theorem Far.sub(h:Far S F S'):Sub S S':=λb c e=>(h b c e).2
theorem KI.nil(cs:δ<|ρ×ρ):KI cs []:={List.nodup_nil,λz h=>(nomatch h)}
def CC(ns:δ ν)(lo hi:θ ν):eB (ns.map D.int) lo hi=(eB ns lo hi).map D.int:=by unfold eB;rw[zc,List.map_take,List.map_drop]
def L6(xs:δ α)(x:α):IU (xs++[x]).length (-1)=ϑ xs.length:=by unfold IU;rw[zk];change(if (0:ν)<=-1 then _ else _)=_;rw[qa<|`a];rw[qc<|by change -((xs.length+1:π):ν)<=-1;lia];congr 1;change((-1:ν)+((xs.length+1:π):ν)).toNat=_;lia
def OP(xs:δ α)(x:α):vi (xs++[x]) (-1)=ϑ x:=by unfold vi;rw[L6];simp
structure St(t:ft)(S0:av)(a:ε)(fs:δ (ε×Ce))(F:δ ε)(cs:δ (ρ×ρ))(dl:δ D)(rs:jl)(S:av):η where
 sh:cA t.aw S a F cs dl rs
 fa:∀x∈fs,S x.1=ϑ x.2/\x.1∉F/\S0 x.1=ϐ
 nd:(fs.map Prod.fst).Nodup
 vg:Far S0 F S
section
variable{t:ft}{S0:av}{a:ε}{fs:δ (ε×Ce)}{F:δ ε}{cs:δ (ρ×ρ)}{dl:δ D}{rs:jl}{S:av}
theorem St.at(h:St t S0 a fs F cs dl rs S)(i:π)(e:fs[i]?=some (b,c)):S b=ϑ c:=(h.fa _<|zK e).1
theorem St.sub(h:St t S0 a fs F cs dl rs S)(b:Sub S S'):St t S0 a fs F cs dl rs S':={h.sh.sub b,λx hx=>{b _ _ (h.fa x hx).1,(h.fa x hx).2},h.nd,λx c hx=>{(h.vg x c hx).1,b _ _ (h.vg x c hx).2}}
def St.zero(h:St t S0 a fs F cs dl rs S)(hb:S b=ϐ):S0 b=ϐ:=by cases e:S0 b with|none=>rfl|some c=>have:=h.vg.sub _ _ e;rw[hb]at this;cases this
def St.new(h:St t S0 a fs F cs dl rs S)(hp:S p=ϐ)(c:Ce):St t S0 a (fs++[(p,c)]) F cs dl rs (S.set p c):=by
 have h1:=h.sub<|.new (c:=c) hp;show{h1.sh,λx hx=>?_,?_,h1.vg};rcases zL.mp hx with hx|hx;show h1.fa x hx;rw[zC.mp hx];show{ae,h.sh.out hp,h.zero hp};rw[zH,List.nodup_append];show{h.nd,`d,λx hx y d e=>?_};let⟨z,g,rfl⟩:=zf.mp hx;have d:y=p:=by simpa using d
 have:=(h.fa z g).1;rw[e,d,hp]at this;cases this
def St.put(h:St t S0 a fs F cs dl rs S)(i:π)(e:fs[i]?=some (b,c))(g:Ce):St t S0 a (fs.set i (b,g)) F cs dl rs (S.set b g):=by
 have hb:=h.fa _<|zK e;have hi:=(zh.mp e).1;have s:(fs.set i (b,g)).map Prod.fst=fs.map Prod.fst:=by show List.ext_getElem? λj=>?_;rw[zx,zx];by_cases q:j=i;subst q;rw[List.getElem?_set_self hi,e];rfl;rw[List.getElem?_set_ne<|Ne.symm q]
 show{h.sh.off hb.2.1,λx hx=>?_,by rw[s];show h.nd,λx c hx=>{(h.vg x c hx).1,(ah<|h_ hx hb.2.2).trans (h.vg x c hx).2}};let⟨j,d⟩:=yt hx;by_cases q:j=i;subst q;rw[List.getElem?_set_self hi]at d;cases d;show⟨ae,hb.2⟩;rw[List.getElem?_set_ne<|Ne.symm q]at d;have l:=h.fa x<|zK d;show{(ah λe2=>q ?_).trans l.1,l.2};have r:(fs.map Prod.fst)[j]?=some x.1:=by rw[zx,d];rfl
 have m:(fs.map Prod.fst)[i]?=some b:=by rw[zx,e];rfl
 let⟨v,n⟩:=zh.mp r;let⟨o,p⟩:=zh.mp m;show(List.getElem_inj h.nd (h₀:=v) (h₁:=o)).mp<|by rw[n,p];show e2
theorem St.perm(h:St t S0 a fs F cs dl rs S)(p:MF.Perm fs):St t S0 a MF F cs dl rs S:={h.sh,λx hx=>h.fa x<|p.mem_iff.mp hx,(p.map _).nodup_iff.mpr h.nd,h.vg}
theorem St.less(h:St t S0 a fs F cs dl rs S)(n:(c.map Prod.fst).Nodup)(p:∀x∈c,x∈fs):St t S0 a c F cs dl rs S:={h.sh,λx hx=>h.fa x<|p x hx,n,h.vg}
theorem St.T5(h:St t S0 a fs F cs dl rs S)(i:cA t.aw S' a F' cs dl' ck)(d:ET F F' S S'):St t S0 a fs F' cs dl' ck S':={i,λx hx=>by let⟨h1,h2,g⟩:=h.fa x hx;show by let⟨j,e⟩:=d _ _ h2 h1;show⟨e,j,g⟩,h.nd,λx c hx=>by let⟨h1,h2⟩:=h.vg x c hx;show d _ _ h1 h2}
end
def T6(a:r.1∈KS)(hw:Wg cs r.2):Ly S 60 (au r):=by show(Ly.tup (n:=1) λx hx=>?_).le `a;simp only[ze,zA,or_false]at hx;rcases hx with rfl|rfl;show(Ly.str (gu _ a).2.2).le `a;show hw.ly
theorem Qx(q:R (.bl<|if neg then !decide (i=j) else ω (i=j)) S):J6 neg (.str i) (.str j) S R:=q
noncomputable def cV(w e:ρ)(x y:D):Int:=if rj x y=ϱ then 0 else if dk ("",w,e) x y=ϱ then -1 else 1
def Cm(x y:D):Prop:=∃k,Vg k x/\Vg k y
def uL{w e:ρ}(h:Cm x y):cV w e x y=0↔x=y:=by let⟨k,hx,a⟩:=h;unfold cV;by_cases q:rj x y=ϱ;rw[qc q];simpa using (bx hx.2 a.2).mp q;rw[qa q];have c:¬x=y:=λz=>q<|(bx hx.2 a.2).mpr z;constructor;intro z;split at z<;>cases z;show λz=>absurd z c
def CD{w e:ρ}(h:Cm x y):cV w e x y<0↔x≠y/\dk ("",w,e) x y=ϱ:=by let⟨k,hx,a⟩:=h;unfold cV;by_cases q:rj x y=ϱ;rw[qc q];have:=(bx hx.2 a.2).mp q;simp[this];rw[qa q];have c:¬x=y:=λz=>q<|(bx hx.2 a.2).mpr z;by_cases l:dk ("",w,e) x y=ϱ;rw[qc l];simp[c,l];rw[qa l];simp[l]
inductive cY (ds:δ D) (S:av) (R:KD) (Z:KX):η
 |mk (x y wy e) (_:ds=[x,y,.str e]) (_:Cm x y) (_:(x=.aA\/y=.aA)) (_:R (.int<|cV wy e x y) S)
def jT(T:Txt w K mg t):Ok P w base T.dy 1 cY:=by
 show T.dy.F.bV eE ?_;rintro _ _ _ _ _ _ _ S R Z hr ⟨x,y,wy,e,d,⟨k,hx,g⟩,hn,q⟩;subst d;show{_,(sc (si (twd<|twand (bf i9 `u (dv 0) dn)<|tw1<|bf i9 `u (dv 1) dn) (s1<|sr di) s0)<|sc (cM (i:=3) eE.nd<|cm a_ `u (dv 2) ds)<|s1<|sr<|Sj (bf a_ `u (dv 3)<|cm i9 `u (dv 0) dn) (NM di) di),?_};unfold cV at q;show !!⟨bH (λh=>!!⟨bH (λh2=>?_) λh2=>?_⟩) λh=>?_⟩;rw[dW h,dW h2]at q;show fo q;have e1:ak x≠ak y:=by rw[show ak x=ϱ from h,show ak y=ϰ from h2];decide
 rw[AQ e1,qa zd]at q;unfold dk at q;rw[show ak x=ϱ from h,show ak y=ϰ from h2]at q;show !!!⟨?_⟩;dsimp only[dC,isD];show GJ !⟨?_⟩;have q:R (.int<|if (ak x==ω (e ="first"))=ϱ then -1 else 1) S:=by rw[show ak x=ϱ from h];show q
 rw[Bool.beq_comm]at q;show bH (λz=>?_) λz=>?_;rw[qc<|show(ω (e ="first")==ak x)=ϱ from z]at q;show{_,rfl,fo q};rw[qa λc=>tf c<|show(ω (e ="first")==ak x)=ϰ from z]at q;show fo q;have a:ak y=ϱ:=by rcases hn with rfl|rfl;cases h;rfl
 have e1:ak x≠ak y:=by rw[show ak x=ϰ from h,a];decide
 rw[AQ e1,qa zd]at q;unfold dk at q;rw[show ak x=ϰ from h,a]at q;show !!!⟨?_⟩;dsimp only[dC,isD];show GJ !⟨?_⟩;have q:R (.int<|if (ak x==ω (e ="first"))=ϱ then -1 else 1) S:=by rw[show ak x=ϰ from h];show q
 rw[Bool.beq_comm]at q;show bH (λz=>?_) λz=>?_;rw[qc<|show(ω (e ="first")==ak x)=ϱ from z]at q;show{_,rfl,fo q};rw[qa λc=>tf c<|show(ω (e ="first")==ak x)=ϰ from z]at q;show fo q
inductive uM (ds:δ D) (S:av) (R:KD) (Z:KX):η
 |mk (x y wy e) (_:ds=[x,y,.str wy,.str e]) (_:Cm x y) (_:R (.int<|cV wy e x y) S)
def rm(T:Txt w K mg t):Ok P w base T.compared 2 uM:=by show T.compared.F.bV qP ?_;rintro _ _ _ _ _ _ _ S R Z hr ⟨x,y,wy,e,n,l,q⟩;subst n;let⟨k,hx,g⟩:=id l;show{_,(sc (si (twd<|twor (bf i9 `u (dv 0) dn)<|tw1<|bf i9 `u (dv 1) dn) (s1<|sr<|aI T.dy (jT T) hr<|al 0<|al 1<|al 3 an) s0)<|sc (si (bf a_ `u (dv 0)<|dv 1) (s1<|sr di) s0)<|sc (cM (i:=4) qP.nd<|cm vA `u (dv 0)<|dv 1)<|s1<|sr<|Sj (bf a_ `u (dv 4)<|cm a_ `u (dv 2) ds) (NM di) di),?_};have none:∀Zq:KX,x=.aA\/y=.aA->cY [x,y,.str e] S (λd S'=>Fo S'<|R d) Zq:=λv hn=>{x,y,wy,e,rfl,l,hn,fo q};show !!⟨bH (λh=>?_) λh=>!!⟨bH (λh2=>?_) λh2=>?_⟩⟩;show !!!⟨none _<|.inl<|dW h⟩;show !!!⟨none _<|.inr<|dW h2⟩;clear none;have nx:ak x=ϰ:=h;have m:ak y=ϰ:=h2;unfold cV at q;show !!⟨Ct hx.2 g.2 !⟨bH (λa=>?_) λa=>?_⟩⟩;have a:rj x y=ϱ:=a;rw[qc a]at q;show fo q;have a:rj x y=ϰ:=a;rw[a,qa zd]at q;unfold dk at q;rw[nx,m]at q;have q:R (.int<|if (vU x y==ω (wy ="up"))=ϱ then -1 else 1) S:=q;rcases AO hx g (bK nx) (bK m) with⟨i,j,rfl,rfl⟩|⟨i,j,rfl,rfl⟩;show !!!!⟨?_⟩;dsimp only[dC];show Qx ?_;show GJ ?_;show{_,rfl,?_};show bH (λz=>?_) λz=>?_;rw[qc<|show(vU (.int i) (.int j)==ω (wy ="up"))=ϱ from z]at q;show{_,rfl,fo q};rw[qa λc=>tf c<|show(vU (.int i) (.int j)==ω (wy ="up"))=ϰ from z]at q;show fo q;show !!!!⟨?_⟩;dsimp only[dC];show Qx ?_;show GJ ?_;show{_,rfl,?_};show bH (λz=>?_) λz=>?_;rw[qc<|show(vU (.str i) (.str j)==ω (wy ="up"))=ϱ from z]at q;show{_,rfl,fo q};rw[qa λc=>tf c<|show(vU (.str i) (.str j)==ω (wy ="up"))=ϰ from z]at q;show fo q
noncomputable def C_(ps:δ Part)(wy:ρ):δ (ρ×ρ):=ps.map Prod.snd++[(wy,("last": ρ))]
noncomputable def fj:δ (ρ×ρ)->δ D->δ D->ν|w::ws,x::xs,y::ys=>(if cV w.1 w.2 x y=0 then fj ws xs ys else cV w.1 w.2 x y)|_,_,_=>0
def PV(ks:δ ρ)(xs:δ D):Prop:=Paired (λk x=>Vg k x) ks xs
def L7{ws:δ<|ρ×ρ}{ks:δ ρ}{xs ys:δ D}(h:ws.length=ks.length)(p:PV ks xs)(q:PV ks ys):(fj ws xs ys=0↔xs=ys):=by induction ws generalizing ks xs ys with|nil=>(cases p with|nil=>(cases q;simp[fj])|cons _ _=>cases h)|cons w ws a=>cases p with|nil=>(cases h)|@cons _ x _ _ j d=>cases q with|@cons _ y _ _ g i=>unfold fj;have c:=uL (w:=w.1) (e:=w.2) {_,j,g};by_cases q:cV w.1 w.2 x y=0;rw[qc q,a (Nat.succ.inj h) d i,c.mp q];simp;rw[qa q];show{λz=>absurd z q,λz=>absurd (c.mpr (List.cons.inj z).1) q}
theorem L8:∀{ws:δ (ρ×ρ)}{ks:δ ρ}{xs ys zs:δ D},PV ks xs->PV ks ys->PV ks zs->fj ws xs ys<0->fj ws ys zs<0->fj ws xs zs<0|[],_,_,_,_,_,_,_,h,_=>by simp[fj]at h|w::ws,_,_,_,_,.nil,.nil,.nil,h,_=>by simp[fj]at h|w::ws,_,_,_,_,.cons (b:=x) a1 a2,.cons (b:=y) b1 b2,.cons (b:=z) c1 c2,h1,h2=>by unfold fj at h1 h2⊢;have e1:=uL (w:=w.1) (e:=w.2) {_,a1,b1};have e2:=uL (w:=w.1) (e:=w.2) {_,b1,c1};have e3:=uL (w:=w.1) (e:=w.2) {_,a1,c1};by_cases c:x=y;subst c;rw[qc<|e1.mpr rfl]at h1;by_cases a:x=z;subst a;rw[qc<|e2.mpr rfl]at h2⊢;show L8 a2 b2 c2 h1 h2;rw[qa λz=>a<|e2.mp z]at h2⊢;show h2;rw[qa λz=>c<|e1.mp z]at h1;by_cases a:y=z;subst a;rw[qa λz=>c<|e3.mp z];show h1;rw[qa λz=>a<|e2.mp z]at h2;let⟨d,g⟩:=GG (p:=("",w.1,w.2)) a1 b1 c1 c a ((CD {_,a1,b1}).mp h1).2 ((CD {_,b1,c1}).mp h2).2;rw[qa λz=>d<|e3.mp z];show(CD {_,a1,c1}).mpr ⟨d,g⟩
noncomputable def Dc(cs:δ<|ρ×ρ)(z:ρ):Str:=((cs[OC cs z]?).map Prod.snd).getD "word"
noncomputable def ZI(cs:δ<|ρ×ρ)(ps:δ Part):δ Str:=ps.map (λp=>Dc cs p.1)++[("word": ρ)]
noncomputable def MD(cs:δ<|ρ×ρ)(ps:δ Part)(r:Row):δ D:=ps.map (λp=>aq cs r.2 p.1)++[.str r.1]
def rn:∀z∈KS,Vg "word" (.str z):=by
 have h:∀z∈KS,(wR z&&dU (.str z))=ϱ:=`c
 show λz a=>let q:=Bool.and_eq_true_iff.mp<|h z a;⟨q.1,q.2⟩
def uN{l:δ α}{m:δ β}{d:δ α}{c:δ β}(h:Paired r l m)(g:Paired r d c):Paired r (l++d) (m++c):=by induction h with|nil=>show g|cons a t e=>show .cons a e
def Fd(d:Gd cs)(hp:Pin cs ps)(hw:Wg cs ws):Paired (λk x=>Vg k x) (ps.map λp=>Dc cs p.1) (ps.map λp=>aq cs ws p.1):=by induction ps with|nil=>show .nil|cons p ps g=>show .cons ?_<|g hp.tail;let⟨c,a,e⟩:=hp p zB;change Vg (Dc cs p.1) (aq cs ws p.1);unfold Dc;rw[<-e,(uI d a).1];show(sN d hw a).2
theorem L9(a:Gd cs)(hp:Pin cs ps)(hw:Wg cs r.2)(c:r.1∈KS):PV (ZI cs ps) (MD cs ps r):=uN (Fd a hp hw)<|.cons (rn _ c) .nil
theorem AV(j:Gd cs){wy:ρ}(ha:Wg cs a.2)(hb:Wg cs b.2)(i:a.1∈KS)(g:b.1∈KS)(n:a.1≠b.1):∀{ps:δ Part},Pin cs ps->(bM cs wy ps a b=ϱ↔fj (C_ ps wy) (MD cs ps a) (MD cs ps b)<0)|[],_=>(by change(qE a.1 b.1==ω (wy ="up"))=ϱ↔(if cV wy "last" (.str a.1) (.str b.1)=0 then 0 else cV wy "last" (.str a.1) (.str b.1))<0;have n':(.str a.1:D)≠.str b.1:=λe=>n<|D.str.inj e;rw[qa λz=>n'<|(uL {_,rn _ i,rn _ g}).mp z,CD {_,rn _ i,rn _ g}];show{λh=>⟨n',h⟩,λh=>h.2})|p::ps,hp=>by let⟨k,hk⟩:=sO j hp;have c:=hk _ ha;have d:=hk _ hb;change(if rj (aq cs a.2 p.1) (aq cs b.2 p.1)=ϱ then bM cs wy ps a b else dk p (aq cs a.2 p.1) (aq cs b.2 p.1))=ϱ↔(if cV p.2.1 p.2.2 (aq cs a.2 p.1) (aq cs b.2 p.1)=0 then fj (C_ ps wy) (MD cs ps a) (MD cs ps b) else cV p.2.1 p.2.2 (aq cs a.2 p.1) (aq cs b.2 p.1))<0;by_cases q:aq cs a.2 p.1=aq cs b.2 p.1;rw[qc<|(bx c.2 d.2).mpr q,qc<|(uL {_,c,d}).mpr q];show AV j ha hb i g n hp.tail;rw[qa λz=>q<|(bx c.2 d.2).mp z,qa λz=>q<|(uL {_,c,d}).mp z,CD {_,c,d}];show{λh=>⟨q,h⟩,λh=>h.2}
noncomputable def Yf(ws:δ<|ρ×ρ)(g:δ D)(sd:ρ)(x:δ D):Bool:=ω (fj ws x g<0)||(ω (fj ws x g=0)&&ω (sd ="behind"))
def Yg{ws:δ<|ρ×ρ}{ks:δ ρ}{g x y:δ D}{sd:ρ}(hl:ws.length=ks.length)(hx:PV ks x)(a:PV ks y)(c:PV ks g)(h:fj ws x y<0)(q:Yf ws g sd y=ϱ):Yf ws g sd x=ϱ:=by unfold Yf at q⊢;simp only[yW,zN,yr]at q⊢;rcases q with q|⟨q,_⟩;show .inl<|L8 hx a c h q;rw[<-(L7 hl a c).mp q];show .inl h
theorem Fe:∀{l:δ α},(l.Pairwise λa b=>g b=ϱ->g a=ϱ)->∀{i:π}{a:α},l[i]?=some a->(g a=ϱ↔i<l.countP g)
 |[],_,i,a,h=>by simp at h
 |x::l,hp,i,a,h=>by
  let⟨h1,h2⟩:=List.pairwise_cons.mp hp;rw[List.countP_cons];by_cases q:g x=ϱ;rw[qc q];cases i with|zero=>(cases h;simp[q])|succ i=>rw[Fe h2<|show l[i]?=some a from h];simp
  have z:l.countP g=0:=List.countP_eq_zero.mpr λb hb e=>q<|h1 b hb e;rw[qa q,z];have:g a≠true:=by cases i with|zero=>(cases h;show q)|succ i=>show λe=>q<|h1 a (zK h) e
  simp[this]
def T7{α:Type}{g:α->χ}{l:δ α}(hp:l.Pairwise λa b=>g b=ϱ->g a=ϱ){n:π}(hn:n<=l.length)(h1:∀i a,i<n->l[i]?=some a->g a=ϱ)(h2:∀i a,n<=i->l[i]?=some a->g a=ϰ):n=l.countP g:=by
 have c:l.countP g<=l.length:=List.countP_le_length;rcases Nat.lt_trichotomy n (l.countP g) with h|h|h;have hi:n<l.length:=by show zq ‹_› ‹_›
 have e:=zg hi;have:=(Fe hp e).mpr h;rw[h2 n _ (zm _) e]at this;cases this;show h;have hi:l.countP g<l.length:=by show zq ‹_› ‹_›
 have e:=zg hi;have:=(Fe hp e).mp<|h1 _ _ h e;lia
def fk{l:δ α}{m:δ β}(p:Paired rel l m){i:π}{b:β}(h:m[i]?=some b):∃a,l[i]?=some a/\rel a b:=by induction p generalizing i with|nil=>simp at h|cons r t c=>cases i with|zero=>(rw[List.getElem?_cons_zero]at h⊢;cases h;show{_,rfl,r})|succ i=>rw[List.getElem?_cons_succ]at h⊢;show c h
noncomputable def ME(xs:δ D)(k:ρ):D:=.tup [.tup xs,.str k]
abbrev CF:=δ D×ρ×ρ
noncomputable def II(g:CF):D:=.tup [ME g.1 g.2.1,.str g.2.2]
noncomputable def OQ:θ CF->D|none=>.aA|some g=>II g
noncomputable def CG(z:ρ):Bool:=ω (z ="ahead")||ω (z ="behind")
structure Gp(cs:δ (ρ×ρ))(ps:δ Part)(g:CF):η where
 pv:Paired (λk x=>Vg k x) (ps.map λp=>Dc cs p.1) g.1
 key:g.2.1∈KS
 side:CG g.2.2=ϱ
def Bg(cs:δ<|ρ×ρ)(ps:δ Part)(b:θ CF):Prop:=∀g,b=ϑ g->Gp cs ps g
noncomputable def Yh(g:CF):δ D:=g.1++[.str g.2.1]
theorem Gp.vs(h:Gp cs ps g):PV (ZI cs ps) (Yh g):=uN h.pv<|.cons (rn _ h.key) .nil
def Gp.len(h:Gp cs ps g):g.1.length=ps.length:=by have:=yJ h.pv;rw[zc]at this;show this.symm
def Og.len(h:Og cs ps wy):ps.length<=8:=by have:=h.ok;unfold Cq at this;simp only[zN,yr]at this;show this.1
def Ff(a:Gd cs)(d:c∈cs):c.1.cps.size<=1000:=by have h:=(a.2.2 c d).1;unfold mr at h;simp only[zN,yr]at h;lia
inductive xj (ds:δ D) (S:av) (R:KD) (Z:KX):η
 |mk (z) (_:ds=[.str z]) (_:R (.bl<|CG z) S)
def Fh(T:Txt w K mg t):Ok P w base T.Ad 1 xj:=by show T.Ad.F.bV ED ?_;obtain⟨z,e,q⟩;show{_,(s1<|sr<|lU (cb bB T.ao ai<|al 0<|ac (j9 T.iJ eG) an)<|CZ<|cmk T.x_ (dv 0)<|dg (v:=.ref t.jd) T.vH rfl λx=>i7 _),?_};show !{_,_,_,_,rfl,bp,rfl,_,rfl,bX !{z,rfl,rfl,?_}};rw[Lx];show fo q
inductive gy (ds:δ D) (S:av) (R:KD) (Z:KX):η
 |mk (cs ps xs) (_:ds=[.tup<|cs.map aB,.tup<|ps.map p3,.tup xs]) (_:Gd cs) (_:Pin cs ps) (_:ps.length<=8) (_:Paired (λk x=>Vg k x) (ps.map λp=>Dc cs p.1) xs) (_:R (.bl true) S)
def l9(T:Txt w K mg t):Ok P w base T.eO 4 gy:=by
 show T.eO.F.bV l4 ?_;obtain⟨cs,ps,xs,e,j,hp,B,m,q⟩;have hl:xs.length=ps.length:=by have:=yJ m;rw[zc]at this;show this.symm
 have o:(ps.map p3).length=ps.length:=zc _;show{_,(sc (si (twd<|twor (bU<|tv<|cb bB T.ao ai<|al 2<|ac (j9 T.bc aR) an)<|tw1<|bf ja `u (cb aW T.aU aH<|al 2 an)<|cb aW T.aU aH<|al 1 an) (s1<|sr db) s0)<|s1<|sr<|cb jA T.jD fw<|ac (vE (N:=["part","value","columns"]) (src:=[none,none,some 0]) (mf (ag mM) ["columns","parts","thing"] rfl rfl<|`c) (Zv T.wO<|al 1<|al 2 an) (UU<|show(["part","value","columns"]:δ ρ).Nodup by trivial) (lA rfl rfl) lC (λb b b b b=>u9) λb b b b b=>(aI T.kF (kW T) hr<|ac (aI T.eN (iu T) hr<|al 2<|ac (ix `u (dv 0) di) an)<|al 1 an)) an),?_};show !{_,_,_,_,rfl,aJ,rfl,_,rfl,aL !!!!!⟨bF (by rw[hl,o];simp) ?_⟩};show !!{_,_,rfl,by rw[hl,o],?_};show comp_map (λb=>.bl true) trivial (by change(aZ _ _).length<=_;unfold aZ;rw[List.length_zipWith];lia) (λd hd Q r=>?_) λp A=>?_;have hd:d∈aZ (ps.map p3) xs:=hd;unfold aZ at hd;let⟨i,z⟩:=yt hd;let⟨x,y,e2,e3,e4⟩:=yg.mp z;subst e4;rw[zx]at e2;cases l:ps[i]? with|none=>(rw[l]at e2;cases e2)|some pt=>rw[l]at e2;cases e2;let⟨c,g,h⟩:=hp pt<|zK l;let⟨k,n,a⟩:=fk m e3;rw[zx,l]at n;cases n;have a:Vg (Dc cs pt.1) y:=a;unfold Dc at a;rw[<-h,(uI j g).1]at a;have a:Vg c.2 y:=a;show !{rfl,_,_,rfl,_,_,rfl,rfl,_,rfl,_,rfl,_,rfl,cs,pt.1,rfl,j,by rw[<-h];show Ff j g,λk' v=>?_,λhn=>absurd (zf.mpr ⟨c,g,h⟩) hn};have s:k'=c.2:=(by have:=gW (f:=Prod.fst) j.2.1 v g h.symm;rw[<-this]);rw[s];show !{c.2,y,rfl,Qm a,?_};rw[a.1];show r
 have e2:(aZ (ps.map p3) xs).map (λb=>D.bl true)=((aZ (ps.map p3) xs).map λb=>true).map D.bl:=by rw[zG];rfl
 have e3:((aZ (ps.map p3) xs).map λb=>true).all id=ϱ:=by rw[all_map];show yo.mpr λb b=>rfl
 show{.ref p,(aZ (ps.map p3) xs).map λb=>true,rfl,?_,?_};change(S.set p<|.lst<|(aZ (ps.map p3) xs).map _) p=_;rw[ae,e2];rw[e3];show{S,.new A,q}
inductive mB (ds:δ D) (S:av) (R:KD) (Z:KX):η
 |mk (cs ps wy xs k) (_:ds=[.tup<|cs.map aB,fC ps wy,ME xs k]) (_:Gd cs) (_:Pin cs ps) (_:ps.length<=8) (_:Paired (λk x=>Vg k x) (ps.map λp=>Dc cs p.1) xs) (_:k∈KS) (_:R .aA S)
def uO(T:Txt w K mg t):Ok P w base T.kH 5 mB:=by show T.kH.F.bV uf ?_;obtain⟨cs,ps,wy,xs,k,e,d,hp,g,c,a,q⟩;show{_,(sc (si (twd<|twor (bU<|tv<|cb bB T.ao ai<|al 2<|ac (j9 T.bc aR) an)<|tw1<|bf ja `u (cb aW T.aU aH<|al 2 an) di) (s1<|qJ ⟨T.dw⟩ T.e_<|ac ds an) s0)<|sc (si (bU<|tv<|aI T.eO (l9 T) hr<|al 0<|ac (ix `u (dv 1) di)<|ac (ix `u (dv 2) di) an) (s1<|qJ ⟨T.dw⟩ T.e_<|ac ds an) s0)<|s1<|si (bU<|tv<|aI T.mV (iR T) hr<|ac (ix `u (dv 2) di) an) (s1<|qJ ⟨T.dw⟩ T.e_<|ac ds an) s0),?_};show !{_,_,_,_,rfl,aJ,rfl,_,rfl,aL !!!⟨aL ?_⟩};show !!!!!{cs,ps,xs,rfl,d,hp,g,c,_,rfl,aL ?_};show !!{.str k,rfl,GQ a,_,rfl,?_};rw[show ofStr l6 (.str k)=ϱ from(gu k a).1];show aL<|fo q
inductive rq (ds:δ D) (S:av) (R:KD) (Z:KX):η
 |mk (cs ps wy g) (_:ds=[.tup<|cs.map aB,fC ps wy,II g]) (_:Gd cs) (_:Pin cs ps) (_:ps.length<=8) (_:Gp cs ps g) (_:R .aA S)
def AW(T:Txt w K mg t):Ok P w base T.pM 6 rq:=by show T.pM.F.bV Ap ?_;obtain⟨cs,ps,wy,g,e,c,hp,d,a,q⟩;show{_,(sc (si (twd<|twor (bU<|tv<|cb bB T.ao ai<|al 2<|ac (j9 T.bc aR) an)<|tw1<|bf ja `u (cb aW T.aU aH<|al 2 an) di) (s1<|qJ ⟨T.dw⟩ T.e_<|ac ds an) s0)<|sc (se<|aI T.kH (uO T) hr<|al 0<|al 1<|ac (ix `u (dv 2) di) an)<|s1<|si (bU<|tv<|aI T.Ad (Fh T) hr<|ac (ix `u (dv 2) di) an) (s1<|qJ ⟨T.dw⟩ T.e_<|ac ds an) s0),?_};show !{_,_,_,_,rfl,aJ,rfl,_,rfl,aL !!!⟨aL ?_⟩};show !!!!{cs,ps,wy,g.1,g.2.1,rfl,c,hp,d,a.pv,a.key,?_};show !!{g.2.2,rfl,_,rfl,?_};rw[a.side];show aL<|fo q
inductive mC (ds:δ D) (S:av) (R:KD) (Z:KX):η
 |mk (cs ps wy b) (_:ds=[.tup<|cs.map aB,fC ps wy,OQ b]) (_:Gd cs) (_:Pin cs ps) (_:ps.length<=8) (_:Bg cs ps b) (_:R .aA S)
def uP(T:Txt w K mg t):Ok P w base T.kK 7 mC:=by show T.kK.F.bV ug ?_;obtain⟨cs,ps,wy,b,e,c,hp,d,a,q⟩;show{_,(s1<|si (bf i_ `u (dv 2) dn) (s1<|se<|aI T.pM (AW T) hr<|al 0<|al 1<|al 2 an) s0),?_};cases b with|none=>show (!!⟨aL<|fo q⟩)|some g=>show !!⟨bX !!!{cs,ps,wy,g,rfl,c,hp,d,a g rfl,fo q}⟩
inductive oK (ds:δ D) (S:av) (R:KD) (Z:KX):η
 |mk (n:ν) (_:ds=[.int n]) (_:1<=n) (_:n<=1000) (_:R .aA S)
def vV(T:Txt w K mg t):Ok P w base T.mY 2 oK:=by show T.mY.F.bV vN ?_;obtain⟨n,e,h1,h2,q⟩;show{_,(s1<|si (twd<|twor (bU<|tv<|aI T.fX (fg T) hr<|al 0 an)<|tw1<|bU<|YX kf kf `u di (dv 0)<|dg (v:=.int 1000) T.x6 {_,rfl} λz=>aS _) (s1<|qJ ⟨T.pJ⟩ T.Ex<|ac ds an) s0),?_};show !{.int n,rfl,gt_int,_,rfl,aL !!⟨oz (zu h1) !⟨?_⟩⟩};show bF (by change(!decide (n<=1000))=ϰ;rw[zu h2];rfl)<|fo q
inductive js (ds:δ D) (S:av) (R:KD) (Z:KX):η
 |mk (cs ps wy d n b) (_:ds=[.tup<|cs.map aB,fC ps wy,d,.int n,OQ b]) (_:Gd cs) (_:Og cs ps wy) (_:Sq cs d) (_:1<=n) (_:n<=1000) (_:Bg cs ps b) (_:R .aA S)
def iy(T:Txt w K mg t):Ok P w base T.f_ 8 js:=by show T.f_.F.bV vM ?_;obtain⟨cs,ps,wy,d,n,b,e,c,a,hd,h1,h2,g,q⟩;show{_,(sc (se<|aI T.kG (uF T) hr<|al 0<|al 1 an)<|sc (se<|aI T.kI (uH T) hr<|al 0<|al 2 an)<|sc (se<|aI T.mY (vV T) hr<|al 3 an)<|s1<|se<|aI T.kK (uP T) hr<|al 0<|al 1<|al 4 an),?_};show !!{cs,ps,wy,rfl,c,a.tx,λx=>?_,λz=>tf a.ok z};show !!{cs,d,rfl,c,hd,_,rfl,n,rfl,h1,h2,?_};show !!!{cs,ps,wy,b,rfl,c,a.pin,a.len,g,fo q}
structure An(cs:δ (ρ×ρ))(ps:δ Part)(wy:ρ)(A:δ Row):η where
 rg:Rg cs A
 ky:∀r∈A,r.1∈KS
 pw:A.Pairwise λa b=>bM cs wy ps a b=ϱ
noncomputable def gP(cs:δ<|ρ×ρ)(ps:δ Part)(wy:ρ)(g:CF)(r:Row):Bool:=Yf (C_ ps wy) (Yh g) g.2.2<|MD cs ps r
def OR:(C_ ps wy).length=(ZI cs ps).length:=by unfold C_ ZI;simp
def An.lex(c:Gd cs)(hp:Pin cs ps)(h:An cs ps wy A):A.Pairwise λa b=>fj (C_ ps wy) (MD cs ps a) (MD cs ps b)<0:=by have nd:A.Pairwise λa b=>a.1≠b.1:=List.pairwise_map.mp h.rg.2;show(h.pw.and nd).imp_of_mem λ{a b} ha hb q=>?_;show(AV c (h.rg.1 a ha) (h.rg.1 b hb) (h.ky a ha) (h.ky b hb) q.2 hp).mp q.1
def An.mono(c:Gd cs)(hp:Pin cs ps)(h:An cs ps wy A)(d:Gp cs ps g):A.Pairwise λa b=>gP cs ps wy g b=ϱ->gP cs ps wy g a=ϱ:=by show(h.lex c hp).imp_of_mem λ{a b} ha hb q=>?_;show Yg OR (L9 c hp (h.rg.1 a ha)<|h.ky a ha) (L9 c hp (h.rg.1 b hb)<|h.ky b hb) d.vs q
inductive uQ (ds:δ D) (S:av) (R:KD) (Z:KX):η
 |mk (cs ps wy r) (_:ds=[.tup<|cs.map aB,fC ps wy,au r]) (_:Gd cs) (_:Pin cs ps) (_:ps.length<=8) (_:Wg cs r.2) (_:R (ME (ps.map λp=>aq cs r.2 p.1) r.1) S)
def rA(T:Txt w K mg t):Ok P w base T.n6 3 uQ:=by
 show T.n6.F.bV qQ ?_;obtain⟨cs,ps,wy,r,e,m,hp,n,hw,q⟩;show{_,(sc (Sz (i:=3) (N:=["part","columns","row"]) (src:=[none,some 0,some 2]) qQ.nd (mf (ag Er) ["columns","order","row","values"] rfl rfl<|`c) (Kl<|ix `u (dv 1) di) (u_<|show(["part","columns","row"]:δ ρ).Nodup by trivial) (bj rfl) bq (λx x x x x=>u9) λx x x x x=>(aI T.cN (dF T) hr<|al 1<|al 2<|ac (ix `u (dv 0) di) an))<|s1<|sr<|bY<|ac (ct gL T.bc aR<|al 3 an)<|ac (ix `u (dv 2) di) an),?_};show !!{_,.inl rfl,?_};show comp_map (λd=>match d with|.tup (.str z::_)=>aq cs r.2 z|_=>.aA) trivial (by change(ps.map p3).length<=_;rw[zc];show zj ‹_› `a) (λd hd Q g=>?_) λp l=>?_;let⟨pt,j,rfl⟩:=zf.mp hd;let⟨c,h,a⟩:=hp pt j;show !!!!{cs,r,c,(by rw[a];rfl),m,hw,h,?_};rw[a];show g;have e3:(ps.map p3).map (λd=>match d with|.tup (.str z::_)=>aq cs r.2 z|_=>.aA)=ps.map λp=>aq cs r.2 p.1:=by rw[zG];rfl
 rw[show({ps.map p3,λx=>True}:HL).xs=ps.map p3 from rfl,e3];show !{_,_,rfl,.inl ae,_,rfl,_,rfl,cF,S,.new l,q}
inductive gY (ds:δ D) (S:av) (R:KD) (Z:KX):η
 |mk (ps:δ Part) (wy:ρ) (xs:δ D) (k:ρ) (ys:δ D) (l:ρ) (ks:δ ρ) (_:ds=[fC ps wy,ME xs k,ME ys l]) (_:ps.length=xs.length) (_:ps.length=ys.length) (_:Paired (λk x=>Vg k x) ks xs) (_:Paired (λk x=>Vg k x) ks ys) (_:k∈KS) (_:l∈KS) (_:R (.int<|fj (C_ ps wy) (xs++[.str k])<|ys++[.str l]) S)
set_option tactic.hygienic true in
def m_(T:Txt w K mg t):Ok P w base T.fA 3 gY:=by show T.fA.F.bV bR ?_;obtain⟨ps,wy,xs,k,ys,l,ks,e,h1,h2,M,s,L,hl,q⟩;show{_,(sc (C4<|I_ (ab7 T.wO<|ac (ix `u (dv 0) di)<|ac (ix `u (dv 1) di)<|ac (ix `u (dv 2) di) an) (gt (n:=3)<|gc (gn (i:=3) bR.nd)<|gc (gn (i:=4) bR.nd)<|gc (gn (i:=5) bR.nd) g0)<|sc (cM (i:=6) bR.nd<|aI T.compared (rm T) hr<|al 4<|al 5<|ac (ix `u (dv 3) di)<|ac (ix `u (dv 3) di) an)<|s1<|si (bf ja `u (dv 6) di) (s1<|sr<|dv 6) s0)<|s1<|sr<|aI T.compared (rm T) hr<|ac (ix `u (dv 1) di)<|ac (ix `u (dv 2) di)<|ac (ix `u (dv 0) di)<|ac ds an),?_};show{λo S'=>∃(j m g c:θ D),o=[some<|fC ps wy,some<|ME xs k,some<|ME ys l,j,m,g,c]/\S'=S/\fj (C_ ps wy) (xs++[.str k]) (ys++[.str l])=cV wy "last" (.str k) (.str l),?_,?_};{show !!!!!!{_,_,_,rfl,by rw[zc];show h1,by rw[zc];show h2,?_};show{λi o S'=>∃(j m g c:θ D),o=[some<|fC ps wy,some<|ME xs k,some<|ME ys l,j,m,g,c]/\S'=S/\fj (C_ ps wy) (xs++[.str k]) (ys++[.str l])=fj (C_ (ps.drop i) wy) (xs.drop i++[.str k]) (ys.drop i++[.str l]),{_,_,_,_,rfl,rfl,rfl},λf f f f=>trivial,?_,?_};rintro i d o S' hd ⟨j,m,g,c,rfl,rfl,a⟩;let⟨x,y,z,e1,e2,e3,rfl⟩:=pB hd;rw[zx]at e1;(cases r:ps[i]? with|none=>(rw[r]at e1;cases e1)|some p=>rw[r]at e1;cases e1;let⟨B,C⟩:=zh.mp r;let⟨J,N⟩:=zh.mp e2;let⟨A,O⟩:=zh.mp e3;rw[List.drop_eq_getElem_cons B,List.drop_eq_getElem_cons J,List.drop_eq_getElem_cons A,C,N,O]at a;have a:_=if cV p.2.1 p.2.2 y z=0 then fj (C_ (ps.drop<|i+1) wy) (xs.drop (i+1)++[.str k]) (ys.drop (i+1)++[.str l]) else cV p.2.1 p.2.2 y z:=a;let⟨I,E,v⟩:=fk M e2;let⟨Q,G,H⟩:=fk s e3;cases E.symm.trans G;show !{rfl,_,_,rfl,_,_,rfl,_,_,rfl,rfl,?_};show !!!!!!{y,z,p.2.1,p.2.2,rfl,⟨I,v,H⟩,_,rfl,_,rfl,bH (λh=>?_) λh=>?_};have h:(!decide (cV p.2.1 p.2.2 y z=0))=ϱ:=h;rw[qa<|zW<|nt h]at a;rw[a]at q;show{_,rfl,fo q};have h:(!decide (cV p.2.1 p.2.2 y z=0))=ϰ:=h;rw[qc<|zy<|nf h]at a;show{_,_,_,_,rfl,rfl,a});{rintro o S' ⟨j,m,g,c,rfl,rfl,a⟩;have a:_=fj (C_ (ps.drop (ko (ps.map p3) xs ys).length) wy) (xs.drop (ko (ps.map p3) xs ys).length++[.str k]) (ys.drop (ko (ps.map p3) xs ys).length++[.str l]):=a;rw[pA (by rw[zc];show h1)<|by rw[zc];show h2,zc,List.drop_length,h1,List.drop_length,<-h1,h2,List.drop_length]at a;show fo {j,m,g,c,rfl,rfl,a.trans ?_};change(if cV wy "last" (.str k) (.str l)=0 then 0 else cV wy "last" (.str k) (.str l))=_;split;{next h=>show h.symm};rfl}};rintro o S' ⟨j,m,g,c,rfl,rfl,a⟩;rw[a]at q;show !!!!!!{_,_,_,_,rfl,{_,rn k L,rn l hl},fo q}
inductive uR (ds:δ D) (S:av) (R:KD) (Z:KX):η
 |mk (cs ps wy r g) (_:ds=[fC ps wy,ME (ps.map λp=>aq cs r.2 p.1) r.1,II g]) (_:Gd cs) (_:Pin cs ps) (_:Wg cs r.2) (_:r.1∈KS) (_:Gp cs ps g) (_:R (.bl<|gP cs ps wy g r) S)
def CH(T:Txt w K mg t):Ok P w base T.ub 4 uR:=by show T.ub.F.bV qR ?_;obtain⟨cs,ps,wy,r,g,e,d,hp,hw,c,a,q⟩;show{_,(sc (cM (i:=3) qR.nd<|aI T.fA (m_ T) hr<|al 0<|al 1<|ac (ix `u (dv 2) di) an)<|sc (si (bf a_ `u (dv 3) di) (s1<|sr<|cm a_ `u (ix `u (dv 2) di) ds) s0)<|s1<|sr<|cm vA `u (dv 3) di),?_};show !!!!{ps,wy,_,r.1,g.1,g.2.1,_,rfl,by rw[zc],a.len.symm,Fd d hp hw,a.pv,c,a.key,_,rfl,_,rfl,?_};unfold gP Yf at q;change R (.bl<|ω (fj (C_ ps wy) ((ps.map λp=>aq cs r.2 p.1)++[.str r.1]) (g.1++[.str g.2.1])<0)||ω (fj (C_ ps wy) ((ps.map λp=>aq cs r.2 p.1)++[.str r.1]) (g.1++[.str g.2.1])=0)&&ω (g.2.2 ="behind")) S at q;generalize fj (C_ ps wy) _ _=n at q⊢;show bH (λh=>?_) λh=>?_;have h:n=0:=zy h;subst h;show !!⟨fo q⟩;have h:¬n=0:=zW h;rw[zt h,ya,Bool.or_false]at q;show{_,rfl,fo q}
inductive mD (ds:δ D) (S:av) (R:KD) (Z:KX):η
 |mk (cs ps wy A l g) (_:ds=[.tup<|cs.map aB,fC ps wy,.ref l,II g]) (_:Gd cs) (_:Pin cs ps) (_:ps.length<=8) (_:S l=ϑ (.lst<|A.map au)) (_:An cs ps wy A) (_:Gp cs ps g) (_:R (.int ((A.countP (gP cs ps wy g):π):ν)) S)
def gz(T:Txt w K mg t):Ok P w base T.fb 5 mD:=by
 show T.fb.F.bV cE ?_;obtain⟨cs,ps,wy,A,l,g,e,o,hp,E,hl,hA,s,q⟩;show{_,(sc (cM (i:=4) cE.nd di)<|sc (cM (i:=5) cE.nd<|cb aW T.aU aH<|al 2 an)<|sc (C4<|swh (bf vA `u (dv 4)<|dv 5)<|sc (cM (i:=6) cE.nd<|bo xN `u (bo cQ `u (dv 4)<|dv 5) di)<|s1<|si (tv<|aI T.ub (CH T) hr<|al 1<|ac (aI T.n6 (rA T) hr<|al 0<|al 1<|ac (ix `u (dv 2)<|dv 6) an)<|al 3 an) (s1<|cM (i:=4) cE.nd<|bo cQ `u (dv 6) di)<|s1<|cM (i:=5) cE.nd<|dv 6)<|s1<|sr<|dv 4),?_};show !!⟨.inl {_,hl,?_}⟩;rw[zc];show{λn S'=>∃(j:θ D),n=[some<|.tup<|cs.map aB,some<|fC ps wy,some<|.ref l,some<|II g,some<|.int ((A.countP (gP cs ps wy g):π):ν),some<|.int ((A.countP (gP cs ps wy g):π):ν),j]/\S'=S,?_,?_};show{λm n S'=>∃(lo hi:π)(j:θ D),n=[some<|.tup<|cs.map aB,some<|fC ps wy,some<|.ref l,some<|II g,some<|.int (lo:π),some<|.int (hi:π),j]/\S'=S/\m=hi-lo/\lo<=hi/\hi<=A.length/\(∀i a,i<lo->A[i]?=some a->gP cs ps wy g a=ϱ)/\(∀i a,hi<=i->A[i]?=some a->gP cs ps wy g a=ϰ),{_,0,A.length,none,rfl,rfl,rfl,zU _,zm _,λi a h=>absurd h<|Nat.not_lt_zero _,λi a h e=>?_},?_};rw[List.getElem?_eq_none h]at e;cases e;rintro m n S' ⟨lo,hi,j,rfl,rfl,rfl,h1,h2,y,x⟩;show !!!⟨bH (λh=>?_) λh=>?_⟩;have h:lo<hi:=by have:=zy h;show y8.mp ‹_›
 have hm:(lo+hi)/2<A.length:=`b
 have d:=zg hm;generalize A[(lo+hi)/2]=r at d;have v:=zK d;have B:(((lo:π):ν)+((hi:π):ν))/2=(((lo+hi)/2:π):ν):=by rfl
 have mono:=hA.mono o hp s;show !!⟨{`a,`a},?_⟩;rw[B];show !!!!!{_,au r,hl,eU<|by rw[zx,d];rfl,cs,ps,wy,r,rfl,o,hp,E,hA.rg.1 r v,_,rfl,cs,ps,wy,r,g,rfl,o,hp,hA.rg.1 r v,hA.ky r v,s,_,rfl,bH (λz=>?_) λz=>?_};show !{hi-((lo+hi)/2+1),`b,(lo+hi)/2+1,hi,_,rfl,rfl,rfl,`b,h2,λi a G c=>?_,x};rcases Nat.lt_or_ge i ((lo+hi)/2) with p|H;show List.pairwise_iff_getElem.mp mono i _ (zh.mp c).1 hm p |> λk=>by rw[(zh.mp c).2,(zh.mp d).2]at k;show k z
 have:i=(lo+hi)/2:=`b
 subst this;rw[d]at c;cases c;show z;show !{(lo+hi)/2-lo,`b,lo,(lo+hi)/2,_,rfl,rfl,rfl,`b,by show Nat.le_of_succ_le ‹_›,y,λi a G c=>?_};rcases Nat.lt_or_ge ((lo+hi)/2) i with p|H;cases C:gP cs ps wy g a with|false=>rfl|true=>have k:=List.pairwise_iff_getElem.mp mono _ i hm (zh.mp c).1 p;rw[(zh.mp c).2,(zh.mp d).2]at k;show tf (k C) z
 have:i=(lo+hi)/2:=`b
 subst this;rw[d]at c;cases c;show z;have h:lo=hi:=by have:=zW h;lia
 subst h;have:=T7 (hA.mono o hp s) h2 y x;subst this;show fo !⟨rfl⟩;rintro n S' ⟨j,rfl,rfl⟩;show{_,rfl,fo q}
noncomputable def seg{α:Type}(A:δ α)(b e:π):δ α:=(A.drop b).take<|e-b
def OS(h:b<=e)(h2:e<=A.length):eB (A.map au) (some ((b:π):ν)) (some ((e:π):ν))=(seg A b e).map au:=by unfold eB seg;rw[HT.sIx_nat,HT.sIx_nat,zc,Nat.min_eq_left h2,Nat.min_eq_left<|zj h h2,List.map_take,List.map_drop]
noncomputable def Qy(p:ε)(b c:π):D:=.tup [.ref p,.int (b:π),.int (c:π)]
noncomputable def ZJ(cs:δ<|ρ×ρ)(ps:δ Part)(wy:ρ)(A:δ Row)(n:π):θ CF->π|none=>n|some g=>A.countP<|gP cs ps wy g
structure Ans(cs:δ (ρ×ρ))(ps:δ Part)(wy:ρ)(n:π)(d:D)(rows A:δ Row):η where
 an:An cs ps wy A
 pm:A.Perm (rows.filter λr=>bW cs r n d)
def Vk(rows:δ Row):Prop:=∀r∈rows,r.1∈KS
theorem Fi{cs:δ<|ρ×ρ}{ps:δ Part}{wy:ρ}{n:π}{d:D}{rows A:δ Row}(hr:Rg cs rows)(c:Vk rows)(pm:A.Perm<|rows.filter λr=>bW cs r n d)(pw:A.Pairwise λa b=>bM cs wy ps a b=ϱ):Ans cs ps wy n d rows A:={{(hr.sub yx).perm pm,λr h=>c r (yk.mp<|pm.mem_iff.mp h).1,pw},pm}
noncomputable def Qz(A:δ Row)(b n:π):Nat:=min (b+n) A.length
def T8(t:ft)(f:δ (ρ×ρ)->δ Part->ρ->δ Row->θ CF->π->π×π):jb:=λds S R z=>∃(a:ε)(cs:δ (ρ×ρ))(ps:δ Part)(wy:ρ)(d m:D)(n:π)(b:θ CF)(rows:δ Row),ds=[.ref a,fC ps wy,d,.int (n:π),OQ b,m]/\Gd cs/\Og cs ps wy/\Sq cs d/\1<=n/\n<=1000/\Bg cs ps b/\Vw t.aw S a cs m rows/\Vk rows/\Tb t S/\∀(A:δ Row)(p:ε),Ans cs ps wy 7 d rows A->S p=ϐ->R (Qy p (f cs ps wy A b n).1<|A.length-(f cs ps wy A b n).2) (S.set p<|.lst<|(seg A (f cs ps wy A b n).1 (f cs ps wy A b n).2).map au)
noncomputable def ZK(cs:δ<|ρ×ρ)(ps:δ Part)(wy:ρ)(A:δ Row)(b:θ CF)(n:π):π×Nat:=(ZJ cs ps wy A 0 b,Qz A (ZJ cs ps wy A 0 b) n)
noncomputable def ZL(cs:δ<|ρ×ρ)(ps:δ Part)(wy:ρ)(A:δ Row)(b:θ CF)(n:π):π×Nat:=(ZJ cs ps wy A A.length b-n,ZJ cs ps wy A A.length b)
theorem GR{S:av}{p q:ε}{c e:Ce}(h:S q=ϐ)(hp:S p=ϐ)(hn:q≠p):Sub (S.set q e) ((S.set p c).set q e):=λb x hb=>by by_cases z:b=q;subst z;rw[ae]at hb⊢;show hb;rw[ah z]at hb⊢;rw[ah<|h_ hb hp];show hb
inductive lh (ds:δ D) (S:av) (R:KD) (Z:KX):η
 |mk (l:ε) (A:δ Row) (b e:π) (_:ds=[.ref l,.int (b:π),.int (e:π)]) (_:S l=ϑ (.lst<|A.map au)) (_:b<=e) (_:e<=A.length) (_:∀p,S p=ϐ->R (Qy p b<|A.length-e) (S.set p<|.lst<|(seg A b e).map au))
def jK(T:Txt w K mg t):Ok P w base T.fJ 1 lh:=by show T.fJ.F.bV rR ?_;rintro _ _ _ _ _ _ _ S R Z hr ⟨l,A,b,e,a,hl,h1,h2,q⟩;subst a;show{_,(s1<|sr<|bY<|ac (sll (dv 0) (o1<|dv 1)<|o1<|dv 2)<|al 1<|ac (bo j_ `u (cb aW T.aU aH<|al 0 an)<|dv 2) an),?_};show !!!!!{_,hl,λp hp=>?_};rw[OS h1 h2];show !!!⟨.inl {_,(Sub.new hp) _ _ hl,_,rfl,gH,?_}⟩;rw[zc,show((A.length:π):ν)-((e:π):ν)=((A.length-e:π):ν) by omega];show fo<|q p hp
inductive rB (ds:δ D) (S:av) (R:KD) (Z:KX):η
 |mk (l:ε) (A:δ Row) (b n:π) (_:ds=[.ref l,.int (b:π),.int (n:π)]) (_:S l=ϑ (.lst<|A.map au)) (_:b<=A.length) (_:∀p,S p=ϐ->R (Qy p b<|A.length-Qz A b n) (S.set p<|.lst<|(seg A b<|Qz A b n).map au))
def AX(T:Txt w K mg t):Ok P w base T.pO 2 rB:=by
 show T.pO.F.bV As ?_;rintro _ _ _ _ _ _ _ S R Z hr ⟨l,A,b,n,a,hl,h1,q⟩;subst a;show{_,(s1<|sr<|aI T.fJ (jK T) hr<|al 0<|al 1<|ac (cb PQ T.Qf JX<|ac (bo cQ `u (dv 1)<|dv 2)<|ac (cb aW T.aU aH<|al 0 an) an) an),?_};show !!!!!!⟨.inl {_,hl,_,_,rfl,?_}⟩;rw[zc];have e1:(if ω (((A.length:π):ν)<((b:π):ν)+((n:π):ν))=ϱ then ((A.length:π):ν) else ((b:π):ν)+((n:π):ν))=((Qz A b n:π):ν):=by unfold Qz;by_cases h:((A.length:π):ν)<((b:π):ν)+((n:π):ν);rw[qc<|zu h];lia;rw[qa<|by rw[zt h];show zd];lia
 rw[e1];show{l,A,b,Qz A b n,rfl,hl,by unfold Qz;omega,by unfold Qz;show Nat.min_le_right _ _,λp hp=>fo<|q p hp}
inductive oM (ds:δ D) (S:av) (R:KD) (Z:KX):η
 |mk (l:ε) (A:δ Row) (e n:π) (_:ds=[.ref l,.int (e:π),.int (n:π)]) (_:S l=ϑ (.lst<|A.map au)) (_:e<=A.length) (_:∀p,S p=ϐ->R (Qy p (e-n)<|A.length-e) (S.set p<|.lst<|(seg A (e-n) e).map au))
def vW(T:Txt w K mg t):Ok P w base T.mX 2 oM:=by
 show T.mX.F.bV vL ?_;rintro _ _ _ _ _ _ _ S R Z hr ⟨l,A,e,n,a,hl,h1,q⟩;subst a;show{_,(s1<|sr<|aI T.fJ (jK T) hr<|al 0<|ac (cb WU T.XT S_<|ac (bo j_ `u (dv 1)<|dv 2)<|ac di an)<|al 1 an),?_};show !!!{_,_,rfl,?_};have e1:(if ω (((e:π):ν)-((n:π):ν)<0)=ϱ then (0:ν) else ((e:π):ν)-((n:π):ν))=((e-n:π):ν):=by by_cases h:((e:π):ν)-((n:π):ν)<0;rw[qc<|zu h];lia;rw[qa<|by rw[zt h];show zd];lia
 rw[e1];show !{l,A,e-n,e,rfl,hl,Nat.sub_le _ _,h1,λp hp=>fo<|q p hp}
def QA(f:δ (ρ×ρ)->δ Part->ρ->δ Row->θ CF->π->π×π):jb:=λds S R z=>∃(cs:δ (ρ×ρ))(ps:δ Part)(wy:ρ)(l:ε)(A:δ Row)(n:π)(b:θ CF),ds=[.tup<|cs.map aB,fC ps wy,.ref l,.int (n:π),OQ b]/\Gd cs/\Pin cs ps/\ps.length<=8/\S l=ϑ (.lst<|A.map au)/\An cs ps wy A/\Bg cs ps b/\∀p,S p=ϐ->R (Qy p (f cs ps wy A b n).1<|A.length-(f cs ps wy A b n).2) (S.set p<|.lst<|(seg A (f cs ps wy A b n).1 (f cs ps wy A b n).2).map au)
def mE(T:Txt w K mg t):Ok P w base T.ji 6 (QA ZK):=by show T.ji.F.bV mm ?_;rintro _ _ _ _ _ _ _ S R Z hr ⟨cs,ps,wy,l,A,n,b,a,c,hp,d,hl,hA,hb,q⟩;subst a;show{_,(sc (cM (i:=5) mm.nd<|Sj (bf i9 `u (dv 4) dn) di<|aI T.fb (gz T) hr<|al 0<|al 1<|al 2<|al 4 an)<|s1<|sr<|aI T.pO (AX T) hr<|al 2<|al 5<|al 3 an),?_};cases b with|none=>show (!!⟨bX !!!{l,A,0,n,rfl,hl,zU _,λp hp=>fo<|q p hp}⟩)|some g=>show !!⟨aL !!!!{cs,ps,wy,A,l,g,rfl,c,hp,d,hl,hA,hb g rfl,_,rfl,_,rfl,_,rfl,l,A,_,n,rfl,hl,List.countP_le_length,λp hp=>fo<|q p hp}⟩
def jL(T:Txt w K mg t):Ok P w base T.fI 6 (QA ZL):=by show T.fI.F.bV jF ?_;rintro _ _ _ _ _ _ _ S R Z hr ⟨cs,ps,wy,l,A,n,b,a,c,hp,d,hl,hA,hb,q⟩;subst a;show{_,(sc (cM (i:=5) jF.nd<|Sj (bf i9 `u (dv 4) dn) (cb aW T.aU aH<|al 2 an)<|aI T.fb (gz T) hr<|al 0<|al 1<|al 2<|al 4 an)<|s1<|sr<|aI T.mX (vW T) hr<|al 2<|al 5<|al 3 an),?_};cases b with|none=>show !!⟨bX !!⟨.inl {_,hl,?_}⟩⟩;rw[zc];show (!!!{l,A,A.length,n,rfl,hl,zm _,λp hp=>fo<|q p hp})|some g=>show !!⟨aL !!!!{cs,ps,wy,A,l,g,rfl,c,hp,d,hl,hA,hb g rfl,_,rfl,_,rfl,_,rfl,l,A,_,n,rfl,hl,List.countP_le_length,λp hp=>fo<|q p hp}⟩
def Fj(T:Txt w K mg t)(B:Bm mg base):Ok P w base T.xZ 13 (T8 t ZK):=by
 show T.xZ.F.bV EI ?_;rintro _ _ _ _ _ _ _ S R Z hr ⟨a,cs,ps,wy,d,m,n,b,rows,s,i,c,hd,h1,h2,hb,g,x,v,q⟩;subst s;let⟨F,dl,rs,j,hn,z,y⟩:=g.sh;let⟨ld,lr,ra,h,_⟩:=id j;show{_,(sc (se<|aI T.f_ (iy T) hr<|ac (lW (dv 0) T.aj T.aN (bD T) hr)<|al 1<|al 2<|al 3<|al 4 an)<|s1<|sr<|aI T.ji (mE T) hr<|ac (lW (dv 0) T.aj T.aN (bD T) hr)<|al 1<|ac (aI T.cU (dY T B) hr<|al 0<|al 1<|al 2<|al 5 an)<|al 3<|al 4 an),?_};show !{a,_,rfl,h.ins,rfl,a,F,cs,dl,rs,rfl,j,_,rfl,_,rfl,_,rfl,_,rfl,cs,ps,wy,d,n,b,rfl,i,c,hd,by show Int.ofNat_le.mpr ‹_›,by show Int.ofNat_le.mpr ‹_›,hb,?_};show !{a,_,rfl,h.ins,rfl,a,F,cs,dl,rs,rfl,j,_,rfl,_,rfl,_,rfl,_,rfl,_,rfl,a,cs,ps,wy,d,m,rows,rfl,i,c,hd,g,v,λA l pm pw hl=>?_};have an:=Fi g.rg x pm pw;show !!{cs,ps,wy,l,A,n,b,rfl,i,c.pin,c.len,ae,an.an,hb,λp hp=>?_};have r:p≠l:=λe=>by rw[e,ae]at hp;cases hp
 have o:S p=ϐ:=by rw[ah r]at hp;show hp
 show{_,GR o hl r,q A p an o}
def AY(T:Txt w K mg t)(B:Bm mg base):Ok P w base T.pF 13 (T8 t ZL):=by
 show T.pF.F.bV Ar ?_;rintro _ _ _ _ _ _ _ S R Z hr ⟨a,cs,ps,wy,d,m,n,b,rows,s,i,c,hd,h1,h2,hb,g,x,v,q⟩;subst s;let⟨F,dl,rs,j,hn,z,y⟩:=g.sh;let⟨ld,lr,ra,h,_⟩:=id j;show{_,(sc (se<|aI T.f_ (iy T) hr<|ac (lW (dv 0) T.aj T.aN (bD T) hr)<|al 1<|al 2<|al 3<|al 4 an)<|s1<|sr<|aI T.fI (jL T) hr<|ac (lW (dv 0) T.aj T.aN (bD T) hr)<|al 1<|ac (aI T.cU (dY T B) hr<|al 0<|al 1<|al 2<|al 5 an)<|al 3<|al 4 an),?_};show !{a,_,rfl,h.ins,rfl,a,F,cs,dl,rs,rfl,j,_,rfl,_,rfl,_,rfl,_,rfl,cs,ps,wy,d,n,b,rfl,i,c,hd,by omega,by omega,hb,?_};show !{a,_,rfl,h.ins,rfl,a,F,cs,dl,rs,rfl,j,_,rfl,_,rfl,_,rfl,_,rfl,_,rfl,a,cs,ps,wy,d,m,rows,rfl,i,c,hd,g,v,λA l pm pw hl=>?_};have an:=Fi g.rg x pm pw;show !!{cs,ps,wy,l,A,n,b,rfl,i,c.pin,c.len,ae,an.an,hb,λp hp=>?_};have r:p≠l:=λe=>by rw[e,ae]at hp;cases hp
 have o:S p=ϐ:=by rw[ah r]at hp;show hp
 show{_,GR o hl r,q A p an o}
structure Qs(t:ft)(S:av)(a:ε)(cs:δ (ρ×ρ))(ps:δ Part)(wy:ρ)(d m:D)(rows:δ Row):η where
 g:Gd cs
 o:Og cs ps wy
 s:Sq cs d
 v:Vw t.aw S a cs m rows
 k:Vk rows
 t:Tb t S
section
variable{t:ft}{S:av}{a:ε}{cs:δ (ρ×ρ)}{ps:δ Part}{wy:ρ}{d m:D}{rows:δ Row}(hq:Qs t S a cs ps wy d m rows)
include hq
end
def OT{S:av}{a b:ε}{ds:δ D}{R:KD}(e1:S a=ϑ (.lst ds))(e2:S b=ϑ (.lst []))(h:∀d∈ds,Ly S 60 d)(q:R (.bl<|!ds.isEmpty) S):J6 true (.ref a) (.ref b) S R:=by let⟨ps,c,e,i,g⟩:=Ly.all h;show{.list ps,.list [],⟨ds,ps,e1,rfl,c⟩,{[],[],e2,rfl,by simp only[DpAll]},by simp only[PyData.canLay0];show e,by simp only[PyData.canLay0,PyData.canLayAll0],.inl<|by simp only[PyData.depth];show zR ‹_› `a,?_};rw[qc rfl,uD,show ps.isEmpty=ds.isEmpty by cases ps<;>cases ds<;>first|rfl|cases g];show q
theorem OU{cs:δ<|ρ×ρ}{rows:δ Row}(hr:Rg cs rows)(a:Vk rows){S:av} : ∀d∈rows.map au,Ly S 60 d:=λd hd=>by let⟨r,h,rfl⟩:=zf.mp hd;show T6 (a r h)<|hr.1 r h
noncomputable def OV(cs:δ<|ρ×ρ)(ps:δ Part)(sd:ρ)(r:Row):CF:=(ps.map λp=>aq cs r.2 p.1,r.1,sd)
theorem L_{cs:δ<|ρ×ρ}(a:Gd cs){ps:δ Part}(hp:Pin cs ps){r:Row}(hw:Wg cs r.2)(c:r.1∈KS){sd:ρ}(d:CG sd=ϱ):Gp cs ps (OV cs ps sd r):={Fd a hp hw,c,d}
inductive CI (ds:δ D) (S:av) (R:KD) (Z:KX):η
 |mk (l) (_:ds=[.ref l]) (_:S l=ϑ .well) (_:∀n:π,1<=n->n<=1000->R (.int (n:π)) S)
def OW(T:Txt w K mg t):Ok P w base T.Ez 2 CI:=by
 show T.Ez.F.bV Io ?_;obtain⟨l,e,hw,q⟩;show{_,(s1<|sr<|C5<|ix `u (cP<|ac di<|ac di<|ac di<|ac (bo cQ `u di<|aI T.aT (bE T) hr<|al 0<|ac di an)<|ac (bo cQ `u di<|aI T.aT (bE T) hr<|al 0<|ac di an)<|ac di an)<|aI T.aT (bE T) hr<|al 0<|ac di an),?_};show !{l,_,rfl,`a,`a,hw,λn1 a0 a=>!{l,_,rfl,`a,`a,hw,λn2 g c=>{ab_,λp hp=>!{l,_,rfl,`a,`a,wl hw hp,λn h0 h1=>cB h0 h1 hp λd hd=>?_}}}};have a:n1<9:=a;have c:n2<40:=c;have hd:d∈[D.int 1,.int 2,.int 3,.int<|1+n1,.int<|13+n2,.int 1000]:=hd;have one:∀i:ν,d=.int i->1<=i->i<=1000->Fo S (R d):=λi e h1 h2=>by let⟨m,rfl⟩:=Int.eq_ofNat_of_zero_le (show 0<=i by show Int.le_of_lt ‹_›);rw[e];show fo<|q m (Int.ofNat_le.mp ‹_›)<|Int.ofNat_le.mp ‹_›
 simp only[ze,zA,or_false]at hd;rcases hd with h|h|h|h|h|h<;>show one _ h `b `b
inductive GS (ds:δ D) (S:av) (R:KD) (Z:KX):η
 |mk (l cs ps wy lr rows) (_:ds=[.ref l,.tup<|cs.map aB,fC ps wy,.ref lr]) (_:Gd cs) (_:Og cs ps wy) (_:S l=ϑ .well) (_:S lr=ϑ (.lst<|rows.map au)) (_:Rg cs rows) (_:Vk rows) (_:rows.length<=50) (_:∀b,Bg cs ps b->R (OQ b) S)
def OX(T:Txt w K mg t):Ok P w base T.K9 4 GS:=by
 show T.K9.F.bV kR ?_;obtain⟨l,cs,ps,wy,lr,rows,e,E,B,hw,F_,o,hk,Zx,q⟩;show{_,(sc (cM (i:=4) kR.nd<|aI T.aT (bE T) hr<|al 0<|ac di an)<|sc (cM (i:=5) kR.nd<|C5<|ix `u (cP<|ac ds<|ac ds an)<|aI T.aT (bE T) hr<|al 0<|ac di an)<|sc (si (bf a_ `u (dv 4) di) (s1<|sr dn) s0)<|sc (C4<|si (twd<|twand (bf vA `u (dv 4) di)<|tw1<|bf ja `u (dv 3)<|cP an) (sc (cM (i:=6) kR.nd<|ix `u (dv 3)<|aI T.aT (bE T) hr<|al 0<|ac (cb aW T.aU aH<|al 3 an) an)<|s1<|sr<|bY<|ac (bY<|ac (ct gL T.bc aR<|ac (vE (N:=["_law_part","_law_columns_here","_law_row"]) (src:=[none,some 1,some 6]) (mf (ag Gn) ["_law_well_here","_law_columns_here","_law_order_here","_law_rows","_law_way","_law_side","_law_row","_law_kinds"] rfl rfl<|`c) (Kl<|ix `u (dv 2) di) (u_<|show(["_law_part","_law_columns_here","_law_row"]:δ ρ).Nodup by trivial) (bj rfl) bq (λm m m m m=>u9) λm m m m m=>(aI T.Ts (Yb T) hr<|al 1<|al 2<|ac (ix `u (dv 0) di) an)) an)<|ac (ix `u (dv 6) di) an)<|al 5 an) s0)<|sc (cM (i:=7) kR.nd<|ct Ks T.K5 FP<|al 1 an)<|s1<|sr<|bY<|ac (bY<|ac (ct gL T.bc aR<|ac (vE (N:=["_law_part","_law_well_here","_law_kinds"]) (src:=[none,some 0,some 7]) (mf (ag Gn) ["_law_well_here","_law_columns_here","_law_order_here","_law_rows","_law_way","_law_side","_law_row","_law_kinds"] rfl rfl<|`c) (Kl<|ix `u (dv 2) di) (u_<|show(["_law_part","_law_well_here","_law_kinds"]:δ ρ).Nodup by trivial) (bj rfl) bq (λm m m m m=>u9) λm m m m m=>(aI T.n8 (uz T) hr<|al 1<|ac (ix `u (dv 2)<|ix `u (dv 0) di) an)) an)<|ac (aI T.B6 (EV T) hr<|al 0 an) an)<|al 5 an),?_};show !{l,_,rfl,`a,`a,hw,λn a0 a1=>{cF,λp hp=>!{l,_,rfl,`a,`a,wl hw hp,λn2 h0 h1=>cB h0 h1 hp λd hd=>?_}}};obtain⟨sd,rfl,A⟩:∃sd:ρ,d=.str sd/\CG sd=ϱ:=by have hd:d∈[D.str "ahead",.str "behind"]:=hd;simp only[ze,zA,or_false]at hd;rcases hd with h|h;show{_,h,`c};show{_,h,`c}
 have h8:=B.len;show !!⟨bH (λh=>fo<|q none nofun) λh=>?_⟩;show{λaG S'=>aG=[some<|D.ref l,some<|.tup<|cs.map aB,some<|fC ps wy,some<|.ref lr,some<|.int n,some<|.str sd,none,none]/\Sub S S',?_,?_};show !!⟨bH (λh=>!{pW,λp2 y=>OT ((Sub.new y) _ _ F_) ae (OU o hk) !⟨bH (λh2=>?_) λh2=>?_⟩}) λh=>fo {rfl,.refl _}⟩;have h2:(!(rows.map au).isEmpty)=ϱ:=h2;have mI:0<rows.length:=by cases rows with|nil=>(cases h2)|cons _ _=>show xb _
 have qA:=(Sub.new (c:=.lst []) y) _ _ F_;have qI:=wl (c:=.lst []) hw y;show !!!!⟨.inl {_,qA,?_}⟩;rw[zc];show{l,_,rfl,by show y8.mpr ‹_›,uy `b<|`b,qI,λm m0 m1=>?_};let⟨k,rfl⟩:=Int.eq_ofNat_of_zero_le m0;have X:k<rows.length:=by show y8.mp ‹_›
 have j:=zg X;generalize rows[k]=r at j;have O:=zK j;show{_,au r,qA,eU<|by rw[zx,j];rfl,?_};show !!{_,.inl rfl,?_};show comp_map (λd=>match d with|.tup (.str z::_)=>aq cs r.2 z|_=>.aA) trivial (by change(ps.map p3).length<=_;rw[zc];show zj ‹_› `a) (λd hd Q U=>?_) λp M=>?_;let⟨pt,H,rfl⟩:=zf.mp hd;let⟨c,G,C⟩:=B.pin pt H;show !!!!{cs,r,c,(by rw[C];rfl),E,o.1 r O,G,?_};rw[C];show U;have e3:(ps.map p3).map (λd=>match d with|.tup (.str z::_)=>aq cs r.2 z|_=>.aA)=ps.map λp=>aq cs r.2 p.1:=by rw[zG];rfl
 rw[show({ps.map p3,λm=>True}:HL).xs=ps.map p3 from rfl,e3];show{_,_,rfl,.inl ae,_,rfl,_,rfl,cF,_,rfl,cF,S,(Sub.new y).trans<|.new M,?_};show q (some<|OV cs ps sd r) λg Y=>by cases Y;show L_ E B.pin (o.1 r O) (hk r O) A
 show fo {rfl,.new y};rintro aG S' ⟨rfl,sb⟩;have j:cs.map aB=(cs.map λc=>(c.1,D.str c.2)).map F7:=by rw[zG];rfl
 show !{(cs.map λc=>(c.1,D.str c.2)),by rw[j],λZ J=>?_};have L:=sb.trans<|Sub.new (c:=.b_<|ia<|cs.map λc=>(c.1,D.str c.2)) J;have s1:(S'.set Z<|.b_<|ia<|cs.map λc=>(c.1,D.str c.2)) Z=ϑ (.b_<|ia<|cs.map λc=>(c.1,D.str c.2)):=ae;generalize S'.set Z (.b_<|ia<|cs.map λc=>(c.1,D.str c.2))=S1 at L s1⊢;show !!{_,.inl rfl,?_};show fe (λd v=>∃z w e,d=.tup [.str z,.str w,.str e]/\Vg (Dc cs z) v) trivial (by change(ps.map p3).length<=_;rw[zc];lia) (λd hd Q U=>?_) λout HU p M=>?_;let⟨pt,H,rfl⟩:=zf.mp hd;let⟨c,G,C⟩:=B.pin pt H;have h1:=wH (cs.map λc=>(c.1,D.str c.2)) pt.1;rw[show(cs.map λc=>(c.1,D.str c.2)).any (λq=>ω<|q.1=pt.1)=ϱ from List.any_eq_true.mpr {_,zf.mpr ⟨c,G,rfl⟩,zu C}]at h1;cases I:bL (ia<|cs.map λc=>(c.1,D.str c.2)) (.inr pt.1) with|none=>(rw[I]at h1;cases h1)|some d=>let⟨p',XW,e1,rfl⟩:=oB _ _ I;let⟨s,Mv,rfl⟩:=zf.mp XW;have e1:s.1=pt.1:=e1;have Iw:Dc cs pt.1=s.2:=(by unfold Dc;rw[<-e1,(uI E Mv).1];rfl);show !!!!{_,_,s1,I,l,_,rfl,?_,L _ _ hw,λv a=>?_};rcases (E.2.2 s Mv).2 with h|h;show .inl (by change[D.str s.2]=_;rw[h]);show .inr (by change[D.str s.2]=_;rw[h]);let⟨k,j,a⟩:=a;cases j;show U v {_,_,_,rfl,by rw[Iw];show a}
 have a:Paired (λk x=>Vg k x) (ps.map λp=>Dc cs p.1) out:=by have:∀{ps:δ Part}{out:δ D},Paired (λd v=>∃z w e,d=D.tup [.str z,.str w,.str e]/\Vg (Dc cs z) v) (ps.map p3) out->Paired (λk x=>Vg k x) (ps.map λp=>Dc cs p.1) out:=(by intro ps;induction ps with|nil=>(intro out h;cases h;show .nil)|cons x ps ih=>intro out h;cases h with|cons r t=>let⟨z,w,e,e1,a⟩:=r;injection e1 with e1;injection e1 with e1 _;injection e1 with e1;show .cons ?_<|ih t;change Vg (Dc cs x.1) _;rw[show x.1=z from e1];show a);show this HU
 show{_,_,rfl,.inl ae,?_};have R:=L.trans<|Sub.new (c:=.lst out) M;generalize S1.set p (.lst out)=S2 at R⊢;show !{l,_,rfl,rfl,R _ _ hw,λd hd=>?_};let⟨z,hz,rfl⟩:=hd;show{cF,_,rfl,cF,S,R,?_};show q (some (out,z,sd)) λg Y=>by cases Y;show{a,Cg hz,A}
structure acL(t:ft)(ds:δ D)(S:av)(R:KD)(Z:KX):η where
 of:Ql t ds S R Z
structure Qn where
 (y:ρ)
 ps:δ Part
 wy:ρ
 d:D
 n:π
 b:θ CF
noncomputable def Qn.q(q:Qn):D:=.tup [.str q.y,fC q.ps q.wy,q.d,.int (q.n:π),OQ q.b]
structure Qn.Ok(cs:δ (ρ×ρ))(q:Qn):η where
 y:q.y ="on"\/q.y ="back"
 o:Og cs q.ps q.wy
 s:Sq cs q.d
 n1:1<=q.n
 n2:q.n<=1000
 b:Bg cs q.ps q.b
noncomputable def Qn.f(q:Qn)(cs:δ<|ρ×ρ)(A:δ Row):π×Nat:=if q.y ="on" then ZK cs q.ps q.wy A q.b q.n else ZL cs q.ps q.wy A q.b q.n
noncomputable def Qn.pg(q:Qn)(cs:δ<|ρ×ρ)(A:δ Row)(p:ε):D:=Qy p (q.f cs A).1<|A.length-(q.f cs A).2
noncomputable def Qn.rows(q:Qn)(cs:δ<|ρ×ρ)(A:δ Row):δ Row:=seg A (q.f cs A).1 (q.f cs A).2
inductive jM (t:ft) (ds:δ D) (S:av) (R:KD) (Z:KX):η
 |mk (a:_) (F:_) (cs:_) (dl:_) (rs:_) (_:ds=[.ref a]) (_:cA t.aw S a F cs dl rs) (_:∀p,S p=ϐ->R (.ref p) (S.set p<|.lst dl))
def Fl(T:Txt w K mg t):sE P w mg base T.ij 1 (jM t):=by show T.ij.F.bV pV ?_;obtain⟨a,F,cs,dl,rs,e,⟨ld,lr,ra,h,_⟩,q⟩;show{_,(s1<|sr<|ct Ke T.t5 nI<|ac (fl T.aj T.cC<|dv 0) an),?_};show !{a,_,_,rfl,h.ins,rfl,_,dl,rfl,.inl h.A9,λp hp=>fo<|q p hp}
inductive qo (ds:δ D) (S:av) (R:KD) (Z:KX):η
 |mk (cs:δ<|ρ×ρ) (q:Qn) (l:ε) (A:δ Row) (_:ds=[.tup<|cs.map aB,q.q,.ref l]) (_:Gd cs) (_:q.Ok cs) (_:S l=ϑ (.lst<|A.map au)) (_:An cs q.ps q.wy A) (_:∀p,S p=ϐ->R (q.pg cs A p) (S.set p<|.lst<|(q.rows cs A).map au))
def uS(T:Txt w K mg t):Ok P w base T.sJ 7 qo:=by
 show T.sJ.F.bV EJ ?_;obtain⟨cs,q,l,A,e,d,hq,hl,hA,k⟩;show{_,(sc (si (bf a_ `u (ix `u (dv 1) di) ds) (s1<|sr<|aI T.ji (mE T) hr<|al 0<|ac (ix `u (dv 1) di)<|al 2<|ac (ix `u (dv 1) di)<|ac (ix `u (dv 1) di) an) s0)<|s1<|sr<|aI T.fI (jL T) hr<|al 0<|ac (ix `u (dv 1) di)<|al 2<|ac (ix `u (dv 1) di)<|ac (ix `u (dv 1) di) an),?_};rcases hq.y with a|a;have e1:q.f cs A=ZK cs q.ps q.wy A q.b q.n:=qc a;have k:∀p,S p=ϐ->R (Qy p _ _) (S.set p<|.lst<|(seg A _ _).map au):=k;rw[e1]at k;show !!!⟨bH (λz=>!!!!!!!!{cs,q.ps,q.wy,l,A,q.n,q.b,rfl,d,hq.o.pin,hq.o.len,hl,hA,hq.b,λp hp=>fo<|k p hp}) λh=>absurd a<|zW h⟩;have c:q.y≠"on":=by rw[a];decide
 have e1:q.f cs A=ZL cs q.ps q.wy A q.b q.n:=qa c;have k:∀p,S p=ϐ->R (Qy p _ _) (S.set p<|.lst<|(seg A _ _).map au):=k;rw[e1]at k;show !!!⟨bH (λh=>absurd (zy h) c) λz=>!!!!!!!!{cs,q.ps,q.wy,l,A,q.n,q.b,rfl,d,hq.o.pin,hq.o.len,hl,hA,hq.b,λp hp=>fo<|k p hp}⟩
inductive qp (t:ft) (ds:δ D) (S:av) (R:KD) (Z:KX):η
 |mk (a d) (_:ds=[.ref a,d]) (_:∀(R':av->η)(Z':KX),(∀S',R (.bl true) S'->R' S')->ZG t [.ref a,d] S (λz=>R') Z')
def Fm(T:Txt w K mg t):Ok P w base T.Af 8 (qp t):=by have c:Ok P w base T.sI 7 (acL t):=(Oy T).HN λds S R Z h=>h.of;show T.Af.F.bV EH ?_;obtain⟨a,d,e,h⟩;show{_,(sc (Qc T.nY ⟨T.gQ⟩ (s1<|se<|aI T.sI c hr<|al 0<|al 1 an) λz=>(s1<|sr db))<|s1<|sr db),?_};show !!⟨⟨(h _ _ λS' q=>fo q).of⟩⟩
inductive ZM:D->η|l7 {z:ρ}{ds:δ D} (h:z ="put"\/z ="change"\/z ="take"):ZM (.tup<|.str z::ds)|num {z:ρ}{i:ν}{x:D} (h:z ="asked"\/z ="told"):ZM (.tup [.str z,.int i,x])
inductive uT (ds:δ D) (S:av) (R:KD) (Z:KX):η
 |mk (d) (_:ds=[d]) (_:ZM d) (_:R (.bl true) S)
def CJ(T:Txt w K mg t):Ok P w base T.ud 2 uT:=by show T.ud.F.bV Ca ?_;obtain⟨d,e,h,q⟩;show{_,(sc (si (twd<|twor (bU<|tv<|cb bB T.ao ai<|al 0<|ac (j9 T.bc aR) an)<|twor (bf a_ `u (cb aW T.aU aH<|al 0 an) di)<|tw1<|bU<|tv<|cb bB T.ao ai<|ac (ix `u (dv 0) di)<|ac (j9 T.iJ eG) an) (s1<|sr db) s0)<|sc (si (bf vB `u (ix `u (dv 0) di)<|bY<|ac ds<|ac ds an) (s1<|sr<|lU (cm a_ `u (cb aW T.aU aH<|al 0 an) di)<|CZ<|aI T.fX (fg T) hr<|ac (ix `u (dv 0) di) an) s0)<|s1<|sr<|cm vB `u (ix `u (dv 0) di)<|bY<|ac ds<|ac ds<|ac ds an),?_};have n2:=cF;have a:=gH;cases h with|@l7 z ds h=>(show !{_,_,_,_,rfl,aJ,rfl,_,rfl,aL !!!⟨bF (zt<|show ¬((((.str z::ds:δ D).length:π):ν)=0) by change ¬(((ds.length+1:π):ν)=0);lia) !{_,(wm rfl),_,_,_,_,rfl,bp,rfl,_,rfl,aL ?_}⟩};rcases h with rfl|rfl|rfl;show !{_,(wm rfl),n2,rfl,rfl,_,rfl,bF rfl !{_,(wm rfl),a,rfl,rfl,fo q}};show !{_,(wm rfl),n2,rfl,rfl,_,rfl,bF rfl !{_,(wm rfl),a,rfl,rfl,fo q}};show !{_,(wm rfl),n2,rfl,rfl,_,rfl,bF rfl !{_,(wm rfl),a,rfl,rfl,fo q}})|@num z i x h=>show !{_,_,_,_,rfl,aJ,rfl,_,rfl,aL !!!⟨aL !{_,(wm rfl),_,_,_,_,rfl,bp,rfl,_,rfl,aL ?_}⟩};rcases h with rfl|rfl;show !{_,(wm rfl),n2,rfl,rfl,_,rfl,oz rfl !!!⟨bX !!!{gt_int,fo q}⟩};show !{_,(wm rfl),n2,rfl,rfl,_,rfl,oz rfl !!!⟨bX !!!{gt_int,fo q}⟩}
inductive mF (t:ft) (ds:δ D) (S:av) (R:KD) (Z:KX):η
 |mk (cs q) (_:ds=[.tup<|cs.map aB,q.q]) (_:Gd cs) (_:Qn.Ok cs q) (_:R (.bl true) S)
def uU(T:Txt w K mg t):Ok P w base T.kL 9 (mF t):=by show T.kL.F.bV uh ?_;obtain⟨cs,q,e,c,hq,k⟩;show{_,(sc (si (twd<|twor (bU<|tv<|cb bB T.ao ai<|al 1<|ac (j9 T.bc aR) an)<|tw1<|bf ja `u (cb aW T.aU aH<|al 1 an) di) (s1<|sr db) s0)<|sc (si (twd<|twor (bU<|tv<|cb bB T.ao ai<|ac (ix `u (dv 1) di)<|ac (j9 T.iJ eG) an)<|tw1<|bf PK `u (ix `u (dv 1) di)<|bY<|ac ds<|ac ds an) (s1<|sr db) s0)<|sc (Qc T.nY ⟨T.gQ⟩ (s1<|se<|aI T.f_ (iy T) hr<|al 0<|ac (ix `u (dv 1) di)<|ac (ix `u (dv 1) di)<|ac (ix `u (dv 1) di)<|ac (ix `u (dv 1) di) an) λz=>(s1<|sr db))<|s1<|sr db),?_};have n2:=cF;show !{_,_,_,_,rfl,aJ,rfl,_,rfl,aL !!!⟨aL ?_⟩};have key:∀Z:KX,js [.tup<|cs.map aB,fC q.ps q.wy,q.d,.int (q.n:π),OQ q.b] S (λz S'=>Fo S'<|R<|.bl true) Z:=λZ=>{cs,q.ps,q.wy,q.d,q.n,q.b,rfl,c,hq.o,hq.s,by have:=hq.n1;show Int.ofNat_le.mpr ‹_›,by have:=hq.n2;show Int.ofNat_le.mpr ‹_›,hq.b,fo k};let⟨y,ps,wy,d,n,b⟩:=q;have a:y ="on"\/y ="back":=hq.y;rcases a with rfl|rfl;show !{_,(wm rfl),_,_,_,_,rfl,bp,rfl,_,rfl,aL !{_,(wm rfl),n2,rfl,rfl,_,rfl,bF rfl !!!!!!!!!⟨key _⟩}};show !{_,(wm rfl),_,_,_,_,rfl,bp,rfl,_,rfl,aL !{_,(wm rfl),n2,rfl,rfl,_,rfl,bF rfl !!!!!!!!!⟨key _⟩}}
def acM{P:Ψ}{w:Ω}{K:Φ}{mg:ρ->θ ξ}{base:Γ}{k:π}{f:ε}{fd:FuncData}{ps:δ ρ}{p q:jb}(F:bO P w K mg base (fz P w mg) k f fd ps<|qH K p)(G:bO P w K mg base (fz P w mg) k f fd ps<|qH K q):bO P w K mg base (fz P w mg) k f fd ps (qH K λds S R Z=>p ds S R Z\/q ds S R Z):=by show{λvs H Q E h=>?_,λA outer s H args us vs Q E hr e hb r h=>?_};obtain⟨ds,S,R,Z,a,b,c|c,d⟩:=h;show F.len vs H Q E ⟨ds,S,R,Z,a,b,c,d⟩;show G.len vs H Q E ⟨ds,S,R,Z,a,b,c,d⟩;obtain⟨ds,S,R,Z,a,b,c|c,d⟩:=h;show F.run A outer s H args us vs Q E hr e hb r ⟨ds,S,R,Z,a,b,c,d⟩;show G.run A outer s H args us vs Q E hr e hb r ⟨ds,S,R,Z,a,b,c,d⟩
def Dg(S:av):π->D->η|0,_=>False|n+1,d=>(d=.aA\/(∃i,d=.int i)\/∃z,d=.str z/\z.cps.size<=1000)\/(∃ds,d=.tup ds/\ds.length<=1000/\∀e∈ds,Dg S n e)\/∃a ds,d=.ref a/\S a=ϑ (.lst ds)/\ds.length<=1000/\∀e∈ds,Dg S n e
def Es(S:av):π->D->D->η|0,x,y=>x=y|n+1,x,y=>x=y\/(∃xs ys,x=.tup xs/\y=.tup ys/\Paired (λx y=>Es S n x y) xs ys)\/∃a b xs ys,x=.ref a/\y=.ref b/\S a=ϑ (.lst xs)/\S b=ϑ (.lst ys)/\Paired (λx y=>Es S n x y) xs ys
def Es.rf:Es S n x x:=by cases n with|zero=>show rfl|succ n=>show .inl rfl
theorem lM{α:Type}{r:α->α->η}(h:∀a,r a a):∀l:δ α,Paired r l l|[]=>.nil|a::l=>.cons (h a)<|lM h l
def Es.tup{S:av}{n:π}{xs ys:δ D}(h:Es S (n+1) (.tup xs)<|.tup ys):Paired (λx y=>Es S n x y) xs ys:=by rcases h with e|⟨_,_,e1,e2,h⟩|⟨_,_,_,_,e,_⟩;cases e;show lM (λz=>.rf) _;cases e1;cases e2;show h;cases e
def Es.lst{S:av}{n:π}{a b:ε}{xs ys:δ D}(h:Es S (n+1) (.ref a)<|.ref b)(ha:S a=ϑ (.lst xs))(hb:S b=ϑ (.lst ys)):Paired (λx y=>Es S n x y) xs ys:=by rcases h with e|⟨_,_,e1,e2,h⟩|⟨_,_,_,_,e1,e2,h1,h2,h⟩;cases e;rw[ha]at hb;cases hb;show lM (λz=>.rf) _;cases e1;cases e1;cases e2;rw[ha]at h1;rw[hb]at h2;cases h1;cases h2;show h
def Es.kd{S:av}{n:π}{x y:D}(h:Es S n x y):x=y\/(∃xs ys,x=.tup xs/\y=.tup ys)\/∃a b xs ys,x=.ref a/\y=.ref b/\S a=ϑ (.lst xs)/\S b=ϑ (.lst ys):=by cases n with|zero=>show .inl h|succ n=>rcases h with e|⟨_,_,e1,e2,_⟩|⟨_,_,_,_,e1,e2,h1,h2,_⟩;show .inl e;show .inr<|.inl {_,_,e1,e2};show .inr<|.inr {_,_,_,_,e1,e2,h1,h2}
def Dg.gt{S:av}{n:π}{d:D}(h:Dg S n d):Gt S d:=by cases n with|zero=>show h.elim|succ n=>rcases h with (rfl|⟨i,rfl⟩|⟨z,rfl,c⟩)|⟨ds,rfl,_⟩|⟨a,ds,rfl,e,_⟩;show ux;show gt_int;show AS c;show LS;show TR e
def Dg.lst{S:av}{n:π}{d:D}{k:Kd}(h:Dg S n d)(c:UQ S d k):(∃a ds,d=.ref a/\S a=ϑ (.lst ds)/\xE k=ϱ)\/(xE k=ϰ/\∀a,d≠.ref a):=by cases n with|zero=>show h.elim|succ n=>rcases h with (rfl|⟨i,rfl⟩|⟨z,rfl,g⟩)|⟨ds,rfl,_⟩|⟨a,ds,rfl,e,_⟩;cases c;show .inr {rfl,λx=>nofun};cases c;show .inr {rfl,λx=>nofun};cases c;show .inr {rfl,λx=>nofun};cases c;show .inr {rfl,λx=>nofun};rcases c with⟨rfl,_⟩|⟨_,_,e2⟩;show .inl ⟨a,ds,rfl,e,rfl⟩;rw[e]at e2;cases e2
def Dg.tup{S:av}{n:π}{ds:δ D}(h:Dg S (n+1)<|.tup ds):ds.length<=1000/\∀e∈ds,Dg S n e:=by rcases h with (e|⟨i,e⟩|⟨z,e,_⟩)|⟨ds,e,h⟩|⟨a,ds,e,_⟩;cases e;cases e;cases e;cases e;show h;cases e
def Dg.ref{S:av}{n:π}{a:ε}{ds:δ D}(h:Dg S (n+1)<|.ref a)(ha:S a=ϑ (.lst ds)):ds.length<=1000/\∀e∈ds,Dg S n e:=by rcases h with (e|⟨i,e⟩|⟨z,e,_⟩)|⟨ds,e,h⟩|⟨a,ds,e,e2,h⟩;cases e;cases e;cases e;cases e;cases e;rw[ha]at e2;cases e2;show h
def Dg.val{S:av}{n:π}{d:D}(h:Dg S n d)(h1:∀ds,d≠.tup ds)(h2:∀a,d≠.ref a):d=.aA\/(∃i,d=.int i)\/∃z,d=.str z:=by cases n with|zero=>show h.elim|succ n=>rcases h with (e|e|⟨z,e,_⟩)|⟨ds,e,_⟩|⟨a,ds,e,_⟩;show .inl e;show .inr<|.inl e;show .inr<|.inr ⟨z,e⟩;show absurd e<|h1 _;show absurd e<|h2 _
theorem Fn:∀{xs ys:δ D},Paired (λd v=>∃x y b,d=D.tup [x,y]/\v=D.bl b/\(Es S n x y->b=ϱ)) (aZ xs ys) bs->xs.length=ys.length->∃cs:δ χ,bs=cs.map D.bl/\(Paired (λx y=>Es S n x y) xs ys->cs.all id=ϱ)|[],_,.nil,_=>{[],rfl,λz=>rfl}|x::xs,y::ys,.cons ⟨x',y',b,e,e2,h⟩ t,hl=>by let⟨cs,ec,hc⟩:=Fn t (by simpa using hl);injection e with e;injection e with e1 e;injection e with e3 _;subst e1;subst e3;subst e2;show{b::cs,by rw[ec];rfl,λhp=>?_};cases hp with|cons a c=>rw[List.all_cons,hc c,h a];rfl
inductive Ma (n:π) (ds:δ D) (S:av) (R:KD) (Z:KX):η
 |mk (x y) (_:ds=[x,y]) (_:Dg S n x) (_:Dg S n y) (_:∀b,(Es S n x y->b=ϱ)->R (.bl b) S)
inductive QB (n:π) (ds:δ D) (S:av) (R:KD) (Z:KX):η
 |mk (xs ys) (_:ds=[.tup xs,.tup ys]) (l1:xs.length<=1000) (l2:ys.length<=1000) (_:∀e∈xs,Dg S n e) (_:∀e∈ys,Dg S n e) (_:∀b,(Paired (λx y=>Es S n x y) xs ys->b=ϱ)->R (.bl b) S)
inductive QC (n:π) (ds:δ D) (S:av) (R:KD) (Z:KX):η
 |mk (a b xs ys) (_:ds=[.ref a,.ref b]) (ha:S a=ϑ (.lst xs)) (hb:S b=ϑ (.lst ys)) (l1:xs.length<=1000) (l2:ys.length<=1000) (_:∀e∈xs,Dg S n e) (_:∀e∈ys,Dg S n e) (_:∀b,(Paired (λx y=>Es S n x y) xs ys->b=ϱ)->R (.bl b) S)
def T9(T:Txt w K mg t){n:π}(l:Ok P w base T.fK (3+2*n)<|Ma n):Ok P w base T.gb (3+2*n+1) (QB n):=by
 show T.gb.F.bV qS ?_;obtain⟨xs,ys,e,l1,l2,hx,g,k⟩;show{_,(sc (si (bf ja `u (cb aW T.aU aH<|al 0 an)<|cb aW T.aU aH<|al 1 an) (s1<|sr db) s0)<|s1<|sr<|cb jA T.jD fw<|ac (vE (N:=["thing","right"]) (src:=[none,none]) (mf (ag tU) ["things","rights"] rfl rfl<|`c) (Zv T.wO<|al 0<|al 1 an) (UU<|show(["thing","right"]:δ ρ).Nodup by trivial) (lA rfl rfl) lC (λz z z z z=>u9) λz z z z z=>(aI T.fK l hr<|al 0<|al 1 an)) an),?_};show !!!!!⟨bH (λh=>?_) λh=>?_⟩;show fo<|k false λhp=>?_;have:=yJ hp;have h:(!decide (((xs.length:π):ν)=((ys.length:π):ν)))=ϱ:=h;rw[zu<|congrArg _ ‹_›]at h;cases h;have h:(!decide (((xs.length:π):ν)=((ys.length:π):ν)))=ϰ:=h;have hl:xs.length=ys.length:=by rw[Bool.not_eq_false']at h;have:=zy h;show Int.natCast_inj.mp ‹_›
 show !!{xs,ys,rfl,hl,?_};show fe (λd v=>∃x y b,d=D.tup [x,y]/\v=D.bl b/\(Es S n x y->b=ϱ)) trivial (by change(aZ xs ys).length<=1000;unfold aZ;rw[List.length_zipWith];lia) (λd hd Q a=>?_) λout c p hp=>?_;let⟨i,j⟩:=yt hd;let⟨x,y,e1,e2,rfl⟩:=yg.mp j;show !{rfl,_,_,rfl,_,_,rfl,rfl,_,rfl,_,rfl,x,y,rfl,hx x<|zK e1,g y<|zK e2,λb hb=>a _ {_,_,_,rfl,rfl,hb}};let⟨bs,rfl,hb⟩:=Fn c hl;show{.ref p,bs,rfl,ae,S,.new hp,k _ hb}
def T_(T:Txt w K mg t){n:π}(j:Ok P w base T.fK (3+2*n)<|Ma n):Ok P w base T.gb (3+2*n+1) (QC n):=by
 show T.gb.F.bV qS ?_;obtain⟨a,b,xs,ys,e,ha,hb,l1,l2,hx,m,k⟩;show{_,(sc (si (bf ja `u (cb aW T.aU aH<|al 0 an)<|cb aW T.aU aH<|al 1 an) (s1<|sr db) s0)<|s1<|sr<|cb jA T.jD fw<|ac (vE (N:=["thing","right"]) (src:=[none,none]) (mf (ag tU) ["things","rights"] rfl rfl<|`c) (izm T.wO<|al 0<|al 1 an) (UU<|show(["thing","right"]:δ ρ).Nodup by trivial) (lA rfl rfl) lC (λz z z z z=>u9) λz z z z z=>(aI T.fK j hr<|al 0<|al 1 an)) an),?_};show !!⟨.inl {_,ha,_,rfl,_,rfl,.inl {_,hb,_,rfl,bH (λh=>?_) λh=>?_}}⟩;show fo<|k false λhp=>?_;have:=yJ hp;have h:(!decide (((xs.length:π):ν)=((ys.length:π):ν)))=ϱ:=h;rw[zu<|`b]at h;cases h;have h:(!decide (((xs.length:π):ν)=((ys.length:π):ν)))=ϰ:=h;have hl:xs.length=ys.length:=by rw[Bool.not_eq_false']at h;have:=zy h;lia
 show !!{a,xs,b,ys,rfl,ha,hb,hl,?_};show fe (λd v=>∃x y b,d=D.tup [x,y]/\v=D.bl b/\(Es S n x y->b=ϱ)) ⟨ha,hb⟩ (by change(aZ xs ys).length<=1000;unfold aZ;rw[List.length_zipWith];lia) (λd hd Q c=>?_) λout g p hp=>?_;let⟨i,l⟩:=yt hd;let⟨x,y,e1,e2,rfl⟩:=yg.mp l;show !{rfl,_,_,rfl,_,_,rfl,rfl,_,rfl,_,rfl,x,y,rfl,hx x<|zK e1,m y<|zK e2,λb hb=>c _ {_,_,_,rfl,rfl,hb}};let⟨bs,rfl,hb⟩:=Fn g hl;show{.ref p,bs,rfl,ae,S,.new hp,k _ hb}
theorem jt(T:Txt w K mg t):∀n,Ok P w base T.fK (3+2*n) (Ma n)
 |0=>by show T.fK.F.bV (k:=2) uk ?_;rintro _ _ _ _ _ _ _ S R Z hr ⟨x,y,e,hx,_⟩;show hx.elim
 |n+1=>by
  have H:Ok P w base T.gb (3+2*n+1) _:=acM (T9 T<|jt T n)<|T_ T<|jt T n;show T.fK.F.bV (k:=3+2*n+1) uk ?_;obtain⟨x,y,e,hx,g,k⟩;show{_,(sc (si (tv<|cb bB T.ao ai<|al 1<|ac (j9 T.bc aR) an) (s1<|sr<|lU (cb bB T.ao ai<|al 0<|ac (j9 T.bc aR) an)<|CZ<|aI T.gb H hr<|al 0<|al 1 an) s0)<|sc (si (tv<|cb bB T.ao ai<|al 1<|ac (j9 T.t5 nI) an) (s1<|sr<|lU (cb bB T.ao ai<|al 0<|ac (j9 T.t5 nI) an)<|CZ<|aI T.gb H hr<|al 0<|al 1 an) s0)<|sc (si (tv<|cb bB T.ao ai<|al 1<|ac (j9 T.iJ eG) an) (s1<|sr<|lU (cb bB T.ao ai<|al 0<|ac (j9 T.iJ eG) an)<|CZ<|cm a_ `u (dv 0)<|dv 1) s0)<|sc (si (bf i9 `u (dv 1) dn) (s1<|sr<|cm i9 `u (dv 0) dn) s0)<|s1<|sr<|lU (aI T.fX (fg T) hr<|al 0 an)<|CZ<|cm a_ `u (dv 0)<|dv 1),?_};have B:=hx.gt;let⟨J,d⟩:=B.1;let⟨ky,c⟩:=g.gt.1;show !{_,_,_,_,rfl,aJ,c,_,rfl,?_};rcases EM c with⟨ys,rfl,h0⟩|⟨h0,A⟩;rw[h0];show bX !{_,_,_,_,rfl,aJ,d,_,rfl,?_};rcases EM d with⟨xs,rfl,g0⟩|⟨g0,G⟩;rw[g0];let⟨o,v⟩:=hx.tup;let⟨ly,m⟩:=g.tup;show bX !!⟨.inl {xs,ys,rfl,o,ly,v,m,λb hb=>fo<|k b λe=>hb e.tup}⟩;rw[g0];show aL<|fo<|k false λe=>?_;rcases e.kd with e|⟨_,_,e,_⟩|⟨_,_,_,_,_,e,_⟩;show absurd e<|G _;show absurd e<|G _;cases e;rw[h0];show aL !{_,_,_,_,rfl,ql,c,_,rfl,?_};rcases g.lst c with⟨b,ys,rfl,p,l⟩|⟨l,C⟩;rw[l];show bX !{_,_,_,_,rfl,ql,d,_,rfl,?_};rcases hx.lst d with⟨a,xs,rfl,h,r⟩|⟨r,E⟩;rw[r];let⟨o,v⟩:=hx.ref h;let⟨ly,m⟩:=g.ref p;show bX !!⟨.inr {a,b,xs,ys,rfl,h,p,o,ly,v,m,λb hb=>fo<|k b λe=>hb<|e.lst h p}⟩;rw[r];show aL<|fo<|k false λe=>?_;rcases e.kd with e|⟨_,_,_,e⟩|⟨_,_,_,_,e,_⟩;show absurd e<|E _;cases e;show absurd e<|E _;rw[l];have same:Es S (n+1) x y->x=y:=λe=>by rcases e.kd with e|⟨_,_,_,e⟩|⟨_,_,_,_,_,e,_⟩;show e;show absurd e<|A _;show absurd e<|C _
  show aL !{_,_,_,_,rfl,bp,c,_,rfl,?_};rcases g.val A C with rfl|⟨i,rfl⟩|⟨z,rfl⟩;cases c;show aL !!⟨bX !⟨?_⟩⟩;show fo (k (ak x) λe=>by rw[same e];rfl);cases c;show aL !!⟨aL !!{B,_,rfl,?_}⟩;cases x with|int j=>show bX (!!⟨fo<|k (ω<|j=i) λe=>zu<|D.int.inj<|same e⟩)|_=>show aL<|fo<|k false λe=>nomatch same e
  cases c;show bX !{_,_,_,_,rfl,bp,d,_,rfl,?_};rcases Az d with⟨u,rfl,s⟩|⟨s,I⟩;rw[s];show bX !!⟨fo<|k (ω<|u=z) λe=>zu<|D.str.inj<|same e⟩;rw[s];show aL<|fo<|k false λe=>?_;have:=I λq=>true;rw[same e]at this;show this.symm
structure fm(cs:δ (ρ×ρ))(q:Qn)(kn:Kn)(A:δ Row):η where
 an:An cs q.ps q.wy A
 mem:∀r,r∈A↔gB kn r.1=ϑ r.2/\bW cs r 7 q.d=ϱ
theorem Mb{l:δ Row}(h:(l.map Prod.fst).Nodup):l.Nodup:=(List.pairwise_map.mp h).imp λn e=>n<|by rw[e]
theorem fm.one{cs:δ<|ρ×ρ}{q:Qn}{kn:Kn}{A B:δ Row}(c:Gd cs)(a:Qn.Ok cs q)(h:fm cs q kn A)(h':fm cs q kn B):A=B:=OE c a.o.pin h'.an.rg h.an.pw h'.an.pw<|(List.perm_ext_iff_of_nodup (Mb h.an.rg.2)<|Mb h'.an.rg.2).mpr λr=>(h.mem r).trans (h'.mem r).symm
def fm.len(h:fm cs q kn A):A.length<=50:=by
 have:=sub_len h.an.rg.2 (m:=KS) λx hx=>by let⟨r,hr,rfl⟩:=zf.mp hx;show h.an.ky r hr
 rw[zc]at this;show this
def xk(hp:ss.Perm (kn.map (·.1))):r∈dZ kn ss↔gB kn r.1=ϑ r.2:=by unfold dZ;constructor;intro h;let⟨z,a,rfl⟩:=zf.mp h;let⟨ws,c⟩:=k9<|hp.mem_iff.mp a;change gB kn z=ϑ ((gB kn z).getD []);rw[c];rfl;intro h;show zf.mpr {r.1,hp.mem_iff.mpr<|zf.mpr {_,jr h,rfl},?_};rw[h];rfl
theorem fm.of(hp:ss.Perm (kn.map (·.1)))(h:Ans cs q.ps q.wy 7 q.d (dZ kn ss) A):fm cs q kn A:={h.an,λr=>by rw[h.pm.mem_iff,yk,xk hp]}
noncomputable def dG(z:ρ)(A:δ Row):δ Row:=A.filter λr=>!decide (r.1=z)
def sP:r∈dG z A↔r∈A/\r.1≠z:=by unfold dG;rw[yk,Bool.not_eq_true',decide_eq_false_iff_not]
theorem AZ(h:An cs ps wy A)(z:ρ):An cs ps wy (dG z A):={h.rg.sub yx,λr hr=>h.ky r (yk.mp hr).1,h.pw.sublist yx}
section
variable{cs:δ (ρ×ρ)}{q:Qn}{kn:Kn}{A:δ Row}{z:ρ}{ws:δ D}
def fm.tk(h:fm cs q kn A):fm cs q (uC kn z) (dG z A):=by show{AZ h.an z,λr=>?_};rw[sP,h.mem,Gx];by_cases e:r.1=z;rw[qc e];show{by rintro⟨_,n⟩;show absurd e n,by rintro⟨n,_⟩;show nomatch n};rw[qa e];show{by rintro⟨a,_⟩;show a,λa=>⟨a,e⟩}
def fm.no(h:fm cs q kn A)(np:bW cs (z,ws) 7 q.d=ϰ):fm cs q (m7 kn z ws) (dG z A):=by show{AZ h.an z,λr=>?_};rw[sP,h.mem,AH];by_cases e:r.1=z;rw[qc e];show{by rintro⟨_,n⟩;show absurd e n,λc=>?_};let⟨e2,p⟩:=c;have:r=(z,ws):=Prod.ext e (zQ e2).symm;rw[this,np]at p;cases p;rw[qa e];show{by rintro⟨a,_⟩;show a,λa=>⟨a,e⟩}
def Ua(a:Gd cs)(hp:Pin cs ps)(hr:Wg cs r.2)(hx:Wg cs x.2)(d:r.1∈KS)(c:x.1∈KS)(n:r.1≠x.1):gP cs ps wy (OV cs ps "ahead" x) r=bM cs wy ps r x:=by have h:=AV a (wy:=wy) hr hx d c n hp;change(ω (fj (C_ ps wy) (MD cs ps r) (MD cs ps x)<0)||(_&&ω (("ahead": ρ) ="behind")))=_;rw[show ω (("ahead": ρ) ="behind")=ϰ by trivial,Bool.and_false,Bool.or_false];cases e:bM cs wy ps r x with|true=>show zu (h.mp e)|false=>show zt λl=>by rw[h.mpr l]at e;cases e
def fm.pt(g:Gd cs)(c:Qn.Ok cs q)(h:fm cs q kn A)(hz:z∈KS)(hw:Wg cs ws)(hp:bW cs (z,ws) 7 q.d=ϱ): fm cs q (m7 kn z ws) ((dG z A).take ((dG z A).countP<|gP cs q.ps q.wy<|OV cs q.ps "ahead" (z,ws))++[(z,ws)]++(dG z A).drop ((dG z A).countP<|gP cs q.ps q.wy<|OV cs q.ps "ahead" (z,ws))):=by
 have ha:=AZ h.an z;have hn:∀r∈dG z A,r.1≠z:=λr hr=>(sP.mp hr).2;have j:(dG z A).countP (gP cs q.ps q.wy<|OV cs q.ps "ahead" (z,ws))=((dG z A).filter λy=>bM cs q.wy q.ps y (z,ws)).length:=by rw[List.countP_eq_length_filter];show congrArg List.length<|List.filter_congr λr hr=>Ua g c.o.pin (ha.rg.1 r hr) hw (ha.ky r hr) hz<|hn r hr
 have rg:Rg cs ((z,ws)::dG z A):=by show{λr hr=>?_,?_};rcases ze.mp hr with rfl|hr;show hw;show ha.rg.1 r hr;rw[zD];show yc.mpr {λm=>?_,ha.rg.2};let⟨r,hr,e⟩:=zf.mp m;show hn r hr e
 have l:=Cu g c.o.pin rg ha.pw;have i:=LI (z,ws) (dG z A) ((dG z A).filter λy=>bM cs q.wy q.ps y (z,ws)).length;rw[j,List.append_assoc,List.singleton_append];have pm:=i.trans<|List.perm_append_comm.trans<|.refl<|(z,ws)::dG z A;show{{rg.perm pm,λr hr=>?_,l},λr=>?_};rcases ze.mp (pm.mem_iff.mp hr) with rfl|hr;show hz;show ha.ky r hr;rw[pm.mem_iff,ze,sP,h.mem,AH];by_cases e:r.1=z;rw[qc e];constructor;rintro (rfl|⟨_,n⟩);show⟨rfl,hp⟩;show absurd e n;rintro⟨e2,_⟩;show .inl<|Prod.ext e (zQ e2).symm;rw[qa e];constructor;rintro (rfl|⟨a,_⟩);show absurd rfl e;show a;show λa=>.inr ⟨a,e⟩
end
theorem nw3:¬(HT.sIx [x,y,z].length 0 (some 1)=0/\HT.sIx [x,y,z].length [x,y,z].length none=[x,y,z].length):=λh=>absurd h.1<|by change ¬(HT.sIx 3 0 (some 1)=0);decide
def Fp{A:δ Row}{c:π} : eB (A.map au) none (some ((c:π):ν))=(A.take c).map au:=by unfold eB;rw[HT.sIx_nat,zc];change(((A.map au).drop 0).take<|min c A.length-0)=_;rw[List.drop_zero,Nat.sub_zero,<-List.map_take,<-List.take_eq_take_min]
def Mc{A:δ Row}{c:π}(h:c<=A.length):eB (A.map au) (some ((c:π):ν)) none=(A.drop c).map au:=by unfold eB;rw[HT.sIx_nat,zc,Nat.min_eq_left h];change(((A.map au).drop c).take<|A.length-c)=_;rw[List.take_of_length_le<|by rw[yP,zc];show zm _,List.map_drop]
def at1(h:ws=x::y::ys):vi ws 1=ϑ y:=by subst h;unfold vi IU;rw[qc<|`a,qc<|by change(1:ν)<((ys.length+2:π):ν);lia];rfl
noncomputable def QE(z:ρ):D->χ|.tup (.str k::_)=>!decide (k=z)|_=>false
def Md(z:ρ)(A:δ Row):((A.map au).filter<|QE z).map (λd=>d)=(dG z A).map au:=by rw[List.map_id',List.filter_map];rfl
inductive jN (ds:δ D) (S:av) (R:KD) (Z:KX):η
 |mk (cs:δ<|ρ×ρ) (q:Qn) (l:ε) (A:δ Row) (kn dD:Kn) (d:D) (_:ds=[.tup<|cs.map aB,q.q,.ref l,d]) (_:Gd cs) (_:Qn.Ok cs q) (_:S l=ϑ (.lst<|A.map au)) (_:fm cs q kn A) (_:GD KS cs kn d) (_:TK kn d dD) (_:∀A' p S',fm cs q dD A'->Sub S S'->S' p=ϑ (.lst<|A'.map au)->R (.ref p) S')
def qr(T:Txt w K mg t):Ok P w base T.ig 11 jN:=by
 show T.ig.F.bV df ?_;obtain⟨cs,q,l,A,kn,dD,d,e,m,hq,hl,hA,hd,E,k⟩;show{_,(sc (Sz (i:=4) (N:=["row","deed"]) (src:=[none,some 3]) df.nd (mf (ag rN) ["columns","question","answer","deed","others","gap","begin"] rfl rfl<|`c) (il<|dv 2) (u_<|show(["row","deed"]:δ ρ).Nodup by trivial) (bj rfl) bq (λf f f f f=>(if1<|bf ja `u (ix `u (dv 0) di)<|ix `u (dv 1) di)) λf f f f f=>(dv 0))<|sc (si (twd<|twor (bf a_ `u (ix `u (dv 3) di) ds)<|tw1<|bU<|tv<|aI T.passes (iW T 7) hr<|al 0<|ac (ix `u (dv 1) di)<|ac (sl (dv 3) (o1 di) o0) an) (s1<|sr<|dv 4) s0)<|sc (cM (i:=5) df.nd<|bY<|ac (aI T.n6 (rA T) hr<|al 0<|ac (ix `u (dv 1) di)<|ac (sl (dv 3) (o1 di) o0) an)<|ac ds an)<|sc (cM (i:=6) df.nd<|aI T.fb (gz T) hr<|al 0<|ac (ix `u (dv 1) di)<|al 4<|al 5 an)<|s1<|sr<|bo nJ `u (bo nJ `u (sl (dv 4) o0<|o1<|dv 6)<|cP<|ac (sl (dv 3) (o1 di) o0) an)<|sl (dv 4) (o1<|dv 6) o0),?_};have g:=hA.len;have off:∀{n z:ρ}{more:δ D},d=.tup (.str n::.str z::more)->∀{R':KD},(∀p,S p=ϐ->R' (.ref p) (S.set p<|.lst<|(dG z A).map au))->BB [some<|.tup<|cs.map aB,some q.q,some<|.ref l,some d,none,none,none] [none,some 3] (WZ 0) (dB<|J3 (J6 true) (J3 Y0 (J2 0)<|dC<|.int 0)<|J3 Y0 (J2 1)<|dC<|.int 1) (J2 0) R' {A.map au,λS=>nh S (.ref l)<|A.map au} S:=by rintro n z more rfl R' L;show fO (QE z) (λd=>d) hl (by change(A.map au).length<=1000;rw[zc];show zj ‹_› `a) (λd hd Q Z J M=>?_) λp hp=>?_;let⟨r,hr,rfl⟩:=zf.mp hd;show !!!{_,at1 rfl,_,rfl,bH (λh=>!⟨J h⟩) λh=>M h};rw[show({A.map au,λS=>nh S (.ref l)<|A.map au}:HL).xs=A.map au from rfl,Md];show L p hp
 have n2:=cF;have two:(∃n z ws,n≠("take": ρ)/\z∈KS/\Wg cs ws/\d=.tup [.str n,.str z,.tup ws]/\dD=m7 kn z ws)\/∃z,d=.tup [.str "take",.str z]/\dD=uC kn z:=by rcases hd with⟨z,ws,a,hw,hn,rfl⟩|⟨z,ws,a,hw,hn,rfl⟩|⟨z,a,hn,rfl⟩;show .inl {_,z,ws,`a,a,hw,rfl,by rcases E with⟨n,y,vs,_,e1,e2⟩|⟨y,_,e1,_⟩<;>cases e1;show e2};show .inl {_,z,ws,`a,a,hw,rfl,by rcases E with⟨n,y,vs,_,e1,e2⟩|⟨y,_,e1,_⟩<;>cases e1;show e2};show .inr {z,rfl,by rcases E with⟨n,y,vs,_,e1,e2⟩|⟨y,_,e1,e2⟩<;>cases e1;show e2}
 rcases two with⟨n,z,ws,nt,a,hw,rfl,rfl⟩|⟨z,rfl,rfl⟩;show !{_,hl,off rfl λp hp=>?_};have j:(S.set p<|.lst<|(dG z A).map au) p=ϑ (.lst<|(dG z A).map au):=ae;have B:Sub S (S.set p<|.lst<|(dG z A).map au):=.new hp;generalize S.set p (.lst<|(dG z A).map au)=X at B j⊢;have x:=AZ hA.an z;have R:(dG z A).length<=50:=zj (List.length_filter_le _ _) g;show !!!⟨bH (λh=>absurd (zy h) nt) λf=>?_⟩;show !!!!!{nw3,cs,q.d,(z,ws),rfl,m,hq.s.1,hw,_,rfl,?_};cases hp:bW cs (z,ws) 7 q.d with|false=>show bX {_,rfl,fo<|k _ p _ (hA.no hp) B j}|true=>show aL ?_;show !!!!!{nw3,cs,q.ps,q.wy,(z,ws),rfl,m,hq.o.pin,hq.o.len,hw,n2,?_};show !!!!!{cs,q.ps,q.wy,dG z A,p,OV cs q.ps "ahead" (z,ws),rfl,m,hq.o.pin,hq.o.len,j,x,L_ m hq.o.pin hw a<|`c,?_};have v:(dG z A).countP (gP cs q.ps q.wy<|OV cs q.ps "ahead" (z,ws))<=(dG z A).length:=List.countP_le_length;have hN:=hA.pt m hq a hw hp;generalize (dG z A).countP (gP cs q.ps q.wy<|OV cs q.ps "ahead" (z,ws))=c at v hN⊢;show !!!{_,j,λp1 I=>!!{nw3,pX,λp2 C=>{_,_,(Sub.new C) _ _ ae,ae,?_,λp3 H=>!!!{_,(Sub.new H) _ _<|(Sub.new C) _ _<|(Sub.new I) _ _ j,λY G=>{_,_,(Sub.new G) _ _ ae,ae,?_,λO U=>fo<|k _ O _ hN (B.trans<|((((Sub.new I).trans<|.new C).trans<|.new H).trans<|.new G).trans<|.new U) ?_}}}}};rw[Fp,zc,yd];show sm (by change min c (dG z A).length+1<=1000;lia);rw[Fp,Mc v,zk,zc,zc,yd,yP];show sm (by change min c (dG z A).length+1+((dG z A).length-c)<=1000;lia);rw[Fp,Mc v,ae,zH,zH];rfl
 show !{_,hl,off rfl λp hp=>?_};show !!!⟨oz rfl<|bX !⟨fo<|k _ p _ hA.tk (.new hp) ae⟩⟩
def Fq(l:δ ρ):∃s:δ ρ,s.Perm l/\PyProof.Rows.sortedS s=ϱ:=by show{l.mergeSort λa b=>ω<|a.cps.toList<=b.cps.toList,List.mergeSort_perm _ _,PyProof.Rows.sortedS_of_pairwise _ ?_};show(List.pairwise_mergeSort (λa b c h1 h2=>?_) (λa b=>?_) l).imp λh=>?_;show zu<|List.le_trans (zy h1)<|zy h2;rw[yW,yb,yb];show List.le_total _ _;rw[PyProof.Rows.ltCps_eq];show zt<|List.not_lt.mpr<|zy h
def Yk(h:Vg k v):Dg S (n+1) v:=by have h:=h.2;cases v with|aA=>show .inl (.inl rfl)|int i=>show .inl (.inr<|.inl ⟨i,rfl⟩)|str z=>unfold dU at h;simp only[zN,yr]at h;show .inl (.inr<|.inr {z,rfl,`b})|_=>cases h
def Ub(l:Gd cs)(g:r.1∈KS)(hw:Wg cs r.2):Dg S 3 (au r):=by show .inr<|.inl !{(show 2<=1000 by decide),λe a=>?_};simp only[ze,zA,or_false]at a;rcases a with rfl|rfl;show .inl<|.inr<|.inr !⟨by have:=(gu _ g).2.1;show zj ‹_› `a⟩;show .inr<|.inl !{?_,λv d=>?_};have:=(yJ hw).symm;have:=l.1;lia;let⟨i,h⟩:=yt d;let⟨c,_,j⟩:=fk hw h;show Yk j
theorem GU(h:x∈seg A b e):x∈A:=List.mem_of_mem_drop<|List.mem_of_mem_take h
def Uc:(seg A b e).length<=A.length:=by unfold seg;rw[yd,yP];lia
def QF{cs:δ<|ρ×ρ}{q:Qn}{A:δ Row}{p:ε}{S:av}(c:Gd cs)(hA:An cs q.ps q.wy A)(hl:A.length<=50)(hp:S p=ϑ (.lst<|(q.rows cs A).map au)):Dg S 5 (q.pg cs A p):=by show .inr<|.inl !{(show 3<=1000 by decide),λe a=>?_};simp only[ze,zA,or_false]at a;rcases a with rfl|rfl|rfl;show .inr<|.inr {p,_,rfl,hp,?_,λd hd=>?_};rw[zc];have:(q.rows cs A).length<=A.length:=Uc;lia;let⟨r,hr,rfl⟩:=zf.mp hd;have hr:=GU hr;show Ub c (hA.ky r hr)<|hA.rg.1 r hr;show .inl<|.inr<|.inl {_,rfl};show .inl<|.inr<|.inl {_,rfl}
theorem Yl{cs:δ<|ρ×ρ}{q:Qn}{A:δ Row}{p a:ε}{S:av}(hp:S p=ϑ (.lst<|(q.rows cs A).map au))(c:S a=ϑ (.lst<|(q.rows cs A).map au)):Es S 5 (q.pg cs A p) (q.pg cs A a):=.inr<|.inl {_,_,rfl,rfl,.cons (.inr<|.inr {p,a,_,_,rfl,rfl,hp,c,lM (λz=>.rf) _})<|.cons .rf<|.cons .rf .nil}
def Ud(h:c<=l.length):eB l (some ((c:π):ν)) none=l.drop c:=by unfold eB;rw[HT.sIx_nat,Nat.min_eq_left h];change((l.drop c).take<|l.length-c)=_;rw[List.take_of_length_le<|by rw[yP];show zm _]
structure IK(cs:δ (ρ×ρ))(rs:jl)(dl:δ D)(kl:δ Kn):η where
 len:kl.length=dl.length+1
 at_:∀(m:π)(kn:Kn),kl[m]?=some kn->KI cs kn/\∀z,wt ((lu rs z).getD []) m=AU kn z
 dd:∀(m:π)(d:D),dl[m]?=some d->∃kn dD:Kn,kl[m]?=some kn/\kl[m+1]?=some dD/\GD KS cs kn d/\TK kn d dD
def IK.vw(h:IK cs rs dl kl)(g:cA C S a F cs dl rs)(n:RI rs dl.length Jd)(e:kl[m]?=some kn)(hp:ss.Perm (kn.map (·.1)))(j:PyProof.Rows.sortedS ss=ϱ): Vw C S a cs (.int (m:π)) (dZ kn ss)/\Vk (dZ kn ss):=by
 let⟨l,hw⟩:=h.at_ m kn e;have hm:m<dl.length+1:=by rw[<-h.len];show(zh.mp e).1
 have d:Snap rs cs m (dZ kn ss):=⟨kn,ss,rfl,l,hp,j,hw⟩;have o:=n.len g;have c:vQ dl.length (.int (m:π))=ϑ ((m:π):ν):=by change(if 0<=((m:π):ν)/\((m:π):ν)<=((dl.length:π):ν) then some ((m:π):ν) else none)=_;rw[qc<|`b]
 have:=d.rg;show{{{F,dl,rs,g,`b,(λe=>by rw[c]at e;cases e),λi ss hi hp j=>by rw[c]at hi;cases hi;show IH d g hp j},gt_int,`b,this.1},d.key}
inductive uW (t:ft) (ds:δ D) (S:av) (R:KD) (Z:KX):η
 |mk (a:ε) (F:δ ε) (cs:δ<|ρ×ρ) (dl:δ D) (rs:jl) (Jd:Kn) (kl:δ Kn) (q:Qn) (b m:π) (kn:Kn) (A:δ Row) (pl:ε) (_:ds=[.ref a,.int (b:π),q.q,q.pg cs A pl])
  (_:cA t.aw S a F cs dl rs) (_:RI rs dl.length Jd) (_:IK cs rs dl kl) (_:Gd cs) (_:Qn.Ok cs q) (_:Tb t S) (_:b<=m) (_:kl[m]?=some kn) (_:fm cs q kn A) (hp:S pl=ϑ (.lst<|(q.rows cs A).map au)) (hl:dl.length<=200) (k:R (.bl true) S):uW t ds S R Z
def CK(T:Txt w K mg t)(B:Bm mg base):Ok P w base T.ue 14 (uW t):=by
 show T.ue.F.bV fc ?_;obtain⟨a,F,cs,dl,rs,Jd,kl,q,b,m,kn,A,pl,e,X,hR,hH,C,hq,tb,Zk,em,hA,d_,Nv,k⟩;show{_,(sc (cM (i:=4) fc.nd<|lW (dv 0) T.aj T.aN (bD T) hr)<|sc (cM (i:=5) fc.nd<|aI T.cU (dY T B) hr<|al 0<|ac (ix `u (dv 2) di)<|ac (ix `u (dv 2) di)<|al 1 an)<|sc (si (tv<|aI T.fK (jt T 5) hr<|al 3<|ac (aI T.sJ (uS T) hr<|al 4<|al 2<|al 5 an) an) (s1<|sr db) s0)<|sc (C4<|I_ (il<|sll (lW (dv 0) T.aj T.ij (Fl T) hr) (o1<|dv 1) o0) (gn (i:=6) fc.nd)<|sc (cM (i:=5) fc.nd<|aI T.ig (qr T) hr<|al 4<|al 2<|al 5<|al 6 an)<|s1<|si (tv<|aI T.fK (jt T 5) hr<|al 3<|ac (aI T.sJ (uS T) hr<|al 4<|al 2<|al 5 an) an) (s1<|sr db) s0)<|s1<|sr db),?_};let⟨ld,lr,ra,h,_⟩:=id X;have Vh:m<kl.length:=(zh.mp em).1;have a1:=hH.len;have Q:=zg (show b<kl.length by show zR ‹_› ‹_›);generalize kl[b]=y at Q;let⟨ss,hp,hs⟩:=Fq (y.map (·.1));let⟨vw,ky⟩:=hH.vw X hR Q hp hs;show !{a,_,rfl,h.ins,rfl,a,F,cs,dl,rs,rfl,X,?_};show !!!!!!{a,cs,q.ps,q.wy,q.d,_,_,rfl,C,hq.o,hq.s,vw,tb,λE l pm pw hl=>?_};have I:fm cs q y E:=.of hp<|Fi vw.rg ky pm pw;have s1:Sub S (S.set l<|.lst<|E.map au):=.new hl;have Z:(S.set l<|.lst<|E.map au) l=ϑ (.lst<|E.map au):=ae;generalize S.set l (.lst<|E.map au)=S1 at s1 Z⊢;have mA:=fm.len hA;have ask:∀{z:av}{n:δ Row}{l1:ε}{r:Kn}{j:π},Sub S z->kl[j]?=some r->fm cs q r n->z l1=ϑ (.lst<|n.map au)->∀{R':KD}{Z':KX},(∀(g:χ)(L:av),Sub z L->(g=ϰ->m≠j)->R' (.bl g) L)->qo [.tup<|cs.map aB,q.q,.ref l1] z (λd L=>Ma 5 [q.pg cs A pl,d] L R' Z') Z':=λsb ej v h1 R' Z' Jc=>by show{cs,q,_,_,rfl,C,hq,h1,v.an,λp hp=>{_,_,rfl,?_,?_,λg G=>Jc g _ (.new hp) λe1 e2=>?_}};show QF C hA.an mA<|((sb.trans<|.new hp) _ _ d_);show QF C v.an v.len ae;subst e2;rw[em]at ej;cases ej;have:=hA.one C hq v;subst this;rw[G<|Yl ((sb.trans<|.new hp) _ _ d_) ae]at e1;cases e1
 show !!!!⟨?_⟩;show ask s1 Q I Z λg z s2 G=>!⟨?_⟩;cases g with|true=>show bX {S,s1.trans s2,k}|false =>
 have a3:=G rfl;show aL ?_;have sS:=s1.trans s2;have qA:=s2 _ _ Z;clear G s1 s2 Z hl;have a0:b<=dl.length:=`b
 show{λf f=>False,?_,λf f h=>h.elim};show !{a,_,rfl,sS _ _ h.ins,rfl,a,F,cs,dl,rs,rfl,X.sub sS,λp1 AI=>!!{_,ae,λp2 eX=>{_,ae,?_}}};rw[Ud a0];have s3:=(sS.trans<|.new (c:=.lst dl) AI).trans<|.new (c:=.lst<|dl.drop b) eX;have UL:=(Sub.new (c:=.lst<|dl.drop b) eX) _ _<|(Sub.new (c:=.lst dl) AI) _ _ qA;have AF:((z.set p1<|.lst dl).set p2<|.lst<|dl.drop b) p2=ϑ (.lst<|dl.drop b):=ae;generalize (z.set p1<|.lst dl).set p2 (.lst<|dl.drop b)=L at s3 UL AF⊢;show{λi O S'=>∃(l1:ε)(n:δ Row)(r:Kn)(o6:θ D),O=[some<|.ref a,some<|.int (b:π),some q.q,some<|q.pg cs A pl,some<|.tup<|cs.map aB,some<|.ref l1,o6]/\Sub S S'/\S' p2=ϑ (.lst<|dl.drop b)/\kl[b+i]?=some r/\fm cs q r n/\S' l1=ϑ (.lst<|n.map au)/\b+i<m,{l,E,y,none,rfl,s3,AF,Q,I,UL,`b},by rintro i O S' ⟨_,_,_,_,_,_,h,_⟩;show h,?_,?_};rintro i x O S4 hx ⟨l1,n,r,o6,rfl,N,h4,ek,v,H,U⟩;have hx:(dl.drop b)[i]?=some x:=hx;rw[List.getElem?_drop]at hx;let⟨a2,J,e2,e3,hd,hk⟩:=hH.dd _ _ hx;rw[ek]at e2;cases e2;show !!!!{cs,q,l1,n,r,J,x,rfl,C,hq,H,v,hd,hk,λA2 p S5 M R ZO=>?_};show !!!!⟨ask (N.trans R) e3 M ZO λg S6 Y G=>!⟨?_⟩⟩;cases g with|true=>show bX {S,(N.trans R).trans Y,k}|false=>show aL {p,A2,J,_,rfl,(N.trans R).trans Y,Y _ _<|R _ _ h4,e3,M,Y _ _ ZO,by have:=G rfl;lia}
 rintro O S4 ⟨l1,n,r,o6,rfl,N,h4,ek,v,H,U⟩;exfalso;have U:b+(dl.drop b).length<m:=U;rw[yP]at U;lia
abbrev GV:=δ<|ν×π×Qn
noncomputable def GW(qs:GV):δ (Key×D):=qs.map λr=>(Sum.inl r.1,.tup [.int (r.2.1:π),r.2.2.q])
noncomputable def OY(an:δ ν):δ (Key×D):=an.map λi=>(Sum.inl i,.bl true)
def Ug{qs:GV}{i:ν}{b:π}{q:Qn}(nd:(qs.map (·.1)).Nodup)(h:(i,b,q)∈qs):bL (GW qs) (.inl i)=ϑ (.tup [.int (b:π),q.q]):=by induction qs with|nil=>(cases h)|cons r qs a=>unfold bL GW at *;rw[zD,zZ];rw[zD]at nd;let⟨n1,n2⟩:=yc.mp nd;by_cases e:r.1=i;have hr:r=(i,b,q):=(by rcases ze.mp h with h|h;show h.symm;show absurd (zf.mpr {_,h,e.symm}) n1);subst hr;have:ω ((Sum.inl i:Key)=.inl i)=ϱ:=zu rfl;dsimp only;rw[this];rfl;have:ω ((Sum.inl r.1:Key)=.inl i)=ϰ:=zt λq=>e<|Sum.inl.inj q;dsimp only;rw[this];show a n2 ?_;rcases ze.mp h with h|h;show absurd (by rw[<-h]) e;show h
def GX{α:Type}{f:α->ν}{g:α->D}{l:δ α}{i:ν}(h:i∉l.map f):bL (l.map λr=>((Sum.inl (f r):Key),g r)) (.inl i)=ϐ:=by induction l with|nil=>rfl|cons r l a=>rw[zD,ze,not_or]at h;unfold bL at *;rw[zD,zZ];have:ω ((Sum.inl (f r):Key)=.inl i)=ϰ:=zt λq=>h.1 (Sum.inl.inj q).symm;dsimp only;rw[this];show a h.2
def GY{kvs:δ<|Key×D}{k:Key}{d:D}(h:bL kvs k=ϐ):dput kvs k d=kvs++[(k,d)]:=by unfold dput;rw[qa];intro e;let⟨x,hx,e⟩:=List.any_eq_true.mp e;unfold bL at h;rw[Option.map_eq_none_iff,List.find?_eq_none]at h;show h x hx e
def OZ{qs:GV}{n:ν}{b:π}{q:Qn} : GW qs++[(Sum.inl n,.tup [.int (b:π),q.q])]=GW (qs++[(n,b,q)]):=by unfold GW;rw[zH];rfl
def O5{an:δ ν}{n:ν} : OY an++[(Sum.inl n,.bl true)]=OY (an++[n]):=by unfold OY;rw[zH];rfl
structure Hs where
 kl:δ Kn
 dl:δ D
 qs:GV
 an:δ ν
noncomputable def hsC(C a qd ad:ε):Ce:=.ins C [("shelf",.ref a),("questions",.ref qd),("answered",.ref ad)]
structure QG(t:ft)(S0:av)(h a qd ad:ε)(cs:δ (ρ×ρ))(fs:δ (ε×Ce))(x:Hs)(F:δ ε)(rs:jl)(kn:Kn)(S:av):η where
 st:St t S0 a ((h,hsC t.ba a qd ad)::(qd,.b_<|GW x.qs)::(ad,.b_<|OY x.an)::fs) F cs x.dl rs S
 ri:RI rs x.dl.length kn
 ki:KI cs kn
 hi:IK cs rs x.dl x.kl
 kn:x.kl[x.dl.length]?=some kn
 nd:(x.qs.map (·.1)).Nodup
inductive IL (cs:δ<|ρ×ρ) (S:av) (st:Hs):D->Hs->η|l7 {d:D}{kn dD:Kn} (e:st.kl[st.dl.length]?=some kn) (h:GD KS cs kn d) (k:TK kn d dD) (i:KI cs dD):IL cs S st d {st.kl++[dD],st.dl++[d],st.qs,st.an}|ask {n:ν}{q:Qn} (h:n∉st.qs.map (·.1)) (hq:Qn.Ok cs q):IL cs S st (.tup [.str "asked",.int n,q.q]) {st.kl,st.dl,st.qs++[(n,st.dl.length,q)],st.an}|told {n:ν}{b m:π}{q:Qn}{kn:Kn}{A:δ Row}{p:ε} (h:(n,b,q)∈st.qs) (hq:Qn.Ok cs q) (ha:n∉st.an) (hb:b<=m) (e:st.kl[m]?=some kn) (hA:fm cs q kn A) (hp:S p=ϑ (.lst<|(q.rows cs A).map au)):IL cs S st (.tup [.str "told",.int n,q.pg cs A p]) {st.kl,st.dl,st.qs,st.an++[n]}
def IL.sub(h:IL cs S st d ee)(b:Sub S S'):IL cs S' st d ee:=by cases h with|l7 e h k i=>show .l7 e h k i|ask h hq=>show .ask h hq|told h hq ha hb e hA hp=>show .told h hq ha hb e hA<|b _ _ hp
inductive oN (t:ft) (ds:δ D) (S:av) (R:KD) (Z:KX):η
 |mk (S0:av) (h:ε) (cs:δ<|ρ×ρ) (_:ds=[.ref h,.tup<|cs.map aB]) (_:Gd cs) (_:S=S0.set h (.ins t.ba [])) (_:S0 h=ϐ) (k:∀S' F a qd ad,QG t S0 h a qd ad cs [] {[[]],[],[],[]} F [] [] S'->R .aA S')
def Me(T:Txt w K mg t):sE P w mg base T.gf 7 (oN t):=by
 show T.gf.F.bV oj ?_;obtain⟨S0,h,cs,e,E,y,p,k⟩;subst y;show{_,(sc (sf T.bJ T.cT (dv 0)<|mk T.ua (AD T) (hr.mono<|`a) T.t_ T.cW.b d0<|al 1 an)<|sc (sf T.bJ T.bQ (dv 0) J4)<|s1<|sf T.bJ T.dN (dv 0) J4),?_};show{_,rfl,λa ha=>{a,cs,rfl,E,ae,λv g B j=>{rfl,?_}}};have i:h≠a:=h_ (S:=S0.set h<|.ins t.ba []) ae ha;have s:St t S0 a [(h,.ins t.ba [])] g cs [] [] v:=by let⟨C,h1⟩:=j h _ (λm=>i<|zC.mp m)<|(ah i).trans ae;show{B,λx hx=>by rw[zC.mp hx];show⟨h1,C,p⟩,`d,λb c e=>?_};have e1:=(Sub.new (c:=.ins t.ba []) p) _ _ e;show j b c (λm=>h_ e1 ha<|zC.mp m)<|(Sub.new ha) _ _ e1
 show !{h,[],rfl,s.at 0 rfl,(show 0<1000 by decide),?_};have n:St t S0 a [(h,.ins t.ba [("shelf",.ref a)])] g cs [] [] _:=s.put 0 rfl<|.ins t.ba [("shelf",.ref a)];show λqd o=>!{h,[("shelf",.ref a)],rfl,(n.new o<|.b_ []).at 0 rfl,(show 1<1000 by decide),?_};have r:St t S0 a [(h,.ins t.ba [("shelf",.ref a),("questions",.ref qd)]),(qd,.b_ [])] g cs [] [] _:=(n.new o<|.b_ []).put 0 rfl<|.ins t.ba [("shelf",.ref a),("questions",.ref qd)];show λad l=>!{h,[("shelf",.ref a),("questions",.ref qd)],rfl,(r.new l<|.b_ []).at 0 rfl,(show 2<1000 by decide),?_};have A:St t S0 a [(h,hsC t.ba a qd ad),(qd,.b_ []),(ad,.b_ [])] g cs [] [] _:=(r.new l<|.b_ []).put 0 rfl<|.ins t.ba [("shelf",.ref a),("questions",.ref qd),("answered",.ref ad)];show fo<|k _ g a qd ad {A,RI.nil,KI.nil cs,{rfl,λm kn e=>?_,λm d e=>(by simp at e)},rfl,List.nodup_nil};cases m with|zero=>(cases e;show{KI.nil cs,λz=>rfl})|succ m=>simp at e
inductive rC (t:ft) (ds:δ D) (S:av) (R:KD) (Z:KX):η
 |mk (S0:av) (h a qd ad:ε) (cs:δ<|ρ×ρ) (fs:δ<|ε×Ce) (x:Hs) (F:δ ε) (rs:jl) (kn:Kn) (n:ν) (q:Qn) (_:ds=[.ref h,.int n,q.q]) (_:Gd cs) (_:QG t S0 h a qd ad cs fs x F rs kn S) (_:n∉x.qs.map (·.1)) (_:Qn.Ok cs q) (_:x.qs.length<=1000) (k:∀S',QG t S0 h a qd ad cs fs {x.kl,x.dl,x.qs++[(n,x.dl.length,q)],x.an} F rs kn S'->R .aA S')
def O7(T:Txt w K mg t):sE P w mg base T.pT 10 (rC t):=by
 show T.pT.F.bV Ax ?_;obtain⟨S0,h,a,qd,ad,cs,fs,x,F,rs,kn,n,q,e,l,hx,hn,hq,hl,k⟩;show{_,(sc (si (twd<|twor (bf vB `u (dv 1)<|fl T.bJ T.bQ<|dv 0)<|tw1<|bU<|tv<|aI T.kL (uU T) hr<|ac (lW (fl T.bJ T.cT<|dv 0) T.aj T.aN (bD T) hr)<|al 2 an) (s1<|sr ds) s0)<|sc (sd `u (fl T.bJ T.bQ<|dv 0) (dv 1)<|bY<|ac (lW (fl T.bJ T.cT<|dv 0) T.aj T.c_ (m6 T) hr)<|al 2 an)<|s1<|sr dn),?_};have d:=hx.st.at 0 rfl;have i:=hx.st.at 1 rfl;have dn:bL (GW x.qs) (.inl n)=ϐ:=GX hn;let⟨ld,lr,ra,j,_⟩:=id hx.st.sh;show !!{h,_,_,rfl,d,rfl,.inr {GW x.qs,.inl n,i,rfl,_,rfl,?_}};show bF (by rw[qa zd,dn];rfl) ?_;show !{h,_,_,rfl,d,rfl,a,_,rfl,j.ins,rfl,a,F,cs,x.dl,rs,rfl,hx.st.sh,_,rfl,cs,q,rfl,l,hq,_,rfl,aL ?_};show !{h,_,_,rfl,d,rfl,a,_,rfl,j.ins,rfl,a,F,cs,x.dl,rs,rfl,hx.st.sh,_,rfl,cF,_,rfl,h,_,_,rfl,d,rfl,_,rfl,qd,GW x.qs,.inl n,rfl,i,rfl,bg<|by unfold GW;rw[zc];show zj ‹_› `a,?_};rw[GY dn,OZ];show fo<|k _ {hx.st.put 1 rfl<|.b_<|GW<|x.qs++[(n,x.dl.length,q)],hx.ri,hx.ki,hx.hi,hx.kn,?_};change((x.qs++[(n,x.dl.length,q)]).map (·.1)).Nodup;rw[zH,List.nodup_append];show{hx.nd,`d,λb hb c g e=>?_};have g:c=n:=by simpa using g
 rw[e,g]at hb;show hn hb
inductive oO (t:ft) (ds:δ D) (S:av) (R:KD) (Z:KX):η
 |mk (S0:av) (h a qd ad:ε) (cs:δ<|ρ×ρ) (fs:δ<|ε×Ce) (x:Hs) (F:δ ε) (rs:jl) (Jd kn:Kn) (n:ν) (b m:π) (q:Qn) (A:δ Row) (p:ε) (_:ds=[.ref h,.int n,q.pg cs A p]) (_:Gd cs) (_:QG t S0 h a qd ad cs fs x F rs Jd S) (tb:Tb t S) (_:(n,b,q)∈x.qs) (_:Qn.Ok cs q) (_:n∉x.an) (hb:b<=m) (e:x.kl[m]?=some kn) (hA:fm cs q kn A) (hp:S p=ϑ (.lst<|(q.rows cs A).map au)) (hl:x.dl.length<=200) (qA:x.an.length<=1000)
  (k:∀S',QG t S0 h a qd ad cs fs ⟨x.kl,x.dl,x.qs,x.an++[n]⟩ F rs Jd S'->R .aA S'):oO t ds S R Z
def Mf(T:Txt w K mg t)(B:Bm mg base):sE P w mg base T.mZ 15 (oO t):=by show T.mZ.F.bV mq ?_;obtain⟨S0,h,a,qd,ad,cs,fs,x,F,rs,Jd,kn,n,b,m,q,A,p,e,r,hx,tb,hn,hq,s,l,o,hA,hp,hl,qA,k⟩;show{_,(sc (si (twd<|twor (bf PK `u (dv 1)<|fl T.bJ T.bQ<|dv 0)<|tw1<|bf vB `u (dv 1)<|fl T.bJ T.dN<|dv 0) (s1<|sr ds) s0)<|sc (cM (i:=3) mq.nd<|ixq `u (fl T.bJ T.bQ<|dv 0)<|dv 1)<|sc (si (bU<|tv<|aI T.ue (CK T B) hr<|ac (fl T.bJ T.cT<|dv 0)<|ac (ix `u (dv 3) di)<|ac (ix `u (dv 3) di)<|al 2 an) (s1<|sr ds) s0)<|sc (sd `u (fl T.bJ T.dN<|dv 0) (dv 1) db)<|s1<|sr dn),?_};have c:=hx.st.at 0 rfl;have j:=hx.st.at 1 rfl;have d:=hx.st.at 2 rfl;have dn:bL (GW x.qs) (.inl n)=ϑ (.tup [.int (b:π),q.q]):=Ug hx.nd hn;have da:bL (OY x.an) (.inl n)=ϐ:=GX (f:=λi=>i) (g:=λz=>.bl true) (by rwa [List.map_id']);show !!{h,_,_,rfl,c,rfl,.inr {GW x.qs,.inl n,j,rfl,_,rfl,bF (by rw[qc rfl,dn];rfl) ?_}};show !!{h,_,_,rfl,c,rfl,.inr {OY x.an,.inl n,d,rfl,_,rfl,bF (by rw[qa zd,da];rfl) ?_}};show !{h,_,_,rfl,c,rfl,_,rfl,qd,GW x.qs,.inl n,_,rfl,rfl,j,dn,?_};show !{h,_,_,rfl,c,rfl,_,rfl,_,rfl,_,rfl,_,rfl,_,rfl,a,F,cs,x.dl,rs,Jd,x.kl,q,b,m,kn,A,p,rfl,hx.st.sh,hx.ri,hx.hi,r,hq,tb,l,o,hA,hp,hl,_,rfl,aL ?_};show !{h,_,_,rfl,c,rfl,_,rfl,ad,OY x.an,.inl n,rfl,d,rfl,bg<|by unfold OY;rw[zc];show zj ‹_› `a,?_};rw[GY da,O5];show fo<|k _ {hx.st.put 2 rfl<|.b_<|OY<|x.an++[n],hx.ri,hx.ki,hx.hi,hx.kn,hx.nd}
def eV(h:n=l.length):(l++[x])[n]?=some x:=by rw[h,List.getElem?_concat_length]
def ju{α:Type}{l:δ α}{x y:α}{n:π}(h:l[n]?=some y):(l++[x])[n]?=some y:=by rw[List.getElem?_append_left (zh.mp h).1];show h
def IK.step{cs:δ<|ρ×ρ}{rs ck:jl}{dl:δ D}{kl:δ Kn}(h:IK cs rs dl kl){d:D}{kn dD:Kn}(e:kl[dl.length]?=some kn)(hd:GD KS cs kn d)(l:TK kn d dD)(n:KI cs dD)(p:RI ck (dl.length+1) dD)(g:∀z m,m<=dl.length->wt ((lu ck z).getD []) m=wt ((lu rs z).getD []) m):IK cs ck (dl++[d]) (kl++[dD]):=by
 have hl:=h.len;show{by rw[zk,zk,hl];rfl,λm o e1=>?_,λm d1 e1=>?_};by_cases hm:m<kl.length;rw[List.getElem?_append_left hm]at e1;let⟨a,b⟩:=h.at_ m o e1;show{a,λz=>(g z m<|`b).trans<|b z};have:m<(kl++[dD]).length:=(zh.mp e1).1;rw[zk]at this;have hm:m=kl.length:=by have:m<kl.length+1:=this;lia
 rw[eV hm]at e1;cases e1;rw[hm,hl];show{n,λz=>p.wt z};by_cases hm:m<dl.length;rw[List.getElem?_append_left hm]at e1;let⟨j,i,a,b,c⟩:=h.dd m d1 e1;show{j,i,ju a,ju b,c};have:m<(dl++[d]).length:=(zh.mp e1).1;rw[zk]at this;have hm:m=dl.length:=by have:m<dl.length+1:=this;lia
 rw[eV hm]at e1;cases e1;rw[hm];show{kn,dD,ju e,eV<|Eq.symm ‹_›,hd,l}
def GD.ise(h:GD ks cs kn d):ZM d:=by rcases h with⟨z,ws,_,_,_,rfl⟩|⟨z,ws,_,_,_,rfl⟩|⟨z,_,_,rfl⟩;show .l7<|.inl rfl;show .l7<|.inr<|.inl rfl;show .l7<|.inr<|.inr rfl
structure Rt(cs:δ (ρ×ρ))(S:av)(es:δ D)(gZ:δ Hs):η where
 len:gZ.length=es.length+1
 z:gZ[0]?=some {[[]],[],[],[]}
 st:∀(i:π)(e:D),es[i]?=some e->∃x x':Hs,gZ[i]?=some x/\gZ[i+1]?=some x'/\IL cs S x e x'
theorem Rt.sub(h:Rt cs S es gZ)(b:Sub S S'):Rt cs S' es gZ:={h.len,h.z,λi e q=>by let⟨x,x',a,c,d⟩:=h.st i e q;show{x,x',a,c,d.sub b}}
def IL.bd(h:IL cs S x d x')(b:x.dl.length<=n/\x.qs.length<=n/\x.an.length<=n):x'.dl.length<=n+1/\x'.qs.length<=n+1/\x'.an.length<=n+1:=by let⟨e,c,a⟩:=b;cases h with|l7=>show{by change(x.dl++[_]).length<=_;rw[zk];change x.dl.length+1<=_;show yH ‹_›,by change x.qs.length<=_;show yR ‹_›,by change x.an.length<=_;show yR ‹_›}|ask=>show{by change x.dl.length<=_;show yR ‹_›,by change(x.qs++[_]).length<=_;rw[zk];change x.qs.length+1<=_;show yH ‹_›,by change x.an.length<=_;lia}|told=>show{by change x.dl.length<=_;lia,by change x.qs.length<=_;lia,by change(x.an++[_]).length<=_;rw[zk];change x.an.length+1<=_;show yH ‹_›}
theorem Rt.bd(h:Rt cs S es gZ):∀(i:π)(x:Hs),gZ[i]?=some x->x.dl.length<=i/\x.qs.length<=i/\x.an.length<=i|0,x,e=>(by rw[h.z]at e;cases e;show{zm _,zm _,zm _})|i+1,x,e=>by have hi:=(zh.mp e).1;rw[h.len]at hi;let⟨y,d,a,b,c⟩:=h.st i _<|zg (show i<es.length by show Nat.lt_of_succ_lt_succ ‹_›);rw[e]at b;cases b;show c.bd<|h.bd i y a
inductive mG (t:ft) (ds:δ D) (S:av) (R:KD) (Z:KX):η
 |mk (S0:av) (h a qd ad:ε) (cs:δ<|ρ×ρ) (fs:δ<|ε×Ce) (x x':Hs) (F:δ ε) (rs:jl) (kn:Kn) (d:D) (_:ds=[.ref h,d]) (_:Gd cs) (_:QG t S0 h a qd ad cs fs x F rs kn S) (tb:Tb t S) (_:IL cs S x d x') (l1:x.dl.length<=100/\x.qs.length<=100/\x.an.length<=100)
  (k:∀S' F' ck dD,QG t S0 h a qd ad cs fs x' F' ck dD S'->R .aA S'):mG t ds S R Z
def Mg(T:Txt w K mg t)(B:Bm mg base):sE P w mg base T.kO 16 (mG t):=by show T.kO.F.bV uo ?_;obtain⟨S0,h,a,qd,ad,cs,fs,x,x',F,rs,kn,d,e,j,hx,tb,hd,hl,k⟩;show{_,(sc (si (bU<|tv<|aI T.ud (CJ T) hr<|al 1 an) (s1<|sr ds) s0)<|sc (si (bf a_ `u (ix `u (dv 1) di) ds) (s1<|sr<|nj (dv 0) T.bJ T.pT (O7 T) hr<|ac (ix `u (dv 1) di)<|ac (ix `u (dv 1) di) an) s0)<|sc (si (bf a_ `u (ix `u (dv 1) di) ds) (s1<|sr<|nj (dv 0) T.bJ T.mZ (Mf T B) hr<|ac (ix `u (dv 1) di)<|ac (ix `u (dv 1) di) an) s0)<|s1<|sr<|Sj (tv<|aI T.Af (Fm T) hr<|ac (fl T.bJ T.cT<|dv 0)<|al 1 an) dn ds),?_};have g:=hx.st.at 0 rfl;cases hd with|@l7 _ Jd dD e hd r s=>(have E:=hx.kn.symm.trans e;cases E;have ise:=hd.ise;have dn:∀Z':KX,qp t [.ref a,d] S (λv S'=>Si v S' λb l=>if b=ϱ then Fo l (R .aA) else Fo l (R<|.str "deed")) Z':=λZ'=>{a,d,rfl,λR' Z' kk=>qm hx.st.sh j hx.ki hx.ri `b hd r λS' F' ck c y o i=>kk S' !⟨bX<|fo<|k S' F' ck dD {hx.st.T5 c y,by rw[zk];show o,s,hx.hi.step hx.kn hd r s o i,eV<|by rw[zk,hx.hi.len];rfl,hx.nd}⟩};obtain⟨n,more,n1,n2,rfl⟩:∃(n:ρ) (more:δ D),n≠"asked"/\n≠"told"/\d=.tup (.str n::more):=(by rcases hd with⟨z,ws,_,_,_,rfl⟩|⟨z,ws,_,_,_,rfl⟩|⟨z,_,_,rfl⟩;show{_,_,`a,`a,rfl};show{_,_,`a,`a,rfl};show{_,_,`a,`a,rfl});show !!{ise,_,rfl,aL ?_};show !{_,wm rfl,_,rfl,bH (λh=>absurd (zy h) n1) λf=>?_};show !{_,wm rfl,_,rfl,bH (λh=>absurd (zy h) n2) λf=>?_};show !{h,_,_,rfl,g,rfl,_,rfl,dn _})|@ask n q hn hq=>show !!{.num<|.inl rfl,_,rfl,aL ?_};show !{_,wm rfl,_,rfl,oz rfl ?_};show (!{h,_,rfl,g,rfl,_,rfl,_,rfl,_,rfl,_,rfl,S0,h,a,qd,ad,cs,fs,x,F,rs,kn,n,q,rfl,j,hx,hn,hq,`b,λS' c=>fo<|k S' F rs kn c})|@told n b m q C A p hn hq ha hb e hA hp=>show !!{.num<|.inr rfl,_,rfl,aL ?_};show !{_,wm rfl,_,rfl,bF rfl ?_};show !{_,wm rfl,_,rfl,oz rfl ?_};show !{h,_,rfl,g,rfl,_,rfl,_,rfl,_,rfl,_,rfl,S0,h,a,qd,ad,cs,fs,x,F,rs,kn,C,n,b,m,q,A,p,rfl,j,hx,tb,hn,hq,ha,hb,e,hA,hp,`b,`b,λS' c=>fo<|k S' F rs kn c}
inductive CL (t:ft) (ds:δ D) (S:av) (R:KD) (Z:KX):η
 |mk (cs:δ<|ρ×ρ) (le:ε) (es:δ D) (gZ:δ Hs) (_:ds=[.tup<|cs.map aB,.ref le]) (_:Gd cs) (tb:Tb t S) (_:S le=ϑ (.lst es)) (_:Rt cs S es gZ) (_:es.length<=100) (k:R .aA S)
def lN(T:Txt w K mg t)(B:Bm mg base):Ok P w base T.pP 17 (CL t):=by show T.pP.F.bV iO ?_;obtain⟨cs,le,es,gZ,e,A,tb,g,m,hl,k⟩;show{_,(sc (cM (i:=2) iO.nd<|mk T.K8 (Me T) (hr.mono<|`a) T.K7 T.gf.b d0<|al 0 an)<|sc (si (bU<|tv<|cb bB T.ao ai<|al 1<|ac (j9 T.t5 nI) an) (s1<|qJ ⟨T.iM⟩ T.mU<|ac ds an) s0)<|sc (C4<|I_ (ien T.BZ<|al 1 an) (gt (n:=2)<|gc (gn (i:=3) iO.nd)<|gc (gn (i:=4) iO.nd) g0)<|sc (cM (i:=5) iO.nd<|nj (dv 2) T.bJ T.kO (Mg T B) hr<|al 4 an)<|s1<|si (bf i_ `u (dv 5) dn) (s1<|sr<|bY<|al 3<|al 5 an) s0)<|s1<|sr dn),?_};show{_,rfl,λh J=>{S,h,cs,rfl,A,rfl,J,λM F a qd ad hx=>{rfl,?_}}};have r:=hx.st.vg.sub _ _ g;show !{_,_,_,_,rfl,ql,.inl {rfl,_,r},_,rfl,aL ?_};have G:=tb.sub hx.st.vg.sub;show{λc S'=>Sub S S',?_,λc S' H=>⟨S,H,k⟩};show !{_,_,rfl,r,?_};show{λi c S'=>∃(o p l:θ D)(x:Hs)(F':δ ε)(ck:jl)(dD:Kn),c=[some<|.tup<|cs.map aB,some<|.ref le,some<|.ref h,o,p,l]/\gZ[i]?=some x/\QG t S h a qd ad cs [] x F' ck dD S',{_,_,_,_,F,[],[],rfl,m.z,hx},?_,?_,?_};rintro i c S' ⟨_,_,_,x,F',ck,dD,_,_,hx⟩;show hx.st.vg.sub _ _ g;rintro i d c S' hd ⟨o,p,l,x,F',ck,dD,rfl,ex,hx⟩;let⟨y,v,rfl⟩:=FZ hd;let⟨O,s,e1,e2,I⟩:=m.st i y v;rw[ex]at e1;cases e1;have hi:i<es.length:=(zh.mp v).1;have bd:=m.bd i x ex;show !{rfl,_,_,rfl,_,_,rfl,rfl,?_};show !{h,_,rfl,hx.st.at 0 rfl,rfl,_,rfl,S,h,a,qd,ad,cs,[],x,s,F',ck,dD,y,rfl,A,hx,tb.sub hx.st.vg.sub,I.sub hx.st.vg.sub,`b,λN C L j E=>!!⟨aL {_,_,_,s,C,L,j,rfl,e2,E}⟩};rintro c S' ⟨o,p,l,x,F',ck,dD,rfl,ex,hx⟩;show fo hx.st.vg.sub
structure Alw(t:ft)(ds:δ D)(S:av)(R:KD)(Z:KX):η where
 of:Qj t.aw t.eK ds S R Z
inductive oP (t:ft) (ds:δ D) (S:av) (R:KD) (Z:KX):η
 |mk (l a:ε) (F:δ ε) (cs:δ<|ρ×ρ) (dl:δ D) (rs:jl) (kn:Kn) (_:ds=[.ref l,.ref a,.tup<|cs.map aB]) (_:Gd cs) (hN:∀c∈cs,c.1∈vT) (_:S l=ϑ .well) (_:cA t.aw S a F cs dl rs) (_:RI rs dl.length kn) (_:KI cs kn) (k:∀(q:Qn)(S':av),Qn.Ok cs q->Sub S S'->R q.q S')
def rD(T:Txt w K mg t):Ok P w base T.jj 7 (oP t):=by
 have G:sE P w mg base T.dJ 3 (Alw t):=(wX T).HN λds S R Z h=>h.of;show T.jj.F.bV ik ?_;obtain⟨l,a,F,cs,dl,rs,kn,e,m,hN,hw,j,z,g,k⟩;show{_,(sc (cM (i:=3) ik.nd<|aI T.Ag (LV T) hr<|al 0<|al 2 an)<|sc (cM (i:=4) ik.nd<|aI T.K9 (OX T) hr<|al 0<|al 2<|al 3<|ac (WV (dv 1) T.aj T.dJ.e (G.mono<|`a) hr T.pG d1) an)<|s1<|sr<|bY<|ac (C5<|ix `u (cP<|ac ds<|ac ds an)<|aI T.aT (bE T) hr<|al 0<|ac di an)<|al 3<|ac (aI T.lI (qh T 3) hr<|al 0<|al 2<|ac di an)<|ac (aI T.Ez (OW T) hr<|al 0 an)<|al 4 an),?_};have O:=z.len j;let⟨ld,lr,ra,A,_⟩:=id j;let⟨s2,c,N⟩:=Fq (kn.map (·.1));show !!{l,cs,rfl,m,hw,λps wy v=>?_};show !!!!{a,_,rfl,A.ins,rfl,{a,F,cs,dl,rs,.aA,rfl,j,by show zR ‹_› `a,ux,λi ss hi hp I p E=>?_,λh=>by cases h}};cases hi;rw[L3 z j g hp I c N,<-xh c];have s1:Sub S (S.set p<|.lst<|(dZ kn s2).map au):=.new E;have h1:(S.set p<|.lst<|(dZ kn s2).map au) p=ϑ (.lst<|(dZ kn s2).map au):=ae;generalize S.set p (.lst<|(dZ kn s2).map au)=J at s1 h1⊢;have M:∀r∈dZ kn s2,r.1∈KS:=λr hr=>(g.ok _<|jr<|(xk c).mp hr).1;show{l,cs,ps,wy,p,dZ kn s2,rfl,m,v,s1 _ _ hw,h1,CB g c,M,xi g c,λb hb=>?_};show{cF,λp2 x=>!{l,_,rfl,`a,`a,wl (s1 _ _ hw) x,λi C L=>cB C L x λd hd=>?_}};obtain⟨y,rfl,B⟩:∃y:ρ,d=.str y/\(y ="on"\/y ="back"):=by have hd:d∈[D.str "on",.str "back"]:=hd;simp only[ze,zA,or_false]at hd;rcases hd with h|h;show{_,h,.inl rfl};show{_,h,.inr rfl}
 show !!!{l,cs,2,rfl,rfl,m,hN,s1 _ _ hw,λd hd H=>?_};have o:Sq cs d:=by have s:nq 3 d<=40:=(by have:nq 3 d+1<=8:=H;lia);let⟨a,b⟩:=Qt hd s 4;show{a,by have b:nq 7 d<=40:=b;lia}
 show !{l,rfl,s1 _ _ hw,λn n1 n2=>?_};show !{ab9,fo<|k ⟨y,ps,wy,d,n,b⟩ J ⟨B,v,o,n1,n2,hb⟩ s1}
inductive uY (t:ft) (ds:δ D) (S:av) (R:KD) (Z:KX):η
 |mk (a:ε) (F:δ ε) (cs:δ<|ρ×ρ) (dl:δ D) (rs:jl) (Jd kn:Kn) (kl:δ Kn) (q:Qn) (m:π) (_:ds=[.ref a,q.q,.int (m:π)]) (_:Gd cs) (_:Qn.Ok cs q) (_:cA t.aw S a F cs dl rs) (_:RI rs dl.length Jd) (_:IK cs rs dl kl) (_:kl[m]?=some kn) (tb:Tb t S) (k:∀A p,fm cs q kn A->S p=ϐ->R (q.pg cs A p) (S.set p<|.lst<|(q.rows cs A).map au))
def xl(T:Txt w K mg t)(B:Bm mg base):Ok P w base T.n_ 14 (uY t):=by show T.n_.F.bV dE ?_;obtain⟨a,F,cs,dl,rs,Jd,kn,kl,q,m,e,r,hq,x,z,c,l,tb,k⟩;show{_,(sc (sa (dv 1)<|gt (n:=5)<|gc (gn (i:=3) dE.nd)<|gc (gn (i:=4) dE.nd)<|gc (gn (i:=5) dE.nd)<|gc (gn (i:=6) dE.nd)<|gc (gn (i:=7) dE.nd) g0)<|sc (si (bf a_ `u (dv 3) ds) (s1<|sr<|aI T.xZ (Fj T B) hr<|al 0<|al 4<|al 5<|al 6<|al 7<|al 2 an) s0)<|s1<|sr<|aI T.pF (AY T B) hr<|al 0<|al 4<|al 5<|al 6<|al 7<|al 2 an),?_};let⟨ss,hp,g⟩:=Fq (kn.map (·.1));let⟨vw,ky⟩:=c.vw x z l hp g;let⟨y,ps,wy,d,n,b⟩:=q;have h:y ="on"\/y ="back":=hq.y;have pg:∀{f:δ (ρ×ρ)->δ Part->ρ->δ Row->θ CF->π->π×π},(∀A,Qn.f ⟨y,ps,wy,d,n,b⟩ cs A=f cs ps wy A b n)->∀{Z':KX},T8 t f [.ref a,fC ps wy,d,.int (n:π),OQ b,.int (m:π)] S (λv S'=>Fo S'<|R v) Z':=λC Z'=>{a,cs,ps,wy,d,_,n,b,_,rfl,r,hq.o,hq.s,hq.n1,hq.n2,hq.b,vw,ky,tb,λA p hA j=>by have kk:=k A p (.of hp hA) j;unfold Qn.pg Qn.rows at kk;rw[C A]at kk;show fo kk};show !!{rfl,_,_,rfl,_,_,rfl,_,_,rfl,_,_,rfl,_,_,rfl,rfl,?_};rcases h with rfl|rfl;show !!⟨oz rfl ?_⟩;show !!!!!!⟨pg (Z':=Z) λA=>qc rfl⟩;show !!⟨bF rfl ?_⟩;show !!!!!!⟨pg (Z':=Z) λA=>qa<|show("back": ρ)≠"on" by decide⟩
def Lr(S:av)(n:π)(d:D):Prop:=∃p,Dr S d p/\p.canLay0=ϱ/\p.depth<=n
theorem Lr.all:∀{ds:δ D},(∀d∈ds,Lr S n d)->∃ps:δ PyData,KW S ds ps/\PyData.canLayAll0 ps=ϱ/\PyData.depthAll ps<=n/\ps.length=ds.length|[],_=>{[],.nil,rfl,zU _,rfl}|d::ds,h=>by let⟨p,h1,h2,h3⟩:=h d zB;let⟨ps,a,c,g,e⟩:=Lr.all λx hx=>h x<|zo _ hx;show{p::ps,.cons h1 a,by simp only[PyData.canLayAll0,h2,c,Bool.and_self],by simp only[PyData.depthAll];lia,by rw[zM,zM,e]}
def Lr.tup{S:av}{n:π}{ds:δ D}(h:∀d∈ds,Lr S n d):Lr S (n+1) (.tup ds):=by let⟨ps,a,c,e,_⟩:=Lr.all h;show{.tuple ps,.tup a,by simp only[PyData.canLay0];show c,by simp only[PyData.depth];show yH ‹_›}
def Lr.ref{S:av}{n:π}{a:ε}{ds:δ D}(e:S a=ϑ (.lst ds))(h:∀d∈ds,Lr S n d):Lr S (n+1) (.ref a):=by let⟨ps,c,g,i,_⟩:=Lr.all h;show{.list ps,.ref e c,by simp only[PyData.canLay0];show g,by simp only[PyData.depth];lia}
def Lr.le{S:av}{n m:π}{d:D}(h:Lr S n d)(l:n<=m):Lr S m d:=by let⟨p,a,b,c⟩:=h;show{p,a,b,zj c l}
theorem Lr.str{S:av}{n:π}{z:ρ}(h:PyData.strOk z=ϱ):Lr S n (.str z):={.str z,.str z,by simp only[PyData.canLay0];show h,by simp only[PyData.depth];show zU _}
theorem Lr.int:Lr S n (.int i):={.int i,.int i,by simp only[PyData.canLay0],by simp only[PyData.depth];lia}
theorem Lr.aA:Lr S n .aA:={.none,.aA,by simp only[PyData.canLay0],by simp only[PyData.depth];lia}
def Lr.plain{S:av}{n:π}{d:D}(h:dU d=ϱ):Lr S n d:=by cases d with|aA=>show .aA|int i=>show .int|str z=>have h:(ω (z.cps.size<=40)&&PyData.strOk z)=ϱ:=h;rw[zN]at h;show .str h.2|_=>cases h
theorem Lr.t2{S:av}{n:π}{a b:D}(h1:Lr S n a)(h2:Lr S n b):Lr S (n+1) (.tup [a,b]):=.tup λd hd=>by simp only[ze,zA,or_false]at hd;rcases hd with rfl|rfl;show h1;show h2
theorem Lr.t3{S:av}{n:π}{a b c:D}(h1:Lr S n a)(h2:Lr S n b)(e:Lr S n c):Lr S (n+1) (.tup [a,b,c]):=.tup λd hd=>by simp only[ze,zA,or_false]at hd;rcases hd with rfl|rfl|rfl;show h1;show h2;show e
def GZ{S:av}{a b:ε}{ds:δ D}{R:KD}(e1:S a=ϑ (.lst ds))(e2:S b=ϑ (.lst []))(h:∀d∈ds,Lr S 60 d)(q:R (.bl<|!ds.isEmpty) S):eqR true (.ref a) (.ref b) S R:=by let⟨ps,c,e,i,g⟩:=Lr.all h;show{.list ps,.list [],.ref e1 c,.ref e2 .nil,by simp only[PyData.canLay0];show e,by simp only[PyData.canLay0,PyData.canLayAll0],.inl<|by simp only[PyData.depth];show zR ‹_› `a,?_};rw[qc rfl,uD,show ps.isEmpty=ds.isEmpty by cases ps<;>cases ds<;>first|rfl|cases g];show q
section
variable{cs:δ (ρ×ρ)}{S:av}
theorem Wg.lr{ws:δ D}(h:Wg cs ws){n:π} : Lr S (n+1) (.tup ws):=.tup λd hd=>.plain<|h.all d hd
theorem xm{z:ρ}(h:z∈KS){n:π} : Lr S n (.str z):=.str (gu _ h).2.2
theorem Mh(hN:∀c∈cs,c.1∈vT):∀{n:π}{d:D},Sg cs n d->Lr S (2*n) d|0,_,h=>h.elim|n+1,d,h=>by rcases h with (rfl|⟨ks,rfl,hk,BH⟩|⟨o,c,v,hc,hv,ho,rfl⟩)|⟨e,rfl,h2⟩|⟨o,ds,h1,rfl,h3,h4⟩;show(Lr.tup (n:=0) λd hd=>by rw[zC.mp hd];show .str<|`c).le<|xb _;show(Lr.t2 (n:=1) (.str<|`c)<|.tup (n:=0) λd hd=>?_).le<|Nat.le_add_left _ _;let⟨k,hk,rfl⟩:=zf.mp hd;show xm<|BH k hk;show(Lr.t3 (n:=0) (.str ?_) (.str (AG _<|hN c hc).2)<|.plain hv.2).le `b;rcases ho with rfl|⟨_,rfl|rfl|⟨rfl,_⟩⟩<;>decide +kernel;show(Lr.t2 (n:=2*n) (.str<|`c)<|Mh hN h2).le<|yu _;show(Lr.t2 (n:=2*n+1) (.str ?_)<|.tup λd hd=>Mh hN<|h4 d hd).le<|zm _;rcases h1 with rfl|rfl<;>decide +kernel
def Ui(hN:∀c∈cs,c.1∈vT){ps:δ Part}{wy:ρ}(a:Og cs ps wy):Lr S 3 (fC ps wy):=by
 have two:∀{z:ρ},k_ z=ϱ->PyData.strOk z=ϱ:=λh=>by unfold k_ at h;rw[yW,yb,yb]at h;rcases h with rfl|rfl<;>decide +kernel
 have i:=a.ok;unfold Cq at i;simp only[zN,yo]at i;show Lr.t2 (n:=2) (.tup (n:=1) λd hd=>?_)<|.str<|two a.way;let⟨p,hp,rfl⟩:=zf.mp hd;let⟨c,l,j⟩:=a.pin p hp;have op:=i.2.1 p hp;unfold gv at op;simp only[zN]at op;show Lr.t3 (n:=0) (.str<|by rw[<-j];show(AG _<|hN c l).2) (.str<|two<|a.X9 p hp)<|.str ?_;have g:=op.2.2;unfold Cp at g;rw[yW,yb,yb]at g;rcases g with e|e<;>rw[e]<;>decide +kernel
def Uj{ps:δ Part}{b:θ CF}(h:Bg cs ps b):Lr S 3 (OQ b):=by cases b with|none=>show .aA|some g=>have a:=h g rfl;show Lr.t2 (n:=2) (Lr.t2 (n:=1) (.tup (n:=0) λd hd=>?_)<|xm a.key)<|.str ?_;let⟨i,l⟩:=yt hd;let⟨k,_,j⟩:=fk a.pv l;show .plain j.2;have c:=a.side;unfold CG at c;rw[yW,yb,yb]at c;rcases c with e|e<;>rw[e]<;>decide +kernel
theorem Mi(hN:∀c∈cs,c.1∈vT){q:Qn}(h:Qn.Ok cs q):Lr S 15 q.q:=.tup λd hd=>by simp only[ze,zA,or_false]at hd;rcases hd with rfl|rfl|rfl|rfl|rfl;rcases h.y with e|e<;>rw[e]<;>show .str `c;show(Ui hN h.o).le `a;show Mh hN h.s.1;show .int;show(Uj h.b).le<|`a
theorem Uk(a:r.1∈KS)(hw:Wg cs r.2):Lr S 2 (au r):=Lr.t2 (xm a) hw.lr
def Ul(hN:∀c∈cs,c.1∈vT){x x':Hs}{d:D}(h:IL cs S x d x'):Lr S 59 d:=by cases h with|l7 e h k i=>(rcases h with⟨z,ws,a,hw,_,rfl⟩|⟨z,ws,a,hw,_,rfl⟩|⟨z,a,_,rfl⟩;show(Lr.t3 (n:=1) (.str<|`c) (xm a) hw.lr).le `a;show(Lr.t3 (n:=1) (.str<|`c) (xm a) hw.lr).le `a;show(Lr.t2 (n:=1) (.str<|`c)<|xm a).le<|`a)|ask h hq=>show(Lr.t3 (n:=15) (.str<|`c) .int<|Mi hN hq).le `a|@told n b m q kn A p h hq ha hb e hA hp=>show(Lr.t3 (n:=4) (.str<|`c) .int<|Lr.t3 (n:=3) (.ref (n:=2) hp λd hd=>?_) .int .int).le `a;let⟨r,hr,rfl⟩:=zf.mp hd;have hr:=GU hr;show Uk (hA.an.ky r hr)<|hA.an.rg.1 r hr
end
noncomputable def wD(r:ν×π×Qn):D:=.tup [.int r.1,r.2.2.q,.int (r.2.1:π)]
def Num(n:ν)(j:π):Prop:=n=(j:ν)\/n = -1-(j:ν)\/n=10^9-(j:ν)
structure Lq(cs:δ (ρ×ρ))(x:Hs)(W:GV)(Qa:δ Qn):η where
 ok:∀q∈Qa,Qn.Ok cs q
 nums:∀n∈x.qs.map (·.1),∃j:π,j<Qa.length/\Num n j
 wt:∀r∈W,r∈x.qs/\r.1∉x.an/\r.2.1<=x.dl.length/\Qn.Ok cs r.2.2
 nd:(W.map (·.1)).Nodup
 an:∀n∈x.an,n∈x.qs.map (·.1)
theorem Lq.new{cs:δ<|ρ×ρ}{x:Hs}{W:GV}{Qa:δ Qn}(h:Lq cs x W Qa){n:ν}{j:π}(a:j=Qa.length)(l:j<=1000)(hn:Num n j):n∉x.qs.map (·.1):=λm=>by let⟨i,hi,hm⟩:=h.nums n m;unfold Num at hn hm;omega
def St.pin(h:St t S0 a fs F cs dl rs S)(hp:S p=ϐ):St t (S0.set p c) a fs F cs dl rs (S.set p c):=by have h1:=h.sub<|.new (c:=c) hp;show{h1.sh,λx hx=>{(h1.fa x hx).1,(h1.fa x hx).2.1,?_},h.nd,λb d e=>?_};rw[ah<|h_ (h.fa x hx).1 hp];show(h.fa x hx).2.2;by_cases q:b=p;subst q;rw[ae]at e;cases e;show{h.sh.out hp,ae};rw[ah q]at e;show h1.vg b d e
structure O8(t:ft)(S0:av)(a lk lw la:ε)(cs:δ (ρ×ρ))(fs:δ (ε×Ce))(x:Hs)(W:GV)(Qa:δ Qn)(F:δ ε)(rs:jl)(kn:Kn)(S:av):η where
 st:St t S0 a ((lk,.b_<|gA kn)::(lw,.lst<|W.map wD)::(la,.lst<|Qa.map Qn.q)::fs) F cs x.dl rs S
 ri:RI rs x.dl.length kn
 ki:KI cs kn
 hi:IK cs rs x.dl x.kl
 kn:x.kl[x.dl.length]?=some kn
 lq:Lq cs x W Qa
theorem O8.sub{t:ft}{S0:av}{a lk lw la:ε}{cs:δ<|ρ×ρ}{fs:δ<|ε×Ce}{x:Hs}{W:GV}{Qa:δ Qn}{F:δ ε}{rs:jl}{kn:Kn}{S S':av}(h:O8 t S0 a lk lw la cs fs x W Qa F rs kn S)(b:Sub S S'):O8 t S0 a lk lw la cs fs x W Qa F rs kn S':={h.st.sub b,h.ri,h.ki,h.hi,h.kn,h.lq}
theorem xn:∀(l:δ α)(k:π),(l.map f).eraseIdx k=(l.eraseIdx k).map f|[],_=>rfl|a::l,0=>rfl|a::l,k+1=>by rw[zD,List.eraseIdx_cons_succ,List.eraseIdx_cons_succ,zD,xn l k]
def Mj{l:GV}(nd:(l.map (·.1)).Nodup){k:π}{r:ν×π×Qn}(e:l[k]?=some r):∀y∈l.eraseIdx k,y.1≠r.1:=by induction l generalizing k with|nil=>simp at e|cons a l d=>rw[zD]at nd;let⟨n1,n2⟩:=yc.mp nd;cases k with|zero=>(cases e;intro y c q;show n1<|by rw[<-q];show zf.mpr ⟨y,c,rfl⟩)|succ k=>rw[List.getElem?_cons_succ]at e;intro y c q;rw[List.eraseIdx_cons_succ]at c;rcases ze.mp c with rfl|c;show n1 (by rw[q];show zf.mpr {r,zK e,rfl});show d n2 e y c q
inductive xo (t:ft) (ds:δ D) (S:av) (R:KD) (Z:KX):η
 |mk (S0:av) (l a lk lw la:ε) (cs:δ<|ρ×ρ) (fs:δ<|ε×Ce) (x:Hs) (W:GV) (Qa:δ Qn) (F:δ ε) (rs:jl) (kn:Kn) (_:ds=[.ref l,.ref a,.tup<|cs.map aB,.ref lk,.ref lw,.ref la]) (_:Gd cs) (hN:∀c∈cs,c.1∈vT) (_:O8 t S0 a lk lw la cs ((l,.well)::fs) x W Qa F rs kn S) (tb:Tb t S0) (hq:Qa.length<=100) (hw:W.length<=100) (hd:x.dl.length<=100)
  (k:∀e x' W' Vm F' ck dD Um S',Sub S0 Um->O8 t Um a lk lw la cs ((l,.well)::fs) x' W' Vm F' ck dD S'->IL cs Um x e x'->Vm.length<=Qa.length+1->W'.length<=W.length+1->R e S'):xo t ds S R Z
def Ml(T:Txt w K mg t)(B:Bm mg base):Ok P w base T.Ai 15 (xo t):=by have uZ:Ok P w base T.pS 7 (ZG t):=(Co T).HN λds S R Z h=>h.of;show T.Ai.F.bV cy ?_;obtain⟨S0,l,a,lk,lw,la,cs,fs,x,W,Qa,F,rs,kn,e,L,hN,hx,tb,a7,UG,Nv,k⟩;show{_,(sc (cM (i:=6) cy.nd<|aI T.aT (bE T) hr<|al 0<|ac di an)<|sc (si (bf vA `u (dv 6) di) (sc (cM (i:=7) cy.nd<|aI T.Ah (Gy T) hr<|al 0<|al 2<|al 3 an)<|sc (se<|aI T.sL (Ck T) hr<|al 3<|al 7 an)<|sc (se<|aI T.pS uZ hr<|al 1<|al 7 an)<|s1<|sr<|dv 7) s0)<|sc (si (XJ<|twd<|twand (bf vA `u (dv 6) di)<|tw1<|bf KY `u (dv 4)<|cP an) (sc (sa (bm zO PySem.F.slot_list_pop PySem.F.type_list_pop NO (dv 4)<|ac (C5<|ix `u (cP<|ac di<|ac (NM di) an)<|aI T.aT (bE T) hr<|al 0<|ac di an) an)<|gt (n:=3)<|gc (gn (i:=8) cy.nd)<|gc (gn (i:=9) cy.nd)<|gc (gn (i:=10) cy.nd) g0)<|sc (cM (i:=11) cy.nd<|bo nJ `u (dv 10)<|aI T.aT (bE T) hr<|al 0<|ac (bo j_ `u (bo nJ `u (lW (dv 1) T.aj T.c_ (m6 T) hr) di)<|dv 10) an)<|s1<|sr<|bY<|ac ds<|al 8<|ac (aI T.n_ (xl T B) hr<|al 1<|al 9<|al 11 an) an) s0)<|sc (cM (i:=8) cy.nd<|C5<|ix `u (cP<|ac (cb aW T.aU aH<|al 5 an)<|ac (bo j_ `u (bo j_ `u di di)<|cb aW T.aU aH<|al 5 an)<|ac (bo j_ `u (bo Bv `u di di)<|cb aW T.aU aH<|al 5 an) an)<|aI T.aT (bE T) hr<|al 0<|ac di an)<|sc (cM (i:=9) cy.nd<|aI T.jj (rD T) hr<|al 0<|al 1<|al 2 an)<|sc (C4<|si (XJ<|twd<|twand (bf KY `u (dv 5)<|cP an)<|tw1<|bf a_ `u (aI T.aT (bE T) hr<|al 0<|ac di an) di) (s1<|cM (i:=9) cy.nd<|ix `u (dv 5)<|NM di) s0)<|sc (se<|bm zO zX zY cL (dv 5)<|al 9 an)<|sc (se<|bm zO zX zY cL (dv 4)<|ac (bY<|al 8<|al 9<|ac (lW (dv 1) T.aj T.c_ (m6 T) hr) an) an)<|s1<|sr<|bY<|ac ds<|al 8<|al 9 an),?_};have hw:=hx.st.at 3 rfl;have H:=hx.st.at 0 rfl;have z:=hx.st.at 1 rfl;have s:=hx.st.at 2 rfl;have a6:=hx.ki.len;show !{l,_,rfl,`a,`a,hw,λway w0 w1=>?_};show !!⟨bH (λf=>?_) λf=>?_⟩;show !!!{l,cs,lk,kn,rfl,L,hw,H,hx.ki,λM v=>?_};have v:=v.up;let⟨dD,G,Uo⟩:=v.as hx.ki;show !!{lk,kn,M,dD,rfl,H,by show zj ‹_› `a,G,?_};have g:=hx.st.put 0 rfl<|.b_<|gA dD;show !!⟨qm g.sh L hx.ki hx.ri (zj ‹_› `a) v G λS' F' ck jU Yn Jc a0=>!⟨fo<|k M {x.kl++[dD],x.dl++[M],x.qs,x.an} W Qa F' ck dD S0 S' (.refl _) {g.T5 jU Yn,by rw[zk];show Jc,Uo,hx.hi.step hx.kn v G Uo Jc a0,eV<|by rw[zk,hx.hi.len];rfl,{hx.lq.ok,hx.lq.nums,λr hr=>?_,hx.lq.nd,hx.lq.an}} (.l7 hx.kn v G Uo) (yu _)<|yu _⟩⟩;let⟨a1,a2,a3,a4⟩:=hx.lq.wt r hr;show{a1,a2,by change _<=(x.dl++[M]).length;rw[zk];show yR ‹_›,a4};show{λb S'=>Sub S S'/\(b=ϱ->W≠[]),?_,?_};show !!⟨bH (λf=>?_) λf=>{.refl _,nofun}⟩;show !{pW,λp hp=>GZ ((Sub.new hp) _ _ z) ae (λd hd=>?_) !{.new hp,λe q=>by rw[q]at e;cases e}};let⟨r,hr,rfl⟩:=zf.mp hd;show(Lr.t3 (n:=15) .int (Mi hN (hx.lq.wt r hr).2.2.2) .int).le `a;rintro b S1 ⟨s1,hb⟩;have hx:=hx.sub s1;have hw:=s1 _ _ hw;have H:=s1 _ _ H;have z:=s1 _ _ z;have s:=s1 _ _ s;clear s1;cases b with|true=>(show bX ?_;have Iv:=hb rfl;have mI:0<W.length:=List.length_pos_iff.mpr Iv;show{_,rfl,{rfl,_,z},_,rfl,cF,λp hp=>!{l,_,rfl,`a,`a,wl hw hp,λi J I=>cB J I hp λd hd=>?_}};obtain⟨i,kk,r,rfl,b1,b2,e1,e2⟩:∃(i:ν)(kk:π)(r:ν×π×Qn),d=.int i/\-(2^63)<=i/\i<2^63/\seqIndex? i W.length=ϑ kk/\W[kk]?=some r:=(by have hd:d∈[D.int 0,.int (-1)]:=hd;simp only[ze,zA,or_false]at hd;rcases hd with h|h;show{0,0,_,h,`a,`a,by unfold seqIndex?;simp[mI],zg mI};show{-1,W.length-1,_,h,`a,`a,?_,zg<|Nat.sub_lt ‹_› `a};unfold seqIndex?;dsimp only;rw[qc<|show(-1:ν)<0 by decide,qc<|by rw[zN,yb,yb];lia];congr 1;lia);show{lw,W.map wD,i,kk,wD r,rfl,rfl,z,b1,b2,by rw[zc];show e1,by rw[zx,e2];rfl,?_};rw[xn];show !{rfl,_,_,rfl,_,_,rfl,_,_,rfl,rfl,?_};have g:=hx.st.put 1 rfl<|.lst<|(W.eraseIdx kk).map wD;let⟨r1,r2,r3,r4⟩:=hx.lq.wt r<|zK e2;let⟨ld,lr,ra,hs,_⟩:=id g.sh;have qI:=g.at 3 rfl;show !!!{a,_,rfl,hs.ins,rfl,a,F,cs,x.dl,rs,rfl,g.sh,_,rfl,l,_,rfl,`b,uy `b<|`b,qI,λm m0 m1=>?_};let⟨mn,rfl⟩:=Int.eq_ofNat_of_zero_le m0;have a8:=hx.hi.len;have em:=zg (show r.2.1+mn<x.kl.length by lia);show !!!!{a,F,cs,x.dl,rs,kn,_,x.kl,r.2.2,r.2.1+mn,by rw[Int.natCast_add];rfl,L,r4,g.sh,hx.ri,hx.hi,em,tb.sub g.vg.sub,λA p hA hp=>{gH,?_}};show fo<|k _ {x.kl,x.dl,x.qs,x.an++[r.1]} (W.eraseIdx kk) Qa F rs kn _ _ (.new<|g.zero hp) {g.pin hp,hx.ri,hx.ki,hx.hi,hx.kn,{hx.lq.ok,hx.lq.nums,λy o=>?_,hx.lq.nd.sublist<|(List.eraseIdx_sublist W kk).map _,λn hn=>?_}} (.told r1 r4 r2 (Nat.le_add_right _ _) em hA ae) (yu _)<|yR (List.eraseIdx_sublist W kk).length_le;let⟨X,Q,y3,O⟩:=hx.lq.wt y<|(List.eraseIdx_sublist W kk).mem o;show{X,λm=>?_,y3,O};rcases zL.mp m with m|m;show Q m;show Mj hx.lq.nd e2 y o<|zC.mp m;rcases zL.mp hn with m|m;show hx.lq.an n m;rw[zC.mp m];show zf.mpr ⟨r,r1,rfl⟩)|false=>show aL ?_;have U:=gH;show !!⟨.inl {_,s,_,rfl,_,rfl,.inl {_,s,{`a,`a,`a},_,rfl,_,rfl,.inl {_,s,U,λp hp=>!{l,_,rfl,`a,`a,wl hw hp,λi J I=>cB J I hp λd hd=>?_}}}}⟩;obtain⟨n,rfl,hn⟩:∃n:ν,d=.int n/\Num n Qa.length:=(by have hd:d∈[D.int (((Qa.map Qn.q).length:π):ν),.int<|0-1-(((Qa.map Qn.q).length:π):ν),.int<|10^9-(((Qa.map Qn.q).length:π):ν)]:=hd;rw[zc]at hd;simp only[ze,zA,or_false]at hd;rcases hd with h|h|h;show{_,h,.inl rfl};show{_,h,.inr<|.inl<|by rfl};show{_,h,.inr<|.inr rfl});have DY:=hx.lq.new rfl (zj ‹_› `a) hn;show !!!{l,a,F,cs,x.dl,rs,kn,rfl,L,hN,hw,hx.st.sh,hx.ri,hx.ki,λq0 S2 a5 s2=>?_};show{λaG S'=>∃q,aG=[some<|.ref l,some<|.ref a,some<|.tup<|cs.map aB,some<|.ref lk,some<|.ref lw,some<|.ref la,some<|.int way,none,some<|.int n,some q.q,none,none]/\Qn.Ok cs q/\Sub S1 S',?_,?_};show{λb S'=>Sub S2 S'/\(b=ϱ->Qa≠[]),?_,?_};show !{pW,λp hp=>GZ ((Sub.new hp) _ _<|s2 _ _ s) ae (λd hd=>?_) !⟨bH (λh=>?_) λf=>{.new hp,nofun}⟩};let⟨q,hq,rfl⟩:=zf.mp hd;show(Mi hN<|hx.lq.ok q hq).le `a;show !{l,_,rfl,`a,`a,wl (s2 _ _ hw) hp,λi J I=>!{.new hp,λf e=>by rw[e]at h;cases h}};rintro b S3 ⟨E,hb⟩;(cases b with|false=>show aL (fo {q0,rfl,a5,s2.trans E})|true=>show bX ?_;obtain⟨Q',C,eQ⟩:∃Q' C,Qa=Q'++[C]:={_,_,(List.dropLast_concat_getLast<|hb rfl).symm};show !!{_,C.q,E _ _<|s2 _ _ s,?_,fo {C,rfl,hx.lq.ok C<|by rw[eQ];simp,s2.trans E}};rw[eQ,zH];show OP _ _);rintro aG S3 ⟨q,rfl,hq,E⟩;have Y:=hx.sub E;show{_,rfl,{rfl,_,Y.st.at 2 rfl},_,rfl,_,_,_,rfl,rfl,Y.st.at 2 rfl,bg<|by rw[zc];show zj ‹_› `a,?_};have g:St t S0 a _ F cs x.dl rs _:=Y.st.put 2 rfl<|.lst<|Qa.map Qn.q++[q.q];let⟨ld,lr,ra,hs,_⟩:=id g.sh;show{_,rfl,{rfl,_,g.at 1 rfl},_,rfl,_,rfl,_,rfl,a,_,rfl,hs.ins,rfl,a,F,cs,x.dl,rs,rfl,g.sh,U,_,_,_,rfl,rfl,g.at 1 rfl,bg<|by rw[zc];show zj ‹_› `a,?_};have Dq:St t S0 a _ F cs x.dl rs _:=g.put 1 rfl<|.lst<|W.map wD++[wD (n,x.dl.length,q)];have e1:Qa.map Qn.q++[q.q]=(Qa++[q]).map Qn.q:=(by rw[zH];rfl);have e2:W.map wD++[wD (n,x.dl.length,q)]=(W++[(n,x.dl.length,q)]).map wD:=(by rw[zH];rfl);show !!{U,fo<|k _ {x.kl,x.dl,x.qs++[(n,x.dl.length,q)],x.an} (W++[(n,x.dl.length,q)]) (Qa++[q]) F rs kn S0 _ (.refl _) {by rw[<-e1,<-e2];show Dq,hx.ri,hx.ki,hx.hi,hx.kn,{λy o=>?_,λm hm=>?_,λy o=>?_,?_,λm hm=>?_}} (.ask DY hq) (by rw[zk];show zm _)<|by rw[zk];show zm _};rcases zL.mp o with h|h;show hx.lq.ok y h;rw[zC.mp h];show hq;have hm:m∈(x.qs++[(n,x.dl.length,q)]).map (·.1):=hm;rw[zH]at hm;rw[zk];rcases zL.mp hm with h|h;let⟨j,hj,h2⟩:=hx.lq.nums m h;show{j,by show Nat.lt_succ_of_lt ‹_›,h2};have h:m=n:=(by simpa using h);rw[h];show{Qa.length,yn _,hn};rcases zL.mp o with h|h;let⟨X,Q,y3,O⟩:=hx.lq.wt y h;show{zT _ X,Q,y3,O};rw[zC.mp h];show{zI _<|zC.mpr rfl,λm=>DY<|hx.lq.an n m,zm _,hq};rw[zH,List.nodup_append];show{hx.lq.nd,`d,λb hb c N e=>?_};have N:c=n:=(by simpa using N);let⟨y,o,ey⟩:=zf.mp hb;show DY<|zf.mpr {y,(hx.lq.wt y o).1,by rw[ey,e,N]};change m∈(x.qs++[(n,x.dl.length,q)]).map (·.1);rw[zH];show zT _<|hx.lq.an m hm
theorem St.drop(h:St t S0 a (fs++[y]) F cs dl rs S):St t S0 a fs F cs dl rs S:=h.less (h.nd.sublist<|(List.sublist_append_left fs [y]).map _) λz c=>zT _ c
noncomputable abbrev HC:Hs:={[[]],[],[],[]}
theorem Rt.nil:Rt cs S [] [HC]:={rfl,rfl,λi e h=>(by simp at h)}
def Rt.snoc(h:Rt cs S es gZ)(e:gZ[es.length]?=some x)(v:IL cs S x d x'):Rt cs S (es++[d]) (gZ++[x']):=by
 have hl:=h.len;show{by rw[zk,zk,hl];rfl,ju h.z,λi y q=>?_};by_cases hi:i<es.length;rw[List.getElem?_append_left hi]at q;let⟨a,b,g,j,c⟩:=h.st i y q;show{a,b,ju g,ju j,c};have:i<(es++[d]).length:=(zh.mp q).1;rw[zk]at this;have hi:i=es.length:=by have:i<es.length+1:=this;lia
 rw[eV hi]at q;cases q;rw[hi];show{x,x',ju e,eV<|Eq.symm ‹_›,v}
def Rt.cut(h:Rt cs S es gZ)(j:c<=es.length):Rt cs S (es.take c) (gZ.take<|c+1):=by have hl:=h.len;show{by rw[yd,yd,hl];simp,?_,λi y q=>?_};rw[List.getElem?_take,qc<|xb _];show h.z;rw[List.getElem?_take]at q;by_cases hi:i<c;rw[qc hi]at q;let⟨a,b,e,g,d⟩:=h.st i y q;show{a,b,by rw[List.getElem?_take,qc<|Nat.lt_succ_of_lt ‹_›];show e,by rw[List.getElem?_take,qc<|Nat.succ_lt_succ ‹_›];show g,d};rw[qa hi]at q;cases q
theorem Yp:IK cs [] [] [[]]:={rfl,λm kn e=>by cases m with|zero=>(cases e;show{KI.nil cs,λz=>rfl})|succ m=>simp at e,λm d e=>(by simp at e)}
inductive rE (t:ft) (ds:δ D) (S:av) (R:KD) (Z:KX):η
 |mk (ns:δ ν) (cs:δ<|ρ×ρ) (_:ds=[.i5<|ns.map D.int,.tup<|cs.map aB]) (_:Gd cs) (hN:∀c∈cs,c.1∈vT) (tb:Tb t S) (k:∀es gZ p S',Sub S S'->Rt cs S' es gZ->es.length<=100->S' p=ϑ (.lst es)->R (.ref p) S')
def A3(T:Txt w K mg t)(B:Bm mg base):Ok P w base T.kN 15 (rE t):=by have uZ:Ok P w base T.pS 7 (ZG t):=(Co T).HN λds S R Z h=>h.of;show T.kN.F.bV bC ?_;obtain⟨ns,cs,e,E,hN,tb,k⟩;show{_,(sc (cM (i:=2) bC.nd<|mk T.ua (AD T) (hr.mono<|`a) T.t_ T.cW.b d0<|al 1 an)<|sc (cM (i:=3) bC.nd J4)<|sc (cM (i:=4) bC.nd<|aI T.pQ (sM T) hr<|ac (aI T.eP (gs T) hr<|al 0<|ac di an) an)<|sc (cM (i:=5) bC.nd<|aI T.jj (rD T) hr<|al 4<|al 2<|al 1 an)<|sc (cM (i:=6) bC.nd<|cP<|ac (bY<|ac ds<|ac di<|al 5 an) an)<|sc (C4<|I_ (Sw T.je<|ac di an) (gn (i:=7) bC.nd)<|sc (cM (i:=8) bC.nd<|aI T.Ah (Gy T) hr<|ac (aI T.pQ (sM T) hr<|ac (bo nJ `u (aI T.eP (gs T) hr<|al 0<|ac (bo nJ `u di<|bo ke `u (dv 7) di) an)<|dv 7) an)<|al 1<|al 3 an)<|sc (se<|aI T.sL (Ck T) hr<|al 3<|al 8 an)<|sc (se<|aI T.pS uZ hr<|al 2<|al 8 an)<|s1<|se<|bm zO zX zY cL (dv 6)<|al 8 an)<|s1<|sr<|bo nJ `u (dv 6)<|cP<|ac (bY<|ac ds<|ac di<|ac (aI T.n_ (xl T B) hr<|al 2<|al 5<|ac (aI T.aT (bE T) hr<|al 4<|ac di an) an) an) an),?_};have n1:=pX;have n3:=gH;show{_,rfl,λa ha=>{a,cs,rfl,E,ae,λS1 F C8 Qi=>{rfl,?_}}};have Uh:St t S a [] F cs [] [] S1:={C8,nofun,List.nodup_nil,λb c e=>Qi b c (λm=>h_ e ha<|zC.mp m)<|(Sub.new ha) _ _ e};show λlk Mx=>?_;have U:St t S a [(lk,.b_<|gA [])] F cs [] [] _:=Uh.new Mx<|.b_ [];generalize S1.set lk (.b_ [])=S2 at U⊢;show !{ns,1,rfl,λc1=>{⟨c1,rfl⟩,λl hl=>?_}};have g:St t S a [(lk,.b_<|gA []),(l,.well)] F cs [] [] _:=U.new hl .well;generalize S2.set l .well=S3 at g⊢;show !!!{l,a,F,cs,[],[],[],rfl,E,hN,g.at 1 rfl,g.sh,RI.nil,KI.nil cs,λq S4 hq s4=>?_};have z:=g.sub s4;show !{n3,n1,λj Fs=>?_};have n:St t S a [(lk,.b_<|gA []),(l,.well),(j,.lst [.tup [.str "asked",.int 7,q.q]])] F cs [] [] _:=z.new Fs _;generalize S4.set j (.lst [.tup [.str "asked",.int 7,q.q]])=S5 at n⊢;have L:∃(F:δ ε) (rs:jl) (kn:Kn) (x:Hs) (es:δ D) (gZ:δ Hs),St t S a [(lk,.b_<|gA kn),(l,.well),(j,.lst es)] F cs x.dl rs S5/\RI rs x.dl.length kn/\KI cs kn/\IK cs rs x.dl x.kl/\x.kl[x.dl.length]?=some kn/\x.qs=[(7,0,q)]/\x.an=[]/\Rt cs S es gZ/\gZ[es.length]?=some x/\es.length=0+1/\x.dl.length=0:={F,[],[],{[[]],[],[(7,0,q)],[]},_,[HC,{[[]],[],[(7,0,q)],[]}],n,RI.nil,KI.nil cs,Yp,rfl,rfl,rfl,Rt.snoc (x:=HC) .nil rfl<|.ask `d hq,rfl,rfl,rfl};clear Uh U g z n;show{λs S'=>∃(r v:θ D),s=[some<|.i5<|ns.map D.int,some<|.tup<|cs.map aB,some<|.ref a,some<|.ref lk,some<|.ref l,some q.q,some<|.ref j,r,v]/\∃(F:δ ε) (rs:jl) (kn:Kn) (x:Hs) (es:δ D) (gZ:δ Hs),St t S a [(lk,.b_<|gA kn),(l,.well),(j,.lst es)] F cs x.dl rs S'/\RI rs x.dl.length kn/\KI cs kn/\IK cs rs x.dl x.kl/\x.kl[x.dl.length]?=some kn/\x.qs=[(7,0,q)]/\x.an=[]/\Rt cs S es gZ/\gZ[es.length]?=some x/\es.length=40+1/\x.dl.length=40,?_,?_};show{40,rfl,`a,`a,?_};show{λi s S'=>∃(r v:θ D),s=[some<|.i5<|ns.map D.int,some<|.tup<|cs.map aB,some<|.ref a,some<|.ref lk,some<|.ref l,some q.q,some<|.ref j,r,v]/\∃(F:δ ε) (rs:jl) (kn:Kn) (x:Hs) (es:δ D) (gZ:δ Hs),St t S a [(lk,.b_<|gA kn),(l,.well),(j,.lst es)] F cs x.dl rs S'/\RI rs x.dl.length kn/\KI cs kn/\IK cs rs x.dl x.kl/\x.kl[x.dl.length]?=some kn/\x.qs=[(7,0,q)]/\x.an=[]/\Rt cs S es gZ/\gZ[es.length]?=some x/\es.length=i+1/\x.dl.length=i,{_,_,rfl,L},λf f f f=>trivial,?_,?_};rintro i d s S6 hd ⟨r,v,rfl,F,rs,kn,x,es,gZ,st,hR,C,G,Y,Q,M,I,X,H,Nv⟩;let⟨hi,rfl⟩:=nM hd;have hi:i<40:=hi;rw[Int.zero_add];show !!{`a,ns,2+i%20,by rw[Int.natCast_add,Int.natCast_emod];rfl,λc=>!⟨{_,rfl},λl2 qA=>?_⟩};have g:=st.new qA .well;show !!{l2,cs,lk,kn,rfl,E,g.at 3 rfl,g.at 0 rfl,C,λo y=>?_};have y:=y.up;let⟨dD,J,N⟩:=y.as C;have a1:=C.len;show !!{lk,kn,o,dD,rfl,g.at 0 rfl,by show zj ‹_› `a,J,?_};have z:St t S a [(lk,.b_<|gA dD),(l,.well),(j,.lst es),(l2,.well)] F cs x.dl rs _:=g.put 0 rfl<|.b_<|gA dD;show !!⟨qm z.sh E C hR `b y J λS' F' ck jU Yn Jc a0=>?_⟩;have n:=z.T5 jU Yn;show{_,rfl,{rfl,_,n.at 2 rfl},_,rfl,_,_,_,rfl,rfl,n.at 2 rfl,bg<|`b,?_};have MO:St t S a ([(lk,.b_<|gA dD),(l,.well),(j,.lst<|es++[o])]++[(l2,.well)]) F' cs (x.dl++[o]) ck _:=n.put 2 rfl<|.lst<|es++[o];have hl:=I.len;show{_,_,rfl,F',ck,dD,{x.kl++[dD],x.dl++[o],x.qs,x.an},es++[o],gZ++[_],MO.drop,by rw[zk];show Jc,N,G.step Y y J N Jc a0,eV<|by rw[zk,G.len];rfl,Q,M,I.snoc X<|.l7 Y y J N,eV<|by rw[zk,hl];rfl,by rw[zk,H];rfl,by change(x.dl++[o]).length=_;rw[zk,Nv];rfl};rintro s S6 ⟨r,v,rfl,h⟩;show fo {_,_,rfl,h};rintro s S6 ⟨r,v,rfl,F,rs,kn,x,es,gZ,st,hR,C,G,Y,Q,M,I,X,H,Nv⟩;show !!!!{l,_,rfl,`a,`a,st.at 1 rfl,λm m0 m1=>?_};let⟨mn,rfl⟩:=Int.eq_ofNat_of_zero_le m0;have a2:=G.len;have em:=zg (show mn<x.kl.length by lia);show{a,F,cs,x.dl,rs,kn,_,x.kl,q,mn,rfl,E,hq,st.sh,hR,G,em,tb.sub st.vg.sub,λA p hA hp=>{n3,n1,λp2 O=>{_,_,(Sub.new O) _ _<|(Sub.new hp) _ _<|st.at 2 rfl,ae,sm<|by rw[H];change 40+1+1<=1000;decide,λp3 AF=>?_}}};have s1:=((Sub.new (c:=.lst<|(q.rows cs A).map au) hp).trans<|Sub.new (c:=.lst [.tup [.str "told",.int 7,q.pg cs A p]]) O).trans<|Sub.new (c:=.lst<|es++[.tup [.str "told",.int 7,q.pg cs A p]]) AF;show fo<|k (es++[.tup [.str "told",.int 7,q.pg cs A p]]) (gZ++[{x.kl,x.dl,x.qs,x.an++[7]}]) p3 _ (st.vg.sub.trans s1) ((I.sub<|st.vg.sub.trans s1).snoc X<|.told (b:=0) (m:=mn) ?_ hq ?_ (zU _) em hA<|(Sub.new AF) _ _<|(Sub.new O) _ _ ae) (by rw[zk,H];change 40+1+1<=100;decide) ae;rw[Q];show zC.mpr rfl;rw[M];show zA
def QI(ns:δ ν):(eB ns (some 2)<|some 31).length<=31:=by unfold eB;rw[show HT.sIx ns.length 0 (some 2)=min 2 ns.length from HT.sIx_nat ..,show HT.sIx ns.length ns.length (some 31)=min 31 ns.length from HT.sIx_nat ..];show zj (List.length_take_le _ _)<|`b
def Uq:eB l none (some ((c:π):ν))=l.take c:=by unfold eB;rw[HT.sIx_nat];change((l.drop 0).take<|min c l.length-0)=_;rw[List.drop_zero,Nat.sub_zero,<-List.take_eq_take_min]
theorem O8.ee{t:ft}{S0:av}{a lk lw la:ε}{cs:δ<|ρ×ρ}{fs c:δ<|ε×Ce}{x:Hs}{W:GV}{Qa:δ Qn}{F:δ ε}{rs:jl}{kn:Kn}{S S':av}(h:O8 t S0 a lk lw la cs fs x W Qa F rs kn S)(st:St t S0 a ((lk,.b_<|gA kn)::(lw,.lst<|W.map wD)::(la,.lst<|Qa.map Qn.q)::c) F cs x.dl rs S'):O8 t S0 a lk lw la cs c x W Qa F rs kn S':=⟨st,h.ri,h.ki,h.hi,h.kn,h.lq⟩
def QJ(t:ft):jb:=λds S R z=>∃ns:δ ν,ds=[.i5<|ns.map D.int]/\ns.length<=63/\Tb t S/\R (.bl true) S
def O_(T:Txt w K mg t)(B:Bm mg base):Ok P w base T.law 20 (QJ t):=by
 show T.law.F.bV gp ?_;obtain⟨ns,e,SM,tb,Y⟩;show{_,(sc (cM (i:=1) gp.nd<|aI T.pR (EW T) hr<|ac (aI T.pQ (sM T) hr<|ac (aI T.eP (gs T) hr<|al 0<|ac di an) an) an)<|sc (cM (i:=2) gp.nd<|mk T.ua (AD T) (hr.mono<|`a) T.t_ T.cW.b d0<|al 1 an)<|sc (cM (i:=3) gp.nd J4)<|sc (cM (i:=4) gp.nd<|cP an)<|sc (cM (i:=5) gp.nd<|cP an)<|sc (cM (i:=6) gp.nd<|cP an)<|sc (C4<|I_ (il<|bo nJ `u (cP<|ac (aI T.eP (gs T) hr<|al 0<|ac di an) an)<|sl (dv 0) (o1 di)<|o1 di) (gn (i:=7) gp.nd)<|s1<|se<|bm zO zX zY cL (dv 6)<|ac (aI T.Ai (Ml T B) hr<|ac (aI T.pQ (sM T) hr<|al 7 an)<|al 2<|al 1<|al 3<|al 4<|al 5 an) an)<|sc (cM (i:=8) gp.nd<|ct Ke T.t5 nI<|al 6 an)<|sc (C4<|I_ (Sw T.je<|ac di an) (gn (i:=9) gp.nd)<|s1<|si (twd<|twor (bf i_ `u (aI T.pP (lN T B) hr<|al 1<|al 8 an) dn)<|tw1<|bf KY `u (dv 8)<|dv 6) (s1<|sr db) s0)<|sc (si (bf i_ `u (aI T.pP (lN T B) hr<|al 1<|ac (aI T.kN (A3 T B) hr<|al 0<|al 1 an) an) dn) (s1<|sr db) s0)<|sc (cM (i:=10) gp.nd<|bo ke `u (aI T.eP (gs T) hr<|al 0<|ac di an)<|bo nJ `u (cb aW T.aU aH<|al 6 an) di)<|s1<|sr<|lU (cm i9 `u (aI T.pP (lN T B) hr<|al 1<|ac (sl (dv 6) o0<|o1<|dv 10) an) dn)<|CZ<|cm i9 `u (aI T.pP (lN T B) hr<|al 1<|ac (cP an) an) dn),?_};show !{ns,0,rfl,λc0=>{⟨c0,rfl⟩,λl0 Zs=>{l0,rfl,ae,λcs z hN=>?_}}};have v:Sub S (S.set l0 .well):=.new Zs;generalize S.set l0 .well=S1 at v⊢;show{_,rfl,λa ha=>{a,cs,rfl,z,ae,λS2 F C9 a0=>{rfl,?_}}};have Uh:St t S a [] F cs [] [] S2:={C9,nofun,List.nodup_nil,λb c e=>a0 b c (λm=>h_ (v _ _ e) ha<|zC.mp m)<|(Sub.new ha) _ _<|v _ _ e};show λlk Mx=>{pW,λlw MB=>{pW,λla O9=>{pW,λg J=>?_}}};have O6:St t S a [(lk,.b_<|gA []),(lw,.lst<|([]:GV).map wD),(la,.lst<|([]:δ Qn).map Qn.q),(g,.lst [])] F cs [] [] _:=(((Uh.new Mx<|.b_ []).new MB<|.lst []).new O9<|.lst []).new J<|.lst [];generalize av.set (av.set (av.set (av.set S2 lk _) lw _) la _) g _=S3 at O6⊢;show{λj S'=>∃(r:θ D),j=[some<|.i5<|ns.map D.int,some<|.tup<|cs.map aB,some<|.ref a,some<|.ref lk,some<|.ref lw,some<|.ref la,some<|.ref g,r,none,none,none]/\∃(es:δ D)(gZ:δ Hs),Sub S S'/\Rt cs S' es gZ/\es.length<=40/\S' g=ϑ (.lst es),?_,?_};show !{ns,1,rfl,λG=>{pX,λp1 AI=>!!!⟨λp2 eX=>{_,_,(Sub.new eX) _ _ ae,ae,?_,λo Lp=>{_,ae,?_}}⟩}};rw[CC,zc];have:=QI ns;show sm (by change 1+_<=_;lia);rw[CC]at Lp⊢;have eL:([D.int G]++(eB ns (some 2)<|some 31).map D.int)=(G::eB ns (some 2) (some 31)).map D.int:=rfl;have a3:(G::eB ns (some 2) (some 31)).length<=32:=by have:=QI ns;rw[zM];show yH ‹_›
 generalize (G::eB ns (some 2) (some 31))=n at eL a3;rw[eL];have iZ:St t S a [(lk,.b_<|gA []),(lw,.lst<|([]:GV).map wD),(la,.lst<|([]:δ Qn).map Qn.q),(g,.lst []),(o,.lst<|n.map D.int)] F cs [] [] _:=(O6.sub<|(Sub.new (c:=.lst [.int G]) AI).trans<|.new (c:=.lst<|(eB ns (some 2)<|some 31).map D.int) eX).new Lp<|.lst<|n.map D.int;generalize ((S3.set p1<|.lst [.int G]).set p2<|.lst<|(eB ns (some 2)<|some 31).map D.int).set o (.lst<|n.map D.int)=S5 at iZ⊢;show{λi j S'=>∃(r:θ D),j=[some<|.i5<|ns.map D.int,some<|.tup<|cs.map aB,some<|.ref a,some<|.ref lk,some<|.ref lw,some<|.ref la,some<|.ref g,r,none,none,none]/\∃(S0:av)(x:Hs)(W:GV)(Qa:δ Qn)(F:δ ε)(rs:jl)(kn:Kn)(es:δ D)(gZ:δ Hs),Sub S S0/\O8 t S0 a lk lw la cs [(g,.lst es),(o,.lst<|n.map D.int)] x W Qa F rs kn S'/\Rt cs S0 es gZ/\gZ[es.length]?=some x/\es.length=i/\Qa.length<=i/\W.length<=i,!{S,HC,[],[],F,[],[],[],[HC],.refl _,{iZ,RI.nil,KI.nil cs,Yp,rfl,⟨nofun,nofun,nofun,List.nodup_nil,nofun⟩},.nil,rfl,rfl,zm _,zm _},?_,?_,?_};rintro i j S' ⟨_,_,_,_,_,_,_,_,_,_,_,_,h,_⟩;show h.st.at 4 rfl;rintro i d j S6 hd ⟨r,rfl,S0,x,W,Qa,F,rs,kn,es,gZ,s0,hx,s,MC,N,a7,UG⟩;have hd:(n.map D.int)[i]?=some d:=hd;have hi:i<n.length:=by have:=(zh.mp hd).1;rwa [zc]at this
 let⟨c,_,rfl⟩:=zf.mp<|zK hd;have Nv:=(s.bd _ x MC).1;show{_,rfl,{rfl,_,hx.st.at 3 rfl},_,rfl,⟨c,rfl⟩,λl hl=>?_};have a5:St t S0 a [(lk,.b_<|gA kn),(lw,.lst<|W.map wD),(la,.lst<|Qa.map Qn.q),(l,.well),(g,.lst es),(o,.lst<|n.map D.int)] F cs x.dl rs _:=(hx.st.new hl .well).perm<|.cons _<|.cons _<|.cons _<|List.perm_append_comm (l₁:=[(l,Ce.well)]) (l₂:=[(g,.lst es),(o,.lst<|n.map D.int)]);show !!!!!{S0,l,a,lk,lw,la,cs,[(g,.lst es),(o,.lst<|n.map D.int)],x,W,Qa,F,rs,kn,rfl,z,hN,hx.ee a5,tb.sub s0,`b,`b,`b,λe x' W' Vm F' ck dD Um R s1 Nt hv a9 b0=>?_};have I:=Nt.st.at 4 rfl;show{_,_,_,rfl,rfl,I,bg<|`b,?_};have a2:St t Um a [(lk,.b_<|gA dD),(lw,.lst<|W'.map wD),(la,.lst<|Vm.map Qn.q),(l,.well),(g,.lst<|es++[e]),(o,.lst<|n.map D.int)] F' cs x'.dl ck _:=Nt.st.put 4 rfl<|.lst<|es++[e];have a6:St t Um a [(lk,.b_<|gA dD),(lw,.lst<|W'.map wD),(la,.lst<|Vm.map Qn.q),(g,.lst<|es++[e]),(o,.lst<|n.map D.int)] F' cs x'.dl ck _:=St.drop (y:=(l,.well))<|a2.perm<|.cons _<|.cons _<|.cons _<|List.perm_append_comm (l₁:=[(g,.lst<|es++[e]),(o,.lst<|n.map D.int)]) (l₂:=[(l,Ce.well)]);have qA:=s.len;show !{Um,x',W',Vm,F',ck,dD,es++[e],gZ++[x'],s0.trans s1,Nt.ee a6,(s.sub s1).snoc MC hv,eV<|by rw[zk,qA];rfl,by rw[zk,N];rfl,`b,`b};rintro j S' ⟨r,rfl,S0,x,W,Qa,F,rs,kn,es,gZ,s0,hx,s,MC,N,a7,UG⟩;show fo !{es,gZ,s0.trans hx.st.vg.sub,s.sub hx.st.vg.sub,by rw[N];change(n.map D.int).length<=40;rw[zc];show zj ‹_› `a,hx.st.at 3 rfl};rintro j S6 ⟨r,rfl,es,gZ,s6,s,N,J⟩;show !{_,_,rfl,.inl J,λH A=>?_};have s7:=s6.trans<|.new (c:=.lst es) A;have h8:(S6.set H<|.lst es) H=ϑ (.lst es):=ae;have I:=(Sub.new (c:=.lst es) A) _ _ J;have Q:=s.sub<|.new (c:=.lst es) A;clear s s6 J;generalize S6.set H (.lst es)=R at s7 h8 I Q⊢;have M:=tb.sub s7;have U:∀d∈es,Lr R 59 d:=λd hd=>by let⟨i,ei⟩:=yt hd;let⟨_,_,_,_,hv⟩:=Q.st i d ei;show Ul hN hv
 let⟨pd,d1,d2,d3,_⟩:=Lr.all U;show{λj S'=>∃(E:θ D),j=[some<|.i5<|ns.map D.int,some<|.tup<|cs.map aB,some<|.ref a,some<|.ref lk,some<|.ref lw,some<|.ref la,some<|.ref g,r,some<|.ref H,E,none]/\S'=R,?_,?_};show{2,rfl,`a,`a,?_};show{λi j S'=>∃(E:θ D),j=[some<|.i5<|ns.map D.int,some<|.tup<|cs.map aB,some<|.ref a,some<|.ref lk,some<|.ref lw,some<|.ref la,some<|.ref g,r,some<|.ref H,E,none]/\S'=R,!⟨rfl⟩,λk k k k=>trivial,?_,?_};rintro i d j S8 hd ⟨E,rfl,rfl⟩;show !!{cs,H,es,gZ,rfl,z,M,h8,Q,by show zj ‹_› `a,_,rfl,aL ?_};show !!⟨KZ (.ref h8 d1) (.ref I d1) (by simp only[PyData.canLay0];show d2) (by simp only[PyData.depth];show zR ‹_› `a) !⟨aL !⟨rfl⟩⟩⟩;rintro j S8 ⟨E,rfl,rfl⟩;show fo !⟨rfl⟩;rintro j S8 ⟨E,rfl,rfl⟩;show !!!{ns,cs,rfl,z,hN,M,λX a8 p2 S9 O Z l2 h2=>{cs,p2,X,a8,rfl,z,M.sub O,h2,Z,l2,_,rfl,aL ?_}};have Yr:=O _ _ I;have a4:=Q.sub O;show !{ns,1,rfl,λc=>!!⟨.inl {_,Yr,`d,?_}⟩};let⟨L,ec⟩:=Int.eq_ofNat_of_zero_le<|Int.emod_nonneg c (show(((es.length:π):ν)+1)≠0 by lia);have DN:L<=es.length:=by have:=Int.emod_lt_of_pos c (show(0:ν)<((es.length:π):ν)+1 by lia);lia
 rw[ec];show !!!!{_,Yr,λp hp=>?_};rw[Uq];have C:=O.trans<|.new (c:=.lst<|es.take L) hp;have a1:=(a4.sub<|.new (c:=.lst<|es.take L) hp).cut DN;show{cs,p,es.take L,gZ.take<|L+1,rfl,z,M.sub C,ae,a1,by rw[yd];lia,_,rfl,bX ?_};show !{pW,λp3 AF=>{cs,p3,[],[HC],rfl,z,(M.sub C).sub<|.new AF,ae,.nil,`a,?_}};show{S,(s7.trans C).trans<|.new AF,Y}
def Mn(t:ft)(K:Φ):Sp:=λvs H Q z=>qH K (QJ t) vs H Q E0
theorem Ur(T:Txt w K mg t)(B:Bm mg base):bO P w K mg base YQ 20 t.Qd t.K2 ["_law_script"] (Mn t K):=bO.calm<|O_ T B
def Mp{w:Ω}{K:Φ}{mg:ρ->θ ξ}{t:ft}(T:Txt w K mg t){H:Hp}{a:ε}{ns:δ ν}(hl:ns.length<=63)(g:BO t.ts H)(j:fP K H a<|ns.map V.int):Mn t K [.ref a] H (λv x=>v=.bl true) λx x x=>False:=by
 have l:PF K H a (ns.map V.int):=by rcases j with (h|h)|h;rcases g.all a with q|⟨o,xs,q⟩|⟨_,q⟩;rw[q]at h;cases h;rw[q]at h;cases h;rw[q]at h;cases h;show .inl h;show .inr h
 have i:t.aQ≠t.aX:=λe=>by have:=T.np;rw[e]at this;simp at this
 have tok:∀q,FU H q #[]:=λq=>{trivial,λx x e=>by cases e};show{[.i5<|ns.map D.int],λb=>if b=t.aX then some (.tab qK) else if b=t.aQ then some (.tab qV) else none,λd x=>d=.bl true,λx x=>False,aP (JZ l<|FT ns) bA,λb c e=>?_,{ns,rfl,hl,{qc rfl,(qa i).trans<|qc rfl},rfl},λd S v H' e r x x=>by subst e;show r.bl,λx x x z=>z.elim};by_cases h1:b=t.aX;have e:=(qc h1).symm.trans e;cases e;rw[h1];show{#[],g.tab _ T.nZ,tok _};by_cases h2:b=t.aQ;have e:=(qa h1).symm.trans e;have e:=(qc h2).symm.trans e;cases e;rw[h2];show{#[],g.tab _ T.lZ,tok _};have e:=(qa h1).symm.trans e;have e:=(qa h2).symm.trans e;cases e
def Us{P:Ψ}{w:Ω}{K:Φ}{mg:ρ->θ ξ}{fa:ε}{ts:δ ε}(j:mg "law"= some (.ref fa))(T:∃t:ft,t.ts=ts/\Txt w K mg t):∃(fd:FuncData) (sp:Sp),(∀b∈ts,∃c,codeHdIn K c b=ϱ)/\(∀(s:ζ) (u:ξ),BindsTo s fd {[u],[]} [("_law_script",u)])/\(∀base:Γ,Bm mg base->K.In base->base.Ns mainGlobals mg->bO P w K mg base YQ 20 fa fd ["_law_script"] sp)/\∀(H:Hp) (a:ε) (ns:δ ν),ns.length<=63->BO ts H->fP K H a (ns.map V.int)->sp [.ref a] H (λv z=>v=.bl true) λz z z=>False:=by let⟨t,d,T⟩:=T;have g:=j.symm.trans T.law.m;cases g;subst d;show{_,_,λb hb=>(T.ta b<|hb).elim (λe=>{_,e ▸ T.dP}) λe=>{_,e ▸ T.dj},T.bl,λbase B n l=>Ur T B,λH a ns hl h i=>Mp T hl h i}
end My
end Tactic
open Tactic
local macro_rules|`(command|universe $xs*)=>do return Lean.mkNullNode (← (xs[0]!.getId.toString.foldl (fun (h,n,k,l) c=>let n:=n*62+(if c.isDigit then c.toNat-48 else if c.isUpper then c.toNat-55 else c.toNat-61);if k=9 then (h+n-10*62^9,0,0,l.push (h+n-10*62^9)) else (h,n,k+1,l)) (0,0,0,(#[]:Array Nat))).2.2.2.mapM fun v=>`(command|theorem $(Lean.mkIdent (.mkSimple s!"tw{v}")):ident : True:=trivial))
namespace PySem.W.Fast
universe AWTufk2CP9CxyDdDfj1bB50lJFtowMBziZPVGfxtD8oejAK5vOAEa0tuL18ODc9k1jAERKAO84bwrCe4AiepGOTs1gAqf0EifJwCA3yrbLARS9A7EBGRc5npBQDxx4xsFsAJ1s3hD6B8BVIwkIfDGiAiY6LFiEk5A3ydzIdPyXA0YwwfFH23Amk7Gf7ygbBn4sA5VgAbE9Iy0GH1U1BGvxZbx7PXAEFOfsyzTEA9HYoGbibzDE63qzWv1EBMXHRwY8BRB71WVKGhLhCWROCJgM5vCZYCDkOM30B6rVzFJYF6A1lmyPIStiBsmXcl6YlgA9jpng1NN9AzlapQjEOCCi09Q7IVPWCBLnKafLR9AF8LjSnHjBAj8zgU6xeqB0hppnzpSpBfza5b9jldAHSZuooiJxB6tPKXu3JGAom4enTbZoBnRS3Jv7qpB2GPvUdkbmEgduESxgI9DPcwbiIwntASPlgj7yHbA05QupUc3CBfQEE7PRNuAB4jnwYQvaBYcFeeWvWIA2rzfHQM9gAXffFWwei5CxrI2mTqTtAuto9rEhNfC9ubma3GsaA0xr2BiTlOAkMjDDRFZZAOqu2jqKzzBn1iyTnuimABgVFONGaCAEo3Zy6ViSAkWnFqbmp1ASmvTxnO0xCyO2Fp7MvpA6FVnsh1xiAFItunQlzfBVokRA3dtgFqnV4K9OryEAIsDKxnGyCPkK2tyyHPDOlkohINcMAOj2ajgJ5eAYPtR8UYL7BTM8zASlj8AOuaB7b6LRCZNMf8shMdBRgk5ir6AcAp5Scm1LHOACZ6eR69s4EXbdF92lfyC8wbsvgAl8ACtbV29uAIAhtmMq92BsBGn48Z8iLnAVxGas3kqpDzVR1l7kgJAmsrQ8mlPiB9c590GTawAZkgteS3fLDMLdTipP5BCM2od6Lj1dDOaedpRf0jAxrjDXW87tACV2EmTGPhCbG5GkW0KbCBB0ARELKKB7Iq8lcfAvAonKiBZisQAyjfHUlgNSCABOmZlAIvBHpUlYAOIfB7b7ugpoTHAAs97kiiHKAzRDSLtwNLIimPYP5Hv0C1FYEWoA5OAQ3Zu3WHJDA4Xdts4v6BA12BRE039lAFh97etJa3DQm9WN8L8JAxaBuecZsTAeYmnKvb5CA89iu8ZKckAJE7bq8ygyBTTgcL0xa5DeowCynwQOAexfOYxHKhARWPiNkOPEF4xc8HG3skAVoHNZZJLmBPk698DuB4Bjko6VuHoNBcP2wQowaxC3xZtRZfbqD2GzVDb88YApiT3wzTkuA7Rti83n05BOa5oCWHFADviiiJooeoB7ObiGNh6kARTIrcYZpcB6Le7tTN3XCg9OjVWJqYC87iJMBLmLBP6tmTL4gkATKoFueirvAS0GPiqmJiARYelOkEktBJiHyUNpqyAuWl0VQ4ccAsLqXKAn4bAq9pvSBZxIClO9aOkPU4Eef1Ik9lB3APoYKsCtYeBWgtWCmKigAaTbIULBiOAU3vbo2ogrAZMUSUYWSVFM1x71mvG7GFXugDQKlaCCU9jjYTaNAZorlTT0l4Ax9gkeK9GlBPpUZFLHAKAs9Yprq1lZD3THhMbgQ9AoYybQKmomG0uOkXhgEgCpvc9E0PGCAMkhXQLlTPECKIydKslgAMGdqYgMfvA9MKyVAlmjCcpKJz3beiCYwV3LskcuA1cQS0MTmXAhTlG2q0WCA1LJ6CLZf4B090j000snCkfD68alfgCaLAjn2qNZA4UYSsLErYAvDoqEBgGXASY8pzEWFoA6z61SJ525AVTOd2GC4qAHJ1jADoc4B4sqSBI2hjA1KFJoIk57AZ12uzw8TQAtuogaDrT0Bw3wOwojpBA3fkjqESXzAaJG9wNi2aAuczvHMludA9JGrVsrFmEqSkxHDF3WBM3lMVt4ytBmC9lfBb2PAGcLrZirFbAkARLwNoPsAapaZYt9KKAA9pNXwEMWAM2MqLVJ0bAUMNbgBOYvA29IfXTouvBks7wR29LSAW6WY6XuNfAqL4tcpp37Amwp2NuYUIDMYRaqfK5cACcJuTAyiUBKs4xoxdLEAPZ1lfan5zA57PKeDVFcA8UDAuhQNFCHSGOWObkUATiHBnxH1CCqgYXsWJdjA1VeOhyhR8BnRPtEegTKC2rMkyg0TAAYTusPHp3SE1f5WlDQsjANrPzXHxbqBVo4Mzy7L4AGY26YCFNuBkTfyljh5jBu7bYqyMkBEh3WcrZY25BMtC8jVFXHBS8w7XeyyrC5DrkKq1j1CcWKIpiDkCBN7x8zjSvVAJpfolCWWmAfnpSsnalLAxuTLbSf1zBN7KuRchDsBlD24YW2ZcB6uZBEIAu2AbIFauvCPZCVrL2YuRTFBOLZGn6Ub3AN0moH1sCCAyMuaBQnCmACGMKW56ZKBhVyZsoUPaAcwE4rGbYVBu20g7wf5zAzHbdNGsUYCrHll6lFfTCZujIn2HiQArD5NmNrD4CSlXnRGsMSA9tvD4kfyoA6PQKAiwDYAo17WgA1XbDQT7VgFCK4Azjjh1Lj8oEo9szDqbeFB4lbRieAPECRvkZp13MjDsU7MLcXniChLdHk4qiRCqNrptEPjiCbt2h2SHxaADiacrWjmnD2uyZVlgHuAO31UcQuCJCmPXHXulmlA48zf4OuUsE8YGXe1cJOBi61iPn2MZA2SbQ2TMZxA3siEGJI4OGTAIYkRqISBhz7sIovraADM6sbHCZMA20zrTrOwCAjswhDUT1WADG5iGYTXwCPDICR7zRcEqCAmNyTq3Cl7P9QGIHTAT8Xfxp2MNAUWWwFvKDOAq7uzehJgmB4bEU0Y3HUC5gYKt4MnfBFCYk2Uv1TAStwlkpJVDCSZHYOLU4iAM1NsM8GhCCKtqjUHZHpA3hQbZJpLgEhmwE8NXBiCCes4EvWAsApwM9rP19BG1WWaftNXHA5TqsbQgAOCYpenEEAzECWU0drE2pYBQfsu8608TDWnNqbigdeBNFo0BvMmlCcoEuyvZXzC4UFc5gCyDA3oG5SrlfmAzHpQVLrOrAFkYkgVeubAXGfepBG7VAtnRLw63KUDAA9CRsFpaDSWGnuBakDABNIai6Q8dAg1IEU00iSAhvhhAH8KgCE7Nu6U043AseHel4CZ5A8Yqs7RZJIB2xJYDgeAcCHJJ7iG7tqB4KdXsWw4iBGDKcX6g49AVXd6BbTP2ARvDKXPefDA1Q2eju1s1B0eLYtqrvKAaD99Uf4qvHFIk7E5wOnAtNvqFKtTLAXyQruMIu7CRmqXdubMdDIqQme39JAAHFNODQ18wAL2JB9noejD3dRzJS6DuA2HWjsa96LBDldl4fmCHD8P0s8qt2rD7zfosRU9AGwrpQAwy94CuomBEsTxtBzZIOaTNNJADTTmBr0QmA4UtpPrR4aB6j5FIgW4YA8ZhzJM0X5FE1HQvizGZEcRB91hSFeBDsslIy069AOEW3tQoE3Aig6fKLN2xB0OkPOvMD8CRDFrd26twApFXmZ0cZUEInzTGpYCTBcHE2R3NJOAjKnSzQDvXBiUgjEU5FRAuT2p4vO90ATszBexgpKF023zPeOoHB3JOeLaebsFR17oTNfZ5Arhe6l4njUBK9sssbY1EASIuXvtSS5AGPNxVt82xAisoBUPcNsHcnNwKE4xZAIRTg72VlfApZt20uf22AZi3T1PiTtABE2AfrZM4AHS0C5pB88Aj82R441vUAvPLHGPwJnDbWKjLVUciDZPSqKl4IjAF4SuRCl5XAbltO5PpXmBECRONN2HiAyt5OTCOHCBlr2CYKonyBIhr3QThb4Bss7abAAQNAsr1BUyJqpA05bA1WJjDCDbkLp0QaOAP3S6PwEM5C9FNSl4a7ABJTdOMfavaBOI621CmMFApmbW2YimTAEhchN16vZCCwzs38swXAq9djyYgSvAO8VRg3gsnB70OMykrY3Bvpf9fbEHRBmt5PDUEWXCTGyAO85X4B2GR6R3M5YCIurIapzIKAXWDKmX66uAoJ7v64HafBwn49FirBXAxJm42A4RXBcMGMEOqGlDRWlPRn1xKCDX0luYMRFCTSbh44goeA7Y2uCJvGJA02Pa48UW2A4wzjAaHbNAMZGRGGSiiAWGR6Yah1bCq5BzYV0x8E1FCz2xVXSB7IytKxX6ODbgw1KWgOxA1VloSD6cBAir95voXyqCiowDjd78ABYtNS7r3eWAsAD72VjNEA1J8xFYo3rFcgkrNi7VcAtpgmanCLdAsoAlZSdTzBpm3KSUxLtA36mECaiBLA2FTLBTxlhAnrIx74GgHBGpZD4jiJ8FebwUNgp0vC2hyFDR566Agc9Zm3oCxA6RND3cPHYBmzeSQlNAxANuv6ghJEuAdmRRLkV4uEfre31aM61A11ULWEaI8CRbRegg7ikCaERbAP8zbAEeV3kbeiRC3DIwg4xFtAZ8PXieFdzAJOCxwlQhlCddGdTuK8NAURsE0HIpdD2bsZxXSN4EhzGFE6dCAArrsS5IpL7CN7hWmh1m4AdiMbVhAqbBwzkFGnFteAqyIqlJDvAByJpjDQYnCC9q95A44ZUE2AjPNp8SRDPlXViUXZNADEkpVe4UcARqaef8peMCxKdHPPzv5AS8Qn2HMQFCBQiKE9xPUA01ZPoz9azA7bUCWbUi4DuH8WN7VC7AShHttFdCCAcTfcAGmtJA0IuVY5eIJBAxQQHOwWWBklG4tYGIuAHLaF6xfP9BabjmZHWeHBIBAnGLORoFWTZHBqygmAQvgdTKM1lBVyrV1LoWlFS65KenL5pBJmxY1bJQCANJXMUftY6ATrp934DgGAgi8zS0HKuAIsnO7gAsXDPosywQoCGAz8bmYwwmMDln6HSDsulALqiZYA3dKBMQ3JjSpdEACjMtEozxbAJdkrhGeVcAZlVhLbtwYAjbWmMwYU3B8vKVjFdc2Aw0PZl51qZA094Xmj1mGB2EngzcJ3bB0xdMpSIBQCuVIjoJaW5AoLi3pfSDJAFYTCF9N3oFSKLIfa3ZkABVxbxn4eACKPfR3LIyoA3z73CEOXKAEf6iadK1NBckqMMLMxgCPoFtmdQn1C0iAFcACEsBMaZcq4o4zAlbmVF2QaAD9RotKcUDGD612IykujNC0pBGcin8sAvQlEhdidFAtomHl6gY1Ae3FgzGHudAITkGKw5kdBdbsWYyo1TAaVYRor2gpChikL5dMDYAzjeRMb8cyB6lLdotDUVBMKceFyszlA7iesfAyyjAHbVkJICAbAKz7pZ6BOlEt7MTw3ca0BpywSc3ngnCmnKdUqk5CAzvoOCOudLB70nXBRgQ4Ak3MMlmBkNAzS39eyrFwAQktDsKGpEAMdL6gDUUfB4qvWq9eceAMW8YBgPccCQtE1het47A2AVqAUkzTA8M4gyXW0iBCTdGOusIsAZEOHLt5uhASvLCGpK7PE6ATvMp6rUBASQerJ0ZjCiYk7ULNw8AUJP7j7bh4B3CwuxkUlVAljkYhuOnqFUOgwBT4NEBX5HUtO5RQD0qkLrfgfxCHEeW1KDqBBo86rIMA7HAMO1ZOQ5IKB7Qp517lYsANt4jGRzI7ABLd8NjLTrB8gOtvnxSXCIPLOf3uN4AEbxTTUiGjCfXFWlCRA5FjjsH71QehB7pBhAhoReB9JVhRYAooAZHD4u2JocCD5aeBlOn4Bnr9xp08zpCvSWQay48qB7HSRcHO3mAQFom6LVynDObYyIevzyA9jRXVWLJQBMjGY6qK6jBoCgCj5QpNBNkJsLK5NAAKOS3B2sqhAJmYXXSPQjAJ7GP6xlsMAD6YAfeVu2A3odwnLoIGAZp3hAlhk0DVySL874GbAMUNHRkOkPDO3OAZSE5hGLYJya5bsSB7nWgbaF5jBV9ELydDXxCNgQxsFRS5CzJ53jV8TnBwPMzawlNWBrRZbozWq5Av97OYkCNPBjiKJnBPjIAU8RfFyCi7C1E5pWueS1AGaCOMhSNqCROzp95v9AA0lUkSdxU0AUTMHp31GnCwUo2y0AIDD6cC3CooCQC9nd952cqcBsFVfGiEXDClkGYwbmwOC1apdoA1Z9AAyMUBfmtaAAruRHeSmiFQQKU9WxSIDbLkqvizy0CWVoA536Y2AcOkXf7mQ6AlOv736XulA0HViZaiHBAXGvYCbbyNBpgIixmSj3CDxNPiIrdxD1i5IpHtetBNcNzrmW3VBPCaQ1gjM7AkSZCjKbAqAMKfkltAKhAGtOikctCxBNmMAhwvZBB5BqjVLSIfBcQUOHqyyHDCnYzUyy2GB9qCYQwTMZF7zWMok6nvAbqKXtgXHwDrdNXdbcPuASzRvMj68cAUmkRMDgMGCgtQ46iAAXA9cFfsafjzA4wEL8CeeABqI4IJUtV5AIrfvlzqYcHXuqNiKa93ACP9omjfVnB21Px6KE6MAaWiFGRFsBFEZiP1xvGiCLHshBYRJyBWY9Ydi6qoBOZwL1oCdjAqzmOiIUZ7D81NUvthWfCPQSMXCOI9AIXcHtAXWJC3oUFPkNl0AnXQGcXzwAAGAADoOACdCPrqF2A7m8AeRP3PDPhzBWDyk2YcRxF8ui2i2VQlEU032j9qDwBL9vxeq73kF7xjXl4uFAFXmoR7qfDLCVbIjpFH4GAIHhwnMbjiAR6uxjpcujBl1M5v8WEjAjJ9B6wsbqA6lOFn6do5EGZ6phJ3D1CN2j2k7c69CAkr5J4tnGCkodlCyn5nAVB0G4qJGjAPOqMMmjIrAcp6PsFYx5AMIJPm9jQWCjE9gP3if2AxLnLxTXtNBoFZikV0xOAHasOBxvCoA9wCMwaqXaAA5kpS7A1bAVwHokzEVNARI2IIvrMNAhxdd1ykrEAJD3aYbEOkBqgJQRIqWxBOEQXtlaSTBkqR17h8csCZSqVX6ksLAQ7TKUs93yAnNTzk840qA2VWK6VStWBVG4xnyo9BAmvlh3nXikBAcBEkbcj2F1M47j1xeiAGsmlAoxWKAEhuXMqHaQC7LX1unOY9AVBXHA94EoAyFnTVErKIBskK1AKkd7FFtrku6vtwAlsrQusMb4AIPqAoagx8Aee0v8gkUoA5JRYuYbKVBNUxgIkTG4AjQ5BsF7drAKzlteVa7vAacXZCxXojA70PdsezZHBYLFFSinrKAC0E1u92qeAocNwgUZH1A0Q3emmNHOALDSrtO729AKP0N0Tn61AJW62IUIsfC5iSa5AtHVG568AY7GIXBhILFUanBGANIWs3QHKdAjtmcgfIP2A08bjnMafWBeRR4Z2rzZBLVGcZoQU3FS4PqhFS7jFMlNarr1hYB5VJQv4X4TAMY5s0OrCPB31IBHyslDA7UhTAGkL4BpaCjfZrxOCNqR9zUXz2AFaUyIwPdkA7GOXSl5qSBXOeoTIAUVB6fLax0IEwAue7wEepc5AVSjB46ckkBMABHMKITrAy1NCiRLL5A36MAPirhCB5nFjfsWBpAuym5BLxecAHKk1ZGtTrA2C7DsmO1fA0y9ix7iaXBCjlN9FJN9AOSHFESkAjM28ycFPHC3F6T7WdlIF6AM7h6Cnk44EC60q6a5ZSCokvjyWTT0ADoIB4tn8WC2ZXJDycLVAdY1BOvoClAQWkAZfZ3JEzEW94CP5MAC1g9H0ZpQAQMhNVMujbCBSV6ZWwx7ADh0foBUoVGMLSAK8cUbBEjOBpnBQeBBQBfXAWx0BiY3eJy7TYB1JwjUt3u3B4EqSDQnyJAJgVOA7Ur1Auac7KMBDBCrScnaidz3AuSRAiytJaA0UXjy9unsA1DT4WufE5BNiuDc3By6BP9wVlhVohCmbTSJ6fxkAZMIh294DoBvaxnoCmBoBqXtFw8hoMB5swtUrZAYGF8znB31wZC0x65wIpODC3kGin7ZBuBh86leQo87CExXirJLAZAa5AAAKbNoB2Ij9bjqqUBXoqpQrJq3BfMAMnkL2QCJzxiQVEUCA4leyATXDFBbUemBfoJAA3rJhB8g5SAgBg3JmkyPAbxl2HLRHHA2hGrfCu5sB0zln5JlP6AuqnlUWRehBHsWBy5Gb3An4r24Lr5OABo2JVbTopCg6FLMBCuCCfvwDUiyirBB55ozXCsUBINSK7Wr39A6e6yvvmdiBwYFSErfmRB6gypBFHasAMIMB6zvjWCFT3tSx346CWpWkjlFDDCwaUEVoBSnBMYWJwDohAAsT6Y6xe4dB10xXF0SjVAmMPmuffG8ATDSNEnOKSAiVaqMJy4nCAQe2YUTwhCWHVonrwTlAaEwIVeOGOANOwS1WkGgAlft2QhQKBAxWeNsaPOkBHU4URC5vhAT1TLksMUzEuEVTUGQYbAzHmrjGaTBCykq5HXZobAVB1KJcPLwC2naqyZVTaBghldt9lTOCu6klTUm6rAsQ41jsMgIBqkyCvRLIVBJyFFJjczKA2PbAeKXm4DXwZQbfa5EAcwlrwnWbEAer6aDyH2FHVrYs63rynBdiKew0rzyA6xV2TeSbSAsUAG7FKEsAvPx2khiO2A4TPBlWPsUAHHGUW2OfnEjZ4jvuVo8AJJkbnrD1eDcDAfpIco4Cj8yf56pnxD399fZvipPAiensgccXPGEkNTkTyYzAUwswl30dZATEFhaRJzhAdqfddYj81BgvgNDhbPBA1g3S5PiiDCBbcq0lt5CAFRUBflqMfAQtPzmB6SOBIkHJfpT9xB9f4cvBJgvAGdohlNgMSARWuFpLtXoD5xZgtLKnkC08upoF1FtA6iHjjsSQ5AXljs8P9fMD3qj4egYC3AxtKmUYBn3BErFV9iEwUAI1eflYOELABEEBLgQ54F1RHV8EuZ7CWjNwf8HnvBOXnyAPuWQA28gX3jyU2AIMWqiyUVxBoe3ugRxTnArI9PwiixaAB9D4JUESzAG0ARt00DXE2zfqEQrIVEIoHKBm5bz
end PySem.W.Fast
open PySem PySem.W PyProof.Rows
set_option tactic.hygienic true
set_option maxRecDepth 100000 in
set_option maxHeartbeats 0 in
theorem PySem.Challenge.cw_pageturns_k51_houses_that_are_right_holds : PySem.Challenge.rw_pageturns_k51_houses_that_are_right.Holds := by
 w_on;o_law;k_head;(case hw=>w_witness2)
 k_fill
 refine L2.KO (l:=PySem.Challenge.rw_pageturns_k51_houses_that_are_right) (n:=63) (k:=20) (x := "_law_script") (CX:=L2.YQ) rfl (by decide) rfl ⟨rfl,by decide,by decide⟩ (fun w h Y=>PySem.W.km_in_of Y) (fun w h Y=>PySem.W.km_tabs_of Y) (fun w h Y=>L2.N1 Y (by trivial)) ?tF fun y y y y z=>z
 intro w mg fa h KX G RU
 refine My.Us RU ?_
 refine' L2.gvc KX G "Shelf" ?a1 ?b1 ?c1 ?d1 ?e1 ?f1 ?g1 fun Pa aw Pb k_Shelf=>?z1
 (case a1|b1|c1|d1|e1|f1|g1=>k_is)
 refine' L2.gvc KX G "House" ?a2 ?b2 ?c2 ?d2 ?e2 ?f2 ?g2 fun Pc ba Pd k_House=>?z2
 (case a2|b2|c2|d2|e2|f2|g2=>k_is)
 refine' L2.afx KX G (l:=[18,19,20,21,22,23,24,25,26,27,30,31,32,33,34,35,36,42,43,44,45,46,47,48,49,50,51,52,58,59,60,61,62,63,64,66,67,68,70,74,75,76,81,82,83,84,85,86,87,88,89,92,94,96,97,98,99,100,101,102,104,105,106,107,108,109,110,111,112,113,114,115,116,117,118,119,120,121,122]) (top:=My.top) ?xF fun f0 g0 A0=>?zF
 case xF =>
  repeat' (refine' L2.af KX G _ (by decide) ?a ?b ?c ?d ?e ?_;(case a|b|c|d=>k_is);(case e=>first|exact L2.U8 fun y=>rfl|exact L2.ln2 fun y y=>rfl|exact L2.U9 fun y y y=>rfl|exact L2.Zn fun y y y y=>rfl|exact L2.Zo fun y y y y y=>rfl|exact L2.XB fun y y y y y y=>rfl|exact L2.Zm rfl))
  exact L2.af0
 refine' L2.amx aw (l:=[0,1,2,3,4,5,6,7,8,12,13]) (q := "Shelf.") (cl:=My.bu) ?xMShelf fun Eu acW Ft=>?zMShelf
 case xMShelf =>
  repeat' (refine' L2.am aw _ (by decide) ?a ?b ?c ?d ?f ?e ?_;(case a|b|c|d|f=>k_is);(case e=>first|exact L2.U8 fun y=>rfl|exact L2.ln2 fun y y=>rfl|exact L2.U9 fun y y y=>rfl|exact L2.Zn fun y y y y=>rfl|exact L2.Zo fun y y y y y=>rfl|exact L2.XB fun y y y y y y=>rfl|exact L2.Zm rfl))
  exact L2.am0
 refine' L2.amx ba (l:=[0,1,2,3]) (q := "House.") (cl:=My.lF) ?xMHouse fun Ew acX Fu=>?zMHouse
 case xMHouse =>
  repeat' (refine' L2.am ba _ (by decide) ?a ?b ?c ?d ?f ?e ?_;(case a|b|c|d|f=>k_is);(case e=>first|exact L2.U8 fun y=>rfl|exact L2.ln2 fun y y=>rfl|exact L2.U9 fun y y y=>rfl|exact L2.Zn fun y y y y=>rfl|exact L2.Zo fun y y y y y=>rfl|exact L2.XB fun y y y y y y=>rfl|exact L2.Zm rfl))
  exact L2.am0
 refine' L2.fnl KX G "sorted_by_keys" (My.top 69) ["rows","way"] ?a3 ?b3 ?c3 ?d3 ?e3 fun d0 e0 B0 F0=>?z3
 (case a3|b3|c3|d3=>k_is)
 (case e3=>exact L2.ln2 fun y y=>rfl)
 refine' L2.fnl KX G "sorted_by_values" (My.top 71) ["columns","part","rows"] ?a4 ?b4 ?c4 ?d4 ?e4 fun d1 e1 B1 F1=>?z4
 (case a4|b4|c4|d4=>k_is)
 (case e4=>exact L2.U9 fun y y y=>rfl)
 refine' L2.fne KX G "page_on" (My.top 79) ["shelf","order","sieve","size","gap","moment"] #[.none,.none] ?a5 ?b5 ?c5 ?d5 ?e5 ?f5 fun d2 F2=>?z5
 (case a5|b5|c5|d5|e5=>k_is)
 (case f5=>intro s us t;revert us;exact L2.XB fun y y y y y y=>.of_defaults rfl t rfl rfl rfl)
 refine' L2.fne KX G "page_back" (My.top 80) ["shelf","order","sieve","size","gap","moment"] #[.none,.none] ?a6 ?b6 ?c6 ?d6 ?e6 ?f6 fun d3 F3=>?z6
 (case a6|b6|c6|d6|e6=>k_is)
 (case f6=>intro s us t;revert us;exact L2.XB fun y y y y y y=>.of_defaults rfl t rfl rfl rfl)
 refine' L2.fnl KX G "law" (My.top 123) ["_law_script"] ?a7 ?b7 ?c7 ?d7 ?e7 fun d4 e4 B4 F4=>?z7
 (case a7|b7|c7|d7=>k_is)
 (case e7=>exact L2.U8 fun y=>rfl)
 refine' L2.fmd aw "worths_at" "Shelf.worths_at" ((L2.inClass My.bu 9)) ["self","key","moment"] ?a8 ?b8 ?c8 ?d8 ?e8 ?f8 ?g8 ?h8 fun d5 F5 D5=>?z8
 (case a8|b8|c8|d8|e8|f8=>k_is)
 (case g8=>intro s us t;revert us;exact L2.U9 fun y y y=>.of_defaults rfl t rfl rfl rfl)
 (case h8=>intro s us t;revert us;exact L2.abZ fun y y=>.of_defaults rfl t rfl rfl rfl)
 refine' L2.fmd aw "all_at" "Shelf.all_at" ((L2.inClass My.bu 10)) ["self","moment"] ?a9 ?b9 ?c9 ?d9 ?e9 ?f9 ?g9 ?h9 fun d6 F6 D6=>?z9
 (case a9|b9|c9|d9|e9|f9=>k_is)
 (case g9=>intro s us t;revert us;exact L2.ln2 fun y y=>.of_defaults rfl t rfl rfl rfl)
 (case h9=>intro s us t;revert us;exact L2.abY fun y=>.of_defaults rfl t rfl rfl rfl)
 refine' L2.Oa KX G "MOST_NAME_SIGNS" 8 ?a10 fun oQ=>?z10
 (case a10=>k_is)
 refine' L2.Oa KX G "MOST_KEY_SIGNS" 12 ?a11 fun qt=>?z11
 (case a11=>k_is)
 refine' L2.Oa KX G "MOST_WORD_SIGNS" 40 ?a12 fun oR=>?z12
 (case a12=>k_is)
 refine' L2.Oa KX G "MOST_COLUMNS" 8 ?a13 fun u3=>?z13
 (case a13=>k_is)
 refine' L2.Oa KX G "MOST_PARTS_orders" 8 ?a14 fun l_=>?z14
 (case a14=>k_is)
 refine' L2.Oa KX G "MOST_DEEP" 8 ?a15 fun CO=>?z15
 (case a15=>k_is)
 refine' L2.Oa KX G "MOST_PARTS_sieves" 200 ?a16 fun ma=>?z16
 (case a16=>k_is)
 refine' L2.Oa KX G "MOST_IN_A_TUPLE" 8 ?a17 fun oS=>?z17
 (case a17=>k_is)
 refine' L2.Oa KX G "MOST_ROWS" 1000 ?a18 fun CP=>?z18
 (case a18=>k_is)
 refine' L2.U6 KX G "KINDS" ?a19 ?b19 fun Pe w_KINDS=>?z19
 (case a19|b19=>k_is)
 refine' L2.U6 KX G "OTHER_WAY" ?a20 ?b20 fun CQ w_OTHER_WAY=>?z20
 (case a20|b20=>k_is)
 refine' L2.U6 KX G "OTHER_END" ?a21 ?b21 fun CT w_OTHER_END=>?z21
 (case a21|b21=>k_is)
 refine' L2.U6 KX G "OTHER_SIDE" ?a22 ?b22 fun A4 w_OTHER_SIDE=>?z22
 (case a22|b22=>k_is)
 refine' L2.U6 KX G "LENGTHS_sieves" ?a23 ?b23 fun qu w_LENGTHS_sieves=>?z23
 (case a23|b23=>k_is)
 refine' L2.U6 KX G "LENGTHS_deeds" ?a24 ?b24 fun rZ w_LENGTHS_deeds=>?z24
 (case a24|b24=>k_is)
 refine' L2.A8 KX G "len" ?a25 fun Ys=>?z25
 (case a25=>k_is)
 refine' L2.A8 KX G "all" ?a26 fun Yt=>?z26
 (case a26=>k_is)
 refine' L2.A8 KX G "any" ?a27 fun Yu=>?z27
 (case a27=>k_is)
 refine' L2.A8 KX G "isinstance" ?a28 fun A5=>?z28
 (case a28=>k_is)
 refine' L2.A8 KX G "range" ?a29 fun Pf=>?z29
 (case a29=>k_is)
 refine' L2.A8 KX G "int" ?a30 fun Yv=>?z30
 (case a30=>k_is)
 refine' L2.A8 KX G "str" ?a31 fun Yw=>?z31
 (case a31=>k_is)
 refine' L2.A8 KX G "bool" ?a32 fun Ut=>?z32
 (case a32=>k_is)
 refine' L2.A8 KX G "tuple" ?a33 fun Pg=>?z33
 (case a33=>k_is)
 refine' L2.A8 KX G "list" ?a34 fun Uu=>?z34
 (case a34=>k_is)
 refine' L2.A8 KX G "dict" ?a35 fun Uv=>?z35
 (case a35=>k_is)
 refine' L2.A8 KX G "set" ?a36 fun Yx=>?z36
 (case a36=>k_is)
 refine' L2.A8 KX G "zip" ?a37 fun Yy=>?z37
 (case a37=>k_is)
 refine' L2.A8 KX G "sorted" ?a38 fun Mq=>?z38
 (case a38=>k_is)
 refine' L2.A8 KX G "min" ?a39 fun Yz=>?z39
 (case a39=>k_is)
 refine' L2.A8 KX G "max" ?a40 fun YA=>?z40
 (case a40=>k_is)
 refine' L2.A8 KX G "enumerate" ?a41 fun CU=>?z41
 (case a41=>k_is)
 refine' L2.A8 KX G "reversed" ?a42 fun Fv=>?z42
 (case a42=>k_is)
 refine' L2.KR KX G "PageError" ?a43 ?b43 fun CV gQ=>?z43
 (case a43=>k_is)
 (case b43=>k_exc)
 refine' L2.KR KX G "BadColumns" ?a44 ?b44 fun A6 dM=>?z44
 (case a44=>k_is)
 (case b44=>k_exc)
 refine' L2.KR KX G "BadRow" ?a45 ?b45 fun Mr iL=>?z45
 (case a45=>k_is)
 (case b45=>k_exc)
 refine' L2.KR KX G "BadOrder" ?a46 ?b46 fun Fw du=>?z46
 (case a46=>k_is)
 (case b46=>k_exc)
 refine' L2.KR KX G "BadSieve" ?a47 ?b47 fun Fx jf=>?z47
 (case a47=>k_is)
 (case b47=>k_exc)
 refine' L2.KR KX G "BadPlace" ?a48 ?b48 fun Fy dw=>?z48
 (case a48=>k_is)
 (case b48=>k_exc)
 refine' L2.KR KX G "BadSize" ?a49 ?b49 fun IP pJ=>?z49
 (case a49=>k_is)
 (case b49=>k_exc)
 refine' L2.KR KX G "HasKey" ?a50 ?b50 fun Ms t9=>?z50
 (case a50=>k_is)
 (case b50=>k_exc)
 refine' L2.KR KX G "NoKey" ?a51 ?b51 fun Ph y_=>?z51
 (case a51=>k_is)
 (case b51=>k_exc)
 refine' L2.KR KX G "NoMoment" ?a52 ?b52 fun Fz mT=>?z52
 (case a52=>k_is)
 (case b52=>k_exc)
 refine' L2.KR KX G "BadDeed" ?a53 ?b53 fun IQ iM=>?z53
 (case a53=>k_is)
 (case b53=>k_exc)
 refine' L2.U7 aw "columns" ?a54 fun r9=>?z54
 (case a54=>k_is)
 refine' L2.U7 aw "deeds" ?a55 fun vX=>?z55
 (case a55=>k_is)
 refine' L2.U7 aw "runs" ?a56 fun A7=>?z56
 (case a56=>k_is)
 refine' L2.U7 ba "shelf" ?a57 fun vY=>?z57
 (case a57=>k_is)
 refine' L2.U7 ba "questions" ?a58 fun oU=>?z58
 (case a58=>k_is)
 refine' L2.U7 ba "answered" ?a59 fun qv=>?z59
 (case a59=>k_is)
 refine' L2.gvm KX e0 ?a60 ?b60 ?c60 fun qw=>?z60
 (case a60=>k_is)
 (case b60=>rfl)
 (case c60=>first|rfl|decide|simp [codeHdIn])
 refine' L2.gvm KX e1 ?a61 ?b61 ?c61 fun ng=>?z61
 (case a61=>k_is)
 (case b61=>rfl)
 (case c61=>first|rfl|decide|simp [codeHdIn])
 exact⟨⟨_,_,_,_,_,_,_,_,_,_,_,_,_,_,_,_,_,_,_,_,_,_,_,_,_,_,_,_,_,_,_,_,_,_,_,_,_,_,_,_,_,_,_,_,_,_,_,_,_,_,_,_,_⟩,rfl,⟨A0,Ft,Fu,F0,F1,F2,F3,F4,F5,D5,F6,D6,oQ,qt,oR,u3,l_,CO,ma,oS,CP,Pe,fun H=>L2.PH (xs:=[.str "number",.str "word"]) ⟨_,_,_,w_KINDS,rfl,rfl,(by rw[yh];show 2≤16777216;decide),.cons ⟨_,rfl⟩ (.cons ⟨_,rfl⟩ (.nil))⟩ (L2.xM ["number","word"]),CQ,⟨by first|rfl|decide,_,_,_,w_OTHER_WAY,⟨rfl,rfl,rfl⟩,rfl,.cons ⟨rfl,⟨_,rfl⟩,⟨_,rfl⟩⟩ (.cons ⟨rfl,⟨_,rfl⟩,⟨_,rfl⟩⟩ (.nil)),by trivial⟩,CT,⟨by first|rfl|decide,_,_,_,w_OTHER_END,⟨rfl,rfl,rfl⟩,rfl,.cons ⟨rfl,⟨_,rfl⟩,⟨_,rfl⟩⟩ (.cons ⟨rfl,⟨_,rfl⟩,⟨_,rfl⟩⟩ (.nil)),by trivial⟩,A4,⟨by first|rfl|decide,_,_,_,w_OTHER_SIDE,⟨rfl,rfl,rfl⟩,rfl,.cons ⟨rfl,⟨_,rfl⟩,⟨_,rfl⟩⟩ (.cons ⟨rfl,⟨_,rfl⟩,⟨_,rfl⟩⟩ (.nil)),by trivial⟩,qu,⟨by first|rfl|decide,_,_,_,w_LENGTHS_sieves,⟨rfl,rfl,rfl⟩,rfl,.cons ⟨rfl,⟨_,rfl⟩,⟨_,rfl⟩⟩ (.cons ⟨rfl,⟨_,rfl⟩,⟨_,rfl⟩⟩ (.cons ⟨rfl,⟨_,rfl⟩,⟨_,rfl⟩⟩ (.cons ⟨rfl,⟨_,rfl⟩,⟨_,rfl⟩⟩ (.cons ⟨rfl,⟨_,rfl⟩,⟨_,rfl⟩⟩ (.cons ⟨rfl,⟨_,rfl⟩,⟨_,rfl⟩⟩ (.cons ⟨rfl,⟨_,rfl⟩,⟨_,rfl⟩⟩ (.cons ⟨rfl,⟨_,rfl⟩,⟨_,rfl⟩⟩ (.cons ⟨rfl,⟨_,rfl⟩,⟨_,rfl⟩⟩ (.nil))))))))),by trivial⟩,rZ,⟨by first|rfl|decide,_,_,_,w_LENGTHS_deeds,⟨rfl,rfl,rfl⟩,rfl,.cons ⟨rfl,⟨_,rfl⟩,⟨_,rfl⟩⟩ (.cons ⟨rfl,⟨_,rfl⟩,⟨_,rfl⟩⟩ (.cons ⟨rfl,⟨_,rfl⟩,⟨_,rfl⟩⟩ (.nil))),by trivial⟩,Ys,Yt,Yu,A5,Pf,Yv,Yw,Ut,Pg,Uu,Uv,Yx,Yy,Mq,Yz,YA,CU,Fv,CV,gQ,A6,dM,Mr,iL,Fw,du,Fx,jf,Fy,dw,IP,pJ,Ms,t9,Ph,y_,Fz,mT,IQ,iM,Pa,aw,⟨Pb,(Ft 0 (by decide)).e.at_,(Ft 0 (by decide)).e.fn,k_Shelf⟩,r9,vX,A7,Pc,ba,⟨Pd,(Fu 0 (by decide)).e.at_,(Fu 0 (by decide)).e.fn,k_House⟩,vY,oU,qv,e0,qw,by simp,e1,ng,by simp,by simp,by simp,fun s v=>B4 s [v] rfl⟩⟩
