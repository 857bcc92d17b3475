import PyProof.Rows.All
import Wide.All
import OpenK.AllK
import Wide.FinOn
import Lean
import PyProof.EqAt
import PyProof.EqKinds
import PyProof.TupleCall
import PyProof.NsDelKeeps
import KE.KIsBytes
import PyProof.Rows.SetFrom
import KE.KDictOf
import PyProof.AttrMissSeq
import PyProof.WalksMore
import PyProof.ZipIter
import PyProof.StrBlock2
import PyProof.StrBlockI
import PyProof.Rows.StrJoin2
import PyProof.Rows.CountFlat
import PyProof.Rows.Range3
import PyProof.SumWalkG
import PyProof.Rows.ListMulArg
import PyProof.FactsAll.tuple
import PyProof.EnumFor
import PyProof.EnumMake
import KE.KDictLaws
import KE.KDictSum
import KE.KRevIter
import PyProof.Rows.SortStr
import PyProof.Rows.SortWalk
import PyProof.AutoListH
import PyProof.StrLawsReplace
import PyProof.Rows.SortShellK
import KE.KLam
import KE.KSortKey
import KE.KNestM
import PyProof.EnumStmt
import PyProof.ListMulRoad
import PySem.Challenge.RW_pageturns_k47_keepers_refuse
set_option tactic.hygienic false
set_option compiler.extract_closed false
set_option hygiene false in
local macro_rules|`(tactic|obtain $p:rcasesPatMed)=>`(tactic|(rintro _ _ _ _ _ _ _ S R Z hr ($p:rcasesPatMed);subst e))
local macro_rules|`(tactic| trivial)=>`(tactic| decide +kernel)
set_option Elab.async false
set_option linter.all false
set_option maxRecDepth 100000
set_option genInjectivity false
set_option genSizeOfSpec false
local macro_rules|`(δ $x)=>`(List $x)|`(θ $x)=>`(Option $x)|`(ϑ $x)=>`(some $x)|`(ψ $x $y)=>`(autoParam $x $y)|`(ω $x)=>`(decide $x)
local macro_rules|`($x:ident)=>match [(`π,`Nat),(`ρ,`PySem.Str),(`ε,`PySem.Addr),(`ν,`Int),(`ξ,`PySem.Value),(`ζ,`PySem.Shared),(`χ,`Bool),(`Γ,`PySem.Heap),(`Δ,`PySem.Expr),(`Φ,`PySem.W.Frag),(`Ψ,`PySem.Program),(`Ω,`PySem.World),(`ϕ,`PySem.Around),(`Ϙ,`PySem.sizeLine),(`ϱ,`true),(`ϰ,`false),(`ϐ,`none)].lookup x.getId with|some v=>return Lean.mkIdentFrom x v|_=>if x.getId==`η then `(Prop) else Lean.Macro.throwUnsupported
set_option linter.defProp false
set_option hygiene false in
local macro_rules|`($n:name)=>match n.getName with|`a=>`(by decide)|`b=>`(by lia)|`c=>`(by trivial)|`d=>`(by simp)|`m=>`(model X.prog X.w)|`n=>`(model prog w)|`h=>`(us.toArray.zip vs.toArray)|`i=>`(clOf X.env.cells scope.names)|`j=>`((false,eval e X.env))|`k=>`(List.range xs.length)|`l=>`(s.heap.objs.size+1)|`u=>`(hr.u)|_=>Lean.Macro.throwUnsupported
local macro_rules|`(tactic|show $t)=>`(tactic|refine $t)|`(tactic|let $p:term:=$e)=>do{let q:Lean.TSyntax `rcasesPat:=⟨←p.raw.rewriteBottomUpM λs=>do{if s.isIdent then{return (←`(rcasesPat|$(⟨s⟩):ident)).raw};if s.isOfKind `Lean.Parser.Term.hole then{return (←`(rcasesPat|_)).raw};if s.isOfKind `Lean.Parser.Term.anonymousCtor then{let a:Array (Lean.TSyntax `rcasesPat):=s[1].getSepArgs.map (⟨·⟩);return (←`(rcasesPat|⟨$[$a:rcasesPat],*⟩)).raw};return s}⟩;`(tactic|obtain $q:rcasesPat:=$e)}
local macro_rules|`(command|def $i:declId $s:optDeclSig:=by $t)=>`(command|theorem $i:declId $(⟨.node .none `Lean.Parser.Command.declSig #[s.raw[0],s.raw[1][0]]⟩):declSig:=by $t)
local macro_rules|`(command|$d:declaration)=>if d.raw.getPos?.isSome&&d.raw[1][1][0].getId.getRoot != `PySem then return d.raw.rewriteBottomUp (·.setInfo .none) else Lean.Macro.throwUnsupported
namespace Tactic
theorem qb:type_of% @if_neg:=@if_neg
theorem qe:type_of% @if_pos:=@if_pos
theorem qQQ(h:True:=by rfl):True:=h
def qQJ:Lean.Syntax:=qQQ._auto_1
theorem qQX(h:True:=by decide):True:=h
def qQZ:Lean.Syntax:=qQX._auto_1
theorem qQK(h:True:=by intro _;rfl):True:=h
def qQ0:Lean.Syntax:=qQK._auto_1
theorem qQ1(h:True:=by with_unfolding_all rfl):True:=h
def qQ2:Lean.Syntax:=qQ1._auto_1
theorem qQ3(h:True:=by exact⟨rfl,rfl,rfl,rfl⟩):True:=h
def qQ4:Lean.Syntax:=qQ3._auto_1
theorem qQ5(h:True:=by first|exact .inl rfl|exact .inr rfl|assumption):True:=h
def qQ6:Lean.Syntax:=qQ5._auto_1
theorem qQ7(h:True:=by first|exact .inl rfl|exact .inr rfl):True:=h
def qQ8:Lean.Syntax:=qQ7._auto_1
theorem qQ9(h:True:=by intro _ _ _ _ _;exact{Or.inl rfl,rfl}):True:=h
def qJQ:Lean.Syntax:=qQ9._auto_1
theorem qJJ(h:True:=by trivial):True:=h
def qJX:Lean.Syntax:=qJJ._auto_1
theorem qJZ(h:True:=by first|decide|omega):True:=h
def qJK:Lean.Syntax:=qJZ._auto_1
theorem qJ0(h:True:=by first|exact Or.inl rfl|exact Or.inr (Or.inl rfl)|exact Or.inr (Or.inr rfl)):True:=h
def qJ1:Lean.Syntax:=qJ0._auto_1
theorem qJ2(h:True:=by first|exact Or.inl rfl|exact Or.inr rfl):True:=h
def qJ3:Lean.Syntax:=qJ2._auto_1
theorem qJ4(h:True:=by intro _ _ _ _ _;rfl):True:=h
def qJ5:Lean.Syntax:=qJ4._auto_1
local macro_rules|`({$a:term})=>`(⟨$a⟩)|`({$a:term,$b:term,*})=>`(⟨$a,$b,*⟩)
local macro_rules|`(!$t)=>do{let mut t:=t;let mut n:=1;for _ in [0:20] do{if let `(!$u):=t then{t:=u;n:=n+1}};let xs←(match t with|`(⟨$x,*⟩)=>pure x.getElems|`({$x:term,$y:term,*})=>pure (#[x]++y.getElems)|_=>Lean.Macro.throwUnsupported);let mut a:=xs;for _ in [0:n] do{a:=#[←`(_),←`(rfl)]++a};`(⟨$a,*⟩)}
open PySem.W (instObj methodObj hideAll hideAll_get of_hideAll Frag lookIn plainGet hasDictIn findIn handedIn plainGet_of isFn plainOver takerIn makesIn emptyDict looks_findIn specialIn keepIn mroIn kitOne kia_one kitx_list cellsFrom_some fnOf codeIn codeRec_of excIn Looks KitX kitAny callWith_K methodCall_KW envX kla_fn kla_callFunE kla_codeExpr codeHdIn tabObj codeHd_of_K nsIn mg_of)
theorem za:type_of%@PySem.wpAny_bind:=@PySem.wpAny_bind
theorem zb:type_of%@PySem.Heap.get?_push_of_some:=@PySem.Heap.get?_push_of_some
theorem zc:type_of%@List.length_map:=@List.length_map
theorem zd:type_of%@Bool.false_ne_true:=@Bool.false_ne_true
theorem ze:type_of%@List.mem_cons:=@List.mem_cons
theorem zf:type_of%@decide_eq_false:=@decide_eq_false
theorem zg:type_of%@List.getElem?_eq_getElem:=@List.getElem?_eq_getElem
theorem zh:type_of%@List.mem_map:=@List.mem_map
theorem zi:type_of%@decide_eq_true:=@decide_eq_true
theorem zj:type_of%@of_decide_eq_true:=@of_decide_eq_true
theorem zk:type_of%@List.mem_cons_of_mem:=@List.mem_cons_of_mem
theorem zl:type_of%@List.size_toArray:=@List.size_toArray
theorem zm:type_of%@PySem.wpAny_pure:=@PySem.wpAny_pure
theorem zp:type_of%@Nat.le_refl:=@Nat.le_refl
theorem zq:type_of%@Nat.lt_of_lt_of_le:=@Nat.lt_of_lt_of_le
theorem zr:type_of%@PySem.Heap.get?_push_size:=@PySem.Heap.get?_push_size
theorem zt:type_of%@List.not_mem_nil:=@List.not_mem_nil
theorem zu:type_of%@List.getElem?_eq_some_iff:=@List.getElem?_eq_some_iff
theorem zw:type_of%@List.length_append:=@List.length_append
theorem zx:type_of%@List.mem_singleton:=@List.mem_singleton
theorem zy:type_of%@PySem.Heap.lt_size:=@PySem.Heap.lt_size
theorem zA:type_of%@List.getElem?_map:=@List.getElem?_map
theorem zB:type_of%@List.mem_append_right:=@List.mem_append_right
theorem zC:type_of%@Nat.ne_of_lt:=@Nat.ne_of_lt
theorem zD:type_of%@List.mem_cons_self:=@List.mem_cons_self
theorem zE:type_of%@List.length_replicate:=@List.length_replicate
theorem zG:type_of%@List.length_cons:=@List.length_cons
theorem zH:type_of%@List.map_map:=@List.map_map
theorem zI:type_of%@List.mem_of_getElem?:=@List.mem_of_getElem?
theorem zJ:type_of%@List.getD_eq_getElem?_getD:=@List.getD_eq_getElem?_getD
theorem zK:type_of%@of_decide_eq_false:=@of_decide_eq_false
theorem zL:type_of%@List.lookup_cons:=@List.lookup_cons
theorem zM:type_of%@Nat.le_trans:=@Nat.le_trans
theorem zN:type_of%@List.mem_append:=@List.mem_append
theorem zO:type_of%@List.map_cons:=@List.map_cons
theorem zP:type_of%@Bool.true_and:=@Bool.true_and
theorem zQ:type_of%@List.map_append:=@List.map_append
theorem zR:type_of%@Bool.false_and:=@Bool.false_and
theorem zS:type_of%@PySem.F.plainAttrs_list:=@PySem.F.plainAttrs_list
theorem zT:type_of%@Bool.and_eq_true:=@Bool.and_eq_true
theorem zU:type_of%@Option.some.inj:=@Option.some.inj
theorem zV:type_of%@List.mem_range:=@List.mem_range
theorem zW:type_of%@List.mem_append_left:=@List.mem_append_left
theorem zX:type_of%@PySem.mem_of_lookup:=@PySem.mem_of_lookup
theorem zY:type_of%@List.map_congr_left:=@List.map_congr_left
theorem zZ:type_of%@PySem.sizeLine_eq:=@PySem.sizeLine_eq
theorem ya:type_of%@PySem.wpAny_field:=@PySem.wpAny_field
theorem yb:type_of%@List.find?_cons:=@List.find?_cons
theorem yc:type_of%@List.length_take:=@List.length_take
theorem yd:type_of%@PySem.F.slot_list_append:=@PySem.F.slot_list_append
theorem ye:type_of%@PySem.F.type_list_append:=@PySem.F.type_list_append
theorem yf:type_of%@Nat.zero_le:=@Nat.zero_le
theorem yg:type_of%@PySem.wpAny_newObj_type:=@PySem.wpAny_newObj_type
theorem yh:type_of%@PySem.wpAny_mono:=@PySem.wpAny_mono
theorem yi:type_of%@Array.length_toList:=@Array.length_toList
theorem yj:type_of%@Nat.ne_of_gt:=@Nat.ne_of_gt
theorem yk:type_of%@List.nodup_cons:=@List.nodup_cons
theorem ym:type_of%@PySem.Heap.get?_update_other:=@PySem.Heap.get?_update_other
theorem yn:type_of%@List.all_eq_true:=@List.all_eq_true
theorem yo:type_of%@PySem.wpAny_truthy_bool:=@PySem.wpAny_truthy_bool
theorem yp:type_of%@decide_eq_true_eq:=@decide_eq_true_eq
theorem yq:type_of%@PySem.Heap.size_push:=@PySem.Heap.size_push
theorem yr:type_of%@PySem.Heap.get?_update_self:=@PySem.Heap.get?_update_self
theorem yt:type_of%@PySem.F.slot_dict_get:=@PySem.F.slot_dict_get
theorem yu:type_of%@PySem.Calls.spliced_cons:=@PySem.Calls.spliced_cons
theorem yw:type_of%@PySem.Obj.data_mapFields:=@PySem.Obj.data_mapFields
theorem yx:type_of%@Nat.lt_irrefl:=@Nat.lt_irrefl
theorem yy:type_of%@PySem.Heap.SameBut.update:=@PySem.Heap.SameBut.update
theorem yz:type_of%@List.length_reverse:=@List.length_reverse
theorem yA:type_of%@List.mem_filter:=@List.mem_filter
theorem yB:type_of%@Bool.eq_iff_iff:=@Bool.eq_iff_iff
theorem yC:type_of%@PySem.wpAny_Call_Name_kw:=@PySem.wpAny_Call_Name_kw
theorem yD:type_of%@PySem.wpAny_call_entry:=@PySem.wpAny_call_entry
theorem yE:type_of%@decide_eq_decide:=@decide_eq_decide
theorem yF:type_of%@PySem.wpAny_holding:=@PySem.wpAny_holding
theorem yG:type_of%@List.append_nil:=@List.append_nil
theorem yH:type_of%@List.foldl_cons:=@List.foldl_cons
theorem yI:type_of%@PySem.codeAny_builtin:=@PySem.codeAny_builtin
theorem yJ:type_of%@PySem.codeAny_mono:=@PySem.codeAny_mono
theorem yK:type_of%@Sum.inr.inj:=@Sum.inr.inj
theorem yL:type_of%@Nat.le_of_lt:=@Nat.le_of_lt
theorem yM:type_of%@PySem.Paired.length:=@PySem.Paired.length
theorem yN:type_of%@List.any_cons:=@List.any_cons
theorem yO:type_of%@Bool.false_or:=@Bool.false_or
theorem yP:type_of%@PySem.wpAny_setField:=@PySem.wpAny_setField
theorem yQ:type_of%@Bool.and_false:=@Bool.and_false
theorem yR:type_of%@PySem.call_meets:=@PySem.call_meets
theorem yS:type_of%@Nat.le_succ:=@Nat.le_succ
theorem yT:type_of%@PySem.wpAny_of_eq:=@PySem.wpAny_of_eq
theorem yU:type_of%@Nat.succ.inj:=@Nat.succ.inj
namespace L2
open PySem PySem.Spec PyProof.Rows
abbrev Key:=Sum ν ρ
def keyIs:Key->ξ->χ|.inl k,v=>Value.isInt k v|.inr x,v=>Value.isStrOf x v
def ZS(w:Ω):Key->ν|.inl k=>hashInt k|.inr x=>hashStr w x
theorem cu:∀{k:Key}{v:ξ},keyIs k v=ϱ->(∃i t,k=Sum.inl i/\v=Value.int i t)\/(∃x t,k=Sum.inr x/\v=Value.str x t)|.inl i,v,h=>(by let⟨t,e⟩:=Value.isInt_shape (k:=i) (v:=v) h;show .inl ⟨i,t,rfl,e⟩)|.inr x,v,h=>by let⟨t,e⟩:=Value.isStrOf_shape (x:=x) (v:=v) h;show .inr ⟨x,t,rfl,e⟩
def G5(i:ν)(t:Tok):keyIs (.inl i) (.int i t)=ϱ:=by simp[keyIs,Value.isInt]
def G6(x:ρ)(t:Tok):keyIs (.inr x) (.str x t)=ϱ:=by simp[keyIs,Value.isStrOf]
def QD(a b:ν):ω ((Sum.inl a:Key)=Sum.inl b)=(a==b):=by by_cases e:a=b;subst e;simp;have h:¬(Sum.inl a:Key)=Sum.inl b:=λq=>e<|Sum.inl.inj q;rw[zf h];show(beq_eq_false_iff_ne.mpr e).symm
def QE(a b:ρ):ω ((Sum.inr a:Key)=Sum.inr b)=ω (a=b):=by by_cases e:a=b;subst e;simp;have h:¬(Sum.inr a:Key)=Sum.inr b:=λq=>e<|yK q;rw[zf h,zf e]
theorem QF(a:ν)(b:ρ):ω ((Sum.inl a:Key)=Sum.inr b)=ϰ:=zf λq=>nomatch q
theorem QG(a:ρ)(b:ν):ω ((Sum.inr a:Key)=Sum.inl b)=ϰ:=zf λq=>nomatch q
def aS(prog:Ψ)(w:Ω):PySem.KeyKind prog w Key where
 is:=keyIs
 hash:=ZS w
 inj:=λv a b ha hb=>by
  rcases cu ha with⟨i,t,rfl,rfl⟩|⟨x,t,rfl,rfl⟩
  ·rcases cu hb with⟨j,u,rfl,e⟩|⟨y,u,rfl,e⟩
   ·injection e with e1 _;rw[e1]
   ·show nomatch e
  ·rcases cu hb with⟨j,u,rfl,e⟩|⟨y,u,rfl,e⟩
   ·show nomatch e
   ·injection e with e1 _;rw[e1]
 byValue:=λk v h=>by
  rcases cu h with⟨i,t,rfl,rfl⟩|⟨x,t,rfl,rfl⟩<;>rfl
 pyHash:=λhv h=>by
  rcases cu hv with⟨i,t,rfl,rfl⟩|⟨x,t,rfl,rfl⟩
  ·show wpAny_pyHash_int h
  ·show wpAny_pyHash_str h
 eqBool:=λhu hv h=>by
  rcases cu hu with⟨i,t,rfl,rfl⟩|⟨x,t,rfl,rfl⟩
  ·rcases cu hv with⟨j,u,rfl,rfl⟩|⟨y,u,rfl,rfl⟩
   ·rw[QD]at h;show wpAny_eqBool_int h
   ·rw[QF]at h;show SeqAt.EqAt.int_str i t y u _ _ _ _ h
  ·rcases cu hv with⟨j,u,rfl,rfl⟩|⟨y,u,rfl,rfl⟩
   ·rw[QG]at h;show SeqAt.EqAt.str_int x t j u _ _ _ _ h
   ·rw[QE]at h;show wpAny_eqBool_str h
 «strs»:=λk x t v h=>by
  rcases cu h with⟨i,u,rfl,e⟩|⟨y,u,rfl,e⟩
  ·show nomatch e
  ·injection e with e1 _
   subst e1
   cases v<;>rfl
theorem Bu(prog:Ψ)(w:Ω)(i:ν)(t:Tok):(aS prog w).is (.inl i) (.int i t)=ϱ:=G5 i t
theorem lh(prog:Ψ)(w:Ω)(x:ρ)(t:Tok):(aS prog w).is (.inr x) (.str x t)=ϱ:=G6 x t
set_option genInjectivity true in
set_option genSizeOfSpec true in
inductive V
 |ao|bl (b:χ)|int (i:ν)|str (x:ρ)|Fj (b:Array UInt8)|QH (b:UInt64)|ref (a:ε)|ty (n:String)
 deriving DecidableEq
def RelV:V->ξ->η|.ao,u=>u=Value.none|.bl b,u=>u=Value.bool b|.int i,u=>∃t,u=Value.int i t|.str x,u=>∃t,u=Value.str x t|.Fj b,u=>∃t,u=Value.bytes b t|.QH b,u=>∃t,u=Value.float b t|.ref a,u=>u=Value.ref a|.ty n,u=>u=Value.type n
abbrev Vals:δ V->δ ξ->Prop:=Paired RelV
theorem Vals.length{xs:δ V}{us:δ ξ}(r:Vals xs us):xs.length=us.length:=yM r
theorem Vals.get:∀{xs:δ V}{us:δ ξ}{i:π}{x:V},Vals xs us->xs[i]?=some x->∃u,us[i]?=some u/\RelV x u|_,_,_,_,.nil,e=>by simp at e|_,_,0,_,.cons r _,e=>by simp at e;subst e;show{_,rfl,r}|_,_,i+1,x,.cons _ t,e=>by let⟨u,h1,h2⟩:=Vals.get (i:=i) (x:=x) t (by simpa using e);show{u,by simpa using h1,h2}
theorem Vals.set(r:RelV x u):∀{xs:δ V}{us:δ ξ}(i:π),Vals xs us->Vals (xs.set i x) (us.set i u)|_,_,_,.nil=>.nil|_,_,0,.cons _ t=>.cons r t|_,_,i+1,.cons q t=>.cons q<|Vals.set r i t
theorem Vals.append:∀{xs ys:δ V}{us ws:δ ξ},Vals xs us->Vals ys ws->Vals (xs++ys) (us++ws)|_,_,_,_,.nil,s=>s|_,_,_,_,.cons r t,s=>.cons r<|Vals.append t s
theorem Vals.take:∀{xs:δ V}{us:δ ξ}(n:π),Vals xs us->Vals (xs.take n) (us.take n)|_,_,0,_=>.nil|_,_,_+1,.nil=>.nil|_,_,n+1,.cons r t=>.cons r<|Vals.take n t
theorem Vals.drop:∀{xs:δ V}{us:δ ξ}(n:π),Vals xs us->Vals (xs.drop n) (us.drop n)|_,_,0,r=>r|_,_,_+1,.nil=>.nil|_,_,n+1,.cons _ t=>Vals.drop n t
def iW:θ V->θ ξ->η|some v,some u=>RelV v u|none,none=>True|_,_=>False
def KV{κ:Type} : δ (κ×V)->δ (κ×ξ)->Prop:=Paired λ(p:κ×V)(q:κ×ξ)=>p.1=q.1/\RelV p.2 q.2
def kV:Key->V|.inl i=>.int i|.inr x=>.str x
set_option genInjectivity true in
set_option genSizeOfSpec true in
inductive HO
  |lst (xs:δ V)
  |tup (xs:δ V)
  |dK (kvs:δ<|Key×V)|dT (kvs:δ<|δ Key×V)
  |set (S:ν->χ) (n:π)
  |ins (C dx:ε) (fs:δ<|ρ×V)
  |own (x:ε)
  |xd (fs:δ<|ρ×V)
  |met (f x:ε)
  |Yx (lo hi:ν)
  |ng (o:Obj) (u:HO)
  |sS (ps:Array ξ)
  |ext (φ:Γ->η)
abbrev Hp:=ε->θ HO
noncomputable def upd(H:Hp)(a:ε)(o:HO):Hp:=λb=>if b=a then some o else H b
def aR{H:Hp}{a:ε}{o:HO} : upd H a o a=ϑ o:=by unfold upd;rw[qe rfl]
def ay{H:Hp}{a b:ε}{o:HO}(h:b≠a):upd H a o b=H b:=by unfold upd;rw[qb h]
def aD{H:Hp}{a b:ε}{o:HO}(h:H a=ϑ o)(h':H b=ϐ):a≠b:=by intro e;subst e;rw[h]at h';cases h'
def ic(h:Γ)(a:ε)(items:Array ξ):Prop:=∃o,h.get? a=ϑ o/\o.cls=.type "tuple"/\o.dict=ϐ/\∃n,o.data=.seq items n
def ic.tup(x:ic h a items):IsTup h a items:=by let⟨o,e,c,_,n,d⟩:=x;show⟨o,e,c,n,d⟩
theorem ic.lt(x:ic h a items):a<h.objs.size:=x.tup.lt
theorem ic.new(h:Γ)(items:Array ξ):ic (h.push {cls:=.type "tuple",data:=.seq items}) h.objs.size items:={_,zr _ rfl,rfl,rfl,_,rfl}
section
variable(P:Ψ)(w:Ω)
def bM(H:Hp)(h:Γ)(a:ε):HO->η|.lst xs=>xs.length<=Ϙ/\∃(aE:δ ξ) (n:π),Vals xs aE/\h.get? a=ϑ {cls:=.type "list",data:=.seq aE.toArray n}|.tup xs=>xs.length<=Ϙ/\∃aE:δ ξ,Vals xs aE/\ic h a aE.toArray|.dK kvs=>kvs.length<=Ϙ/\(a==sysModules)=ϰ/\∃vs,KV kvs vs/\h.DictOf (aS P w) a vs|.dT _=>False|.set S n=>h.SetOf (intKind P w) a S n|.ins C dx fs=>H dx=ϑ (.own a)/\fs.length<=1000/\dx≠a/\h.get? a=ϑ (instObj C dx)/\∃mA,h.Ns1 dx mA/\(∀f,iW (fs.lookup f)<|mA f)/\PySem.Within mA (fs.map (·.1))|.own _=>∃o,h.get? a=ϑ o|.xd fs=>∃mA,h.Ns1 a mA/\∀f,iW (fs.lookup f) (mA f)|.Yx lo hi=>∃t u v,h.get? a=ϑ {cls:=.type "range",data:=.fields #[.int lo t,.int hi u,.int 1 v]}|.ng o u=>h.get? a=ϑ o/\bM H h a u|.sS ps=>h.get? a=ϑ {cls:=.none,data:=.fields ps}|.met f x=>h.get? a=ϑ (methodObj (.ref f)<|.ref x)|.ext φ=>φ h/\(∃o,h.get? a=ϑ o)/\∀h1 h2:Γ,φ h1->(∀o,h1.get? a=ϑ o->h2.get? a=ϑ o)->φ h2
def mR(H:Hp)(h:Γ):Prop:=∀a o,H a=ϑ o->bM P w H h a o
end
section
variable{P:Ψ}{w:Ω}{H H':Hp}{h h':Γ}{a:ε}{o:HO}
def bM.lt(x:bM P w H h a o):a<h.objs.size:=by cases o with|lst xs=>(let⟨_,_,_,_,e⟩:=x;show zy e)|tup xs=>(let⟨_,_,_,p⟩:=x;show p.lt)|dK kvs=>(let⟨_,_,_,_,o,_,_,e,_⟩:=x;show zy e)|dT kvs=>show False.elim x|set S n=>(let⟨o,_,_,_,e,_⟩:=x;show zy e)|ins C dx fs=>(let⟨_,_,_,e,_⟩:=x;show zy e)|own y=>(let⟨_,e⟩:=x;show zy e)|xd fs=>(let⟨_,⟨_,_,_,e,_⟩,_⟩:=x;show zy e)|Yx lo hi=>(let⟨_,_,_,e⟩:=x;show zy e)|ng c u=>(let⟨e,_⟩:=x;show zy e)|sS ps=>show zy (show h.get? a=ϑ _ from x)|met f y=>show zy (show h.get? a=ϑ _ from x)|ext φ=>let⟨_,⟨_,e⟩,_⟩:=x;show zy e
def bM.oI(x:bM P w H h a o)(k:∀b u,(b=a\/H b=ϑ (.own a))->h.get? b=ϑ u->h'.get? b=ϑ u) (ho:∀b,H b=ϑ (.own a)->H' b=ϑ (.own a)) (l:∀b xs,H b=ϑ (.tup xs)->H' b=ϑ (.tup xs)):bM P w H' h' a o:=by induction o with|lst xs=>(let⟨z,i,n,r,e⟩:=x;show{z,i,n,r,k _ _ (.inl rfl) e})|tup xs=>(let⟨z,i,r,g,e,c⟩:=x;show{z,i,r,g,k _ _ (.inl rfl) e,c})|dK kvs=>(let⟨z,y,vs,r,g,es,ep,e,c⟩:=x;show{z,y,vs,r,g,es,ep,k _ _ (.inl rfl) e,c})|dT kvs=>show False.elim x|set S n=>(let⟨g,es,ep,t,e,c⟩:=x;show{g,es,ep,t,k _ _ (.inl rfl) e,c})|ins C dx fs=>(let⟨d,z,ne,e,mA,⟨od,es,ep,e2,c⟩,r⟩:=x;show{ho _ d,z,ne,k _ _ (.inl rfl) e,mA,{od,es,ep,k _ _ (.inr d) e2,c},r})|own y=>(let⟨g,e⟩:=x;show{g,k _ _ (.inl rfl) e})|xd fs=>(let⟨mA,⟨od,es,ep,e,c⟩,r⟩:=x;show{mA,{od,es,ep,k _ _ (.inl rfl) e,c},r})|Yx lo hi=>(let⟨t,u,v,e⟩:=x;show{t,u,v,k _ _ (.inl rfl) e})|ng g u j=>(let⟨e,q⟩:=x;show{k _ _ (.inl rfl) e,j q})|sS ps=>have e:h.get? a=ϑ {cls:=.none,data:=.fields ps}:=x;change h'.get? a=ϑ {cls:=.none,data:=.fields ps};show k a _ (.inl rfl) e|met f y=>have e:h.get? a=ϑ (methodObj (.ref f)<|.ref y):=x;change h'.get? a=ϑ (methodObj (.ref f)<|.ref y);show k a _ (.inl rfl) e|ext φ=>let⟨p,⟨o,e⟩,st⟩:=x;show{st _ _ p λo q=>k _ _ (.inl rfl) q,{o,k _ _ (.inl rfl) e},st}
theorem mR.lt(x:mR P w H h)(e:H a=ϑ o):a<h.objs.size:=(x a o e).lt
def mR.fresh(x:mR P w H h)(e:h.objs.size<=a):H a=ϐ:=by cases q:H a with|none=>rfl|some u=>show absurd (zq (x.lt q) e)<|yx _
theorem mR.kept(x:mR P w H h)(k:∀b u,h.get? b=ϑ u->h'.get? b=ϑ u):mR P w H h':=λa o e=>(x a o e).oI (λb u z q=>k b u q) (λz q=>q) λz z q=>q
theorem mR.laid(x:mR P w H h)(k:∀b u,h.get? b=ϑ u->h'.get? b=ϑ u)(g:h.objs.size<=a)(new:bM P w (upd H a o) h' a o):mR P w (upd H a o) h':=λb u e=>by have hn:=x.fresh g;by_cases d:b=a;subst d;rw[aR]at e;cases e;show new;rw[ay d]at e;show(x b u e).oI (λc v z q=>k c v q) (λc q=>by rw[ay<|aD q hn];show q) λc xs q=>by rw[ay<|aD q hn];show q
end
def Rd(H:Hp)(a:ε)(u:HO):Prop:=H a=ϑ u\/∃o,H a=ϑ (.ng o u)
theorem Rd.of(h:H a=ϑ u):Rd H a u:=.inl h
def Rd.ok{P:Ψ}{w:Ω}{H:Hp}{h:Γ}{a:ε}{u:HO}(r:Rd H a u)(x:mR P w H h):bM P w H h a u:=by rcases r with r|⟨o,r⟩;show x a u r;let⟨_,q⟩:=x a _ r;show q
def U5:θ HO->η|some (.lst _)=>True|some (.dK _)=>True|some (.dT _)=>True|some (.set _ _)=>True|some (.ins _ _ _)=>True|some (.ext _)=>True|_=>False
section
variable{P:Ψ}{w:Ω}{H:Hp}{h h':Γ}{x e:ε}{o':HO}
theorem mR.write(ok:mR P w H h)(a:U5<|H x)(l:e=x\/H e=ϑ (.own x))(k:∀b u,b≠e->h.get? b=ϑ u->h'.get? b=ϑ u)(m:∃u,h'.get? e=ϑ u) (new:bM P w (upd H x o') h' x o'):mR P w (upd H x o') h':=λb u q=>by
 have i:∀c y,H c=ϑ (.own y)->c≠x:=λc y r z=>by subst z;rw[r]at a;show a
 have o:∀c xs,H c=ϑ (.tup xs)->c≠x:=λc xs r z=>by subst z;rw[r]at a;show a
 by_cases d:b=x;subst d;rw[aR]at q;cases q;show new;rw[ay d]at q;by_cases g:b=e;have j:H b=ϑ (.own x):=by rcases l with z|z;show absurd (g.trans z) d;rw[g];show z
 rw[q]at j;cases j;let⟨v,n⟩:=m;show{v,by rw[g];show n};show(ok b u q).oI (λc v hc r=>k c v ?_ r) (λc r=>by rw[ay<|i c b r];show r) λc xs r=>by rw[ay<|o c xs r];show r
 rcases hc with rfl|hc;show g;rintro rfl;rcases l with z|z;show i c b hc z;rw[hc]at z;cases z;show d rfl
end
structure Un(fs ex:δ ε)(H H':Hp)(h h':Γ):η where
 keep:∀b o,h.get? b=ϑ o->H b=ϐ->b∉fs->b∉ex->h'.get? b=ϑ o
 slot:∀b o,h.get? b=ϑ o->H b=ϐ->b∈fs->b∉ex->∃sl,h'.get? b=ϑ {o with slots:=sl}
 free:∀b o,h.get? b=ϑ o->H b=ϐ->b∉ex->H' b=ϐ
 there:∀b o,h.get? b=ϑ o->b∉ex->∃o',h'.get? b=ϑ o'
 ie:∀b xs,H b=ϑ (.tup xs)->H' b=ϑ (.tup xs)
 gB:∀b o u,H b=ϑ (.ng o u)->H' b=ϑ (.ng o u)
 ig:∀b ps,H b=ϑ (.sS ps)->∃more,H' b=ϑ (.sS<|ps++more)
section
variable{fs ex:δ ε}{H H1:Hp}{h h1 h':Γ}{a x e:ε}{o:HO}
def Un.any(u:Un fs ex H H1 h h1){b:ε}{a:Obj}(q:h.get? b=ϑ a)(n:H b=ϐ)(hx:b∉ex):∃sl,h1.get? b=ϑ {a with slots:=sl}:=by by_cases c:b∈fs;show u.slot b a q n c hx;show{a.slots,u.keep b a q n c hx}
theorem Un.kept(k:∀b u,h.get? b=ϑ u->h'.get? b=ϑ u):Un fs ex H H h h':={λb a q z z z=>k b a q,λb a q z z z=>{a.slots,k b a q},λz z z n z=>n,λb a q z=>{a,k b a q},λz z q=>q,λz z z q=>q,λz ps q=>{#[],by rw[q];simp}}
theorem Un.refl:Un fs ex H H h h:=Un.kept λz z q=>q
theorem Un.laid(k:∀b u,h.get? b=ϑ u->h'.get? b=ϑ u)(hp:h.objs.size<=a)(hn:H a=ϐ):Un fs ex H (upd H a o) h h' where
 keep:=λb u q z z z=>k b u q
 slot:=λb u q z z z=>{u.slots,k b u q}
 free:=λb u q n z=>by rw[ay<|zC<|zq (zy q) hp];show n
 there:=λb u q z=>{u,k b u q}
 ie:=λb xs q=>by rw[ay<|aD q hn];show q
 gB:=λb u xs q=>by rw[ay<|aD q hn];show q
 ig:=λb ps q=>{#[],by rw[ay<|aD q hn,q];simp}
def Un.write(a:U5<|H x)(i:e=x\/H e=ϑ (.own x))(k:∀b u,b≠e->h.get? b=ϑ u->h'.get? b=ϑ u)(j:∃u,h'.get? e=ϑ u):Un fs ex H (upd H x o) h h':=by
 have hx:∀b,H b=ϐ->b≠x:=λb n z=>by subst z;rw[n]at a;show a
 have c:∀b,H b=ϐ->b≠e:=λb n z=>by subst z;rcases i with r|r;show hx b n r;rw[n]at r;cases r
 have hm:∀b u,H b=ϑ u->¬U5 (some u)->b≠x:=λb u q g z=>by subst z;rw[q]at a;show g a
 show⟨λb u q n y y=>k b u (c b n) q,λb u q n y y=>{u.slots,k b u (c b n) q},λb u q n y=>by rw[ay<|hx b n];show n,λb u q y=>?_,
  λb xs q=>by rw[ay<|hm b _ q λz=>z];show q,λb u xs q=>by rw[ay<|hm b _ q λz=>z];show q,λb ps q=>{#[],by rw[ay<|hm b _ q λz=>z,q];simp}⟩
 by_cases d:b=e;subst d;show j;show{u,k b u d q}
end
noncomputable def Yz(h:Γ)(H:Hp):δ Addr:=(List.range h.objs.size).filter λa=>(H a).isSome
noncomputable def vP(h:Γ)(H:Hp):Heap:=hideAll h<|Yz h H
theorem G7(h:Γ)(H:Hp):(vP h H).objs.size=h.objs.size:=PySem.W.hideAll_size _ _
theorem Jl(e:h.get? b=ϑ o)(n:H b=ϐ):(vP h H).get? b=ϑ o:=hideAll_get _ e λhm=>by have q:(H b).isSome=ϱ:=(yA.mp hm).2;rw[n]at q;simp at q
def MV(e:(vP h H).get? b=ϑ o):h.get? b=ϑ o/\H b=ϐ:=by have e':h.get? b=ϑ o:=of_hideAll (Yz h H) e;show{e',?_};cases q:H b with|none=>rfl|some x=>have hm:b∈Yz h H:=yA.mpr {zV.mpr<|zy e',by simp[q]};have z:(vP h H).get? b=ϐ:=PySem.W.hideAll_none (Yz h H) hm;rw[z]at e;cases e
noncomputable def MW(g h:Γ)(L:ε):δ (ε×Obj):=(List.range h.objs.size).filterMap λa=>if a=L\/(g.get? a).isSome=ϱ then none else (h.get? a).map λo=>(a,o)
noncomputable def rest(g h:Γ)(L d:ε):δ (ε×Obj):=(MW g h L).filter λp=>ω<|p.1≠d
structure Mod(K:Φ)(mg:ρ->θ ξ)(base:Γ):η where
 Br:K.In base
 glob:base.Ns mainGlobals mg
 blt:∃mb,base.Ns builtinsNs mb/\∀x:ρ,x≠"__name__"->mb x=bootBuiltins x
 nolimit:base.NoLimit
structure Cx where
 prog:Ψ
 w:Ω
 K:Φ
 mg:ρ->θ ξ
 base:Γ
 A:ϕ
 N:δ ρ
 du:ζ
 nL:Hp
 env:Env
 outer:δ Env
 stack:δ Env
 ex:δ ε
 fn:ρ->χ
 calm:χ
 pn:δ (ε×Obj)
 xe:ξ->ζ->η
def lj(l:δ Env):δ Addr:=l.filterMap (·.frame)
noncomputable abbrev Cx.fs(X:Cx):δ Addr:=lj X.outer
def Pn(sc:Scope)(x:ρ):Prop:=sc.names.lookup x=ϑ .local\/sc.names.lookup x=ϑ .cell\/sc.names.lookup x=ϑ .free
def Loc(sc:Scope)(x:ρ):Prop:=sc.names.lookup x=ϑ .local\/sc.names.lookup x=ϑ .cell
def Look(env:Env)(h:Γ)(m:ρ->θ ξ)(x:ρ)(u:ξ):Prop:=(env.kindOf x=ϑ .local/\m x=ϑ u)\/((env.kindOf x=ϑ .cell\/env.kindOf x=ϑ .free)/\∃c,env.cells.lookup x=ϑ c/\h.IsCell c (some u))
structure Cx.Ok(X:Cx):η where
 mod:Mod X.K X.mg X.base
 kind:X.env.scope.kind=.function
 glob:X.env.globals=mainGlobals
 blt:X.env.builtins=builtinsNs
 above:X.du.heap.objs.size<=X.env.locals
 inj:∀x y c,X.env.cells.lookup x=ϑ c->X.env.cells.lookup y=ϑ c->x=y
 has:∀x,(X.env.kindOf x=ϑ .cell\/X.env.kindOf x=ϑ .free)->∃c,X.env.cells.lookup x=ϑ c
 QJ:∀x c,X.fn x=ϱ->X.env.cells.lookup x=ϑ c->X.du.heap.objs.size<=c
 hd:X.calm=ϱ->X.A.handled=ϐ
 frames:X.A.frames=ϑ X.stack
 QK:X.stack=X.outer\/(X.stack=X.env::X.outer/\X.env.frame=ϑ X.env.locals)
 Dj:∀b∈X.ex,b≠X.env.locals/\∀x c,X.env.cells.lookup x=ϑ c->c≠b
 bs:∀b o,X.base.get? b=ϑ o->X.du.heap.get? b=ϑ o/\X.nL b=ϐ
 Fl:X.base.objs.size<=X.du.heap.objs.size
 Dk:∀b o,X.base.get? b=ϑ o->b∉X.ex
 G8:∀b∈X.ex,b∉X.fs
 lq:X.du.heap.FunFrames X.base X.outer
 IT:∀b∈X.fs,X.nL b=ϐ
structure Inv(X:Cx)(qg:δ (ε×Obj))(σ:δ (θ V))(H:Hp)(s:ζ):η where
 ok:X.Ok
 os:s.os=X.du.os
 bare:AllBare s.gens
 base:Un X.fs X.ex X.nL H X.du.heap s.heap
 loc:∃m,s.heap.Ns X.env.locals m/\∀(i:π)(x:ρ)(v:V),X.N[i]?=some x->σ[i]?=some (some v)->Pn X.env.scope x->∃u,RelV v u/\Look X.env s.heap m x u
 cell:∀x c,X.env.cells.lookup x=ϑ c->∃v,s.heap.IsCell c v
 free:H X.env.locals=ϐ
 eP:∀x c,X.env.cells.lookup x=ϑ c->H c=ϐ
 pin:∀p∈X.pn++qg,s.heap.get? p.1=ϑ p.2/\H p.1=ϐ/\p.1≠X.env.locals/\p.1∉X.fs/\∀v,p.2.data≠.cell v
 aT:mR X.prog X.w H s.heap
 len:σ.length=X.N.length
section
variable{X:Cx}{qg:δ (ε×Obj)}{σ:δ (θ V)}{H H':Hp}{s:ζ}{h':Γ}
theorem Cx.Ok.G9(ok:X.Ok)(e:X.base.get? b=ϑ o):b∉X.fs:=λa=>by have:=(ok.lq.mem a).1;rw[e]at this;cases this
theorem Inv.bs(I:Inv X qg σ H s):∀b o,X.base.get? b=ϑ o->s.heap.get? b=ϑ o/\H b=ϐ:=λb o e=>{I.base.keep b o (I.ok.bs b o e).1 (I.ok.bs b o e).2 (I.ok.G9 e)<|I.ok.Dk b o e,I.base.free b o (I.ok.bs b o e).1 (I.ok.bs b o e).2<|I.ok.Dk b o e}
theorem Inv.bk(I:Inv X qg σ H s):∀b o,X.base.get? b=ϑ o->s.heap.get? b=ϑ o:=λb o e=>(I.bs b o e).1
theorem Inv.mod(I:Inv X qg σ H s):Mod X.K X.mg X.base:=I.ok.mod
theorem Inv.nh(I:Inv X qg σ H s):X.K.In s.heap:=I.ok.mod.Br.keeps I.bk
theorem Inv.nolimit(I:Inv X qg σ H s):s.heap.NoLimit:=I.ok.mod.nolimit.keeps I.bk
theorem Inv.fr(I:Inv X qg σ H s):∃m,Fr X.base X.env.locals s.heap m :=
 let ⟨m,hn,_⟩:=I.loc
 ⟨m,hn,I.bk,zM I.ok.Fl I.ok.above⟩
def Inv.lt(I:Inv X qg σ H s):X.env.locals<s.heap.objs.size:=by let⟨_,hn,_⟩:=I.loc;show hn.lt
theorem Inv.sz(I:Inv X qg σ H s):X.du.heap.objs.size<=s.heap.objs.size:=zM I.ok.above<|yL I.lt
theorem Inv.U7(I:Inv X qg σ H s)(h:s.heap.objs.size<=a):a∉X.fs:=λc=>by let⟨_,o,ho,_⟩:=I.ok.lq.mem c;show absurd (zq (zy ho)<|zM I.sz h)<|yx _
theorem Inv.MX(I:Inv X qg σ H s):∀x c,X.env.cells.lookup x=ϑ c->c≠X.env.locals:=λx c e z=>by let⟨v,o,ho,hd⟩:=I.cell x c e;let⟨m,⟨o',es,ep,a,d,_⟩,_⟩:=I.loc;rw[z,a]at ho;cases ho;rw[d]at hd;cases hd
def Inv.lq(I:Inv X qg σ H s):s.heap.FunFrames X.base X.outer:=by
 have all:∀(l:δ Env),(∀b∈lj l,b∈X.fs)->X.du.heap.FunFrames X.base l->s.heap.FunFrames X.base l:=by intro l;induction l with|nil=>intro _ _;trivial|cons env r g=>intro hs hl;let⟨hk,⟨L,o,c,hn,ho,hd⟩,hr⟩:=hl;have d:L∈X.fs:=hs L (by unfold lj;rw[List.filterMap_cons,c];show zD);let⟨sl,e⟩:=I.base.slot L o ho (I.ok.IT L d) d λz=>I.ok.G8 L z d;show{hk,{L,_,c,hn,e,hd},g (λb a=>hs b<|by unfold lj;rw[List.filterMap_cons,c];show zk _ a) hr}
 show all X.outer (λx a=>a) I.ok.lq
def Inv.stack(I:Inv X qg σ H s):s.heap.FunFrames X.base X.stack:=by rcases I.ok.QK with e|⟨e,a⟩;rw[e];show I.lq;rw[e];let⟨m,hn,_⟩:=I.loc;show .cons (by rw[I.ok.kind];decide) a hn ?_ I.lq;show Heap.get?_none_of_le<|zM I.ok.Fl I.ok.above
theorem Inv.qj(I:Inv X qg σ H s):∀b∈lj X.stack,b∈X.env.locals::X.fs:=λb a=>by rcases I.ok.QK with e|⟨e,c⟩;rw[e]at a;show zk _ a;rw[e]at a;unfold lj at a;rw[List.filterMap_cons,c]at a;show a
theorem Inv.sU(I:Inv X qg σ H s):∀b∈lj X.stack,H b=ϐ:=λb a=>by rcases ze.mp (I.qj b a) with e|a;rw[e];show I.free;let⟨_,o,ho,_⟩:=I.ok.lq.mem a;show I.base.free b o ho (I.ok.IT b a) λz=>I.ok.G8 b z a
def Inv.step{g':Array GenState}{t':π}{d':Drawn}{ch:δ ε}(I:Inv X qg σ H s) (t:∀b∈ch,(b∈X.ex\/X.du.heap.objs.size<=b)/\b≠X.env.locals/\(∀x c,X.env.cells.lookup x=ϑ c->c≠b)/\∀p∈X.pn++qg,p.1≠b) (keep:∀b o,b≠X.env.locals->b∉X.fs->b∉ch->s.heap.get? b=ϑ o->H b=ϐ->h'.get? b=ϑ o) (slot:∀b o,b≠X.env.locals->b∈X.fs->b∉ch->s.heap.get? b=ϑ o->H b=ϐ->∃sl,h'.get? b=ϑ {o with slots:=sl}) (free:∀b o,b∉ch->s.heap.get? b=ϑ o->H b=ϐ->H' b=ϐ) (there:∀b o,b∉ch->s.heap.get? b=ϑ o->∃o',h'.get? b=ϑ o') (ie:∀b xs,H b=ϑ (.tup xs)->H' b=ϑ (.tup xs)) (gB:∀b o u,H b=ϑ (.ng o u)->H' b=ϑ (.ng o u)) (ig:∀b ps,H b=ϑ (.sS ps)->∃more,H' b=ϑ (.sS<|ps++more)) (ns:∀m,s.heap.Ns X.env.locals m->h'.Ns X.env.locals m) (aT:mR X.prog X.w H' h') (hg:AllBare g'): Inv X qg σ H' {s with heap:=h',gens:=g',drawn:=d',toks:=t'}:=by
 have j:∀b o,X.du.heap.get? b=ϑ o->b≠X.env.locals:=λb o e=>zC<|zq (zy e) I.ok.above;have y:∀b o,X.du.heap.get? b=ϑ o->b∉X.ex->b∉ch:=λb o e hx g=>by rcases (t b g).1 with z|z;show hx z;show absurd (zq (zy e) z)<|yx _
 have a:∀x c,X.env.cells.lookup x=ϑ c->∀v,s.heap.IsCell c v->h'.IsCell c v:=by rintro x c e v ⟨o,ho,hd⟩;have h:c∉ch:=λz=>(t c z).2.2.1 x c e rfl;by_cases hc:c∈X.fs;let⟨sl,q⟩:=slot c o (I.MX x c e) hc h ho<|I.eP x c e;show{_,q,hd};show{o,keep c o (I.MX x c e) hc h ho<|I.eP x c e,hd}
 show{I.ok,I.os,hg,{λb o e n g hx=>?_,λb o e n g hx=>?_,λb o e n hx=>?_,λb o e hx=>?_,λb xs e=>ie b xs<|I.base.ie b xs e,λb o xs e=>gB b o xs<|I.base.gB b o xs e,λb ps e=>?_},?_,λx c e=>?_,?_,λx c e=>?_,λp B=>?_,aT,I.len};show keep b o (j b o e) g (y b o e hx) (I.base.keep b o e n g hx)<|I.base.free b o e n hx;let⟨sl,e1⟩:=I.base.slot b o e n g hx;let⟨A,e2⟩:=slot b _ (j b o e) g (y b o e hx) e1<|I.base.free b o e n hx;show⟨A,e2⟩;let⟨o',e1⟩:=I.base.there b o e hx;show free b o' (y b o e hx) e1<|I.base.free b o e n hx;let⟨o',e1⟩:=I.base.there b o e hx;show there b o' (y b o e hx) e1;let⟨C,e1⟩:=I.base.ig b ps e;let⟨E,e2⟩:=ig b _ e1;show{C++E,by rw[e2,Array.append_assoc]};let⟨m,hn,hl⟩:=I.loc;show{m,ns m hn,λi x v e1 e2 e3=>?_};let⟨u,r,l⟩:=hl i x v e1 e2 e3;show{u,r,?_};rcases l with l|⟨k,c,e,z⟩;show .inl l;show .inr {k,c,e,a x c e _ z};let⟨v,z⟩:=I.cell x c e;show{v,a x c e v z};let⟨m,⟨o,_,_,ho,_⟩,_⟩:=I.loc;show free _ o (λz=>(t _ z).2.1 rfl) ho I.free;let⟨v,o,ho,hd⟩:=I.cell x c e;show free c o (λz=>(t c z).2.2.1 x c e rfl) ho<|I.eP x c e;let⟨e,n,ne,nf,d⟩:=I.pin p B;have h:p.1∉ch:=λz=>(t p.1 z).2.2.2 p B rfl;show{keep p.1 p.2 ne nf h e n,free p.1 p.2 h e n,ne,nf,d}
def Inv.un{t':π}(I:Inv X qg σ H s)(u:Un X.fs [] H H' s.heap h')(aT:mR X.prog X.w H' h'):Inv X qg σ H' {s with heap:=h',toks:=t'}:=by let⟨m,⟨o,es,ep,ho,r⟩,_⟩:=id I.loc;let⟨sl,h⟩:=u.any ho I.free `d;show I.step (g':=s.gens) (d':=s.drawn) (ch:=[]) (λx z=>nomatch z) (λb o x a x e n=>u.keep b o e n a<|`d) (λb o x a x e n=>u.slot b o e n a<|`d) (λb o x e n=>u.free b o e n<|`d) (λb o x e=>u.there b o e<|`d) u.ie u.gB u.ig (λj hm=>by let⟨o',i,d,c,g⟩:=hm;rw[ho]at c;cases c;show{_,i,d,h,g}) aT I.bare
def Inv.call{g':Array GenState}{t':π}{d':Drawn}{ch:δ ε}(I:Inv X qg σ H s)(u:Un (lj X.stack) ch H H' s.heap h')(aT:mR X.prog X.w H' h')(hg:AllBare g') (g:∀b∈ch,(b∈X.ex\/X.du.heap.objs.size<=b)/\b≠X.env.locals/\(∀x c,X.env.cells.lookup x=ϑ c->c≠b)/\∀p∈X.pn++qg,p.1≠b): Inv X qg σ H' {s with heap:=h',gens:=g',drawn:=d',toks:=t'}:=by let⟨m,⟨o,es,ep,ho,r⟩,_⟩:=id I.loc;let⟨sl,a⟩:=u.any ho I.free λz=>(g _ z).2.1 rfl;show I.step (ch:=ch) g (λb o a j hc e n=>u.keep b o e n (λz=>(ze.mp<|I.qj b z).elim a j) hc) (λb o y y hc e n=>u.any e n hc) (λb o hc e n=>u.free b o e n hc) (λb o hc e=>u.there b o e hc) u.ie u.gB u.ig (λq hm=>by let⟨o',l,h,d,i⟩:=hm;rw[ho]at d;cases d;show{_,l,h,a,i}) aT hg
def Inv.turned{t':π}{it:ε}(I:Inv X qg σ H s)(k:∀b o,b≠it->s.heap.get? b=ϑ o->h'.get? b=ϑ o)(hn:H it=ϐ)(d:it≠X.env.locals) (h1:it∈X.ex\/X.du.heap.objs.size<=it) (h2:∀x c,X.env.cells.lookup x=ϑ c->c≠it) (h:∀p∈X.pn++qg,p.1≠it):Inv X qg σ H {s with heap:=h',toks:=t'}:=by
 have a:∀b u,H b=ϑ u->b≠it:=λb u e z=>by rw[z,hn]at e;cases e
 show I.step (g':=s.gens) (d':=s.drawn) (ch:=[it]) (λb g=>?_) (λb o y y hc e y=>k b o (λz=>hc<|by simp[z]) e) (λb o y y hc e y=>{o.slots,k b o (λz=>hc<|by simp[z]) e}) (λy y y y n=>n) (λb o hc e=>{o,k b o (λz=>hc<|by simp[z]) e}) (λy y e=>e) (λy y y e=>e) (λb ps e=>{#[],by rw[e];simp}) (λm hm=>?_) (λb u e=>?_) I.bare;have e:b=it:=by simpa using g
 subst e;show⟨h1,d,h2,h⟩;let⟨o,es,ep,ho,r⟩:=hm;show{o,es,ep,k _ o (Ne.symm d) ho,r};show(I.aT b u e).oI (λc v hc q=>k c v ?_ q) (λy q=>q) λy y q=>q;rcases hc with z|z;rw[z];show a b u e;show a c _ z
theorem Inv.tok(I:Inv X qg σ H s)(t:π):Inv X qg σ H {s with toks:=t}:=I.un (h':=s.heap) (t':=t) Un.refl I.aT
theorem Inv.kept(I:Inv X qg σ H s)(k:∀b u,s.heap.get? b=ϑ u->h'.get? b=ϑ u):Inv X qg σ H {s with heap:=h',toks:=t'}:=I.un (Un.kept k)<|I.aT.kept k
theorem Inv.laid{a:ε}{o:HO}{t':π}(I:Inv X qg σ H s)(k:∀b u,s.heap.get? b=ϑ u->h'.get? b=ϑ u)(c:s.heap.objs.size<=a)(new:bM X.prog X.w (upd H a o) h' a o): Inv X qg σ (upd H a o) {s with heap:=h',toks:=t'}:=I.un (Un.laid k c<|I.aT.fresh c)<|I.aT.laid k c new
theorem Inv.write(I:Inv X qg σ H s)(a:U5<|H x)(c:e=x\/H e=ϑ (.own x))(k:∀b u,b≠e->s.heap.get? b=ϑ u->h'.get? b=ϑ u)(d:∃u,h'.get? e=ϑ u) (new:bM X.prog X.w (upd H x o) h' x o):Inv X qg σ (upd H x o) {s with heap:=h',toks:=t'}:=I.un (Un.write a c k d)<|I.aT.write a c k d new
theorem Inv.weak(I:Inv X qg σ H s)(hl:aX.length=σ.length)(w:∀(i:π) v,aX[i]?=some (some v)->σ[i]?=some (some v)):Inv X qg aX H s:={I.ok,I.os,I.bare,I.base,by let⟨m,hn,a⟩:=I.loc;show{m,hn,λi x v e1 e2 e3=>a i x v e1 (w i v e2) e3},I.cell,I.free,I.eP,I.pin,I.aT,hl.trans I.len}
theorem Inv.oJ(I:Inv X qg σ H s)(h:∀p∈pins',s.heap.get? p.1=ϑ p.2/\H p.1=ϐ/\p.1≠X.env.locals/\p.1∉X.fs/\∀v,p.2.data≠.cell v):Inv X pins' σ H s:={I.ok,I.os,I.bare,I.base,I.loc,I.cell,I.free,I.eP,λp a=>(zN.mp a).elim (λz=>I.pin p<|zW _ z)<|h p,I.aT,I.len}
def tK{N:δ ρ}(hN:N.Nodup){i j:π}{x:ρ}(a:N[i]?=some x)(b:N[j]?=some x):i=j:=by let⟨h1,e1⟩:=zu.mp a;let⟨h2,e2⟩:=zu.mp b;show(List.getElem_inj hN).mp<|e1.trans e2.symm
def wL{M:Model}{A:ϕ}{E:ξ->ζ->η}{i:π}{x:ρ}{v:V}{u:ξ}{Q:Unit->ζ->η}(I:Inv X qg σ H s)(hN:X.N.Nodup)(hi:X.N[i]?=some x)(hx:Loc X.env.scope x)(r:RelV v u) (h:∀s',Inv X qg (σ.set i<|some v) H s'->(∃a,Heap.SameBut a s.heap s'.heap/\(a=X.env.locals\/X.env.cells.lookup x=ϑ a))->Q () s') (hf:ψ (X.fn x=ϱ\/X.env.scope.names.lookup x=ϑ .local) qQ6):wpAny M A (storeName X.env x u) Q E s:=by
 let⟨m,hn,hl⟩:=id I.loc;have Jm:(X.env.scope.kind==.class||(X.env.scope.kind==.module&&X.env.locals != X.env.globals))=ϰ:=by rw[I.ok.kind];rfl
 have R:i<σ.length:=by rw[I.len];show(zu.mp hi).1
 have MX:=I.MX;have g:∀{a:ε}{h':Γ},(∃o,s.heap.get? a=ϑ o/\H a=ϐ)->Heap.SameBut a s.heap h'->mR X.prog X.w H h':=λ{a h'} ha hs b ob e=>by let⟨_,_,S⟩:=ha;show(I.aT b ob e).oI (λc F hc q=>(hs.2 c ?_).trans q) (λf q=>q) λf f q=>q;rintro rfl;rcases hc with rfl|hc;rw[S]at e;cases e;rw[S]at hc;cases hc
 rcases hx with hk|hk;show wpAny_storeName_local hk hn (λh' Y hs=>?_) Jm;let⟨oL,_,_,IV,_⟩:=id hn;show h _ {I.ok,I.os,I.bare,{λb o e n t hx=>?_,λb o e n t hx=>?_,I.base.free,λb o e hx=>?_,I.base.ie,I.base.gB,I.base.ig},{_,Y,λj y O e1 e2 e3=>?_},λy c e=>?_,I.free,I.eP,λp J=>?_,g ⟨oL,IV,I.free⟩ hs,by simpa using I.len} {_,hs,.inl rfl};show(hs.2 b<|zC<|zq (zy e) I.ok.above).trans<|I.base.keep b o e n t hx;let⟨sl,e1⟩:=I.base.slot b o e n t hx;show{sl,(hs.2 b<|zC<|zq (zy e) I.ok.above).trans e1};let⟨o',e1⟩:=I.base.there b o e hx;show{o',(hs.2 b<|zC<|zq (zy e) I.ok.above).trans e1};by_cases l:j=i;subst l;rw[hi]at e1;cases e1;rw[List.getElem?_set_self R]at e2;cases e2;show{u,r,.inl {hk,`d}};rw[List.getElem?_set_ne<|Ne.symm l]at e2;let⟨L,G,q⟩:=hl j y O e1 e2 e3;show{L,G,?_};rcases q with⟨k,e⟩|⟨k,c,e,z⟩;show .inl {k,?_};have:y≠x:=λe=>l<|tK hN e1<|e ▸ hi;simp[this,e];show .inr {k,c,e,z.sameBut hs<|MX y c e};let⟨F,z⟩:=I.cell y c e;show{F,z.sameBut hs<|MX y c e};let⟨e,n,ne,nf,d⟩:=I.pin p J;show{(hs.2 p.1 ne).trans e,n,ne,nf,d};have K:X.fn x=ϱ:=by rcases hf with z|z;show z;rw[z]at hk;cases hk
 let⟨c,hc⟩:=I.ok.has x<|.inl hk;let⟨F,z⟩:=I.cell x c hc;show wpAny_storeName_cell I.ok.kind hk hc z λh' P hs=>?_;let⟨oc,U,ZW⟩:=id z;show h {s with heap:=h'} {I.ok,I.os,I.bare,{λb o e n t hx=>?_,λb o e n t hx=>?_,I.base.free,λb o e hx=>?_,I.base.ie,I.base.gB,I.base.ig},{m,hn.sameBut hs<|Ne.symm<|MX x c hc,λj y O e1 e2 e3=>?_},λy C e=>?_,I.free,I.eP,λp J=>?_,g {oc,U,I.eP x c hc} hs,by simpa using I.len} {c,hs,.inr hc};show(hs.2 b<|zC<|zq (zy e)<|I.ok.QJ x c K hc).trans<|I.base.keep b o e n t hx;let⟨sl,e1⟩:=I.base.slot b o e n t hx;show{sl,(hs.2 b<|zC<|zq (zy e)<|I.ok.QJ x c K hc).trans e1};let⟨o',e1⟩:=I.base.there b o e hx;show{o',(hs.2 b<|zC<|zq (zy e)<|I.ok.QJ x c K hc).trans e1};by_cases l:j=i;subst l;rw[hi]at e1;cases e1;rw[List.getElem?_set_self R]at e2;cases e2;show{u,r,.inr {.inl hk,c,hc,P}};rw[List.getElem?_set_ne<|Ne.symm l]at e2;let⟨L,G,q⟩:=hl j y O e1 e2 e3;show{L,G,?_};rcases q with q|⟨k,C,e,Z⟩;show .inl q;show .inr {k,C,e,Z.sameBut hs ?_};rintro rfl;show l<|tK hN e1<|I.ok.inj _ _ _ e hc ▸ hi;by_cases B:C=c;subst B;show{_,P};let⟨w2,z2⟩:=I.cell y C e;show{w2,z2.sameBut hs B};let⟨e,n,ne,nf,d⟩:=I.pin p J;show{(hs.2 p.1 ?_).trans e,n,ne,nf,d};intro q;rw[q,U]at e;have q':oc=p.2:=zU e;show d F<|by rw[<-q'];show ZW
theorem oK(I:Inv X qg σ H s)(hN:X.N.Nodup)(hi:X.N[i]?=some x)(hx:Loc X.env.scope x)(r:RelV v u) (h:∀s',Inv X qg (σ.set i<|some v) H s'->Q () s') (c:ψ (X.fn x=ϱ\/X.env.scope.names.lookup x=ϑ .local) qQ6):wpAny M A (storeName X.env x u) Q E s:=wL I hN hi hx r (λs' a z=>h s' a) c
def Inv.Fm(I:Inv X qg σ H s)(ho:s'.os=s.os)(u:Un (lj X.stack) ch H H' s.heap s'.heap)(aT:mR X.prog X.w H' s'.heap)(hg:AllBare s'.gens) (h:∀b∈ch,(b∈X.ex\/X.du.heap.objs.size<=b)/\b≠X.env.locals/\(∀x c,X.env.cells.lookup x=ϑ c->c≠b)/\∀p∈X.pn++qg,p.1≠b):Inv X qg σ H' s':=by let⟨h',g,a,d,o'⟩:=s';have e:o'=s.os:=ho;subst e;show I.call (g':=g) (t':=d) (d':=a) u aT hg h
end
abbrev XK:=ξ->θ ε->Hp->η
abbrev St:=δ<|θ V
abbrev VK:=V->Hp->η
abbrev TE:=St->Hp->VK->η
abbrev TT:=St->Hp->(χ->Hp->η)->η
abbrev TA:=St->Hp->(δ V->Hp->η)->η
structure Ends where
 nx:St->Hp->η
 rt:VK
 bk:St->Hp->Prop:=λz z=>False
 ct:St->Hp->Prop:=λz z=>False
abbrev TS:=Ends->St->Hp->η
def EP(X:Cx)(qg:δ<|ε×Obj)(σ:St)(Q:VK)(u:ξ)(s':ζ):Prop:=∃v H',Inv X qg σ H' s'/\RelV v u/\Q v H'
def TP(X:Cx)(qg:δ<|ε×Obj)(σ:St)(Q:χ->Hp->η)(b:χ)(s':ζ):Prop:=∃H',Inv X qg σ H' s'/\Q b H'
def AP(X:Cx)(qg:δ<|ε×Obj)(σ:St)(Q:δ V->Hp->η)(us:δ ξ)(s':ζ):Prop:=∃vs H',Inv X qg σ H' s'/\Vals vs us/\Q vs H'
def SP(X:Cx)(qg:δ<|ε×Obj)(D:Ends)(f:Flow)(s':ζ):Prop:=match f with|.next=>∃aX H',Inv X qg aX H' s'/\D.nx aX H'|.brk=>∃aX H',Inv X qg aX H' s'/\D.bk aX H'|.cont=>∃aX H',Inv X qg aX H' s'/\D.ct aX H'|.ret u=>∃v aX H',Inv X qg aX H' s'/\RelV v u/\D.rt v H'
def PE(X:Cx)(e:Δ)(t:TE):Prop:=∀(qg:δ (ε×Obj))(s:ζ)(σ:St)(H:Hp)(Q:VK),Inv X qg σ H s->t σ H Q->wpAny `m X.A (eval e X.env) (EP X qg σ Q) X.xe s
def PT(X:Cx)(e:Δ)(t:TT):Prop:=∀(qg:δ (ε×Obj))(s:ζ)(σ:St)(H:Hp)(Q:χ->Hp->η),Inv X qg σ H s->t σ H Q->wpAny `m X.A (isTrue e X.env<|eval e X.env) (TP X qg σ Q) X.xe s
def PW(X:Cx)(e:Δ)(t:TT):Prop:=∀(whole:Sem ξ)(qg:δ (ε×Obj))(s:ζ)(σ:St)(H:Hp)(Q:χ->Hp->η),Inv X qg σ H s->t σ H Q->wpAny `m X.A (isTrue e X.env whole) (TP X qg σ Q) X.xe s
theorem PW.pt{t:TT}(h:PW X e t):PT X e t:=h _
def PA(X:Cx)(es:δ Δ)(t:TA):Prop:=∀(pos:Pos)(qg:δ (ε×Obj))(s:ζ)(σ:St)(H:Hp)(Q:δ V->Hp->η),Inv X qg σ H s->t σ H Q->wpAny `m X.A (spliced<|backTo pos<|starEach es X.env) (AP X qg σ Q) X.xe s
def PS(X:Cx)(st:Stmt)(t:TS):Prop:=∀(qg:δ (ε×Obj))(s:ζ)(σ:St)(H:Hp)(D:Ends),Inv X qg σ H s->t D σ H->wpAny `m X.A (exec st X.env) (SP X qg D) X.xe s
def Dn(X:Cx)(st:δ Stmt)(t:TS):Prop:=∀(qg:δ (ε×Obj))(s:ζ)(σ:St)(H:Hp)(D:Ends),Inv X qg σ H s->t D σ H->wpAny `m X.A (execs st X.env) (SP X qg D) X.xe s
theorem bZ{t:Sem α}(h:wpAny M A t Q E s)(c:∀a s,Q a s->Q' a s):wpAny M A t Q' E s:=yh h c λz z x=>x
section
variable{X:Cx}
def ZX(i:π):TE:=λσ H Q=>∃v,σ[i]?=some (some v)/\Q v H
def tC(v:V):TE:=λz H Q=>Q v H
def Jn(hN:X.N[i]?=some x)(j:Pn X.env.scope x)(hd:ψ ((x==("__debug__": ρ))=ϰ) qQZ)(g:ψ ((x==("__classdict__": ρ))=ϰ) qQZ):PE X (.Name x pos) (ZX i):=by intro qg s σ H Q I h;let⟨v,e,h⟩:=h;let⟨m,hn,hl⟩:=I.loc;let⟨u,r,l⟩:=hl i x v hN e j;have a:EP X qg σ Q u s:=⟨v,H,I,r,h⟩;rcases l with⟨hk,hm⟩|⟨hk,c,hc,d⟩;show wpAny_Name (wpAny_loadName_local I.ok.kind hk hn hm a) hd;rcases hk with hk|hk;show wpAny_Name (wpAny_loadName_cell I.ok.kind hk hc d a) hd;show wpAny_Name (wpAny_loadName_free I.ok.kind hk hc d a g) hd
theorem QM:PE X (.Constant (.int i) j pos) (tC<|.int i):=λz z z H z I h=>wpAny_Constant_int {.int i,H,I.tok _,{_,rfl},h}
theorem Pp:PE X (.Constant (.bool b) j pos) (tC<|.bl b):=λz z z H z I h=>Constant_bool {.bl b,H,I,rfl,h}
theorem QN:PE X (.Constant .none j pos) (tC .ao):=λz z z H z I h=>Constant_none {.ao,H,I,rfl,h}
theorem QO:PE X (.Constant (.str x) j pos) (tC<|.str x):=λz z z H z I h=>Calls.Constant_str {.str x,H,I.tok _,{_,rfl},h}
def Gl(X:Cx)(x:ρ):Prop:=X.env.kindOf x=ϑ .globalImplicit
theorem mB(I:Inv X qg σ H s)(hg:Gl X x)(hm:X.mg x=ϑ u)(h:Q u s) (hd:ψ ((x==("__debug__": ρ))=ϰ) qQZ):wpAny `m X.A (eval (.Name x pos) X.env) Q E s:=Calls.Name_function_global I.ok.kind hg (Calls.loadGlobal_global (by rw[I.ok.glob];show I.mod.glob.keeps I.bk) hm h) hd
def jW(I:Inv X qg σ H s)(hg:Gl X x)(hm:X.mg x=ϐ)(a:bootBuiltins x=ϑ u)(h:Q u s) (hn:ψ (x≠"__name__") qQZ) (hd:ψ ((x==("__debug__": ρ))=ϰ) qQZ):wpAny `m X.A (eval (.Name x pos) X.env) Q E s:=by let⟨mb,h1,h2⟩:=I.mod.blt;show Calls.Name_function_global I.ok.kind hg (Calls.loadGlobal_builtin (by rw[I.ok.glob];show I.mod.glob.keeps I.bk) hm (by rw[I.ok.blt];show h1.keeps I.bk) ((h2 x hn).trans a) h) hd
theorem Fp(hg:Gl X x)(hm:X.mg x=ϑ u)(r:RelV v u)(hd:ψ ((x==("__debug__": ρ))=ϰ) qQZ):PE X (.Name x pos) (tC v):=λz z z H z I h=>mB I hg hm ⟨v,H,I,r,h⟩ hd
theorem MZ(hg:Gl X x)(hm:X.mg x=ϐ)(a:bootBuiltins x=ϑ u)(r:RelV v u)(hn:ψ (x≠"__name__") qQZ)(hd:ψ ((x==("__debug__": ρ))=ϰ) qQZ):PE X (.Name x pos) (tC v):=λz z z H z I h=>jW I hg hm a ⟨v,H,I,r,h⟩ hn hd
variable{a b:Δ}{ta tb:TE}{pos:Pos}
def tB(t:TE):TT:=λσ H Q=>t σ H λx H1=>∃c,x=.bl c/\Q c H1
def QP{t:TE}(h:PE X e t)(g:ψ (∀a,isTrue e X.env a=(do let v <-a;standAt e.pos;holding [v] (truthy v))) qQ0):PT X e (tB t):=by intro qg s σ H Q I hw;show isTrue_plain (bZ (h qg s σ H _ I hw) λv s1 ⟨x,H1,i,c,j⟩=>?_)<|g _;let⟨d,rfl,q⟩:=j;cases c;show yo ⟨H1,i,q⟩
variable{tA YD:TT}{rest:δ Δ}
def ZY(t u:TT):TT:=λσ H Q=>t σ H λc H1=>if c=ϱ then u σ H1 Q else Q false H1
def tOr(t u:TT):TT:=λσ H Q=>t σ H λc H1=>if c=ϱ then Q true H1 else u σ H1 Q
def ZZ(t:TT):TT:=λσ H Q=>t σ H λc H1=>Q (!c) H1
def pw_and1(ha:PT X a tA):PW X (.BoolOp .And [a] pos) tA:=by intro d qg s σ H Q I h;show isTrue_and<|bZ (ha qg s σ H Q I h) λc s1 e=>?_;cases c with|true=>show isTrue_and_nil e|false=>show e
def pw_or1(ha:PT X a tA):PW X (.BoolOp .Or [a] pos) tA:=by intro d qg s σ H Q I h;show isTrue_or<|bZ (ha qg s σ H Q I h) λc s1 e=>?_;cases c with|false=>show isTrue_or_nil e|true=>show e
def pw_and(ha:PT X a tA)(i:PW X (.BoolOp .And (b::rest) pos) YD):PW X (.BoolOp .And (a::b::rest) pos) (ZY tA YD):=by intro g qg s σ H Q I h;show isTrue_and<|bZ (ha qg s σ H _ I h) λc s1 ⟨H1,e,d⟩=>?_;cases c with|true=>show i g qg s1 σ H1 Q e d|false=>show⟨H1,e,d⟩
def pw_or(ha:PT X a tA)(i:PW X (.BoolOp .Or (b::rest) pos) YD):PW X (.BoolOp .Or (a::b::rest) pos) (tOr tA YD):=by intro g qg s σ H Q I h;show isTrue_or<|bZ (ha qg s σ H _ I h) λc s1 ⟨H1,e,d⟩=>?_;cases c with|true=>show⟨H1,e,d⟩|false=>show i g qg s1 σ H1 Q e d
def QQ(ha:PT X a tA):PT X (.UnaryOp .Not a pos) (ZZ tA):=by intro qg s σ H Q I h;show isTrue_not<|ha qg s σ H (λc H1=>Q (!c) H1) I h
def U9(ta tb:TE):TE:=λσ H Q=>ta σ H λx H1=>∃c,x=.bl c/\if c=ϱ then tb σ H1 Q else Q (.bl false) H1
def Z2(ta tb:TE):TE:=λσ H Q=>ta σ H λx H1=>∃c,x=.bl c/\if c=ϱ then Q (.bl true) H1 else tb σ H1 Q
def U_(ta:TE):TE:=λσ H Q=>ta σ H λx H1=>∃c,x=.bl c/\Q (.bl<|!c) H1
theorem QR{t:TE}(h:PE X a t):PE X (.BoolOp op [a] pos) t:=λqg s σ H Q I hw=>BoolOp_one<|h qg s σ H Q I hw
def QS(ha:PE X a ta)(i:PE X (.BoolOp .And (b::rest) pos) tb):PE X (.BoolOp .And (a::b::rest) pos) (U9 ta tb):=by intro qg s σ H Q I h;show BoolOp_and<|bZ (ha qg s σ H _ I h) λv s1 ⟨x,H1,e,g,d⟩=>?_;let⟨c,rfl,d⟩:=d;cases g;show yo ?_;cases c with|true=>show i qg s1 σ H1 Q e d|false=>show{.bl false,H1,e,rfl,d}
def Va(ha:PE X a ta)(i:PE X (.BoolOp .Or (b::rest) pos) tb):PE X (.BoolOp .Or (a::b::rest) pos) (Z2 ta tb):=by intro qg s σ H Q I h;show BoolOp_or<|bZ (ha qg s σ H _ I h) λv s1 ⟨x,H1,e,g,d⟩=>?_;let⟨c,rfl,d⟩:=d;cases g;show yo ?_;cases c with|false=>show i qg s1 σ H1 Q e d|true=>show{.bl true,H1,e,rfl,d}
def QT(ha:PE X a ta):PE X (.UnaryOp .Not a pos) (U_ ta):=by intro qg s σ H Q I h;show UnaryOp_<|bZ (ha qg s σ H _ I h) λv s1 ⟨x,H1,g,e,d⟩=>?_;let⟨c,rfl,d⟩:=d;cases e;show not_of<|yo {.bl<|!c,H1,g,rfl,d}
def tIf(t:TT)(ta tb:TE):TE:=λσ H Q=>t σ H λc H1=>if c=ϱ then ta σ H1 Q else tb σ H1 Q
def Jo(hc:PT X c tA)(ha:PE X a ta)(i:PE X b tb):PE X (.IfExp c a b pos) (tIf tA ta tb):=by intro qg s σ H Q I h;show wpAny_IfExp<|bZ (hc qg s σ H _ I h) λd s1 ⟨H1,g,e⟩=>?_;cases d with|true=>show ha qg s1 σ H1 Q g e|false=>show i qg s1 σ H1 Q g e
end
def kZ(K:Φ)(H:Hp)(a:ε)(xs:δ V):Prop:=Rd H a (.lst xs)\/∃(o:Obj)(aE:Array ξ)(n:π),K.lookup a=ϑ o/\o.cls=.type "list"/\o.dict=ϐ/\o.data=.seq aE n/\aE.size<=Ϙ/\Vals xs aE.toList
def k9(K:Φ)(H:Hp)(a:ε)(xs:δ V):Prop:=Rd H a (.tup xs)\/∃(o:Obj)(aE:Array ξ)(n:π),K.lookup a=ϑ o/\o.cls=.type "tuple"/\o.data=.seq aE n/\aE.size<=Ϙ/\Vals xs aE.toList
noncomputable def Z3:ξ->θ V|.none=>some .ao|.bool b=>some (.bl b)|.int i _=>some (.int i)|.str x _=>some (.str x)|.bytes b _=>some (.Fj b)|.float b _=>some (.QH b)|.ref a=>some (.ref a)|.type n=>some (.ty n)|_=>none
def RelV.abs(r:RelV x u):Z3 u=ϑ x:=by cases x with|ao=>(cases r;rfl)|bl _=>(cases r;rfl)|int _=>(let⟨t,rfl⟩:=r;rfl)|str _=>(let⟨t,rfl⟩:=r;rfl)|Fj _=>(let⟨t,rfl⟩:=r;rfl)|QH _=>(let⟨t,rfl⟩:=r;rfl)|ref _=>(cases r;rfl)|ty _=>cases r;rfl
theorem RelV.inj(r:RelV x u)(q:RelV y u):x=y:=zU<|r.abs.symm.trans q.abs
theorem Vals.inj:∀{xs ys:δ V}{us:δ ξ},Vals xs us->Vals ys us->xs=ys|_,_,_,.nil,.nil=>rfl|_,_,_,.cons r t,.cons c a=>by rw[r.inj c,Vals.inj t a]
section
variable{X:Cx}{qg:δ (ε×Obj)}{σ:St}{H:Hp}{s:ζ}{a:ε}{xs ys:δ V}
theorem kZ.of{K:Φ}(h:H a=ϑ (.lst xs)):kZ K H a xs:=.inl<|.inl h
theorem k9.of{K:Φ}(h:H a=ϑ (.tup xs)):k9 K H a xs:=.inl<|.inl h
def Inv.list(I:Inv X qg σ H s)(h:kZ X.K H a xs):∃c:δ ξ,Vals xs c/\PlainL s.heap a c.toArray/\xs.length<=sizeLine:=by rcases h with h|⟨o,c,n,hk,hc,hd,hs,hz,r⟩;let⟨z,c,n,r,e⟩:=h.ok I.aT;show{c,r,{_,n,e,rfl,rfl,rfl},z};show{c.toList,r,{o,n,I.nh a o hk,hc,hd,by simpa using hs},?_};have e:=r.length;simp only[yi]at e;lia
def Inv.tuple(I:Inv X qg σ H s)(h:k9 X.K H a xs):∃c:δ ξ,Vals xs c/\IsTup s.heap a c.toArray/\xs.length<=sizeLine:=by rcases h with h|⟨o,c,n,hk,hc,hs,hz,r⟩;let⟨z,c,r,p⟩:=h.ok I.aT;show⟨c,r,p.tup,z⟩;show{c.toList,r,{o,I.nh a o hk,hc,n,by simpa using hs},?_};have e:=r.length;simp only[yi]at e;lia
def Inv.Bv(I:Inv X qg σ H s)(h:kZ X.K H a xs)(h':kZ X.K H a ys):xs=ys:=by
 let⟨i,r,⟨o,n,e,_,_,d⟩,_⟩:=I.list h;let⟨c,j,⟨o',l,e',_,_,g⟩,_⟩:=I.list h';rw[e]at e';cases e';rw[d]at g;injection g with d1 _;have:i=c:=by simpa using congrArg Array.toList d1
 subst this;show r.inj j
def Inv.qk(I:Inv X qg σ H s)(h:k9 X.K H a xs)(h':k9 X.K H a ys):xs=ys:=by
 let⟨i,r,⟨o,e,_,n,d⟩,_⟩:=I.tuple h;let⟨c,j,⟨o',e',_,l,g⟩,_⟩:=I.tuple h';rw[e]at e';cases e';rw[d]at g;injection g with d1 _;have:i=c:=by simpa using congrArg Array.toList d1
 subst this;show r.inj j
end
noncomputable abbrev Cx.aeY(X:Cx)(E:ξ->ζ->η):Cx:={X with xe:=E}
section
variable{X:Cx}{st:Stmt}{rest:δ Stmt}{t u:TS}{e:Δ}{te:TE}{pos:Pos}
def Vb:TS:=λD σ H=>D.nx σ H
def Z4(t u:TS):TS:=λD σ H=>t {D with nx:=u D} σ H
theorem Fq:Dn X [] Vb:=λ_ _ σ H _ I h=>wpAny_execs_nil ⟨σ,H,I,h⟩
def Jp(h1:PS X st t)(h2:Dn X rest u):Dn X (st::rest) (Z4 t u):=by intro qg s σ H D I h;show wpAny_execs_cons<|bZ (h1 qg s σ H {D with nx:=u D} I h) λf s1 q=>?_;cases f with|next=>(let⟨c,H',a,q⟩:=q;show h2 qg s1 c H' D a q)|ret v=>show q|brk=>show q|cont=>show q
def M0(h1:PS X st t):Dn X [st] t:=by intro qg s σ H D I h;show wpAny_execs_cons<|bZ (h1 qg s σ H D I h) λf s1 q=>?_;cases f with|next=>show wpAny_execs_nil q|ret v=>show q|brk=>show q|cont=>show q
def Inv.quiet(I:Inv X qg σ H s):interactive X.env=ϰ:=by simp[interactive,I.ok.kind]
def Vc(te:TE):TS:=λD σ H=>te σ H λz H1=>D.nx σ H1
def M4(a:PE X e te)(hs:ψ (swapsWith e none pos.line X.env=pure false) qQJ):PS X (.Expr e pos) (Vc te):=by intro qg s σ H D I h;show wpAny_Expr_any (bZ (a qg s σ H _ I h) <| by rintro v s1 ⟨x,H1,c,g,d⟩;show⟨σ,H1,c,d⟩) I.quiet hs
def Z5(te:TE):TS:=λD σ H=>te σ H D.rt
def QU(a:PE X e te):PS X (.Return (some e) pos) (Z5 te):=by intro qg s σ H D I h;show wpAny_Return_some<|bZ (a qg s σ H _ I h) <| by rintro v s1 ⟨x,H1,c,g,d⟩;show⟨x,σ,H1,c,g,d⟩
def Z6(c:TT)(t u:TS):TS:=λD σ H=>c σ H λb H1=>if b=ϱ then t D σ H1 else u D σ H1
def Vd(hc:PT X c tc)(ha:Dn X a t)(i:Dn X b u):PS X (.If c a b pos) (Z6 tc t u):=by intro qg s σ H D I h;show wpAny_If<|bZ (hc qg s σ H _ I h) λd s1 ⟨H1,g,e⟩=>?_;cases d with|true=>show ha qg s1 σ H1 D g e|false=>show i qg s1 σ H1 D g e
end
abbrev TG:=V->St->Hp->(St->Hp->η)->η
abbrev Pq:=δ V->St->Hp->(St->Hp->η)->η
def PG(X:Cx)(a:Δ)(t:TG):Prop:=∀(qg:δ (ε×Obj))(s:ζ)(σ:St)(H:Hp)(v:V)(u:ξ)(Q:St->Hp->η),Inv X qg σ H s->RelV v u->t v σ H Q->wpAny `m X.A (assign a X.env u) (λz s'=>∃aX H',Inv X qg aX H' s'/\Q aX H') X.xe s
def Pr(X:Cx)(ts:δ Δ)(t:Pq):Prop:=∀(qg:δ (ε×Obj))(s:ζ)(σ:St)(H:Hp)(vs:δ V)(us:δ ξ)(Q:St->Hp->η),Inv X qg σ H s->Vals vs us->t vs σ H Q->wpAny `m X.A (assignInOrder ((assignEach ts X.env).map (·.2)) us) (λz s'=>∃aX H',Inv X qg aX H' s'/\Q aX H') X.xe s
abbrev QV:=V->V->V->Hp->(Hp->η)->η
def Ve(X:Cx)(t:QV):Prop:=∀(qg:δ (ε×Obj))(s:ζ)(σ:St)(H:Hp)(o i v:V)(ov iv u:ξ)(Q:Hp->η),Inv X qg σ H s->RelV o ov->RelV i iv->RelV v u->t o i v H Q->wpAny `m X.A (setItem ov iv u) (λz s'=>∃H',Inv X qg σ H' s'/\Q H') X.xe s
abbrev Z7:=V->V->Hp->VK->η
def PIp(X:Cx)(op:Operator)(t:Z7):Prop:=∀(qg:δ (ε×Obj))(s:ζ)(σ:St)(H:Hp)(x y:V)(v u:ξ)(Q:VK),Inv X qg σ H s->RelV x v->RelV y u->t x y H Q->wpAny `m X.A (inplaceOp op v u) (EP X qg σ Q) X.xe s
section
variable{X:Cx}{pos:Pos}
def kx(i:π):TG:=λv σ H Q=>Q (σ.set i<|some v) H
def sV(hN:X.N.Nodup)(hi:X.N[i]?=some x)(hx:Loc X.env.scope x)(a:ψ (X.fn x=ϱ\/X.env.scope.names.lookup x=ϑ .local) qQ6):PG X (.Name x pos) (kx i):=by intro qg s σ H v u Q I r h;show wpAny_assign_Name<|oK I hN hi hx r (λs' c=>{_,H,c,h}) a
def M5:Pq:=λvs σ H Q=>vs=[]/\Q σ H
def tL(t:TG)(u:Pq):Pq:=λvs σ H Q=>∃v r,vs=v::r/\t v σ H λa H'=>u r a H' Q
def Fs:Pr X [] M5:=by intro qg s σ H vs us Q I r h;let⟨e,h⟩:=h;subst e;cases r;show assignInOrder_nil ⟨σ,H,I,h⟩
def tM{t:TG}(h1:PG X e t)(h2:Pr X es u) (hs:ψ ((assignEach (e::es) X.env).map (·.2)=assign e X.env::(assignEach es X.env).map (·.2)) qQJ):Pr X (e::es) (tL t u):=by intro qg s σ H vs us Q I r h;let⟨v,i,e1,h⟩:=h;subst e1;cases r with|cons r a=>rw[hs];show assignInOrder_cons<|bZ (h1 qg s σ H _ _ _ I r h) λ_ s1 ⟨c,H1,d,g⟩=>?_;show h2 qg s1 c H1 _ _ Q d a g
def M6(K:Φ)(n:π)(t:Pq):TG:=λv σ H Q=>∃a xs,v=.ref a/\k9 K H a xs/\xs.length=n/\t xs σ H Q
def Jq{t:Pq}(hc:X.calm=ϱ)(h:Pr X es t) (hn:ψ ((assignEach es X.env).length=n) qQJ) (g:ψ ((assignEach es X.env).findIdx? (·.1)=ϐ) qQJ):PG X (.Tuple es k pos) (M6 X.K n t):=by intro qg s σ H v u Q I r hw;let⟨a,xs,e1,d,hl,hw⟩:=hw;subst e1;cases r;let⟨l,c,i,hz⟩:=I.tuple d;show assign_Tuple_tuple (I.ok.hd hc) i (by simp[hn,<-hl,c.length]) g λh' hx=>?_;have j:Inv X qg σ H {s with heap:=h'}:=I.kept (t':=s.toks) λb o e=>hx b o (zC<|zy e) e;show h qg _ σ H xs _ Q j (by simpa using c) hw
def Z8(to ti:TE)(t:QV):TG:=λv σ H Q=>to σ H λo H1=>ti σ H1 λi H2=>t o i v H2 λa=>Q σ a
theorem QW{t:QV}(ho:PE X o to)(hi:PE X i ti)(hs:Ve X t)
  (ha:ψ (∀v,assign (.Subscript o i pos) X.env v=(do
   let ov <-holding [v] (eval o X.env)
   let iv <-holding [v,ov] (eval i X.env)
   standAt pos
   holding [v,ov,iv] (setItem ov iv v)
   release [v,ov,iv] [])) qQ0):PG X (.Subscript o i pos) (Z8 to ti t):=by
 intro qg s σ H v u Q I r h
 rw[ha]
 show za<|yF<|bZ (ho qg s σ H _ I h) λov s1 ⟨x,H1,l,c,m⟩=>?_
 show za<|yF<|bZ (hi qg s1 σ H1 _ l m) λiv s2 ⟨y,H2,j,d,g⟩=>?_
 show za<|wpAny_standAt<|za<|yF<|bZ (hs qg s2 σ H2 x y v ov iv u _ j c d r g) λ_ p ⟨a,e,n⟩=>?_
 show wpAny_release ⟨σ,a,e,n⟩
def QX(te:TE)(g:TG):TS:=λD σ H=>te σ H λx H1=>g x σ H1 D.nx
def Jr(c:PE X e te)(hg:PG X tg g)(hs:ψ (swapsWithSole [tg] e pos.line X.env=pure false) qQJ)(hw:ψ (swappedStores [tg] e X.env=pure none) qQJ) (h1:ψ ((assignEach [tg] X.env).map (·.2)=[assign tg X.env]) qQJ):PS X (.Assign [tg] e pos) (QX te g):=by intro qg s σ H D I h;show wpAny_Assign_stores (bZ (c qg s σ H _ I h) λv s1 ⟨x,H1,d,a,i⟩=>?_) hs hw;rw[h1];show bZ (hg qg s1 σ H1 x v _ d a i) λz s2 q=>q
def QY(hN:X.N.Nodup)(hi:X.N[i]?=some x)(hx:Loc X.env.scope x)(g:PE X e te)(hs:ψ (swapsWith e (some<|.Name x pos') pos.line X.env=pure false) qQJ)(d:ψ (X.fn x=ϱ\/X.env.scope.names.lookup x=ϑ .local) qQ6): PS X (.Assign [.Name x pos'] e pos) (QX te<|kx i):=by intro qg s σ H D I h;show wpAny_Assign_Name (bZ (g qg s σ H _ I h) λv s1 ⟨y,H1,j,a,l⟩=>?_) hs;show oK j hN hi hx a (λs2 c=>{_,H1,c,l}) d
def Z9(i:π)(te:TE)(ti:Z7):TS:=λD σ H=>∃x,σ[i]?=some (some x)/\te σ H λy H1=>ti x y H1 λz H2=>D.nx (σ.set i<|some z) H2
def QZ(hN:X.N.Nodup)(hi:X.N[i]?=some x)(hx:Loc X.env.scope x)(p:PE X e te)(ho:PIp X op ti)(o:ψ (X.fn x=ϱ\/X.env.scope.names.lookup x=ϑ .local) qQ6): PS X (.AugAssign (.Name x pos') op e pos) (Z9 i te ti):=by
 intro qg s σ H D I h;let⟨v,e1,h⟩:=h;let⟨m,hn,hl⟩:=I.loc;have a:Pn X.env.scope x:=by rcases hx with k|k;show .inl k;show .inr<|.inl k
 let⟨u,r,l⟩:=hl i x v hi e1 a;show wpAny_AugAssign_Name ?_;have go:wpAny `m X.A (eval e X.env) (λw d=>wpAny `m X.A (inplaceOp op u w) (λr F=>wpAny `m X.A (storeName X.env x r) (λz=>SP X qg D .next) X.xe F) X.xe d) X.xe s:=by show bZ (p qg s σ H _ I h) λw s1 ⟨y,H1,q,t,E⟩=>?_;show bZ (ho qg s1 σ H1 v y u w _ q r t E) λz s2 ⟨J,H2,n,j,C⟩=>?_;show oK n hN hi hx j (λG B=>{_,H2,B,C}) o
 rcases l with⟨hk,hm⟩|⟨hk,c,hc,g⟩;show wpAny_loadName_local I.ok.kind hk hn hm go;rcases hk with hk|hk;show wpAny_loadName_cell I.ok.kind hk hc g go;rcases hx with k|k;have:X.env.scope.names.lookup x=ϑ .free:=hk;rw[k]at this;cases this;have:X.env.scope.names.lookup x=ϑ .free:=hk;rw[k]at this;cases this
def ipI(f:ν->ν->ν):Z7:=λx y H Q=>∃i j,x=.int i/\y=.int j/\Q (.int<|f i j) H
def Q0:PIp X .Add (ipI λi j=>i+j):=by intro qg s σ H x y v u Q I a c h;let⟨i,j,e1,e2,q⟩:=h;subst e1;subst e2;let⟨t,rfl⟩:=a;let⟨d,rfl⟩:=c;show iadd_int {.int _,H,I.tok _,{_,rfl},q}
def Q1(c:TT)(tb:TS):TS:=λD σ H=>∃W:π->St->Hp->η,(∃m,W m σ H)/\∀m σ H,W m σ H->c σ H λb H1=>if b=ϱ then ∃N:St->Hp->η,(∀aX H',N aX H'->∃m',m'<m/\W m' aX H')/\tb {D with nx:=N,ct:=N,bk:=D.nx} σ H1 else D.nx σ H1
def Js(r:PassesOwn `m X.A X.env X.xe)(hc:PT X c tc)(B:Dn X body tb):PS X (.While c body [] pos) (Q1 tc tb):=by intro qg s σ H D I h;let⟨W,⟨y,t⟩,e⟩:=h;show wpAny_While<|codeAny_whileLoop (λn s'=>∃aX H',Inv X qg aX H' s'/\W n aX H') ?_ y ⟨σ,H,I,t⟩;rintro n s1 ⟨g,H1,x,z⟩;show wpAny_passesOwn r<|bZ (hc qg s1 g H1 _ x<|e n g H1 z) λb s2 ⟨H2,q,i⟩=>?_;cases b with|true=>(let⟨N,hN,i⟩:=i;rw[qe rfl];show wpAny_passesOwn r<|bZ (B qg s2 g H2 _ q i) λf C j=>?_;cases f with|next=>(let⟨a,d,p,o⟩:=j;let⟨l,hm,m⟩:=hN a d o;show⟨l,hm,a,d,p,m⟩)|cont=>(let⟨a,d,p,o⟩:=j;let⟨l,hm,m⟩:=hN a d o;show⟨l,hm,a,d,p,m⟩)|brk=>show j|ret v=>show j)|false=>rw[qb zd];show wpAny_execs_nil ⟨g,H2,q,i⟩
end
structure It where
 go:π->Hp->η
 Vf:π->Hp->V->Hp->η
 stop:π->Hp->η
def vQ(X:Cx)(qg:δ<|ε×Obj)(H:Hp)(b:ε):Prop:=H b=ϐ/\b≠X.env.locals/\b∉X.fs/\(b∈X.ex\/X.du.heap.objs.size<=b)/\(∀x c,X.env.cells.lookup x=ϑ c->c≠b)/\∀p∈X.pn++qg,p.1≠b
def Inv.tN(I:Inv X qg σ H s)(a:s.heap.objs.size<=b)(hn:H' b=ϐ):vQ X qg H' b:=by show{hn,yj<|zq I.lt a,I.U7 a,.inr<|zM I.sz a,λx c e z=>?_,λp d z=>?_};let⟨v,q⟩:=I.cell x c e;show absurd (zq q.lt<|by rw[z];show a)<|yx _;show absurd (zq (zy (I.pin p d).1)<|by rw[z];show a)<|yx _
structure Turn(P:Ψ)(w:Ω)(K:Φ)(tg:Δ)(J:It)(fp:δ ε)(it:ε)(tn:π->Γ->η):η where
 mem:it∈fp
 obj:∀i h,tn i h->∀b∈fp,∃o,h.get? b=ϑ o/\∀v,o.data≠.cell v
 keep:∀i h h',tn i h->(∀b∈fp,∀o,h.get? b=ϑ o->h'.get? b=ϑ o)->tn i h'
 item:∀(X:Cx),X.prog=P->X.w=w->X.K=K->X.calm=ϱ->∀(i:π)(qg:δ (ε×Obj))(s:ζ)(σ:St)(H:Hp)(E:ξ->ζ->η),Inv X qg σ H s->(∀b∈fp,vQ X qg H b)->tn i s.heap->J.go i H ->
  wpAny (model P w) X.A (pyNext<|.ref it) (λr s1=>∃u,r=ϑ u /\
   wpAny (model P w) X.A (letOwnedTupleGo tg (.ref it) u) (λz s2=>∃x H',Inv X qg σ H' s2/\RelV x u/\J.Vf i H x H'/\tn (i+1) s2.heap/\∀b∈fp,H' b=ϐ) E s1) E s
 done:∀(X:Cx),X.prog=P->X.w=w->X.K=K->X.calm=ϱ->∀(i:π)(qg:δ (ε×Obj))(s:ζ)(σ:St)(H:Hp)(E:ξ->ζ->η),Inv X qg σ H s->(∀b∈fp,vQ X qg H b)->tn i s.heap->J.stop i H ->
  wpAny (model P w) X.A (pyNext<|.ref it) (λr s1=>r=ϐ/\Inv X qg σ H s1) E s
 self:∀(A:ϕ)(i:π)(s:ζ)(Q:ξ->ζ->η)(E:ξ->ζ->η),tn i s.heap->Q (.ref it) s->wpAny (model P w) A (pyIter<|.ref it) Q E s
abbrev TI:=St->Hp->(It->Hp->η)->η
def Z_(X:Cx)(qg:δ<|ε×Obj)(σ:St)(tg:Δ)(R:It->Hp->η)(a:ξ)(s2:ζ):Prop:=∃(it:ε)(fp:δ ε)(tn:π->Γ->η)(J:It)(H':Hp),a=.ref it/\Inv X qg σ H' s2/\Turn X.prog X.w X.K tg J fp it tn/\tn 0 s2.heap/\(∀b∈fp,vQ X qg H' b)/\R J H'
def PI(X:Cx)(tg iter:Δ)(wi:TI):Prop:=∀(qg:δ (ε×Obj))(s:ζ)(σ:St)(H:Hp)(R:It->Hp->η),Inv X qg σ H s->wi σ H R->wpAny `m X.A (eval iter X.env) (λv s1=>wpAny `m X.A (pyIter v) (Z_ X qg σ tg R) X.xe s1) X.xe s
def wM(ho:s.heap.get? it=ϑ o)(hc:o.cls=.type n)(hd:o.data=.fields vs) (hn:["enumerate","zip","dict_itemiterator","dict_reverseitemiterator","odict_iterator","itertools.zip_longest","itertools.pairwise"].contains n=ϰ) (a:Q () s):wpAny M A (letOwnedTupleGo tg (.ref it) u) Q E s:=by
 unfold letOwnedTupleGo
 cases tg<;>first
  |show zm a
  | (cases u<;>first
    |show zm a
    | (show za (wpAny_load ho ?_)
       rw[hc,hd]
       change wpAny M A (if (["enumerate","zip","dict_itemiterator","dict_reverseitemiterator","odict_iterator","itertools.zip_longest","itertools.pairwise"].contains n&&vs[0]?==some (rawInt _))=ϱ then _ else _) Q E s
       rw[qb<|by intro h;rw[hn,zR]at h;cases h]
       show zm a))
def Itl(K:Φ)(a:ε):It:={λi H=>∃xs x,kZ K H a xs/\xs[i]?=some x,λi H x H'=>H'=H/\∀xs,kZ K H a xs->xs[i]?=some x,λi H=>∃xs,kZ K H a xs/\xs.length<=i}
def Itt(K:Φ)(a:ε):It:={λi H=>∃xs x,k9 K H a xs/\xs[i]?=some x,λi H x H'=>H'=H/\∀xs,k9 K H a xs->xs[i]?=some x,λi H=>∃xs,k9 K H a xs/\xs.length<=i}
noncomputable def YF(lo:ν)(n:π):It:={λi z=>i<n,λi H x H'=>H'=H/\x=.int (lo+i),λi z=>n<=i}
theorem G_{P:Ψ}{w:Ω}{K:Φ}{tg:Δ}(a it:ε):Turn P w K tg (Itl K a) [it] it (λi h=>h.IsListIter it a i) where
 mem:=`d
 obj:=λi h st b hb=>by
  have e:b=it:=by simpa using hb
  subst e
  let⟨o,e,c,d⟩:=st
  show{o,e,λv z=>by rw[d]at z;cases z}
 keep:=λi h h' st k=>st.at λo e=>k it `d o e
 item:=by
  intro X hP hw hK hc i qg s σ H E I hf st hg
  subst hP hw hK
  let⟨xs,x,hq,hx⟩:=hg
  let⟨aE,rv,p,hz⟩:=I.list hq
  let⟨u,hu,ru⟩:=rv.get hx
  let⟨f0,f1,f2,f3,f4,f5⟩:=hf it<|`d
  show wpAny_pyNext_list_item st p.isList (x:=u) (by simpa using hu) λh' gM sb=>?_
  have I1:Inv X qg σ H {s with heap:=h'}:=I.turned (t':=s.toks) (λb o hb e=>(sb.2 b hb).trans e) f0 f1 f3 f4 f5
  let⟨o,e,c,d⟩:=id gM
  show{u,rfl,wM (s:={s with heap:=h'}) e c d `a {x,H,I1,ru,{rfl,λys hy=>by rw[I.Bv hy hq];show hx},gM,λb hb=>(hf b hb).1}}
 done:=by
  intro X hP hw hK hc i qg s σ H E I hf st hg
  subst hP hw hK
  let⟨xs,hq,hx⟩:=hg
  let⟨aE,rv,p,hz⟩:=I.list hq
  let⟨f0,f1,f2,f3,f4,f5⟩:=hf it<|`d
  have hl:=rv.length
  show wpAny_pyNext_list_end (I.ok.hd hc) st p.isList (by simp;lia) λh' eb=>{rfl,I.turned (t':=s.toks) (λb o hb e=>eb b o hb e) f0 f1 f3 f4 f5}
 self:=λy y y y y st h=>wpAny_pyIter_listiter st h
theorem Ds{P:Ψ}{w:Ω}{K:Φ}{tg:Δ}(a it:ε):Turn P w K tg (Itt K a) [it] it (λi h=>h.IsTupleIter it a i) where
 mem:=`d
 obj:=λi h st b hb=>by
  have e:b=it:=by simpa using hb
  subst e
  let⟨o,e,c,d⟩:=st
  show{o,e,λv z=>by rw[d]at z;cases z}
 keep:=λi h h' st k=>st.at λo e=>k it `d o e
 item:=by
  intro X hP hw hK hc i qg s σ H E I hf st hg
  subst hP hw hK
  let⟨xs,x,hq,hx⟩:=hg
  let⟨aE,rv,p,hz⟩:=I.tuple hq
  let⟨u,hu,ru⟩:=rv.get hx
  let⟨f0,f1,f2,f3,f4,f5⟩:=hf it<|`d
  show wpAny_pyNext_tuple_item st (show s.heap.IsTuple a aE.toArray from p) (x:=u) (by simpa using hu) λh' gM sb=>?_
  have I1:Inv X qg σ H {s with heap:=h'}:=I.turned (t':=s.toks) (λb o hb e=>(sb.2 b hb).trans e) f0 f1 f3 f4 f5
  let⟨o,e,c,d⟩:=id gM
  show{u,rfl,wM (s:={s with heap:=h'}) e c d `a {x,H,I1,ru,{rfl,λys hy=>by rw[I.qk hy hq];show hx},gM,λb hb=>(hf b hb).1}}
 done:=by
  intro X hP hw hK hc i qg s σ H E I hf st hg
  subst hP hw hK
  let⟨xs,hq,hx⟩:=hg
  let⟨aE,rv,p,hz⟩:=I.tuple hq
  let⟨f0,f1,f2,f3,f4,f5⟩:=hf it<|`d
  have hl:=rv.length
  show wpAny_pyNext_tuple_end (I.ok.hd hc) st (show s.heap.IsTuple a aE.toArray from p) (by simp;lia) λh' eb=>{rfl,I.turned (t':=s.toks) (λb o hb e=>eb b o hb e) f0 f1 f3 f4 f5}
 self:=λy y y y y st h=>wpAny_pyIter_tupleiter st h
theorem Du{P:Ψ}{w:Ω}{K:Φ}{tg:Δ}(it:ε)(lo:ν)(n:π):Turn P w K tg (YF lo n) [it] it (λi h=>IsRangeIter h it (lo+(i:π)*1) ((n:ν)-(i:π)) 1) where
 mem:=`d
 obj:=λi h st b hb=>by
  have e:b=it:=by simpa using hb
  subst e
  show⟨_,st,λv z=>by
   have z':Data.fields _=Data.cell v:=z
   cases z'⟩
 keep:=λi h h' st k=>k it `d _ st
 item:=by
  intro X hP hw hK hc i qg s σ H E I hf st hg
  subst hP hw hK
  let⟨f0,f1,f2,f3,f4,f5⟩:=hf it<|`d
  have W:=Walks.range (prog:=X.prog) (w:=X.w) (I.ok.hd hc) it lo 1 n
  show W.item i s _ _ hg st λv h' tk hv gM kk=>?_
  let⟨t,rfl⟩:=hv
  have I1:Inv X qg σ H {s with heap:=h',toks:=tk}:=I.turned (λb o hb e=>kk b o (by simpa using hb) e) f0 f1 f3 f4 f5
  show{_,rfl,wM (s:={s with heap:=h',toks:=tk}) (n:="range_iterator") gM rfl rfl `a {.int<|lo+i,H,I1,{t,?_},⟨rfl,rfl⟩,gM,λb hb=>(hf b hb).1}}
  rw[Int.mul_one]
 done:=by
  intro X hP hw hK hc i qg s σ H E I hf st hg
  subst hP hw hK
  let⟨f0,f1,f2,f3,f4,f5⟩:=hf it<|`d
  show wpAny_pyNext_range_end (I.ok.hd hc) st (by have:n<=i:=hg;lia) λh' eb=>{rfl,I.turned (t':=s.toks) (λb o hb e=>eb b o hb e) f0 f1 f3 f4 f5}
 self:=λx x x x x st h=>wpAny_pyIter_rangeiter st h
section
variable{X:Cx}{tg:Δ}
def Vh(K:Φ)(tl:TE):TI:=λσ H R=>tl σ H λx H1=>∃a,x=.ref a/\(∃xs,kZ K H1 a xs)/\R (Itl K a) H1
def aaa(K:Φ)(tl:TE):TI:=λσ H R=>tl σ H λx H1=>∃a,x=.ref a/\(∃xs,k9 K H1 a xs)/\R (Itt K a) H1
def M7{l:Δ}{tl:TE}(hl:PE X l tl):PI X tg l (Vh X.K tl):=by
 intro qg s σ H R I h;show bZ (hl qg s σ H _ I h) λv s1 ⟨x,H1,c,g,j⟩=>?_;let⟨a,e,⟨xs,d⟩,q⟩:=j;subst e;cases g;let⟨m,n,p,hz⟩:=c.list d;show wpAny_pyIter_list p.isList ?_;show{s1.heap.objs.size,[s1.heap.objs.size],_,_,H1,rfl,c.kept (t':=s1.toks) λb o e=>zb _ e,G_ a _,{_,zr _ rfl,rfl,rfl},λb i=>?_,q};have e:b=s1.heap.objs.size:=by simpa using i
 subst e;show c.tN (zp _)<|c.aT.fresh<|zp _
def Q2{l:Δ}{tl:TE}(hl:PE X l tl):PI X tg l (aaa X.K tl):=by
 intro qg s σ H R I h;show bZ (hl qg s σ H _ I h) λv s1 ⟨x,H1,c,i,m⟩=>?_;let⟨a,e,⟨xs,d⟩,q⟩:=m;subst e;cases i;let⟨g,n,p,hz⟩:=c.tuple d;show wpAny_pyIter_tuple (show s1.heap.IsTuple a g.toArray from p) ?_;show{s1.heap.objs.size,[s1.heap.objs.size],_,_,H1,rfl,c.kept (t':=s1.toks) λb o e=>zb _ e,Ds a _,{_,zr _ rfl,rfl,rfl},λb j=>?_,q};have e:b=s1.heap.objs.size:=by simpa using j
 subst e;show c.tN (zp _)<|c.aT.fresh<|zp _
def Jt{qg:δ<|ε×Obj}{σ:St}{H:Hp}{s:ζ}{R:It->Hp->η}{E:ξ->ζ->η}{lo hi:ν}{t u v:Tok}{tk:π}(I:Inv X qg σ H s)(h1:-(2^62)<=lo)(h2:lo<2^62)(g:-(2^62)<=hi)(c:hi<2^62) (q:R (YF lo (hi-lo).toNat) H):wpAny `m X.A (pyIter<|.ref s.heap.objs.size) (Z_ X qg σ tg R) E {s with heap:=s.heap.push {cls:=.type "range",data:=.fields #[.int lo t,.int hi u,.int 1 v]},toks:=tk}:=by
 show wpAny_pyIter_range (IsRange.new ..) (small_one h1 h2 g c) ?_;have a:Inv X qg σ H {s with heap:=s.heap.push {cls:=.type "range",data:=.fields #[.int lo t,.int hi u,.int 1 v]},toks:=tk}:=I.kept λb o e=>zb _ e;show{(s.heap.push {cls:=.type "range",data:=.fields #[.int lo t,.int hi u,.int 1 v]}).objs.size,[(s.heap.push {cls:=.type "range",data:=.fields #[.int lo t,.int hi u,.int 1 v]}).objs.size],_,_,H,rfl,a.kept (t':=tk) λb o e=>zb _ e,Du _ lo (hi-lo).toNat,?_,λb d=>?_,q};have e1:lo+((0:π):ν)*1=lo:=`d
 have e2:(((hi-lo).toNat:π):ν)-((0:π):ν)=Builtin.Range.rangeSize lo hi 1:=by rw[rangeSize_one];split<;>lia
 change IsRangeIter _ _ (lo+((0:π):ν)*1) ((((hi-lo).toNat:π):ν)-((0:π):ν)) 1;rw[e1,e2];show zr _ rfl;have e:b=(s.heap.push {cls:=.type "range",data:=.fields #[.int lo t,.int hi u,.int 1 v]}).objs.size:=by simpa using d
 subst e;show a.tN (zp _)<|a.aT.fresh<|zp _
def Vi(ta:TA):TI:=λσ H R=>ta σ H λvs H1=>∃j:ν,vs=[.int j]/\-(2^62)<=j/\j<2^62/\R (YF 0 j.toNat) H1
def Ha{a:Δ}{ta:TA}{p pos:Pos}(hg:Gl X "range")(hm:X.mg "range"= none)(ha:PA X [a] ta)(hs:ψ (starEach [a] X.env=[(false,eval a X.env)]) qQJ):PI X tg (.Call (.Name "range" p) [a] [] pos) (Vi ta):=by intro qg s σ H R I h;show Call_<|jW I hg hm boot_range<|PyProof.Rows.callWith_type1 (bZ (ha pos qg s σ H _ I h) λus s1 ⟨vs,H1,l,d,c⟩=>?_) hs rfl;let⟨j,e,c,i,q⟩:=c;subst e;cases d with|cons r g=>cases g;let⟨t,rfl⟩:=r;show call_range_1<|Jt l `b `b c i<|by simpa using q
def aab(wi:TI)(g:TG)(tb:TS):TS:=λD σ H=>wi σ H λJ H1=>∃W:π->π->St->Hp->η,(∃m,W 0 m σ H1)/\∀i m σ H,W i m σ H->(J.stop i H/\D.nx σ H)\/(J.go i H/\∃N:St->Hp->η,(∀aX H',N aX H'->∃m',m'<m/\W (i+1) m' aX H')/\∀x H',J.Vf i H x H'->g x σ H' λa H2=>tb {D with nx:=N,ct:=N,bk:=D.nx} a H2)
noncomputable def tO(fp:δ ε)(h:Γ):δ (ε×Obj):=fp.filterMap λb=>(h.get? b).map λo=>(b,o)
theorem jX(a:b∈fp)(e:h.get? b=ϑ o):(b,o)∈tO fp h:=List.mem_filterMap.mpr {b,a,by rw[e];rfl}
def Hb(c:p∈tO fp h):p.1∈fp/\h.get? p.1=ϑ p.2:=by let⟨b,a,e⟩:=List.mem_filterMap.mp c;cases q:h.get? b with|none=>(rw[q]at e;cases e)|some o=>rw[q]at e;have e':(b,o)=p:=zU e;subst e';show⟨a,q⟩
theorem Inv.pinned(I:Inv X qg σ H s)(g:∀b∈fp,vQ X qg H b)(ho:∀b∈fp,∃o,s.heap.get? b=ϑ o/\∀v,o.data≠.cell v):Inv X (qg++tO fp s.heap) σ H s:=I.oJ λp h=>(zN.mp h).elim (λz=>I.pin p<|zB _ z) λz=>by let⟨a,e⟩:=Hb z;let⟨i,j,c,_⟩:=g p.1 a;let⟨o,e',d⟩:=ho p.1 a;rw[e]at e';cases e';show⟨e,i,j,c,d⟩
theorem Inv.tP(I:Inv X (qg++pl) σ H s):Inv X qg σ H s:=I.oJ λp a=>I.pin p<|zB _<|zW _ a
def Q3(y:PassesOwn `m X.A X.env X.xe)(hc:X.calm=ϱ)(hi:PI X tg iter wi)(hg:PG X tg g)(j:Dn X body tb) (hs:ψ (∀x,foldedSetIterable iter X.env x=pure x) qQ0):PS X (.For tg iter body [] pos) (aab wi g tb):=by intro qg s σ H D I h;show wpAny_For (bZ (hi qg s σ H _ I h) λv s1 h1=>bZ h1 λYE s2 h2=>?_) hs;let⟨it,fp,tn,J,H2,e,I2,T,M8,L,W,⟨m0,w0⟩,B⟩:=h2;subst e;have F:∀{H':Hp},(∀b∈fp,H' b=ϐ)->∀b∈fp,vQ X qg H' b:=λhn b j=>{hn b j,(L b j).2};show codeAny_forLoop_any (λn s'=>∃i aX H',Inv X qg aX H' s'/\tn i s'.heap/\(∀b∈fp,H' b=ϐ)/\W i n aX H') ?_ m0 {0,σ,H2,I2,M8,λb j=>(L b j).1,w0};rintro n Q ⟨i,t,C,S,O,R,w3⟩;rcases B i n t C w3 with⟨stop,qn⟩|⟨go,N,hN,step⟩;show wpAny_passesOwn y<|bZ (T.done X rfl rfl rfl hc i qg Q t C X.xe S (F R) O stop) λr s4 ⟨hr,I4⟩=>?_;subst hr;show wpAny_execs_nil ⟨t,C,I4,qn⟩;{show wpAny_passesOwn y<|bZ (T.item X rfl rfl rfl hc i qg Q t C X.xe S (F R) O go) λr s4 ⟨u,hr,h4⟩=>?_;subst hr;show wpAny_passesOwn y<|bZ h4 λ_ P ⟨x,M,I5,r5,y5,q,K⟩=>?_;have G:=I5.pinned (F K)<|T.obj _ _ q;show wpAny_passesOwn y<|bZ (hg _ P t M x u _ G r5<|step x M y5) λ_ U ⟨Z,H6,I6,q6⟩=>?_;show wpAny_passesOwn y<|bZ (j _ U Z H6 _ I6 q6) λf E p=>?_;have again:∀{l:St}{a:Hp},Inv X (qg++tO fp P.heap) l a E->N l a->∃m,m<n/\∃i aX H',Inv X qg aX H' E/\tn i E.heap/\(∀b∈fp,H' b=ϐ)/\W i m aX H':=λ{l a} c z=>(by let⟨Y,hm,w7⟩:=hN l a z;show{Y,hm,i+1,l,a,c.tP,T.keep _ _ _ q λb j o e=>(c.pin (b,o)<|zB _<|zB _<|jX j e).1,λb j=>?_,w7};let⟨o,e,d⟩:=T.obj _ _ q b j;show(c.pin (b,o)<|zB _<|zB _<|jX j e).2.1);cases f with|next=>(let⟨l,a,c,z⟩:=p;show again c z)|cont=>(let⟨l,a,c,z⟩:=p;show again c z)|brk=>(let⟨l,a,c,p⟩:=p;show⟨l,a,c.tP,p⟩)|ret v=>let⟨x7,l,a,c,r7,p⟩:=p;show⟨x7,l,a,c.tP,r7,p⟩}
end
abbrev R2:=V->V->Hp->VK->η
def ji(X:Cx)(f:ξ->ξ->Sem ξ)(r:R2):Prop:=∀(qg:δ (ε×Obj))(s:ζ)(σ:St)(H:Hp)(x y:V)(v u:ξ)(Q:VK),Inv X qg σ H s->RelV x v->RelV y u->r x y H Q->wpAny `m X.A (f v u) (EP X qg σ Q) X.xe s
def UnR(X:Cx)(f:ξ->Sem ξ)(r:V->Hp->VK->η):Prop:=∀(qg:δ (ε×Obj))(s:ζ)(σ:St)(H:Hp)(x:V)(v:ξ)(Q:VK),Inv X qg σ H s->RelV x v->r x H Q->wpAny `m X.A (f v) (EP X qg σ Q) X.xe s
def eU(X:Cx)(f:ξ)(r:δ V->Hp->VK->η):Prop:=∀(qg:δ (ε×Obj))(s:ζ)(σ:St)(H:Hp)(xs:δ V)(us:δ ξ)(Q:VK),Inv X qg σ H s->Vals xs us->r xs H Q->wpAny `m X.A (call f us) (EP X qg σ Q) X.xe s
def Um(r:R2)(ta tb:TE):TE:=λσ H Q=>ta σ H λx H1=>tb σ H1 λy H2=>r x y H2 Q
def tUn(r:V->Hp->VK->η)(ta:TE):TE:=λσ H Q=>ta σ H λx H1=>r x H1 Q
def rI(C:ν->ν->η)(g:ν->ν->V):R2:=λx y H Q=>∃i j,x=.int i/\y=.int j/\C i j/\Q (g i j) H
def M9(g:ν->ν->V):R2:=λx y H Q=>∃i j,x=.int i/\y=.int j/\Q (g i j) H
def rU(g:ν->V):V->Hp->VK->Prop:=λx H Q=>∃i,x=.int i/\Q (g i) H
section
variable{X:Cx}{a b:Δ}{ta tb:TE}{pos:Pos}
def Q5(ha:PE X a ta)(i:PE X b tb){qg:δ<|ε×Obj}{s:ζ}{σ:St}{H:Hp}{R:V->V->Hp->η}(I:Inv X qg σ H s) (h:ta σ H λx H1=>tb σ H1 λy H2=>R x y H2) {Q:ξ->ζ->η}{f:ξ->ξ->Sem ξ} (j:∀v u s2 x y H2,Inv X qg σ H2 s2->RelV x v->RelV y u->R x y H2->wpAny `m X.A (f v u) Q X.xe s2): wpAny `m X.A (eval a X.env) (λv bN=>wpAny `m X.A (eval b X.env) (λu cZ=>wpAny `m X.A (f v u) Q X.xe cZ) X.xe bN) X.xe s:=by show bZ (ha qg s σ H _ I h) λv s1 ⟨x,H1,l,c,m⟩=>?_;show bZ (i qg s1 σ H1 _ l m) λu s2 ⟨y,H2,g,d,e⟩=>?_;show j v u s2 x y H2 g c d e
def Vm{op:Operator}{r:R2}(ho:ji X (binaryOp op) r)(ha:PE X a ta)(g:PE X b tb):PE X (.BinOp a op b pos) (Um r ta tb):=by intro qg s σ H Q I h;show wpAny_BinOp<|Q5 ha g I h λv u s2 x y H2 e d c q=>ho qg s2 σ H2 x y v u Q e d c q
def Vn(ho:UnR X (unaryOp op) r)(ha:PE X a ta):PE X (.UnaryOp op a pos) (tUn r ta):=by intro qg s σ H Q I h;show UnaryOp_<|bZ (ha qg s σ H _ I h) <| by rintro v s1 ⟨x,H1,c,e,d⟩;show ho qg s1 σ H1 x v Q c e d
def YG{f:ξ->ξ->Sem ξ}{C:ν->ν->η}{g:ν->ν->ν} (rule:∀(i j:ν)(t u:Tok)(s:ζ)(Q:ξ->ζ->η)(E:ξ->ζ->η),C i j->Q (.int (g i j) s.toks) {s with toks:=s.toks+1}->wpAny `m X.A (f (.int i t)<|.int j u) Q E s): ji X f (rI C λi j=>.int<|g i j):=by intro qg s σ H x y v u Q I c a h;let⟨i,j,rfl,rfl,hc,q⟩:=h;let⟨t,rfl⟩:=c;let⟨d,rfl⟩:=a;show rule i j t d s _ _ hc {.int<|g i j,H,I.tok _,{_,rfl},q}
def Vo{f:ξ->ξ->Sem ξ}{g:ν->ν->ν} (rule:∀(i j:ν)(t u:Tok)(s:ζ)(Q:ξ->ζ->η)(E:ξ->ζ->η),Q (.int (g i j) s.toks) {s with toks:=s.toks+1}->wpAny `m X.A (f (.int i t)<|.int j u) Q E s): ji X f (M9 λi j=>.int<|g i j):=by intro qg s σ H x y v u Q I c a h;let⟨i,j,rfl,rfl,q⟩:=h;let⟨t,rfl⟩:=c;let⟨d,rfl⟩:=a;show rule i j t d s _ _ {.int<|g i j,H,I.tok _,{_,rfl},q}
def M_{f:ξ->ξ->Sem ξ}{g:ν->ν->χ} (rule:∀(i j:ν)(t u:Tok)(s:ζ)(Q:ξ->ζ->η)(E:ξ->ζ->η),Q (.bool<|g i j) s->wpAny `m X.A (f (.int i t)<|.int j u) Q E s): ji X f (M9 λi j=>.bl<|g i j):=by intro qg s σ H x y v u Q I c a h;let⟨i,j,rfl,rfl,q⟩:=h;let⟨t,rfl⟩:=c;let⟨d,rfl⟩:=a;show rule i j t d s _ _ {.bl<|g i j,H,I,rfl,q}
def Vp(i j:ν):Prop:=0<=j/\j<=1000000/\i.natAbs<2^64
def Na(i j:ν):Prop:=(-(2^64)<i/\i<2^64)\/(-(2^64)<j/\j<2^64)
def Na.ok{i j:ν}(h:Na i j):IntMulOk i j:=by rcases h with⟨h1,h2⟩|⟨h1,h2⟩;show .of_left<|intBits_le_64 h1 h2;show .of_right<|intBits_le_64 h1 h2
theorem Jv:ji X (binaryOp .Add) (M9 λi j=>.int<|i+j):=Vo λz z z z z z z q=>add_int q
theorem Q6:ji X (binaryOp .Sub) (M9 λi j=>.int<|i-j):=Vo λz z z z z z z q=>sub_int q
theorem Q7:ji X (binaryOp .Mult) (rI Na λi j=>.int<|i*j):=YG λz z z z z z z hc q=>mul_int q hc.ok
theorem Q8:ji X (binaryOp .Mod) (rI (λz j=>0<j) λi j=>.int<|i%j):=YG λi j z z z z z hc q=>by have h1:(0:ν)<j:=hc;show mod_int' `b<|by rw[Int.fmod_eq_emod_of_nonneg i<|`b];show q
theorem Q9:ji X (binaryOp .Pow) (rI Vp λi j=>.int<|i^j.toNat):=YG λz z z z z z z hc q=>pow_int_small hc.1 hc.2.1 hc.2.2 q
def unI{f:ξ->Sem ξ}{g:ν->ν} (rule:∀(i:ν)(t:Tok)(s:ζ)(Q:ξ->ζ->η)(E:ξ->ζ->η),Q (.int (g i) s.toks) {s with toks:=s.toks+1}->wpAny `m X.A (f<|.int i t) Q E s): UnR X f (rU λi=>.int<|g i):=by intro qg s σ H x v Q I a h;let⟨i,rfl,q⟩:=h;let⟨t,rfl⟩:=a;show rule i t s _ _ {.int<|g i,H,I.tok _,{_,rfl},q}
theorem Q_:UnR X (unaryOp .USub) (rU λi=>.int (-i)):=unI λz z z z z q=>neg_int q
end
noncomputable def Vq:V->V->χ|.ao,.ao=>true|.ao,.int _=>true|.int _,.ao=>true|.ao,.bl _=>true|.bl _,.ao=>true|.ao,.str _=>true|.str _,.ao=>true|.int _,.int _=>true|.bl _,.bl _=>true|.str _,.str _=>true|.Fj _,.Fj _=>true|.int _,.str _=>true|.str _,.int _=>true|.bl _,.str _=>true|.str _,.bl _=>true|_,_=>false
def rEq:R2:=λx y H Q=>Vq x y=ϱ/\Q (.bl<|ω<|x=y) H
def rNe:R2:=λx y H Q=>Vq x y=ϱ/\Q (.bl<|!decide (x=y)) H
def Fu:ω (V.int i=V.int j)=(i==j):=by rw[yB];simp
def Jw:ω (V.bl i=V.bl j)=(i==j):=by rw[yB];simp
def Fv:ω (V.str i=V.str j)=(i==j):=by rw[yB];simp
def Fw:ω (V.Fj i=V.Fj j)=(i.toList==j.toList):=by rw[yB];cases i;cases j;simp
section
variable{X:Cx}{a b c:Δ}{ta tb tc:TE}{pos:Pos}
def bb(I:Inv X qg σ H s)(q:Q (.bl k) H)(e:k=k'):EP X qg σ Q (.bool k') s:=by subst e;show{.bl k,H,I,rfl,q}
def Pt:ji X (compareOp .Eq) rEq:=by intro qg s σ H x y v u Q I d a h;let⟨hs,q⟩:=h;cases x with|ao=>(cases d;cases y with|ao=>(cases a;show PySem.EqNone.eq_none_none<|bb I q<|`d)|bl j=>(cases a;show PySem.EqNone.eq_none_bool<|bb I q<|`d)|int j=>(let⟨c,rfl⟩:=a;show PySem.EqNone.eq_none_int<|bb I q<|`d)|str j=>(let⟨c,rfl⟩:=a;show PySem.EqNone.eq_none_str<|bb I q<|`d)|_=>show absurd (show false=ϱ from hs) zd)|bl i=>(cases d;cases y with|ao=>(cases a;show PySem.EqNone.eq_bool_none<|bb I q<|`d)|bl j=>(cases a;show eq_bool<|bb I q Jw)|str j=>(let⟨c,rfl⟩:=a;show PySem.EqMixed.eq_bool_str<|bb I q<|`d)|_=>show absurd (show false=ϱ from hs) zd)|int i=>(let⟨t,rfl⟩:=d;cases y with|ao=>(cases a;show PySem.EqNone.eq_int_none<|bb I q<|`d)|int j=>(let⟨c,rfl⟩:=a;show eq_int<|bb I q Fu)|str j=>(let⟨c,rfl⟩:=a;show PySem.EqMixed.eq_int_str<|bb I q<|`d)|_=>show absurd (show false=ϱ from hs) zd)|str i=>(let⟨t,rfl⟩:=d;cases y with|ao=>(cases a;show PySem.EqNone.eq_str_none<|bb I q<|`d)|bl j=>(cases a;show PySem.EqMixed.eq_str_bool<|bb I q<|`d)|int j=>(let⟨c,rfl⟩:=a;show PySem.EqMixed.eq_str_int<|bb I q<|`d)|str j=>(let⟨c,rfl⟩:=a;show eq_str<|bb I q Fv)|_=>show absurd (show false=ϱ from hs) zd)|Fj i=>(let⟨t,rfl⟩:=d;cases y with|Fj j=>(let⟨c,rfl⟩:=a;show PySem.W.eq_bytes<|bb I q Fw)|_=>show absurd (show false=ϱ from hs) zd)|_=>cases y<;>show absurd (show false=ϱ from hs) zd
def Pu:ji X (compareOp .NotEq) rNe:=by intro qg s σ H x y v u Q I d a h;let⟨hs,q⟩:=h;cases x with|ao=>(cases d;cases y with|ao=>(cases a;show PySem.EqNone.ne_none_none<|bb I q<|`d)|bl j=>(cases a;show PySem.EqNone.ne_none_bool<|bb I q<|`d)|int j=>(let⟨c,rfl⟩:=a;show PySem.EqNone.ne_none_int<|bb I q<|`d)|str j=>(let⟨c,rfl⟩:=a;show PySem.EqNone.ne_none_str<|bb I q<|`d)|_=>show absurd (show false=ϱ from hs) zd)|bl i=>(cases d;cases y with|ao=>(cases a;show PySem.EqNone.ne_bool_none<|bb I q<|`d)|bl j=>(cases a;show ne_bool<|bb I q<|congrArg not Jw)|str j=>(let⟨c,rfl⟩:=a;show PySem.EqMixed.ne_bool_str<|bb I q<|`d)|_=>show absurd (show false=ϱ from hs) zd)|int i=>(let⟨t,rfl⟩:=d;cases y with|ao=>(cases a;show PySem.EqNone.ne_int_none<|bb I q<|`d)|int j=>(let⟨c,rfl⟩:=a;show ne_int<|bb I q<|congrArg not Fu)|str j=>(let⟨c,rfl⟩:=a;show PySem.EqMixed.ne_int_str<|bb I q<|`d)|_=>show absurd (show false=ϱ from hs) zd)|str i=>(let⟨t,rfl⟩:=d;cases y with|ao=>(cases a;show PySem.EqNone.ne_str_none<|bb I q<|`d)|bl j=>(cases a;show PySem.EqMixed.ne_str_bool<|bb I q<|`d)|int j=>(let⟨c,rfl⟩:=a;show PySem.EqMixed.ne_str_int<|bb I q<|`d)|str j=>(let⟨c,rfl⟩:=a;show ne_str<|bb I q<|congrArg not Fv)|_=>show absurd (show false=ϱ from hs) zd)|Fj i=>(let⟨t,rfl⟩:=d;cases y with|Fj j=>(let⟨c,rfl⟩:=a;show PySem.W.ne_bytes<|bb I q<|congrArg not Fw)|_=>show absurd (show false=ϱ from hs) zd)|_=>cases y<;>show absurd (show false=ϱ from hs) zd
theorem Vr:ji X (compareOp .Lt) (M9 λi j=>.bl<|ω<|i<j):=M_ λz z z z z z z q=>lt_int q
theorem Vs:ji X (compareOp .LtE) (M9 λi j=>.bl<|ω<|i<=j):=M_ λz z z z z z z q=>le_int q
theorem Vt:ji X (compareOp .Gt) (M9 λi j=>.bl<|ω<|j<i):=M_ λz z z z z z z q=>gt_int q
theorem Vu:ji X (compareOp .GtE) (M9 λi j=>.bl<|ω<|j<=i):=M_ λz z z z z z z q=>ge_int q
def Hc:ji X (compareOp .Lt) (λx y H Q=>∃i j,x=.str i/\y=.str j/\Q (.bl<|ω<|i.cps.toList<j.cps.toList) H):=by intro qg s σ H x y v u Q I c a h;let⟨i,j,rfl,rfl,q⟩:=h;let⟨t,rfl⟩:=c;let⟨d,rfl⟩:=a;show lt_str<|bb I q rfl
def Hd:ji X (compareOp .In) (λx y H Q=>∃i j,x=.str i/\y=.str j/\Q (.bl<|!(Builtin.Str.occurrences j i 0 j.length 1).isEmpty) H):=by intro qg s σ H x y v u Q I c a h;let⟨i,j,rfl,rfl,q⟩:=h;let⟨t,rfl⟩:=c;let⟨d,rfl⟩:=a;show in_str<|bb I q rfl
def Rb:ji X (compareOp .Is) (λx y H Q=>y=.ao/\Q (.bl<|ω<|x=.ao) H):=by intro qg s σ H x y v u Q I a c h;let⟨rfl,q⟩:=h;cases c;show is_none_gen<|bb I q ?_;cases x<;>first| (cases a;rfl)| (let⟨t,rfl⟩:=a;rfl)
def Nb:ji X (compareOp .IsNot) (λx y H Q=>y=.ao/\Q (.bl<|!decide (x=.ao)) H):=by intro qg s σ H x y v u Q I a c h;let⟨rfl,q⟩:=h;cases c;show isnot_none_gen<|bb I q ?_;cases x<;>first| (cases a;rfl)| (let⟨t,rfl⟩:=a;rfl)
def aae(b:Δ)(h:ψ (op≠.In) qQZ)(h2:ψ (op≠.NotIn) qQZ):behindInMarks op b=ϰ:=by
 have e1:(op==CmpOp.In)=ϰ:=by cases op<;>first|rfl|show absurd rfl h
 have e2:(op==CmpOp.NotIn)=ϰ:=by cases op<;>first|rfl|show absurd rfl h2
 cases b<;>simp[behindInMarks,e1,e2]
def Fx{op:CmpOp}{r:R2}(ho:ji X (compareOp op) r)(ha:PE X a ta)(g:PE X b tb)(hm:behindInMarks op b=ϰ):PE X (.Compare a [op] [b] pos) (Um r ta tb):=by intro qg s σ H Q I h;show wpAny_Compare1 (Q5 ha g I h λv u s2 x y H2 e d c q=>ho qg s2 σ H2 x y v u Q e d c q) hm
def Jx(t:TE):TT:=λσ H Q=>t σ H λx H'=>∃k,x=.bl k/\Q k H'
def Nc{op:CmpOp}{r:R2}(ho:ji X (compareOp op) r)(ha:PE X a ta)(n:PE X b tb)(hm:behindInMarks op b=ϰ):PT X (.Compare a [op] [b] pos) (Jx<|Um r ta tb):=by intro qg s σ H Q I h;show wpAny_isTrue_Compare1 (bZ (ha qg s σ H _ I h) λv s1 ⟨x,H1,p,g,q⟩=>bZ (n qg s1 σ H1 _ p q) λu s2 ⟨y,H2,m,i,l⟩=>bZ (ho qg s2 σ H2 x y v u _ m g i l) λc w ⟨z,d,j,o,k,e,t⟩=>?_) hm;subst e;cases o;show yo ⟨d,j,t⟩
def Dw(r e:R2)(ta tb tc:TE):TE:=λσ H Q=>ta σ H λx H1=>tb σ H1 λy H2=>r x y H2 λz a=>∃k,z=.bl k/\(if k=ϱ then tc σ a λc d=>e y c d Q else Q (.bl false) a)
def Jy{op g:CmpOp}{r j:R2}(ho:ji X (compareOp op) r)(F:ji X (compareOp g) j)(ha:PE X a ta)(K:PE X b tb)(hc:PE X c tc) (hm:ψ (lastMarks [op,g] [b,c]=ϰ) qQ2):PE X (.Compare a [op,g] [b,c] pos) (Dw r j ta tb tc):=by intro qg s σ H Q I h;show Compare_chain (bZ (ha qg s σ H _ I h) λv s1 ⟨x,H1,B,G,M⟩=>chain_link<|bZ (K qg s1 σ H1 _ B M) λu s2 ⟨y,H2,w,l,J⟩=>bZ (ho qg s2 σ H2 x y v u _ w G l J) λd o ⟨z,i,m,A,k,e,n⟩=>?_) hm;subst e;cases A;show yo ?_;cases k with|false=>show ite_ff {.bl false,i,m,rfl,n}|true=>show ite_tt<|chain_last<|bZ (hc qg o σ i _ m n) λL C ⟨p,E,q,t,N⟩=>F qg C σ E y p u L Q q l t N
def Jz{op g:CmpOp}{r j:R2}(ho:ji X (compareOp op) r)(L:ji X (compareOp g) j)(ha:PE X a ta)(P:PE X b tb)(hc:PE X c tc) (hm:ψ (lastMarks [op,g] [b,c]=ϰ) qQ2):PT X (.Compare a [op,g] [b,c] pos) (Jx<|Dw r j ta tb tc):=by intro qg s σ H Q I h;show isTrue_chain (bZ (ha qg s σ H _ I h) λv s1 ⟨x,H1,G,M,S⟩=>test_link<|bZ (P qg s1 σ H1 _ G S) λu s2 ⟨y,H2,C,l,N⟩=>bZ (ho qg s2 σ H2 x y v u _ C M l N) λd o ⟨z,i,m,E,k,e,n⟩=>?_) hm;subst e;cases E;show yo ?_;cases k with|false=>(let⟨k',e',B⟩:=n;cases e';show ite_ff ⟨i,m,B⟩)|true=>show ite_tt<|test_last<|bZ (hc qg o σ i _ m n) λR J ⟨p,K,q,t,U⟩=>bZ (L qg J σ K y p u R _ q l t U) λY Z ⟨z2,w,O,A,k2,e2,F⟩=>?_;subst e2;cases A;show yo ⟨w,O,F⟩
def tQ:(Ϙ:π)<2^63:=by rw[zZ];decide
def tR:ji X (binaryOp .Add) (λx y H Q=>∃i j,x=.str i/\y=.str j/\i.length+j.length<=Ϙ/\Q (.str<|i++j) H):=by intro qg s σ H x y v u Q I c a h;let⟨i,j,rfl,rfl,hz,q⟩:=h;let⟨t,rfl⟩:=c;let⟨d,rfl⟩:=a;show add_str (λd tk=>{.str<|i++j,H,I.tok _,{_,rfl},q}) hz
def vals1(r:Vals [x] us):∃u,us=[u]/\RelV x u:=by cases r with|cons a c=>cases c;show{_,rfl,a}
def vals2(r:Vals [x,y] us):∃u a,us=[u,a]/\RelV x u/\RelV y a:=by cases r with|cons e d=>cases d with|cons g c=>cases c;show{_,_,rfl,e,g}
def Hf(hc:X.calm=ϱ):eU X (.builtin "max") (λxs H Q=>∃i j,xs=[.int i,.int j]/\Q (.int<|if j>i then j else i) H):=by intro qg s σ H xs us Q I r h;let⟨i,j,rfl,q⟩:=h;let⟨u,d,rfl,⟨t,rfl⟩,⟨c,rfl⟩⟩:=vals2 r;show max_two_ints (I.ok.hd hc) λh' tk k=>{_,H,I.kept k,?_,q};by_cases a:j>i;rw[qe a,qe a];show{_,rfl};rw[qb a,qb a];show{_,rfl}
def Hg(hc:X.calm=ϱ):eU X (.builtin "min") (λxs H Q=>∃i j,xs=[.int i,.int j]/\Q (.int<|if j<i then j else i) H):=by intro qg s σ H xs us Q I r h;let⟨i,j,rfl,q⟩:=h;let⟨u,d,rfl,⟨t,rfl⟩,⟨c,rfl⟩⟩:=vals2 r;show min_two_ints (I.ok.hd hc) λh' tk k=>{_,H,I.kept k,?_,q};by_cases a:j<i;rw[qe a,qe a];show{_,rfl};rw[qb a,qb a];show{_,rfl}
def wN:eU X (.type "int") (λxs H Q=>(∃i,xs=[.int i]/\Q (.int i) H)\/∃k,xs=[.bl k]/\Q (.int<|if k then 1 else 0) H):=by intro qg s σ H xs us Q I r h;rcases h with⟨i,rfl,q⟩|⟨k,rfl,q⟩;let⟨u,rfl,t,rfl⟩:=vals1 r;show call_int_int {.int i,H,I,{_,rfl},q};let⟨u,rfl,a⟩:=vals1 r;cases a;show call_int_bool {.int<|if k then 1 else 0,H,I.tok _,{_,rfl},q}
def aaf(K:Φ)(x:V)(H:Hp)(n:π):Prop:=match x with|.str y=>y.length<=Ϙ/\n=y.length|.Fj y=>y.size<=Ϙ/\n=y.size|.ref p=>(∃xs,kZ K H p xs/\n=xs.length)\/∃xs,k9 K H p xs/\n=xs.length|_=>False
def lx:eU X (.builtin "len") (λxs H Q=>∃x n,xs=[x]/\aaf X.K x H n/\Q (.int n) H):=by intro qg s σ H xs us Q I r h;let⟨x,n,rfl,e,q⟩:=h;let⟨u,rfl,d⟩:=vals1 r;have hl:=tQ;have hs:Ϙ=16777216:=zZ;cases x with|str y=>(let⟨t,rfl⟩:=d;obtain⟨i,e'⟩:y.length<=Ϙ/\n=y.length:=e;subst e';show len_str `b {.int _,H,I.tok _,{_,rfl},q})|Fj y=>(let⟨t,rfl⟩:=d;obtain⟨i,e'⟩:y.size<=Ϙ/\n=y.size:=e;subst e';show PySem.W.len_bytes `b {.int _,H,I.tok _,{_,rfl},q})|ref p=>(cases d;have e':(∃xs,kZ X.K H p xs/\n=xs.length)\/∃xs,k9 X.K H p xs/\n=xs.length:=e;rcases e' with⟨xs,hx,e'⟩|⟨xs,hx,e'⟩;subst e';let⟨j,g,c,hz⟩:=I.list hx;have a:=g.length;show Calls.call_len_list c.isList (by simp only[zl];lia) {.int xs.length,H,I.tok _,{_,by simp only[zl];rw[a]},q};subst e';let⟨j,g,c,hz⟩:=I.tuple hx;have a:=g.length;show len_tuple c (by simp only[zl];lia) {.int xs.length,H,I.tok _,{_,by simp only[zl];rw[a]},q})|_=>show(show False from e).elim
end
structure Dx(h:Γ)(x dx C:ε)(mA:ρ->θ ξ):η where
 obj:h.get? x=ϑ (instObj C dx)
 ns:h.Ns1 dx mA
 ne:dx≠x
set_option tactic.hygienic true in
def Hh{h:Γ}{dx:ε}{mA:ρ->θ ξ}(n:h.Ns1 dx mA):∃od,h.get? dx=ϑ od/\∀name,lookIn name od=ϑ (mA name):=by
 let⟨o,es,ep,ho,hd,hk,_,hm⟩:=n;show{o,ho,λname=>?_};have e:=hm name;unfold nsFind findBy at e;rw[<-Array.find?_toList]at e;unfold lookIn;rw[hd];dsimp only;split;rename_i y q;rw[q]at e;show congrArg some e;rename_i q;rw[q]at e;have a:es.toList.any (·.refKey)=ϰ:=by rw[List.any_eq_false];intro y d;let⟨z,t,g⟩:=hk y<|Array.mem_toList_iff.mp d;simp[DictEntry.refKey,g]
 have c:¬es.toList.any (·.refKey)=ϱ:=by rw[a];show zd
 rw[qb c];show congrArg some e
theorem Dx.look(I:Dx h x dx C mA):∃od,PySem.W.InstAt h x (instObj C dx) C (some od)/\∀name,lookIn name od=ϑ (mA name):=
 let ⟨od,ho,hl⟩:=Hh I.ns
 ⟨od,⟨I.obj,rfl,rfl,ho⟩,hl⟩
section
variable{prog:Ψ}{w:Ω}{A:ϕ}{E:ξ->ζ->η}{s:ζ}{K:Φ}{x dx C f:ε}{mA:ρ->θ ξ}{name:ρ}{v:ξ}
def get_map(X:K.In s.heap)(I:Dx s.heap x dx C mA)(hg:plainGet K C name=ϱ)(a:hasDictIn K C=ϱ) (ha:findIn K (.ref C) name=ϑ none) (c:mA name=ϑ v) (d:handedIn v=ϱ) (h:Q v {s with toks:=s.toks+1}): wpAny `n A (getAttr (.ref x) name expr) Q E s:=by let⟨od,J,hl⟩:=I.look;show PySem.W.get_value X J (plainGet_of hg).1 (PySem.W.findObj_own a ha rfl<|by rw[hl,c]) d h
def JA(X:K.In s.heap)(I:Dx s.heap x dx C mA)(hg:plainGet K C name=ϱ) (d:findIn K (.ref C) name=ϑ (some<|.ref f)) (c:isFn K (.ref f)=ϱ) (a:mA name=ϐ) (h:Q (.ref f,[.ref x]) s): wpAny `n A (getMethod (.ref x) name pl) Q E s:=by let⟨od,J,hl⟩:=I.look;show PySem.W.method_fn X J (plainGet_of hg).1 (plainGet_of hg).2 d (beq_iff_eq.mp c) (by change(lookIn name od).map (·.isSome)=ϑ false;rw[hl,a];rfl) h
def Nd(X:K.In s.heap)(I:Dx s.heap x dx C mA) (hs:findIn K (.ref C) "__setattr__"= some (some<|.builtin "object.__setattr__")) (o:plainOver K C=ϱ) (m:takerIn K C name=ϑ none) (i:hasDictIn K C=ϱ) (hw:PySem.Within mA ns) (hsz:ns.length<=Ϙ) (h:∀h',Dx h' x dx C (λy=>if y=name then some v else mA y)->Heap.SameBut dx s.heap h'->Q () {s with heap:=h',toks:=s.toks+2}): wpAny `n A (setAttr (.ref x) name v) Q E s:=by let⟨od,J,hl⟩:=I.look;show PySem.W.set_plain X J hs<|PySem.W.osa_open (s:={s with toks:=s.toks+1}) (r:=none) X J o m λb=>?_;let⟨cd,hc,n⟩:=PySem.W.any_some i;have hx:s.heap.get? x=ϑ {.ref C,some dx,.plain,#[]}:=I.obj;show za<|zm<|za<|za<|wpAny_loadPart hx<|za<|PySem.W.Looks.here (s:={s with toks:=s.toks+1}) (PySem.W.looks_clsIn X hc) ?_;rw[n];show zm (a:=some dx)<|za<|zm<|za ?_;show wpAny_nsSet1 (s:={s with toks:=s.toks+1}) I.ns λh' e g=>?_;let⟨p,j,l,c,Px,d⟩:=e.count<|PySem.Within.cons name v hw;show za<|wpAny_lookBehind c (by rw[Px];show pastItsLine_dict<|zM d<|by rw[zG];lia) ?_;show zm<|h _ {(g.2 _<|Ne.symm I.ne).trans I.obj,e,I.ne} g
def JB(X:K.In s.heap)(hm:makesIn K C=ϱ) (hi:findIn K (.ref C) "__init__"= some (some<|.ref f)) (a:PySem.W.typeIn K (.ref f)=ϑ (.type "function")) (h:codeAny `n (A.under<|.builtin "type.__call__" {.ref C::vs,kw}) (.call (.ref f) {.ref `l::vs,kw}) (PySem.W.InitBack `l R) {s with heap:=(s.heap.push emptyDict).push<|instObj C s.heap.objs.size}): codeAny `n A (.call (.ref C) ⟨vs,kw⟩) R s:=by let⟨c,g,d,t,os⟩:=s;show PySem.W.make_core (PySem.W.makes_of X hm) (looks_findIn X hi) (λself=>PySem.W.bind_fn X self a) (.inl rfl) h
end
noncomputable def putF(f:ρ)(v:V):δ (ρ×V)->δ (ρ×V)|[]=>[(f,v)]| (g,x)::r=>if g=f then (g,v)::r else (g,x)::putF f v r
theorem rM(f g:ρ)(v:V):∀fs:δ (ρ×V),(putF f v fs).lookup g=if g=f then some v else fs.lookup g|[]=>by change List.lookup g [(f,v)]=_;by_cases h:g=f;have hb:(g==f)=ϱ:=beq_iff_eq.mpr h;simp only[List.lookup,hb,qe h];have hb:(g==f)=ϰ:=beq_eq_false_iff_ne.mpr h;simp only[List.lookup,hb,qb h]| (k,x)::r=>by have a:=rM f g v r;rw[show putF f v ((k,x)::r)=(if k=f then (k,v)::r else (k,x)::putF f v r) from rfl];by_cases hk:k=f;rw[qe hk];by_cases h:g=k;have hb:(g==k)=ϱ:=beq_iff_eq.mpr h;simp only[List.lookup,hb,qe<|h.trans hk];have hb:(g==k)=ϰ:=beq_eq_false_iff_ne.mpr h;simp only[List.lookup,hb,qb (λe:g=f=>h<|e.trans hk.symm)];rw[qb hk];by_cases h:g=k;have hb:(g==k)=ϱ:=beq_iff_eq.mpr h;simp only[List.lookup,hb,qb (λe:g=f=>hk<|h.symm.trans e)];have hb:(g==k)=ϰ:=beq_eq_false_iff_ne.mpr h;simp only[List.lookup,hb];show a
theorem qm(f:ρ)(v:V):∀fs:δ (ρ×V),f∈(putF f v fs).map (·.1)/\∀g,g∈fs.map (·.1)->g∈(putF f v fs).map (·.1)|[]=>{by simp[putF],λg h=>by simp at h}| (k,x)::r=>by let⟨i1,i2⟩:=qm f v r;rw[show putF f v ((k,x)::r)=(if k=f then (k,v)::r else (k,x)::putF f v r) from rfl];by_cases hk:k=f;rw[qe hk];subst hk;show{`d,λg h=>by simpa using h};rw[qb hk];show{?_,λg h=>?_};rw[zO];show zk _ i1;rw[zO]at h⊢;rcases ze.mp h with e|e;show ze.mpr<|.inl e;show zk _<|i2 g e
theorem rN(f:ρ)(v:V):∀fs:δ (ρ×V),(putF f v fs).length<=fs.length+1|[]=>by simp[putF]| (k,x)::r=>by have ih:=rN f v r;rw[show putF f v ((k,x)::r)=(if k=f then (k,v)::r else (k,x)::putF f v r) from rfl];by_cases hk:k=f;rw[qe hk,zG,zG];lia;rw[qb hk,zG,zG];lia
def iW.some_of(r:iW (some v) o):∃u,o=ϑ u/\RelV v u:=by cases o with|none=>show(show False from r).elim|some u=>show⟨u,rfl,r⟩
def iW.none_of(r:iW none o):o=ϐ:=by cases o with|none=>rfl|some u=>show(show False from r).elim
def Hi(r:RelV v u):handedIn u=ϱ:=by cases v with|ao=>(cases (show u=Value.none from r);rfl)|bl b=>(cases (show u=Value.bool b from r);rfl)|int i=>(let⟨t,e⟩:=(show ∃t,u=Value.int i t from r);cases e;rfl)|str x=>(let⟨t,e⟩:=(show ∃t,u=Value.str x t from r);cases e;rfl)|Fj b=>(let⟨t,e⟩:=(show ∃t,u=Value.bytes b t from r);cases e;rfl)|QH b=>(let⟨t,e⟩:=(show ∃t,u=Value.float b t from r);cases e;rfl)|ref a=>(cases (show u=Value.ref a from r);rfl)|ty n=>cases (show u=Value.type n from r);rfl
section
variable{P:Ψ}{w:Ω}{H:Hp}{h:Γ}{a C dx:ε}{fs:δ (ρ×V)}
def sW(aT:mR P w H h)(e:H a=ϑ (.ins C dx fs)):∃mA,Dx h a dx C mA/\(∀f,iW (fs.lookup f)<|mA f)/\PySem.Within mA (fs.map (·.1))/\fs.length<=1000/\H dx=ϑ (.own a):=by let⟨d,z,ne,c,mA,n,r,q⟩:=(show bM P w H h a (.ins C dx fs) from aT a _ e);show{mA,⟨c,n,ne⟩,r,q,z,d}
end
structure sX(K:Φ)(C:ε):η where
 pg:plainGet K C Str.empty=ϱ
 hd:hasDictIn K C=ϱ
 po:plainOver K C=ϱ
 sa:findIn K (.ref C) "__setattr__"= some (some<|.builtin "object.__setattr__")
theorem sX.get{K:Φ}{C:ε}(c:sX K C)(f:ρ):plainGet K C f=ϱ:=c.pg
def lA(K:Φ)(C:ε)(f:ρ):Prop:=findIn K (.ref C) f=ϑ none
def lA.Vv{K:Φ}{C:ε}{f:ρ}(n:lA K C f):takerIn K C f=ϑ none:=by unfold takerIn;rw[show findIn K (.ref C) f=ϑ none from n];rfl
structure Con(K:Φ)(C:ε)(f:ρ)(v:V)(u:ξ):η where
 at_:findIn K (.ref C) f=ϑ (some u)
 rel:RelV v u
 get:specialIn K u "__get__"= some none
 cp:PySem.W.copiedNames.contains f=ϰ
structure Meth(K:Φ)(C:ε)(m:ρ)(f:ε):η where
 at_:findIn K (.ref C) m=ϑ (some<|.ref f)
 fn:isFn K (.ref f)=ϱ
 kp:keepIn K (.ref f)=ϱ
section
variable{X:Cx}{qg:δ (ε×Obj)}{σ:St}{H:Hp}{s:ζ}{a C dx:ε}{fs:δ (ρ×V)}{f:ρ}{v:V}{A:ϕ}{E:ξ->ζ->η}
def Dy(I:Inv X qg σ H s)(e:H a=ϑ (.ins C dx fs))(c:sX X.K C)(n:lA X.K C f)(l:fs.lookup f=ϑ v) (h:∀u s',Inv X qg σ H s'->RelV v u->Q u s'):wpAny `m A (getAttr (.ref a) f b) Q E s:=by let⟨mA,O,r,_,_,_⟩:=sW I.aT e;let⟨u,hu,d⟩:=iW.some_of (v:=v) (o:=mA f) (by rw[<-l];show r f);show get_map I.nh O (c.get f) c.hd n hu (Hi d)<|h u _ (I.tok _) d
def tT(I:Inv X qg σ H s)(e:H a=ϑ (.ins C dx fs))(c:sX X.K C)(k:Meth X.K C m g)(l:fs.lookup m=ϐ) (h:Q (.ref g,[.ref a]) s):wpAny `m A (getMethod (.ref a) m pl) Q E s:=by let⟨mA,O,r,_,_,_⟩:=sW I.aT e;have hn:mA m=ϐ:=iW.none_of (by rw[<-l];show r m);show JA I.nh O (c.get m) k.at_ k.fn hn h
def Dz(I:Inv X qg σ H s)(e:H a=ϑ (.ins C dx fs))(c:sX X.K C)(n:lA X.K C f)(hl:fs.length<1000)(i:RelV y u) (h:∀s',Inv X qg σ (upd H a<|.ins C dx<|putF f y fs) s'->Q () s'):wpAny `m A (setAttr (.ref a) f u) Q E s:=by
 let⟨mA,O,r,wi,_,ho⟩:=sW I.aT e;have hz:(fs.map (·.1)).length<=sizeLine:=by rw[zc,zZ];lia
 show Nd I.nh O c.sa c.po n.Vv c.hd wi hz λh' d j=>h _ ?_;have hd:∃o,h'.get? dx=ϑ o:=by let⟨o,_,_,e',_⟩:=d.ns;show⟨o,e'⟩
 show I.write (x:=a) (e:=dx) (by rw[e];show True.intro) (.inr ho) (λb q l z=>(j.2 b l).trans z) hd ?_;show{by rw[ay O.ne];show ho,?_,O.ne,d.obj,_,d.ns,λg=>?_,λg hg=>?_};have:=rN f y fs;lia;change iW ((putF f y fs).lookup g) (if g=f then some u else mA g);rw[rM];by_cases q:g=f;rw[qe q,qe q];show i;rw[qb q,qb q];show r g;by_cases q:g=f;rw[q];show(qm f y fs).1;show(qm f y fs).2 g<|wi g λz=>hg ?_;change(if g=f then some u else mA g)=ϐ;rw[qb q];show z
def Inv.made(I:Inv X qg σ H s):Inv X qg σ (upd (upd H s.heap.objs.size<|.own<|s.heap.objs.size+1) `l<|.ins C s.heap.objs.size []) {s with heap:=(s.heap.push emptyDict).push<|instObj C s.heap.objs.size}:=by
 have e1:(s.heap.push emptyDict).get? s.heap.objs.size=ϑ emptyDict:=zr s.heap rfl;have e2:((s.heap.push emptyDict).push<|instObj C s.heap.objs.size).get? `l=ϑ (instObj C s.heap.objs.size):=by have:=zr (s.heap.push emptyDict) (o:=instObj C s.heap.objs.size) rfl;rwa [yq]at this
 have e3:(s.heap.push emptyDict).Ns s.heap.objs.size (λz=>none):={emptyDict,#[],_,e1,rfl,(λe c=>absurd c<|`d),λz=>rfl};have g:=I.laid (a:=s.heap.objs.size) (o:=.own<|s.heap.objs.size+1) (h':=s.heap.push emptyDict) (t':=s.toks) (λb u q=>zb _ q) (zp _) {_,e1};show g.laid (a:=s.heap.objs.size+1) (o:=.ins C s.heap.objs.size []) (t':=s.toks) (λb u q=>zb _ q) (Nat.le_of_eq<|yq _ _) ?_;have ne:s.heap.objs.size≠s.heap.objs.size+1:=zC<|Nat.lt_succ_self _;show{by rw[ay ne,aR],yf _,ne,e2,λz=>none,(Heap.Ns1.of_empty e3).at λo q=>zb _ q,λz=>True.intro,λy d=>absurd rfl d}
theorem Ng(a:attributeBase e f env (eval e env)=eval e env) (h:wpAny `n A (eval e env) (λo bN=>wpAny `n A (getAttr o f true) Q E bN) E s):wpAny `n A (eval (.Attribute e f pos) env) Q E s:=Attribute_any_ h<|by rw[arm_eval_Attribute,a]
end
def aag(K:Φ)(ta:TE)(f:ρ):TE:=λσ H Q=>ta σ H λx H1=>∃a C dx fs v,x=.ref a/\H1 a=ϑ (.ins C dx fs)/\sX K C/\lA K C f/\fs.lookup f=ϑ v/\Q v H1
def aah(K:Φ)(ta tv:TE)(f:ρ):TS:=λD σ H=>tv σ H λy H1=>ta σ H1 λx H2=>∃a C dx fs,x=.ref a/\H2 a=ϑ (.ins C dx fs)/\sX K C/\lA K C f/\fs.length<1000/\D.nx σ (upd H2 a<|.ins C dx<|putF f y fs)
section
variable{X:Cx}{o e value:Δ}{f:ρ}{pos pos':Pos}{ta tv:TE}
def Rh(m:PE X e ta)(j:attributeBase e f X.env (eval e X.env)=eval e X.env):PE X (.Attribute e f pos) (aag X.K ta f):=by intro qg s σ H Q I h;show Ng j<|bZ (m qg s σ H _ I h) λu s1 ⟨x,H1,o,g,a,C,dx,fs,v,ex,p,c,n,l,q⟩=>?_;subst ex;obtain rfl:u=Value.ref a:=g;show Dy o p c n l λr s2 i d=>⟨v,H1,i,d,q⟩
def Ri(ha:PE X o ta)(t:PE X value tv)(hs:swapsWith value (some<|.Attribute o f pos') pos.line X.env=pure false):PS X (.Assign [.Attribute o f pos'] value pos) (aah X.K ta tv f):=by intro qg s σ H D I h;show plainObj_wpAny_Assign_Attribute (bZ (t qg s σ H _ I h) λu s1 ⟨y,H1,e,i,q⟩=>bZ (ha qg s1 σ H1 _ e q) λm s2 ⟨x,H2,d,j,a,C,dx,fs,ex,g,c,n,l,r⟩=>?_) hs;subst ex;obtain rfl:m=Value.ref a:=j;show Dz d g c n l i λv p=>{σ,_,p,r}
end
section
variable{X:Cx}{qg:δ (ε×Obj)}{σ:St}{H:Hp}{s:ζ}{A:ϕ}{E Q:ξ->ζ->η}{c:ξ}{b:χ}
inductive qo (K:Φ) (H:Hp):V->ξ->η
 |ao:qo K H .ao (.type "NoneType")
 |bl (x:χ):qo K H (.bl x) (.type "bool")
 |int (i:ν):qo K H (.int i) (.type "int")
 |str (x:ρ):qo K H (.str x) (.type "str")
 |QH (x:UInt64):qo K H (.QH x) (.type "float")
 |lst {a:ε}{xs:δ V} (e:H a=ϑ (.lst xs)):qo K H (.ref a) (.type "list")
 |ng {a:ε}{o:Obj}{xs:δ V} (e:H a=ϑ (.ng o<|.lst xs)):qo K H (.ref a) (.type "list")
 |tup {a:ε}{xs:δ V} (e:H a=ϑ (.tup xs)):qo K H (.ref a) (.type "tuple")
 |dK {a:ε}{kvs:δ<|Key×V} (e:H a=ϑ (.dK kvs)):qo K H (.ref a) (.type "dict")
 |dT {a:ε}{kvs:δ<|δ Key×V} (e:H a=ϑ (.dT kvs)):qo K H (.ref a) (.type "dict")
 |ins {a C dx:ε}{fs:δ<|ρ×V} (e:H a=ϑ (.ins C dx fs)) (cl:sX K C) (ha:findIn K (.ref C) "__class__"= some (some<|.builtin "object.__class__"))
   (hn:specialIn K (.builtin "object.__class__") "__get__"= some (some<|.builtin "getset_descriptor.__get__")) (htk:PySem.W.takesIn K (.builtin "object.__class__")=ϑ true)
   (hm:mroIn K C (.type "object")=ϑ true):qo K H (.ref a) (.ref C)
def Hj{u t:ξ}(I:Inv X qg σ H s)(g:RelV x u)(ty:qo X.K H x t)(e:kitOne X.K t c=ϑ b)(h:∀tk,Q (.bool b) {s with toks:=tk}): wpAny `m A (call (.builtin "isinstance") [u,c]) Q E s:=by cases ty with|ao=>(cases (show u=Value.none from g);show kia_one PySem.W.kitx_none I.nh True.intro e (λz=>nomatch z) h)|bl y=>(cases (show u=Value.bool y from g);show kia_one PySem.W.kitx_bool I.nh True.intro e (λz=>nomatch z) h)|int i=>(let⟨t,q⟩:=(show ∃t,u=Value.int i t from g);cases q;show kia_one PySem.W.kitx_int I.nh True.intro e (λz=>nomatch z) h)|str y=>(let⟨t,q⟩:=(show ∃t,u=Value.str y t from g);cases q;show kia_one PySem.W.kitx_str I.nh True.intro e (λz=>nomatch z) h)|QH y=>(let⟨t,q⟩:=(show ∃t,u=Value.float y t from g);cases q;show kia_one PySem.W.kitx_float I.nh True.intro e (λz=>nomatch z) h)|@lst a xs d=>(cases (show u=Value.ref a from g);let⟨_,_,n,_,h1⟩:=(show bM X.prog X.w H s.heap a (.lst xs) from I.aT a _ d);show kia_one kitx_list I.nh {_,h1,rfl} e (λz=>nomatch z) h)|@ng a j xs d=>(cases (show u=Value.ref a from g);let⟨_,_,_,n,_,h1⟩:=(show bM X.prog X.w H s.heap a (.ng j<|.lst xs) from I.aT a _ d);show kia_one kitx_list I.nh {_,h1,rfl} e (λz=>nomatch z) h)|@tup a xs d=>(cases (show u=Value.ref a from g);let⟨_,_,_,p⟩:=(show bM X.prog X.w H s.heap a (.tup xs) from I.aT a _ d);let⟨o,h1,h2,_⟩:=p;show kia_one PySem.W.kitx_tuple I.nh ⟨o,h1,h2⟩ e (λz=>nomatch z) h)|@dK a kvs d=>(cases (show u=Value.ref a from g);let⟨_,_,vs,_,p⟩:=(show bM X.prog X.w H s.heap a (.dK kvs) from I.aT a _ d);let⟨o,es,ep,h1,h2,_⟩:=p;show kia_one PySem.W.kitx_dict I.nh ⟨o,h1,h2.1⟩ e (λz=>nomatch z) h)|@dT a kvs d=>show False.elim (show bM X.prog X.w H s.heap a (.dT kvs) from I.aT a _ d)|@ins a C dx fs d cl ha hn htk hm=>cases (show u=Value.ref a from g);let⟨mA,O,_⟩:=sW I.aT d;let⟨od,J,_⟩:=O.look;show kia_one (PySem.W.kitx_own (cl.get _) cl.hd ha hn htk hm) I.nh J e (λz=>nomatch z) h
end
structure cj(k:π)(A:ϕ):η where
 hd:A.handled=ϐ
 dp:A.depth+3*k+5<recursionLimit
 un:A.units+16*k+200<cLine
theorem cj.mono(r:cj k A)(h:j<=k):cj j A:={r.hd,by have:=r.dp;lia,by have:=r.un;lia}
theorem cj.deeper(r:cj (k+1) A)(env:Env):cj k (A.deeper env):={r.hd,by have:=r.dp;change A.depth+1+3*k+5<_;lia,by have:=r.un;change A.units+3+16*k+200<_;lia}
theorem cj.in1(r:cj (k+1) A):cj k A.in1:={r.hd,by have:=r.dp;change A.depth+3*k+5<_;lia,by have:=r.un;change A.units+1+16*k+200<_;lia}
def DB{A:ϕ}{C:ε}{us:δ ξ}{kw:δ<|ρ×ξ} : (A.under<|.builtin "type.__call__" {.ref C::us,kw}).depth=A.depth+1:=by first|rfl|simp[Around.under,Code.weight,Code.isCreation,Code.isGuard,Code.isCaller,Code.frames,Code.isFrame,guardIds]
def DC{A:ϕ}{C:ε}{us:δ ξ}{kw:δ<|ρ×ξ} : (A.under<|.builtin "type.__call__" {.ref C::us,kw}).units=A.units+1:=by first|rfl|simp[Around.under,Code.cUnits,Code.frames,Code.isFrame]
theorem cj.make(r:cj (k+1) A)(C:ε)(us:δ ξ)(kw:δ<|ρ×ξ):cj k (A.under<|.builtin "type.__call__" {.ref C::us,kw}):={r.hd,by have:=r.dp;rw[DB];lia,by have:=r.un;rw[DC];lia}
def cj.depth(r:cj k A):A.depth<recursionLimit:=by have:=r.dp;lia
def cj.units(r:cj k A):A.units+64<cLine:=by have:=r.un;lia
def aaj:TA:=λz H Q=>Q [] H
def Py(ta:TE)(a:TA):TA:=λσ H Q=>ta σ H λx H1=>a σ H1 λxs H2=>Q (x::xs) H2
section
variable{X:Cx}{e:Δ}{es:δ Δ}{te:TE}{t:TA}{pos:Pos}
theorem DD:PA X [] aaj:=λz z z z H Q I h=>Calls.spliced_nil {[],H,I,.nil,h}
def Nh(ha:PE X e te)(hr:PA X es t)(hs:ψ (starEach (e::es) X.env=`j::starEach es X.env) qQJ):PA X (e::es) (Py te t):=by intro pos qg s σ H Q I h;rw[hs];change wpAny _ _ (spliced<|`j::backTo pos (starEach es X.env)) _ _ s;show yu<|bZ (ha qg s σ H _ I h) λu s1 ⟨x,H1,i,a,j⟩=>?_;show bZ (hr pos qg s1 σ H1 _ i j) <| by rintro us s2 ⟨xs,H2,g,c,d⟩;show{x::xs,H2,g,.cons a c,d}
def aak(t:TA):TE:=λσ H Q=>t σ H λxs H1=>xs.length<=Ϙ/\∀p,H1 p=ϐ->Q (.ref p) (upd H1 p<|.tup xs)
def aal(t:TA):TE:=λσ H Q=>t σ H λxs H1=>xs.length<=Ϙ/\∀p,H1 p=ϐ->Q (.ref p) (upd H1 p<|.lst xs)
def Rj{x1}(h:PA X es t):PE X (.Tuple es x1 pos) (aak t):=by intro qg s σ H Q I c;show wpAny_Tuple_spliced<|bZ (h pos qg s σ H _ I c) λus s1 ⟨xs,H1,a,r,z,q⟩=>{by rw[<-r.length];show z,?_};have d:H1 s1.heap.objs.size=ϐ:=a.aT.fresh<|zp _;show{.ref s1.heap.objs.size,upd H1 s1.heap.objs.size<|.tup xs,a.laid (t':=s1.toks) (λb u e=>zb _ e) (zp _) ?_,rfl,q _ d};show{z,us,r,{_,zr _ rfl,rfl,rfl,_,rfl}}
def Rk(h:PA X es t):PE X (.List es pos) (aal t):=by intro qg s σ H Q I c;show wpAny_List_spliced<|bZ (h pos qg s σ H _ I c) λus s1 ⟨xs,H1,a,r,z,q⟩=>{by rw[<-r.length];show z,?_};have d:H1 s1.heap.objs.size=ϐ:=a.aT.fresh<|zp _;show{.ref s1.heap.objs.size,upd H1 s1.heap.objs.size<|.lst xs,a.laid (t':=s1.toks) (λb u e=>zb _ e) (zp _) ?_,rfl,q _ d};show{z,us,0,r,zr _ rfl}
end
abbrev Sp:=δ V->Hp->VK->XK->η
abbrev DF:=δ Env->Hp->ζ->XK->ξ->ζ->η
structure qp(P:Ψ)(w:Ω)(K:Φ)(mg:ρ->θ ξ)(base:Γ)(A:ϕ)(outer:δ Env)(s:ζ)(H:Hp):η where
 frames:A.frames=ϑ outer
 mod:Mod K mg base
 bs:∀b o,base.get? b=ϑ o->s.heap.get? b=ϑ o/\H b=ϐ
 Fl:base.objs.size<=s.heap.objs.size
 lq:s.heap.FunFrames base outer
 IT:∀b∈lj outer,H b=ϐ
 aT:mR P w H s.heap
 bare:AllBare s.gens
def CE(outer:δ Env)(P:Ψ)(w:Ω)(H:Hp)(s:ζ)(Q:VK)(u:ξ)(s':ζ):Prop:=∃v H',s'.os=s.os/\AllBare s'.gens/\Un (lj outer) [] H H' s.heap s'.heap/\mR P w H' s'.heap/\RelV v u/\Q v H'
def CR(CX:DF)(outer:δ Env)(P:Ψ)(w:Ω)(H:Hp)(s:ζ)(Q:VK)(E:XK)(r:Result)(s':ζ):Prop:=match r with|.ok (.ret u)=>CE outer P w H s Q u s'|.ok _=>False|.error e=>CX outer H s E e s'
structure cG(P:Ψ)(w:Ω)(K:Φ)(mg:ρ->θ ξ)(base:Γ)(CX:DF)(k:π)(f:ε)(fd:FuncData)(ps:δ ρ)(sp:Sp):η where
 len:∀vs H Q E,sp vs H Q E->vs.length=ps.length
 run:∀(A:ϕ)(outer:δ Env)(s:ζ)(H:Hp)(args:Args)(us:δ ξ)(vs:δ V)(Q:VK)(E:XK),cj k A->qp P w K mg base A outer s H->BindsTo s fd args (ps.zip us)->Vals vs us->sp vs H Q E ->
  codeAny (model P w) A (.call (.ref f) args) (CR CX outer P w H s Q E) s
theorem cG.mono{P:Ψ}{w:Ω}{K:Φ}{mg:ρ->θ ξ}{base:Γ}{CX:DF}{j k:π}{f:ε}{fd:FuncData}{ps:δ ρ}{sp:Sp}(F:cG P w K mg base CX j f fd ps sp)(h:j<=k): cG P w K mg base CX k f fd ps sp:={F.len,λA outer s H args us vs Q E hr=>F.run A outer s H args us vs Q E<|hr.mono h}
theorem cG.imp{P:Ψ}{w:Ω}{K:Φ}{mg:ρ->θ ξ}{base:Γ}{CX:DF}{k:π}{f:ε}{fd:FuncData}{ps:δ ρ}{sp a:Sp}(F:cG P w K mg base CX k f fd ps sp) (h:∀vs H Q E,a vs H Q E->sp vs H Q E):cG P w K mg base CX k f fd ps a:={λvs H Q E q=>F.len vs H Q E<|h _ _ _ _ q,λA outer s H args us vs Q E hr e c d hs=>F.run A outer s H args us vs Q E hr e c d<|h _ _ _ _ hs}
theorem qp.make{P:Ψ}{w:Ω}{K:Φ}{mg:ρ->θ ξ}{base:Γ}{A:ϕ}{outer:δ Env}{s:ζ}{H:Hp}(e:qp P w K mg base A outer s H)(C:ε)(us:δ ξ)(kw:δ<|ρ×ξ): qp P w K mg base (A.under<|.builtin "type.__call__" {.ref C::us,kw}) outer s H:={by first|show e.frames|(simpa [Around.under,Code.envs,Code.isFrame,pushEnvs]using e.frames),e.mod,e.bs,e.Fl,e.lq,e.IT,e.aT,e.bare}
section
variable{X:Cx}{qg:δ (ε×Obj)}{σ:St}{H:Hp}{s s':ζ}
theorem Inv.Ni(I:Inv X qg σ H s):qp X.prog X.w X.K X.mg X.base X.A X.stack s H:={I.ok.frames,I.ok.mod,I.bs,zM I.ok.Fl I.sz,I.stack,I.sU,I.aT,I.bare}
def Inv.after(I:Inv X qg σ H s)(h:CE X.stack X.prog X.w H s Q u s'):EP X qg σ Q u s':=by let⟨v,H',os,bare,un,aT,r,q⟩:=h;let⟨a,g,d,t,c⟩:=s';obtain rfl:c=s.os:=os;show{v,H',I.call (h':=a) (g':=g) (d':=d) (t':=t) (ch:=[]) un aT bare λb z=>absurd z<|`d,r,q}
end
def Binds(K:Φ)(fd:FuncData)(ps:δ ρ)(ds:δ ξ):Prop:=∀(s:ζ)(us:δ ξ),K.In s.heap->(us++ds).length=ps.length->BindsTo s fd {us,[]} (ps.zip<|us++ds)
theorem Binds.all{K:Φ}{fd:FuncData}{ps:δ ρ}(h:∀us:δ ξ,us.length=ps.length->bindArgs fd {us,[]}=pure (ps.zip us)):Binds K fd ps []:=λs us z hl=>by rw[yG]at hl⊢;show .of_eq<|h us hl
def Passes(CX:DF)(X:Cx)(E:XK):Prop:=∀(qg:δ (ε×Obj))(σ:St)(H:Hp)(s:ζ)(e:ξ)(s':ζ),Inv X qg σ H s->CX X.stack H s E e s'->X.xe e s'
section
variable{f C:ε}
structure Mk(K:Φ)(C f:ε):η where
 makes:makesIn K C=ϱ
 init:findIn K (.ref C) "__init__"= some (some<|.ref f)
 fn:isFn K (.ref f)=ϱ
 kp:keepIn K (.ref C)=ϱ
end
section
variable{fd:FuncData}{ps ks:δ ρ}
structure aam(K:Φ)(fd:FuncData)(ps ks:δ ρ)(g:δ ξ->δ ξ->δ ξ)(gV:δ V->δ V->δ V):η where
 to:∀(s:ζ)(us ws:δ ξ),K.In s.heap->(g us ws).length=ps.length->BindsTo s fd {us,ks.zip ws} (ps.zip<|g us ws)
 rel:∀{vs:δ V}{us:δ ξ}{zs:δ V}{ws:δ ξ},Vals vs us->Vals zs ws->Vals (gV vs zs) (g us ws)
variable{g:δ ξ->δ ξ->δ ξ}{gV:δ V->δ V->δ V}
end
structure gr(N P:δ ρ)(sc:Scope):η where
 kind:sc.kind=.function
 co:sc.isCoroutine=ϰ
 gen:sc.isGenerator=ϰ
 nd:N.Nodup
 pre:N.take P.length=P
 par:∀x∈P,sc.names.lookup x=ϑ .local\/sc.names.lookup x=ϑ .cell
 Rl:∀y∈sc.names,y.2≠.free
theorem wO{kindOf:ρ->θ NameKind}{x:ρ} : ∀{a:δ (ρ×ξ)}{m:ρ->θ ξ},(∀v,(x,v)∉a)->bindL kindOf a m x=m x
 |[],_,_=>rfl
 | (n,v)::r,m,h=>by
  unfold bindL;rw[wO λw hw=>h w<|zk _ hw];split;have:x≠n:=by rintro rfl;show h v zD
  simp[this];rfl
theorem wQ{kindOf:ρ->θ NameKind}{x:ρ} : ∀{a:δ (ρ×ξ)}{m:ρ->θ ξ},(∀v,(x,v)∉a)->bindC kindOf a m x=m x
 |[],_,_=>rfl
 | (n,v)::r,m,h=>by
  unfold bindC;rw[wQ λw hw=>h w<|zk _ hw];split;rfl;have:x≠n:=by rintro rfl;show h v zD
  simp[this]
theorem wR{kindOf:ρ->θ NameKind}{x:ρ}{v:ξ} : ∀{P:δ ρ}{vs:δ ξ}{i:π}{m:ρ->θ ξ},P.Nodup->P[i]?=some x->vs[i]?=some v->kindOf x=ϑ .local->bindL kindOf (P.zip vs) m x=ϑ v|[],_,_,_,_,h,_,_=>by simp at h|_::_,[],_,_,_,_,h,_=>by simp at h|p::P,w::vs,0,m,nd,h1,h2,hk=>by simp at h1 h2;subst h1;subst h2;change bindL kindOf ((p,w)::P.zip vs) m p=_;unfold bindL;rw[wO λv a=>(yk.mp nd).1 (List.of_mem_zip a).1,qe hk];simp|p::P,w::vs,i+1,m,nd,h1,h2,hk=>by change bindL kindOf ((p,w)::P.zip vs) m x=_;unfold bindL;show wR (i:=i) (yk.mp nd).2 (by simpa using h1) (by simpa using h2) hk
theorem wU{kindOf:ρ->θ NameKind}{x:ρ}{v:ξ} : ∀{P:δ ρ}{vs:δ ξ}{i:π}{m:ρ->θ ξ},P.Nodup->P[i]?=some x->vs[i]?=some v->kindOf x≠some .local->bindC kindOf (P.zip vs) m x=ϑ v|[],_,_,_,_,h,_,_=>by simp at h|_::_,[],_,_,_,_,h,_=>by simp at h|p::P,w::vs,0,m,nd,h1,h2,hk=>by simp at h1 h2;subst h1;subst h2;change bindC kindOf ((p,w)::P.zip vs) m p=_;unfold bindC;rw[wQ λv a=>(yk.mp nd).1 (List.of_mem_zip a).1,qb hk];simp|p::P,w::vs,i+1,m,nd,h1,h2,hk=>by change bindC kindOf ((p,w)::P.zip vs) m x=_;unfold bindC;show wU (i:=i) (yk.mp nd).2 (by simpa using h1) (by simpa using h2) hk
noncomputable def start(N:δ ρ)(vs:δ V):St:=vs.map some++List.replicate (N.length-vs.length) none
def ij(CX:DF)(P:Ψ)(w:Ω)(K:Φ)(mg:ρ->θ ξ)(base:Γ)(N:δ ρ)(qual:ρ)(scope:Scope)(f:ε)(cd:ξ)(A:ϕ)(outer:δ Env)(s:ζ)(H:Hp)(E:XK):Cx where
 prog:=P
 w:=w
 K:=K
 mg:=mg
 base:=base
 A:=A.deeper<|envOfC qual scope s.heap.objs.size f cd
 N:=N
 du:=s
 nL:=H
 env:=envOfC qual scope s.heap.objs.size f cd
 outer:=outer
 stack:=envOfC qual scope s.heap.objs.size f cd::outer
 ex:=[]
 calm:=true
 fn:=λz=>true
 pn:=[]
 xe:=λe s'=>wpAny (model P w) (A.deeper<|envOfC qual scope s.heap.objs.size f cd) (leaving (envOfC qual scope s.heap.objs.size f cd) e) (λz xR=>CX outer H s E e xR) (λe' xR=>CX outer H s E e' xR) s'
def Bw{sc:Scope}{n:π}{x:ρ}(h:sc.names.lookup x=ϑ .cell):∃c,(cellsFrom n sc.names []).lookup x=ϑ c:=by have q:=cellsFrom_some sc.names n []<|.inl h;show Option.isSome_iff_exists.mp q
def wV{CX:DF}{P:Ψ}{w:Ω}{K:Φ}{mg:ρ->θ ξ}{base:Γ}{N ps:δ ρ}{qual:ρ}{scope:Scope}{f:ε}{cd:ξ}{A:ϕ}{outer:δ Env}{s s1:ζ}{H:Hp}{E:XK}{us:δ ξ}{vs:δ V} (S:gr N ps scope) (hd:A.handled=ϐ) (d:qp P w K mg base A outer s H) (hl:vs.length=ps.length) (r:Vals vs us) (x:InCallC s s.heap.objs.size (bindL (envOfC qual scope s.heap.objs.size f cd).kindOf (ps.zip us) λZ=>none) (cellsFrom `l scope.names []) (bindC (envOfC qual scope s.heap.objs.size f cd).kindOf (ps.zip us) λZ=>none) s1): Inv (ij CX P w K mg base N qual scope f cd A outer s H E) [] (start N vs) H s1:=by
 have t:ps.length<=N.length:=by have:=congrArg List.length S.pre;rw[yc]at this;lia
 let⟨h1,tk,rfl,hk⟩:=x.done;have m:∀b:ε,b∉(ij CX P w K mg base N qual scope f cd A outer s H E).ex:=λb z=>absurd (show b∈([]:δ ε) from z) `d;show{{d.mod,S.kind,rfl,rfl,zp _,λy z c h1 h2=>?_,λy g=>?_,λy c Z h=>?_,λZ=>hd,Around.frames_deeper d.frames,.inr ⟨rfl,rfl⟩,λb z=>absurd z<|m b,d.bs,d.Fl,λb Z Z=>m b,λb z=>absurd z<|m b,d.lq,d.IT},rfl,d.bare,Un.kept hk,{_,x.toInCall.ns,λi y v h1 h2 B=>?_},λy c h=>{_,x.cell y c h},d.aT.fresh<|zp _,λy c h=>?_,λp l=>absurd (show p∈([]:δ (ε×Obj)) from l)<|`d,d.aT.kept hk,?_};show name_of_addr x.apart (zX h1)<|zX h2;have g:scope.names.lookup y=ϑ .cell\/scope.names.lookup y=ϑ .free:=g;rcases g with g|g;show Bw g;show absurd rfl<|S.Rl _<|zX g;show yL<|x.above y c<|zX h;have hi:i<vs.length:=by unfold start at h2;by_cases hi:i<vs.length;show hi;rw[List.getElem?_append_right<|by simpa using hi]at h2;rw[List.getElem?_replicate]at h2;split at h2<;>cases h2
 have ha:vs[i]?=some v:=by unfold start at h2;rw[List.getElem?_append_left<|by simpa using hi,zA]at h2;cases e:vs[i]? with|none=>(rw[e]at h2;cases h2)|some a=>rw[e]at h2;cases h2;rfl
 let⟨u,hu,o⟩:=r.get ha;have l:ps[i]?=some y:=by rw[<-S.pre,List.getElem?_take_of_lt<|`b];show h1
 have j:ps.Nodup:=by rw[<-S.pre];show S.nd.sublist<|List.take_sublist _ _
 show{u,o,?_};rcases S.par y (zI l) with k|k;show .inl {k,wR j l hu k};let⟨c,e⟩:=Bw (n:=s.heap.objs.size+1) k;show .inr {.inl k,c,e,?_};have q:=x.cell y c e;rw[wU j l hu<|by change scope.names.lookup y≠_;rw[k];decide]at q;show q;show d.aT.fresh<|yL<|x.above y c<|zX h;unfold start;change _=N.length;rw[zw,zc,zE];lia
def Pz{CX:DF}{P:Ψ}{w:Ω}{K:Φ}{mg:ρ->θ ξ}{base:Γ}{k:π}{f:ε}{name qual:ρ}{params:Arguments}{body:δ Stmt}{scope:Scope}{dV kV doc pm fT ct oc:ξ}{an od:θ ε} {PB:Array<|θ ξ}{N ps:δ ρ}{sp:Sp} (lk:K.lookup f=ϑ {oc,od,.func<|fnOf name qual params body scope dV kV doc pm an fT ct,PB}) (p:codeIn K fT qual=ϱ) (S:gr N ps scope) (len:∀vs H Q E,sp vs H Q E->vs.length=ps.length) (C:∀(A:ϕ)(outer:δ Env)(s:ζ)(H:Hp)(vs:δ V)(Q:VK)(E:XK),cj k (A.deeper<|envOfC qual scope s.heap.objs.size f fT)->sp vs H Q E->∃t,Dn (ij CX P w K mg base N qual scope f fT A outer s H E) body t/\t {nx:=λZ H'=>Q .ao H',rt:=Q} (start N vs) H): cG P w K mg base CX (k+1) f (fnOf name qual params body scope dV kV doc pm an fT ct) ps sp:=by
 show{len,λA outer s H args us vs Q E hr a F r i=>?_};have hl:=len _ _ _ _ i;have KX:K.In s.heap:=a.mod.Br.keeps λb o e=>(a.bs b o e).1;have g:s.heap.NoLimit:=a.mod.nolimit.keeps λb o e=>(a.bs b o e).1;have j:∀y∈ps.zip us,scope.names.lookup y.1=ϑ .local\/(scope.names.lookup y.1=ϑ .cell/\((cellsFrom `l scope.names []).lookup y.1).isSome=ϱ):=by rintro⟨n,v⟩ B;rcases S.par n (List.of_mem_zip B).1 with q|q;show .inl q;show .inr {q,cellsFrom_some _ _ _<|.inl q}
 show codeAny_call_function hr.depth (KX _ _ lk) rfl S.co S.gen rfl (codeRec_of KX p)<|F _ _ _ _ ?_;show wpAny_newFunctionEnv_cells S.kind j λenv l s1 x=>?_;subst l;show{g.keeps x.toInCall.keep,codeAny_func ?_};let⟨t,m,z⟩:=C A outer s H vs Q E (hr.deeper _) i;have I:Inv (ij CX P w K mg base N qual scope f fT A outer s H E) [] (start N vs) H s1:=wV S hr.hd a hl r x;show yh (m [] s1 (start N vs) H _ I z) (λfl s' hs=>?_) λe s' hs=>hs;have c:∀{d:St}{H':Hp}{v:V}{u:ξ},Inv (ij CX P w K mg base N qual scope f fT A outer s H E) [] d H' s'->RelV v u->Q v H'->CE outer P w H s Q u s':=λ{d H' v u} J h q=>⟨v,H',J.os,J.bare,J.base,J.aT,h,q⟩;cases fl with|ret u=>(let⟨v,d,H',J,h,q⟩:=hs;show c J h q)|next=>(let⟨d,H',J,q⟩:=hs;show c (v:=V.ao) (u:=Value.none) J rfl q)|brk=>(let⟨_,_,_,q⟩:=hs;show False.elim q)|cont=>let⟨_,_,_,q⟩:=hs;show False.elim q
section
variable{X:Cx}{x:ρ}{p pos:Pos}{e:Δ}{es:δ Δ}{t:TA}{id T:String}{r:δ V->Hp->VK->η}
def tCB(r:δ V->Hp->VK->η)(t:TA):TE:=λσ H Q=>t σ H λvs H1=>r vs H1 Q
def tU(hc:eU X (.builtin id) r)(hg:Gl X x)(hm:X.mg x=ϐ)(g:bootBuiltins x=ϑ (.builtin id))(ha:PA X (e::es) t)(hn:ψ (x≠"__name__") qQZ)(d:ψ ((x==("__debug__": ρ))=ϰ) qQZ) (i:ψ (starEach (e::es) X.env=`j::starEach es X.env) qQJ) (a:ψ ((backTo pos<|starEach es X.env).any (·.1)=ϰ) qQJ):PE X (.Call (.Name x p) (e::es) [] pos) (tCB r t):=by intro qg s σ H Q I h;show yC<|jW I hg hm g ?_ hn d;show PyProof.Rows.callWith_builtin1 (bZ (ha pos qg s σ H _ I h) <| by rintro us s1 ⟨vs,H1,j,c,l⟩;show hc qg s1 σ H1 vs us Q j c l) i a
def wW(hc:eU X (.type T) r)(hg:Gl X x)(hm:X.mg x=ϐ)(g:bootBuiltins x=ϑ (.type T))(ha:PA X (e::es) t)(hn:ψ (x≠"__name__") qQZ)(d:ψ ((x==("__debug__": ρ))=ϰ) qQZ) (i:ψ (starEach (e::es) X.env=`j::starEach es X.env) qQJ) (a:ψ ((backTo pos<|starEach es X.env).any (·.1)=ϰ) qQJ):PE X (.Call (.Name x p) (e::es) [] pos) (tCB r t):=by intro qg s σ H Q I h;show yC<|jW I hg hm g ?_ hn d;show PyProof.Rows.callWith_type1 (bZ (ha pos qg s σ H _ I h) <| by rintro us s1 ⟨vs,H1,j,c,l⟩;show hc qg s1 σ H1 vs us Q j c l) i a
end
end L2
namespace HT
open PySem PyProof.Rows
section
variable{prog:Ψ}{w:Ω}{A:ϕ}{E:ξ->ζ->η}{s:ζ}
def cat_tup{t b:ε}(p:IsTup s.heap t vs.toArray)(o:IsTup s.heap b ws.toArray)(j:vs≠[]) (h1:ws=[]->Q (.ref t) s) (h2:ws≠[]->Q (.ref s.heap.objs.size) {s with heap:=s.heap.push {cls:=.type "tuple",data:=.seq (vs++ws).toArray}}) (hsz:vs.length+ws.length<=Ϙ):wpAny `n A (binaryOp .Add (.ref t)<|.ref b) Q E s:=by
 let⟨⟨cls,i,data,sl⟩,ho,hc,n,hd⟩:=id p;let⟨⟨m,d,data2,l⟩,c,g,h,a⟩:=id o;simp only at hc hd g a;subst hc hd g a;have e:vs.toArray++ws.toArray=(vs++ws).toArray:=`d
 by_cases hw:ws=[];show concat_meets {_,ho,rfl} {_,c,rfl} noFill_tuple_add seq_tuple_add PySem.F.slot_tuple_add PySem.F.entry_tuple_add (PySem.F.args_tuple_add_2 _ _) (tuple_addW1 t b vs.toArray ws.toArray n h i d sl l (by simpa using j)<|by simp[hw]) {ho,c,h1 hw};show concat_meets {_,ho,rfl} {_,c,rfl} noFill_tuple_add seq_tuple_add PySem.F.slot_tuple_add PySem.F.entry_tuple_add (PySem.F.args_tuple_add_2 _ _) (tuple_addW2 t b vs.toArray ws.toArray n h i d sl l (by simpa using j) (by simpa using hw)<|by rw[zl,zl];show hsz) {ho,c,?_};rw[e];show h2 hw
noncomputable def sIx(n d:π):θ ν->π|none=>d|some v=>if v<0 then (v+(n:ν)).toNat else min v.toNat n
theorem sIx_none(n d:π):sIx n d none=d:=rfl
def sIx_nat(n d k:π):sIx n d (some (k:ν))=min k n:=by change(if (k:ν)<0 then ((k:ν)+(n:ν)).toNat else min (k:ν).toNat n)=min k n;rw[qb<|`b,Int.toNat_natCast]
def sIx_le(n d:π)(hd:d<=n)(o:θ ν):sIx n d o<=n:=by cases o with|none=>show hd|some v=>change(if v<0 then (v+(n:ν)).toNat else min v.toNat n)<=n;by_cases a:v<0;rw[qe a];lia;rw[qb a];show Nat.min_le_right _ _
def clip_eq(v:ν)(n d:π):(if v<0 then max (v+(n:ν)) 0 else min v (n:ν))=((sIx n d (some v):π):ν):=by change(if v<0 then max (v+(n:ν)) 0 else min v (n:ν))=(((if v<0 then (v+(n:ν)).toNat else min v.toNat n):π):ν);by_cases a:v<0;simp only[qe a];lia;simp only[qb a];lia
def adjust_gen(lo hi:θ ν)(n:π):Builtin.Slice.sliceAdjust lo hi 1 (n:ν)=(((sIx n 0 lo:π):ν),((sIx n n hi:π):ν)):=by
 have h1:¬((1:ν)<0):=`b
 unfold Builtin.Slice.sliceAdjust;simp only[h1,if_false];show Prod.ext ?_ ?_;cases lo with|none=>rfl|some v=>show clip_eq v n 0
 cases hi with|none=>rfl|some v=>show clip_eq v n n
def places_gen(i j:π):Builtin.Slice.slicePlaces (i:ν) (j:ν) 1=j-i:=by
 unfold Builtin.Slice.slicePlaces;have h1:(1:ν)>0:=`b
 simp only[h1,if_true,Int.ediv_one];split<;>lia
def slicePart_(p:IsPart v o)(h:Q o s):wpAny `n A (Builtin.Slice.slicePartIndex v) Q E s:=by cases p with|none=>show slicePart_none h|int i t=>show slicePart_int h
def sliceApplied_gen{sl:ε}{e d:ξ}{lo hi:θ ν}{n:π}{Q:ν×ν×π->ζ->η}(hs:s.heap.IsSliceOf sl e d .none)(pl:IsPart e lo)(g:IsPart d hi) (h:Q (((sIx n 0 lo:π):ν),1,sIx n n hi-sIx n 0 lo) s):wpAny `n A (Builtin.Slice.sliceApplied (.ref sl)<|pure (n:ν)) Q E s:=by let⟨os,a,i,c⟩:=id hs;unfold Builtin.Slice.sliceApplied Builtin.Slice.sliceFields;show za<|za<|ya a c (x:=e) rfl<|za<|ya a c (x:=d) rfl<|za<|ya a c (x:=.none) rfl<|zm ?_;show za<|slicePart_none ?_;change wpAny _ _ (if ((1:ν)==0)=ϱ then _ else _) _ _ s;rw[qb<|`a];show za<|slicePart_ pl<|za<|slicePart_ g<|za<|zm ?_;change wpAny _ _ (match Builtin.Slice.sliceAdjust lo hi 1 (n:ν) with|(lo,hi)=>pure (lo,(1:ν),Builtin.Slice.slicePlaces lo hi 1)) _ _ s;rw[adjust_gen lo hi n];change wpAny _ _ (pure (((sIx n 0 lo:π):ν),(1:ν),Builtin.Slice.slicePlaces ((sIx n 0 lo:π):ν) ((sIx n n hi:π):ν) 1)) _ _ s;rw[places_gen];show zm h
def pick_gen(xs:Array ξ)(i k:π):((List.range k).filterMap λ(m:π)=>xs[((i:ν)+(m:ν)*1).toNat]?).toArray=((xs.toList.drop i).take k).toArray:=by
 have e:(λ(m:π)=>xs[((i:ν)+(m:ν)*1).toNat]?)=λm=>xs[i+m]?:=by funext m;have:((i:ν)+(m:ν)*1).toNat=i+m:=`b;rw[this]
 rw[e];have:=pick_run xs i k;rw[List.filterMap_map]at this;have e2:((λx=>xs[x]?) ∘ λx=>i+x)=λm=>xs[i+m]?:=rfl;rw[e2]at this;rw[this]
def getItem_tuple_cut{t sl:ε}{items:Array ξ}{i g:ξ}{lo hi:θ ν}{Q:ξ->ζ->η}(c:IsTup s.heap t items)(hs:s.heap.IsSliceOf sl i g .none)(pl:IsPart i lo)(n:IsPart g hi) (hw:¬(sIx items.size 0 lo=0/\sIx items.size items.size hi=items.size)) (h:Q (.ref s.heap.objs.size) {s with heap:=s.heap.push {cls:=.type "tuple",data:=.seq ((items.toList.drop<|sIx items.size 0 lo).take<|sIx items.size items.size hi-sIx items.size 0 lo).toArray}}) (hsz:items.size<=Ϙ):wpAny `n A (getItem (.ref t)<|.ref sl) Q E s:=by
 have a:sizeOk (.seq ((items.toList.drop<|sIx items.size 0 lo).take<|sIx items.size items.size hi-sIx items.size 0 lo).toArray):=by change((items.toList.drop<|sIx items.size 0 lo).take<|sIx items.size items.size hi-sIx items.size 0 lo).toArray.size<=Ϙ;rw[zl,yc,List.length_drop,yi];lia
 have o:sIx items.size items.size hi<=items.size:=sIx_le _ _ (zp _) hi;let⟨os,j,e,p⟩:=id hs;have d:s.TypeIs (.ref sl) "slice":=⟨os,j,e⟩;unfold getItem;try with_reducible show yF ?_
 first|show za (zm ?_)|skip
 show za<|wpAny_sequenceKey c.typeIs `a ?_;show za<|wpAny_callSpecial?_slot (name:=Str.ofString "__getitem__") c.typeIs PyProof.Rows.slot_tuple_getitem<|yD PyProof.Rows.slot_tuple_getitem c.typeIs entry_tuple_getitem ?_<|args_tuple_getitem _ _;change wpAny _ _ (Builtin.Tuple.tupleItemsOf (.ref t) >>=_) _ _ s;show za<|tupleItemsOf_ c ?_;show za<|wpAny_typeOf d ?_;rw[qe<|`a];show za<|sliceApplied_gen hs pl n ?_;have l:¬((((sIx items.size 0 lo:π):ν)==0&&(1:ν)==1&&(sIx items.size items.size hi-sIx items.size 0 lo)==items.size)=ϱ):=by intro q;rw[zT,zT]at q;have v:((sIx items.size 0 lo:π):ν)=0:=eq_of_beq q.1.1;have r:sIx items.size items.size hi-sIx items.size 0 lo=items.size:=eq_of_beq q.2;show hw {`b,`b}
 change wpAny _ _ (if (((sIx items.size 0 lo:π):ν)==0&&(1:ν)==1&&(sIx items.size items.size hi-sIx items.size 0 lo)==items.size)=ϱ then _ else _) _ _ s;rw[qb l,pick_gen];first|show za (m:=Builtin.Tuple.tupleExact _) (yg (zm !⟨zm h⟩) a)|show za (m:=Builtin.Tuple.tupleExact _) (yg (za<|zm<|zm !⟨zm h⟩) a)|show za (za (m:=Builtin.Tuple.tupleExact _)<|yg (zm<|zm !⟨zm h⟩) a)|show za (za (m:=Builtin.Tuple.tupleExact _)<|yg (zm !⟨zm h⟩) a)
end
end HT
namespace L2
open PySem PySem.Spec PyProof.Rows
abbrev TO:=St->Hp->(θ ν->Hp->η)->η
def PO(X:Cx)(e:θ Δ)(t:TO):Prop:=∀(qg:δ (ε×Obj))(s:ζ)(σ:St)(H:Hp)(Q:θ ν->Hp->η),Inv X qg σ H s->t σ H Q->wpAny `m X.A (evalPart e X.env) (λu s'=>∃o H',Inv X qg σ H' s'/\IsPart u o/\Q o H') X.xe s
def Nl:TO:=λz H Q=>Q none H
def VB(t:TE):TO:=λσ H Q=>t σ H λx H1=>∃i,x=.int i/\Q (some i) H1
section
variable{X:Cx}{e:Δ}{te:TE}{lo hi:θ Δ}{tl th:TO}{pos p2:Pos}
def Nm:PO X none Nl:=by intro qg s σ H Q I h;rw[evalPart_none];show zm {none,H,I,.none,h}
def Nn(h:PE X e te):PO X (some e) (VB te):=by intro qg s σ H Q I hw;rw[evalPart_some];show bZ (h qg s σ H _ I hw) λu s1 ⟨x,H1,c,a,d⟩=>?_;let⟨i,rfl,q⟩:=d;let⟨t,rfl⟩:=a;show{some i,H1,c,.int i t,q}
def Up(X:Cx)(r:V->θ ν->θ ν->Hp->VK->η):Prop:=∀(qg:δ (ε×Obj))(s:ζ)(σ:St)(H:Hp)(x:V)(v vl vu:ξ)(lo hi:θ ν)(sl:ε)(Q:VK),Inv X qg σ H s->RelV x v->s.heap.IsSliceOf sl vl vu .none->IsPart vl lo->IsPart vu hi->r x lo hi H Q->∃T id,typeLookup (.type T) "__getitem__"= pure (some<|.builtin id)/\s.TypeIs v T/\wpAny `m X.A (getItem v<|.ref sl) (EP X qg σ Q) X.xe s
def tSl(r:V->θ ν->θ ν->Hp->VK->η)(te:TE)(tl th:TO):TE:=λσ H Q=>te σ H λx H1=>tl σ H1 λl H2=>th σ H2 λu a=>r x l u a Q
def By{r:V->θ ν->θ ν->Hp->VK->η}(hr:Up X r)(p:PE X e te)(hl:PO X lo tl)(hu:PO X hi th):PE X (.Subscript e (.Slice lo hi none p2) pos) (tSl r te tl th):=by intro qg s σ H Q I h;show Subscript_<|bZ (p qg s σ H _ I h) λv s1 ⟨x,H1,n,y,C⟩=>?_;show wpAny_Slice<|bZ (hl qg s1 σ H1 _ n C) λc s2 ⟨l,H2,j,t,B⟩=>bZ (hu qg s2 σ H2 _ j B) λd a ⟨u,g,z,m,E⟩=>?_;rw[evalPart_none];show zm ?_;have i:Inv X qg σ g {a with heap:=a.heap.push {cls:=.type "slice",data:=.fields #[c,d,.none]}}:=z.kept (t':=a.toks) λb F q=>zb _ q;let⟨T,id,hT,o,hg⟩:=hr qg {a with heap:=a.heap.push {cls:=.type "slice",data:=.fields #[c,d,.none]}} σ g x v c d l u a.heap.objs.size Q i y (Heap.IsSliceOf.new ..) t m E;change wpAny `m X.A (subscriptTail e (.Slice lo hi none p2) v<|.ref a.heap.objs.size) (EP X qg σ Q) X.xe {a with heap:=a.heap.push {cls:=.type "slice",data:=.fields #[c,d,.none]}};show tail_any (ops:=[.ref a.heap.objs.size,v]) o hT hg<|by with_unfolding_all rfl
noncomputable def Bz(xs:δ V)(lo hi:θ ν):δ V:=(xs.drop<|HT.sIx xs.length 0 lo).take<|HT.sIx xs.length xs.length hi-HT.sIx xs.length 0 lo
def rO(xs:δ V)(lo hi:θ ν):(Bz xs lo hi).length<=xs.length:=by unfold Bz;rw[yc,List.length_drop];lia
def aap(K:Φ):V->θ ν->θ ν->Hp->VK->Prop:=λx lo hi H Q=>∃a xs,x=.ref a/\k9 K H a xs/\¬(HT.sIx xs.length 0 lo=0/\HT.sIx xs.length xs.length hi=xs.length)/\∀p,H p=ϐ->Q (.ref p) (upd H p<|.tup<|Bz xs lo hi)
def Rm:Up X (aap X.K):=by
 intro qg s σ H x v m l lo hi sl Q I g hs e j h;let⟨a,xs,rfl,hx,hw,q⟩:=h;cases g;let⟨i,r,d,hz⟩:=I.tuple hx;have c:i.toArray.size=xs.length:=by rw[zl];show r.length.symm
 show{"tuple",_,PyProof.Rows.slot_tuple_getitem.lookup,d.typeIs,?_};show HT.getItem_tuple_cut d hs e j (by rw[c];show hw) ?_ (by rw[c];show hz);rw[c];show{.ref s.heap.objs.size,_,I.laid (t':=s.toks) (o:=.tup<|Bz xs lo hi) (λb n q=>zb _ q) (zp _) ?_,rfl,q _<|I.aT.fresh<|zp _};show{zM (rO xs lo hi) hz,_,(r.drop<|HT.sIx xs.length 0 lo).take<|HT.sIx xs.length xs.length hi-HT.sIx xs.length 0 lo,ic.new _ _}
def VC(K:Φ):R2:=λx y H Q=>∃a b xs ys,x=.ref a/\y=.ref b/\k9 K H a xs/\k9 K H b ys/\xs≠[]/\xs.length+ys.length<=Ϙ/\(ys=[]->Q (.ref a) H)/\(ys≠[]->∀p,H p=ϐ->Q (.ref p) (upd H p<|.tup<|xs++ys))
def Vals.sY(r:Vals xs us):us=[]↔xs=[]:=by cases r with|nil=>simp|cons _ _=>simp
def Np:ji X (binaryOp .Add) (VC X.K):=by intro qg s σ H x y v u Q I g e h;let⟨a,b,xs,ys,rfl,rfl,ha,l,hx,hz,m,j⟩:=h;cases g;cases e;let⟨p,d,i,_⟩:=I.tuple ha;let⟨n,c,p2,_⟩:=I.tuple l;show HT.cat_tup i p2 (λz=>hx<|d.sY.mp z) (λz=>{.ref a,H,I,rfl,m<|c.sY.mp z}) (λz=>?_) (by rw[<-d.length,<-c.length];show hz);show{.ref s.heap.objs.size,_,I.laid (t':=s.toks) (o:=.tup<|xs++ys) (λb r q=>zb _ q) (zp _) ?_,rfl,j (λw=>z<|c.sY.mpr w) _<|I.aT.fresh<|zp _};show{by rw[zw];show hz,_,d.append c,ic.new _ _}
end
noncomputable def JD(n:π)(i:ν):θ Nat:=if 0<=i then (if i<n then some i.toNat else none) else if -(n:ν)<=i then some (i+n).toNat else none
noncomputable def tV{α:Type}(xs:δ α)(i:ν):θ α:=(JD xs.length i).bind λj=>xs[j]?
def Fz(h:JD n i=ϑ j):seqIndex? i n=ϑ j/\j<n/\-(n:ν)<=i/\i<n:=by unfold JD at h;by_cases h0:0<=i;rw[qe h0]at h;by_cases h1:i<n;rw[qe h1]at h;have e:i.toNat=j:=zU h;show{by rw[seqIndex_of h0 h1,e],`b,`b,h1};rw[qb h1]at h;cases h;rw[qb h0]at h;by_cases h1:-(n:ν)<=i;rw[qe h1]at h;have e:(i+n).toNat=j:=zU h;show{by rw[seqIndex_neg `b h1,e],`b,h1,`b};rw[qb h1]at h;cases h
def xS(h:tV xs i=ϑ v):∃j,seqIndex? i xs.length=ϑ j/\xs[j]?=some v/\j<xs.length/\-(xs.length:ν)<=i/\i<xs.length:=by unfold tV at h;cases e:JD xs.length i with|none=>(rw[e]at h;cases h)|some j=>rw[e]at h;let⟨h1,h2,a,c⟩:=Fz e;show⟨j,h1,h,h2,a,c⟩
def gY{α:Type}{xs:δ α}{j:π}{v:α}(h:xs[j]?=some v):tV xs (j:ν)=ϑ v:=by
 have a:j<xs.length:=(zu.mp h).1;have e:JD xs.length (j:ν)=ϑ j:=by unfold JD;rw[qe<|`b,qe<|`b];simp
 unfold tV;rw[e];show h
def FA(b:Δ):Prop:=∀o i,subscripted b false o i=operate [o,i] (getItem o i)
def VD(X:Cx)(r:R2):Prop:=∀(value slice:Δ)(qg:δ (ε×Obj))(s:ζ)(σ:St)(H:Hp)(x y:V)(v u:ξ)(Q:VK),Inv X qg σ H s->RelV x v->RelV y u->r x y H Q->subscripted slice false v u=operate [v,u] (getItem v u)->wpAny `m X.A (subscriptTail value slice v u) (EP X qg σ Q) X.xe s
def Rn(X:Cx)(id:String)(r:V->δ V->Hp->VK->η):Prop:=∀(qg:δ (ε×Obj))(s:ζ)(σ:St)(H:Hp)(x:V)(xs:δ V)(v:ξ)(us:δ ξ)(Q:VK),Inv X qg σ H s->RelV x v->Vals xs us->r x xs H Q->wpAny `m X.A (call (.builtin id)<|v::us) (EP X qg σ Q) X.xe s
section
variable{X:Cx}{a b:Δ}{ta tb:TE}{pos:Pos}
def VE(hr:VD X r)(ha:PE X a ta)(g:PE X b tb)(hs:FA b):PE X (.Subscript a b pos) (Um r ta tb):=by intro qg s σ H Q I h;show Subscript_<|Q5 ha g I h λv u s2 x y H2 e d c q=>hr a b qg s2 σ H2 x y v u Q e d c q<|hs _ _
def aaq(K:Φ):R2:=λx y H Q=>∃p xs i v,x=.ref p/\y=.int i/\kZ K H p xs/\tV xs i=ϑ v/\Q v H
def aar(K:Φ):R2:=λx y H Q=>∃p xs i v,x=.ref p/\y=.int i/\k9 K H p xs/\tV xs i=ϑ v/\Q v H
def aas:R2:=λx y H Q=>∃z i c,x=.str z/\y=.int i/\z.length<=Ϙ/\tV z.cps.toList i=ϑ c/\Q (.str ⟨#[c]⟩) H
def FC:VD X (aaq X.K):=by
 intro value slice qg s σ H x y v u Q I A o h hs;let⟨p,xs,i,z,rfl,rfl,n,m,q⟩:=h;cases A;let⟨t,rfl⟩:=o;let⟨g,r,d,hz⟩:=I.list n;let⟨j,h1,h2,E,B,C⟩:=xS m;let⟨w,e,l⟩:=r.get h2;have hl:=r.length;have hn:=tQ;have a:EP X qg σ Q w s:=⟨z,H,I,l,q⟩;by_cases h0:0<=i;have c:i.toNat=j:=by rw[seqIndex_of h0 C]at h1;show zU h1
 show item_listR d.isList h0 `b (by rw[c];simpa using e) a hs;have c:(i+(g.toArray.size:ν)).toNat=j:=by rw[seqIndex_neg `b B]at h1;rw[zl,<-hl];show zU h1
 show subscriptTail_builtinR (x:=w) d.isList.typeIs slot_list_getitem.lookup (wpAny_getItem_list_neg (Q:=λr s'=>r=w/\EP X qg σ Q r s') d.isList `b (by rw[zl]<;>lia) `b (by rw[c];simpa using e) ⟨rfl,a⟩) hs
def JE:VD X (aar X.K):=by intro value slice qg s σ H x y v u Q I n m h hs;let⟨p,xs,i,z,rfl,rfl,l,e,q⟩:=h;cases n;let⟨t,rfl⟩:=m;let⟨o,r,c,hz⟩:=I.tuple l;let⟨j,h1,h2,A,B,C⟩:=xS e;let⟨w,g,d⟩:=r.get h2;have hl:=r.length;have hn:=tQ;have a:EP X qg σ Q w s:=⟨z,H,I,d,q⟩;show subscriptTail_builtinR (x:=w) c.typeIs slot_tuple_getitem.lookup (getItem_tuple (j:=j) (Q:=λr s'=>r=w/\EP X qg σ Q r s') c `b `b (by rw[zl,<-hl];show h1) (by simpa using g) ⟨rfl,a⟩) hs
def Ro:VD X aas:=by
 intro value slice qg s σ H x y v u Q I e d h hs;let⟨z,i,c,rfl,rfl,hz,a,q⟩:=h;let⟨t,rfl⟩:=e;let⟨n,rfl⟩:=d;let⟨j,h1,h2,m,g,l⟩:=xS a;have hl:z.cps.toList.length=z.length:=by simp[Str.length]
 rw[hl]at h1 g l;have hn:=tQ;show tail_any (typeIs_str s z t) slot_str_getitem.lookup (getItem_str (c:=c) (by have e1:ω (i < -(2^63:ν))=ϰ:=zf `b;have e2:ω (i>=2^63)=ϰ:=zf `b;rw[e1,e2,Bool.or_false]) (by rw[h1];simpa using h2) {.str ⟨#[c]⟩,H,I.tok _,{_,rfl},q}) hs
def DH(a:δ ξ)(n j:π)(u:ξ):Obj.mapSeq (·.setIfInBounds j u) {cls:=.type "list",data:=.seq a.toArray n}={cls:=.type "list",data:=.seq (a.set j u).toArray n}:=by simp[Obj.mapSeq]
def Inv.lst(I:Inv X qg σ H s)(h:H p=ϑ (.lst xs)): ∃(a:δ ξ)(n:π),Vals xs a/\s.heap.get? p=ϑ {cls:=.type "list",data:=.seq a.toArray n}/\xs.length<=sizeLine:=by let⟨z,a,n,r,e⟩:=I.aT p _ h;show⟨a,n,r,e,z⟩
def Inv.Rp{qg:δ<|ε×Obj}{σ:St}{H:Hp}{s:ζ}{p:ε}{xs ys:δ V}{d its':δ ξ}{n a:π}{f:Obj->Obj}(I:Inv X qg σ H s)(h:H p=ϑ (.lst xs)) (ho:s.heap.get? p=ϑ {cls:=.type "list",data:=.seq d.toArray n}) (c:f {cls:=.type "list",data:=.seq d.toArray n}={cls:=.type "list",data:=.seq its'.toArray a}) (r:Vals ys its') (hz:ys.length<=Ϙ) (t:π): Inv X qg σ (upd H p<|.lst ys) {s with heap:=s.heap.update p f,toks:=t}:=by
 have e:(s.heap.update p f).get? p=ϑ {cls:=.type "list",data:=.seq its'.toArray a}:=by rw[yr f ho<|by rw[c]<;>rfl,c]
 show I.write (x:=p) (e:=p) (by rw[h];trivial) (.inl rfl) (λb u g q=>(ym _ _<|Ne.symm g).trans q) {_,e} ?_;show⟨hz,its',a,r,e⟩
def VF:V->V->V->Hp->(Hp->η)->Prop:=λo i v H Q=>∃p xs k j,o=.ref p/\i=.int k/\H p=ϑ (.lst xs)/\JD xs.length k=ϑ j/\Q (upd H p<|.lst<|xs.set j v)
def set_list:Ve X VF:=by
 intro qg s σ H o i v y z u Q I x m w h;let⟨p,xs,k,j,rfl,rfl,d,l,q⟩:=h;cases x;let⟨t,rfl⟩:=m;let⟨a,n,r,ho,hz⟩:=I.lst d;let⟨h1,h2,c,e⟩:=Fz l;have hl:=r.length;have hn:=tQ;have g:Inv X qg σ (upd H p<|.lst<|xs.set j v) {s with heap:=s.heap.update p (Obj.mapSeq (·.setIfInBounds j u))}:=I.Rp d ho (DH a n j u) (r.set w j) (by rw[List.length_set];show hz) s.toks;by_cases h0:0<=k;have hk:k.toNat=j:=by rw[seqIndex_of h0 e]at h1;show zU h1
 show PySem.W.ki_setAt ho h0 `b (by rw[zl,<-hl];show e) (by rw[hk];show{_,g,q});have hk:(k+(a.toArray.size:ν)).toNat=j:=by rw[seqIndex_neg `b c]at h1;rw[zl,<-hl];show zU h1
 show PySem.W.ki_setBack ho `b (by rw[zl,<-hl];show c) `b<|by rw[hk];show{_,g,q}
def xT(lo hi:θ ν)(n:π):(sliceBounds lo hi none n).1=((HT.sIx n 0 lo:π):ν)/\(sliceBounds lo hi none n).2.1=((HT.sIx n n hi:π):ν)/\(sliceBounds lo hi none n).2.2=1:=by
 show{?_,?_,rfl};cases lo with|none=>simp[sliceBounds,HT.sIx]|some i=>simp only[sliceBounds,HT.sIx,Option.getD_none,show(1:ν)>0 by decide,if_true];by_cases h:i<0;simp only[h,if_true]<;>lia;simp only[h,if_false]<;>lia
 cases hi with|none=>simp[sliceBounds,HT.sIx]|some i=>simp only[sliceBounds,HT.sIx,Option.getD_none,show(1:ν)>0 by decide,if_true];by_cases h:i<0;simp only[h,if_true]<;>lia;simp only[h,if_false]<;>lia
def vR(a:δ ξ)(lo hi:θ ν):slicePick a.toArray lo hi none=((a.drop<|HT.sIx a.length 0 lo).take<|HT.sIx a.length a.length hi-HT.sIx a.length 0 lo).toArray:=by let⟨h1,h2,c⟩:=xT lo hi a.toArray.size;unfold slicePick;rw[h1,h2,c];simp only[sliceRange_one,pick_run,zl]<;>rfl
def aat(K:Φ):V->θ ν->θ ν->Hp->VK->Prop:=λx lo hi H Q=>∃a xs,x=.ref a/\kZ K H a xs/\∀p,H p=ϐ->Q (.ref p) (upd H p<|.lst<|Bz xs lo hi)
def sZ:Up X (aat X.K):=by intro qg s σ H x v l j lo hi sl Q I g hs e i h;let⟨a,xs,rfl,hx,q⟩:=h;cases g;let⟨m,r,d,hz⟩:=I.list hx;have c:=r.length;show{"list",_,slot_list_getitem.lookup,d.isList.typeIs,?_};show wpAny_getItem_list_slice d.isList hs e i .none `d ?_ (by rw[zl]<;>lia);rw[vR,<-c];show{.ref s.heap.objs.size,_,I.laid (t':=s.toks) (o:=.lst<|Bz xs lo hi) (λb n q=>zb _ q) (zp _) ?_,rfl,q _<|I.aT.fresh<|zp _};show{zM (rO xs lo hi) hz,_,0,(r.drop<|HT.sIx xs.length 0 lo).take<|HT.sIx xs.length xs.length hi-HT.sIx xs.length 0 lo,zr _ rfl}
noncomputable def jz:V->χ|.ao=>true|.bl _=>true|.int _=>true|.str _=>true|_=>false
noncomputable def eqV:V->V->χ|.ao,.ao=>true|.bl a,.bl b=>a==b|.bl a,.int b=>((if a then 1 else 0)==b)|.int a,.bl b=>(a==(if b then 1 else 0))|.int a,.int b=>a==b|.str a,.str b=>a==b|_,_=>false
def Rq(e:RelV y u)(c:RelV x v)(h:jz y=ϱ)(g:jz x=ϱ):SeqAt.EqAt A s u v (eqV y x):=by cases y with|ao=>(cases e;cases x with|ao=>(cases c;show SeqAt.EqAt.same _)|bl b=>(cases c;show SeqAt.EqAt.none_bool b)|int b=>(let⟨t,rfl⟩:=c;show SeqAt.EqAt.none_int b t)|str b=>(let⟨t,rfl⟩:=c;show SeqAt.EqAt.none_str b t)|_=>show absurd (show false=ϱ from g) zd)|bl a=>(cases e;cases x with|ao=>(cases c;show SeqAt.EqAt.bool_none a)|bl b=>(cases c;show SeqAt.EqAt.bool_bool a b)|int b=>(let⟨t,rfl⟩:=c;show SeqAt.EqAt.bool_int a b t)|str b=>(let⟨t,rfl⟩:=c;show SeqAt.EqAt.bool_str a b t)|_=>show absurd (show false=ϱ from g) zd)|int a=>(let⟨d,rfl⟩:=e;cases x with|ao=>(cases c;show SeqAt.EqAt.int_none a d)|bl b=>(cases c;show SeqAt.EqAt.int_bool a d b)|int b=>(let⟨t,rfl⟩:=c;show SeqAt.EqAt.int_int a d b t)|str b=>(let⟨t,rfl⟩:=c;show SeqAt.EqAt.int_str a d b t)|_=>show absurd (show false=ϱ from g) zd)|str a=>(let⟨d,rfl⟩:=e;cases x with|ao=>(cases c;show SeqAt.EqAt.str_none a d)|bl b=>(cases c;show SeqAt.EqAt.str_bool a d b)|int b=>(let⟨t,rfl⟩:=c;show SeqAt.EqAt.str_int a d b t)|str b=>(let⟨t,rfl⟩:=c;show SeqAt.EqAt.str_str a d b t)|_=>show absurd (show false=ϱ from g) zd)|_=>show absurd (show false=ϱ from h) zd
noncomputable def JF(x:V)(u:ξ):Bool:=match u with|.none=>eqV .ao x|.bool b=>eqV (.bl b) x|.int i _=>eqV (.int i) x|.str z _=>eqV (.str z) x|_=>false
def DJ(r:RelV y u)(f:jz y=ϱ):JF x u=eqV y x:=by cases y with|ao=>(cases r;rfl)|bl b=>(cases r;rfl)|int i=>(let⟨t,rfl⟩:=r;rfl)|str z=>(let⟨t,rfl⟩:=r;rfl)|_=>show absurd (show false=ϱ from f) zd
theorem xU:∀{xs:δ V}{us:δ ξ},Vals xs us->xs.all jz=ϱ->us.any (JF x)=xs.any λy=>eqV y x|_,_,.nil,_=>rfl|y::xs,u::us,.cons r t,f=>by rw[List.all_cons,zT]at f;rw[yN,yN,DJ r f.1,xU t f.2]
theorem oN(c:RelV x v)(a:jz x=ϱ):∀{xs:δ V}{us:δ ξ},Vals xs us->xs.all jz=ϱ->∀u∈us,SeqAt.EqAt A s u v (JF x u)|_,_,.nil,_=>(λu hu=>by cases hu)|y::xs,u::us,.cons r t,f=>λd hu=>by rw[List.all_cons,zT]at f;rcases ze.mp hu with rfl|hu;rw[DJ r f.1];show Rq r c f.1 a;show oN c a t f.2 d hu
noncomputable def C8(x:V)(xs:δ V):Bool:=xs.any λy=>eqV y x
def rIn(K:Φ)(a:χ):R2:=λx y H Q=>∃p xs,y=.ref p/\(kZ K H p xs\/k9 K H p xs)/\jz x=ϱ/\xs.all jz=ϱ/\Q (.bl<|if a then !C8 x xs else C8 x xs) H
def qt:ji X (compareOp .In) (rIn X.K false):=by intro qg s σ H x y v u Q I e i h;let⟨p,xs,rfl,a,g,fs,q⟩:=h;cases i;rcases a with a|a;let⟨c,r,d,hz⟩:=I.list a;show SeqAt.in_listAt (JF x) d.isList (λw hw=>oN e g r fs w<|by simpa using hw) {.bl _,H,I,rfl,?_};rw[show c.toArray.any (JF x)=c.any (JF x) by simp,xU r fs];show q;let⟨c,r,d,hz⟩:=I.tuple a;show SeqAt.in_tupleAt (JF x) d (λw hw=>oN e g r fs w<|by simpa using hw) {.bl _,H,I,rfl,?_};rw[show c.toArray.any (JF x)=c.any (JF x) by simp,xU r fs];show q
def oO:eU X (.type "list") (λxs H Q=>∃p ys,xs=[.ref p]/\(kZ X.K H p ys\/k9 X.K H p ys)/\∀l,H l=ϐ->Q (.ref l) (upd H l<|.lst ys)):=by intro qg s σ H xs us Q I r h;let⟨p,ys,rfl,i,q⟩:=h;let⟨u,rfl,t⟩:=vals1 r;cases t;have j:∀(a:δ ξ),Vals ys a->ys.length<=Ϙ->∀(h':Γ) (c:π),(∀b o',s.heap.get? b=ϑ o'->h'.get? b=ϑ o')->h'.get? s.heap.objs.size=ϑ {cls:=.type "list",dict:=none,data:=.seq a.toArray c,slots:=#[]}->EP X qg σ Q (.ref s.heap.objs.size) {s with heap:=h'}:=λa d hz h' c kp e=>{.ref s.heap.objs.size,_,I.laid (t':=s.toks) kp (zp _)<|show bM X.prog X.w _ h' _ (.lst ys) from⟨hz,a,c,d,e⟩,rfl,q _<|I.aT.fresh<|zp _};rcases i with i|i;let⟨a,d,m,hz⟩:=I.list i;have g:=d.length;let⟨o,ho,hc,n,hd⟩:=m.isList;show call_list_seq p (.inl rfl) ho hc hd (λh' c kp e=>j a d hz h' c kp e) (by simp only[zl]<;>lia);let⟨a,d,m,hz⟩:=I.tuple i;have g:=d.length;let⟨o,ho,hc,n,hd⟩:=m;show call_list_seq p (.inr rfl) ho hc hd (λh' c kp e=>j a d hz h' c kp e)<|by simp only[zl]<;>lia
def nj:eU X (.type "tuple") (λxs H Q=>∃p ys,xs=[.ref p]/\((kZ X.K H p ys/\∀l,H l=ϐ->Q (.ref l) (upd H l<|.tup ys))\/(k9 X.K H p ys/\Q (.ref p) H))):=by intro qg s σ H xs us Q I r h;let⟨p,ys,rfl,h⟩:=h;let⟨u,rfl,m⟩:=vals1 r;cases m;rcases h with⟨c,q⟩|⟨c,q⟩;let⟨d,g,a,hz⟩:=I.list c;have j:=g.length;show call_tuple_list a.isList (λh' kp=>?_) (by simp only[zl]<;>lia);have i:Inv X qg σ H {s with heap:=h'}:=I.kept (t':=s.toks) kp;have n:Inv X qg σ (upd H h'.objs.size<|.tup ys) {s with heap:=h'.push {cls:=.type "tuple",data:=.seq d.toArray}}:=i.laid (t':=s.toks) (λb o e=>zb _ e) (zp _)<|show bM X.prog X.w _ _ _ (.tup ys) from{hz,d,g,ic.new _ _};show{.ref h'.objs.size,_,n,rfl,q _<|i.aT.fresh<|zp _};let⟨d,g,a,hz⟩:=I.tuple c;show call_tuple_same a {.ref p,H,I,rfl,q}
def YJ(K:Φ)(T:String)(x:V)(H:Hp):Prop:=match x with|.str _=>T ="str"|.int _=>T ="int"|.ref p=>(T ="list"/\∃xs,kZ K H p xs)\/(T ="tuple"/\∃o,K.lookup p=ϑ o/\o.cls=.type "tuple"/\o.dict=ϐ)\/(T ="dict"/\((∃kvs,H p=ϑ (.dK kvs))\/∃kvs,H p=ϑ (.dT kvs)))\/(T ="set"/\∃S n,H p=ϑ (.set S n))|_=>False
def JG{T:String}(I:Inv X qg σ H s)(r:RelV x v)(ty:YJ X.K T x H): s.TypeIs v T/\∀a,v=.ref a->∃g,s.heap.get? a=ϑ g/\g.dict=ϐ:=by cases x with|str z=>(let⟨t,rfl⟩:=r;cases (show T ="str" from ty);show{typeIs_str s z t,λy e=>nomatch e})|int i=>(let⟨t,rfl⟩:=r;cases (show T ="int" from ty);show{typeIs_int s i t,λy e=>nomatch e})|ref p=>(cases r;rcases ty with⟨rfl,xs,h⟩|⟨rfl,o,hk,hc,hd⟩|⟨rfl,hk⟩|⟨rfl,S,n,hk⟩;let⟨j,_,d,_⟩:=I.list h;show{d.isList.typeIs,λa e=>?_};cases e;let⟨o,n,e,c,hd,_⟩:=d;show⟨o,e,hd⟩;show{{o,I.nh p o hk,hc},λa e=>?_};cases e;show{o,I.nh _ o hk,hd};have z:∃o,s.heap.get? p=ϑ o/\o.ExactDict:=(by rcases hk with⟨kvs,hk⟩|⟨kvs,hk⟩;let⟨_,_,_,_,o,_,_,e,ex,_⟩:=I.aT p _ hk;show⟨o,e,ex⟩;show False.elim<|I.aT p _ hk);let⟨o,e,ex⟩:=z;show{⟨o,e,ex.1⟩,λa e2=>?_};cases e2;show⟨o,e,ex.2.1⟩;let⟨o,_,_,_,e,ex,_⟩:=I.aT p _ hk;show{⟨o,e,ex.1⟩,λa e2=>?_};cases e2;show⟨o,e,ex.2.1⟩)|_=>show False.elim ty
def aau(K:Φ)(T:String)(r:V->δ V->Hp->VK->η)(to:TE):TE:=λσ H Q=>to σ H λx H1=>YJ K T x H1/\r x [] H1 Q
def tBM(K:Φ)(T:String)(r:V->δ V->Hp->VK->η)(to:TE)(t:TA):TE:=λσ H Q=>to σ H λx H1=>YJ K T x H1/\t σ H1 λxs H2=>r x xs H2 Q
variable{o e:Δ}{es:δ Δ}{to:TE}{t:TA}{name:ρ}{apos bp:Pos}{T id:String}{r:V->δ V->Hp->VK->η}
def Rr(i:PlainAttrs T)(slot:Slot T name id)(d:typeOf (.builtin id)=pure (.type "method_descriptor"))(hm:Rn X id r)(ho:PE X o to) (e:ψ (attributeBase o name X.env (eval o X.env)=eval o X.env) qQJ) (g:ψ ((apos.endLine==bp.line)=ϱ) qQJ):PE X (.Call (.Attribute o name apos) [] [] bp) (aau X.K T r to):=by intro qg s σ H Q I h;show wpAny_Call_method0_late e g<|bZ (ho qg s σ H _ I h) λv s1 ⟨x,H1,c,a,ty,j⟩=>?_;let⟨h1,h2⟩:=JG c a ty;show{T,id,i,slot,d,h1,h2,Calls.callWith_builtin rfl<|PySem.evalArgs_none<|hm qg s1 σ H1 x [] v [] Q c a .nil j}
def VG(w:PlainAttrs T)(slot:Slot T name id)(g:typeOf (.builtin id)=pure (.type "method_descriptor"))(hm:Rn X id r)(ho:PE X o to)(ha:PA X (e::es) t) (j:ψ (attributeBase o name X.env (eval o X.env)=eval o X.env) qQJ) (i:ψ (((backTo bp<|starEach (e::es) X.env).all (λx=>!x.1)&&(backToKw bp<|keywordEach [] X.env).all (λx=>x.1.isSome)&&ω ((e::es).length+([]:δ Keyword).length+(if ([]:δ Keyword).isEmpty then 0 else 1)<30))=ϱ) qQJ) (n:ψ ((apos.endLine==bp.line)=ϱ) qQJ) (hs:ψ (starEach (e::es) X.env=`j::starEach es X.env) qQJ) (l:ψ ((backTo bp<|starEach es X.env).any (·.1)=ϰ) qQJ): PE X (.Call (.Attribute o name apos) (e::es) [] bp) (tBM X.K T r to t):=by intro qg s σ H Q I h;show wpAny_Call_method_late j i n rfl<|bZ (ho qg s σ H _ I h) λv s1 ⟨x,H1,d,c,ty,y⟩=>?_;let⟨h1,h2⟩:=JG d c ty;show{T,id,w,slot,g,h1,h2,?_};have a:=ha bp qg s1 σ H1 _ d y;rw[hs]at a⊢;show Calls.callWith_builtin (by change(false||(backTo bp<|starEach es X.env).any (·.1))=ϰ;rw[l]<;>rfl)<|Calls.evalArgs_plain ?_;show bZ a <| by rintro us s2 ⟨vs,H2,q,m,p⟩;show hm qg s2 σ H2 x vs v us Q q c m p
end
def MtM(X:Cx)(id:String)(r:V->δ V->Hp->VK->η):Prop:=∀(qg:δ (ε×Obj))(s:ζ)(σ:St)(H:Hp)(x:V)(xs:δ V)(v:ξ)(us:δ ξ)(Q:VK),Inv X qg σ H s->RelV x v->Vals xs us->r x xs H Q->wpAny `m X.A (call (.builtin id)<|v::us) (EP X qg σ Q) X.xe s
def Vals.one:∀{x:V}{us:δ ξ},Vals [x] us->∃u,us=[u]/\RelV x u:=by intro x us h;cases h with|cons r t=>cases t;show{_,rfl,r}
def Vals.two:∀{x y:V}{us:δ ξ},Vals [x,y] us->∃u v,us=[u,v]/\RelV x u/\RelV y v:=by intro x y us h;cases h with|cons r t=>let⟨_,rfl,q⟩:=Vals.one t;show{_,_,rfl,r,q}
theorem Vals.zero:∀{us:δ ξ},Vals [] us->us=[]|_,.nil=>rfl
def Vals.dropLast{xs:δ V}{us:δ ξ}(h:Vals xs us):Vals xs.dropLast us.dropLast:=by induction h with|nil=>show .nil|cons r t a=>cases t with|nil=>show .nil|cons q c=>show .cons r a
def DL{α:Type}(l:δ α):l.eraseIdx (l.length-1)=l.dropLast:=by induction l with|nil=>rfl|cons a r c=>cases r with|nil=>rfl|cons b r=>have e:(a::b::r).length-1=((b::r).length-1)+1:=(by have h1:(a::b::r).length=r.length+2:=rfl;have h2:(b::r).length=r.length+1:=rfl;lia);rw[e,List.eraseIdx_cons_succ,c];all_goals rfl
section
variable{X:Cx}{qg:δ (ε×Obj)}{σ:St}{H:Hp}{s:ζ}{l:ε}{xs ys:δ V}
def Inv.Rx{a its':δ ξ}{n:π}{f:Array ξ->Array ξ}{t':π}(I:Inv X qg σ H s)(d:H l=ϑ (.lst xs)) (e:s.heap.get? l=ϑ {cls:=.type "list",data:=.seq a.toArray n}) (g:f a.toArray=its'.toArray) (h:Vals ys its') (hz:ys.length<=Ϙ): Inv X qg σ (upd H l<|.lst ys) {s with heap:=s.heap.update l<|Obj.mapSeq f,toks:=t'}:=by have q:=PySem.IsL.update e f;rw[g]at q;show I.write (x:=l) (e:=l) (by rw[d];show trivial) (.inl rfl) (λi u c hu=>(ym s.heap (Obj.mapSeq f)<|Ne.symm c).trans hu) {_,q} ?_;show{hz,its',_,h,q}
theorem Inv.aaw(I:Inv X qg σ H s)(a:Vals ys aE)(hz:ys.length<=Ϙ): Inv X qg σ (upd H s.heap.objs.size<|.lst ys) {s with heap:=s.heap.push {cls:=.type "list",data:=.seq aE.toArray},toks:=t'}:=I.laid (λz z q=>zb _ q) (zp _) {hz,aE,0,a,zr _ rfl}
theorem Inv.fresh(I:Inv X qg σ H s):H s.heap.objs.size=ϐ:=I.aT.fresh<|zp _
def Inv.Hl(I:Inv X qg σ H s)(c:H l=ϑ (.lst xs)):xs.length<=Ϙ/\∃(a:δ ξ)(n:π),Vals xs a/\xs.length=a.length/\s.heap.get? l=ϑ {cls:=.type "list",data:=.seq a.toArray n}:=by let⟨z,a,n,r,e⟩:=I.aT l _ c;show⟨z,a,n,r,r.length,e⟩
def JH{n:π}(h:n<=Ϙ):Builtin.List.listTooLong n=ϰ:=by unfold Builtin.List.listTooLong;show zf<|`b
end
section
variable{X:Cx}
def Nq:V->δ V->Hp->VK->Prop:=λx vs H Q=>∃l xs y,x=.ref l/\vs=[y]/\H l=ϑ (.lst xs)/\xs.length<Ϙ/\Q .ao (upd H l<|.lst<|xs++[y])
def Hm:MtM X "list.append" Nq:=by intro qg s σ H x vs v us Q I g i h;let⟨l,xs,y,rfl,rfl,c,hz,q⟩:=h;cases g;let⟨u,rfl,d⟩:=i.one;let⟨z,a,n,r,hl,e⟩:=I.Hl c;show yR F.slot_list_append {_,e,rfl} F.entry_list_append (F.args_list_append_2 _ _) (PySem.list_append l a.toArray n u<|by rw[zl];lia) {e,?_};show{.ao,_,I.Rx (its':=a++[u]) c e `d (r.append<|.cons d .nil) ?_,rfl,q};rw[zw,List.length_singleton];lia
def aax:V->δ V->Hp->VK->Prop:=λx vs H Q=>∃l xs y,x=.ref l/\vs=[]/\H l=ϑ (.lst xs)/\xs[xs.length-1]?=some y/\Q y (upd H l<|.lst xs.dropLast)
def Ry:MtM X "list.pop" aax:=by
 intro qg s σ H x vs v us Q I i o h;let⟨l,xs,y,rfl,rfl,d,j,q⟩:=h;cases i;have c:=o.zero;subst c;let⟨z,a,n,r,hl,e⟩:=I.Hl d;let⟨u,hu,g⟩:=r.get j;have m:a.toArray[a.toArray.size-1]?=some u:=by change a.toArray[a.length-1]?=some u;rw[<-Array.getElem?_toList,<-hl];show hu
 show yR F.slot_list_pop {_,e,rfl} F.entry_list_pop (F.args_list_pop_1 _) (MeetsSeq.list_pop_last l a.toArray n u m<|by rw[zl];lia) {e,?_};show{y,_,I.Rx (its':=a.dropLast) d e ?_ r.dropLast ?_,g,q};change a.toArray.eraseIdxIfInBounds (a.toArray.size-1)=a.dropLast.toArray;rw[zl,List.eraseIdxIfInBounds_toArray,DL];rw[List.length_dropLast];lia
def aay:R2:=λx y H Q=>∃l b xs zs,x=.ref l/\y=.ref b/\H l=ϑ (.lst xs)/\H b=ϑ (.lst zs)/\xs.length+zs.length<=Ϙ/\∀p,H p=ϐ->Q (.ref p) (upd H p<|.lst<|xs++zs)
def JI:ji X (binaryOp .Add) aay:=by
 intro qg s σ H x y v u Q I m j h;let⟨l,b,xs,zs,rfl,rfl,o,d,hz,q⟩:=h;cases m;cases j;let⟨z,c,n,r,hl,e⟩:=I.Hl o;let⟨z2,a,t,g,p,e2⟩:=I.Hl d;show PySem.P.add_list e e2 ?_ (by rw[zl,zl];lia);have i:c.toArray++a.toArray=(c++a).toArray:=`d
 rw[i];show{.ref _,_,I.aaw (t':=s.toks) (r.append g)<|by rw[zw];lia,rfl,q _ I.fresh}
end
section
variable{κ:Type}[DecidableEq κ]
noncomputable def iX(kvs:δ<|κ×V)(k:κ):θ V:=(kvs.find? λa=>ω<|a.1=k).map (·.2)
noncomputable def putK(kvs:δ<|κ×V)(k:κ)(v:V):δ (κ×V):=if (kvs.any λa=>ω<|a.1=k)=ϱ then kvs.map (λa=>if a.1=k then (a.1,v) else a) else kvs++[(k,v)]
noncomputable def rP(kvs:δ<|κ×V)(k:κ):δ (κ×V):=kvs.filter λa=>ω<|a.1≠k
def tX{p:κ×V}{r:δ<|κ×V}{k:κ}(e:p.1=k):iX (p::r) k=ϑ p.2:=by simp[iX,yb,e]
def tY{p:κ×V}{r:δ<|κ×V}{k:κ}(e:¬p.1=k):iX (p::r) k=iX r k:=by simp[iX,yb,e]
def rQ(kvs:δ<|κ×V)(k:κ)(v:V):(putK kvs k v).length<=kvs.length+1:=by unfold putK;split;rw[zc];lia;rw[zw,zG,List.length_nil];lia
def iW.qu(r:iW o u):o.isSome=u.isSome:=by cases o with|none=>(cases u with|none=>rfl|some _=>show(show False from r).elim)|some _=>cases u with|none=>show(show False from r).elim|some _=>rfl
def iW.getD{o:θ V}{u:θ ξ}{d:V}{d':ξ}(r:iW o u)(a:RelV d d'):RelV (o.getD d) (u.getD d'):=by cases o with|none=>(cases u with|none=>show a|some _=>show(show False from r).elim)|some _=>cases u with|none=>show(show False from r).elim|some _=>show r
def KV.val{kvs:δ<|κ×V}{vs:δ<|κ×ξ}(r:KV kvs vs)(k:κ):iW (iX kvs k) (valueAt vs k):=by unfold KV at r;induction r with|nil=>show True.intro|@cons p q ps a h t c=>let⟨h1,h2⟩:=h;by_cases e:p.1=k;have e':q.1=k:=h1.symm.trans e;have b:valueAt (q::a) k=ϑ q.2:=(by simp[valueAt,yb,e']);rw[tX e,b];show h2;have e':¬q.1=k:=λz=>e<|h1.trans z;have b:valueAt (q::a) k=valueAt a k:=(by simp[valueAt,yb,e']);rw[tY e,b];show c
def KV.any{kvs:δ<|κ×V}{vs:δ<|κ×ξ}(r:KV kvs vs)(k:κ):(kvs.any λkv=>ω<|kv.1=k)=vs.any λkv=>ω (kv.1=k):=by unfold KV at r;induction r with|nil=>rfl|cons h t a=>rw[yN,yN,a,h.1]
def KV.Rz(r:KV kvs vs)(k:κ)(a:RelV y u): KV (kvs.map λkv=>if kv.1=k then (kv.1,y) else kv) (vs.map λkv=>if kv.1=k then (kv.1,u) else kv):=by unfold KV at r⊢;induction r with|nil=>show .nil|@cons p q ps d h t c=>rw[zO,zO];show .cons ?_ c;let⟨h1,h2⟩:=h;by_cases e:p.1=k;rw[qe e,qe<|h1.symm.trans e];show⟨h1,a⟩;rw[qb e,qb λz=>e<|h1.trans z];show⟨h1,h2⟩
def KV.put(r:KV kvs vs)(k:κ)(a:RelV y u):KV (putK kvs k y) (stored vs k u):=by unfold putK stored;rw[r.any k];by_cases e:(vs.any λc=>ω<|c.1=k)=ϱ;rw[qe e,qe e];show r.Rz k a;rw[qb e,qb e];show Paired.snoc r ⟨rfl,a⟩
def KV.drop(r:KV kvs vs)(k:κ):KV (rP kvs k) (without vs k):=by unfold KV at r⊢;unfold rP without;induction r with|nil=>show .nil|@cons p q ps d h t c=>let⟨h1,h2⟩:=h;rw[List.filter_cons,List.filter_cons];by_cases e:p.1=k;have a:¬ω (p.1≠k)=ϱ:=(by simp[e]);have b:¬ω (q.1≠k)=ϱ:=(by simp[h1.symm.trans e]);rw[qb a,qb b];show c;have e':¬q.1=k:=λz=>e<|h1.trans z;have a:ω (p.1≠k)=ϱ:=(by simp[e]);have b:ω (q.1≠k)=ϱ:=(by simp[e']);rw[qe a,qe b];show .cons ⟨h1,h2⟩ c
theorem KV.length{kvs:δ<|κ×V}{vs:δ<|κ×ξ}(r:KV kvs vs):kvs.length=vs.length:=yM r
theorem JJ(kvs:δ<|κ×V)(k:κ):(rP kvs k).length<=kvs.length:=List.length_filter_le _ _
end
def nq(r:RelV (kV k) u):(aS P w).is k u=ϱ:=by cases k with|inl i=>(let⟨t,e⟩:=(show ∃t,u=Value.int i t from r);subst e;show Bu P w i t)|inr x=>let⟨t,e⟩:=(show ∃t,u=Value.str x t from r);subst e;show lh P w x t
theorem wX:∀{ks:δ Key}{us:δ ξ},Vals (ks.map kV) us->ItemsAre (aS P w) ks us|[],_,r=>(by rw[List.map_nil]at r;cases r;show .nil)|k::ks,_,r=>by rw[zO]at r;cases r with|cons h t=>show .cons (nq h)<|wX t
abbrev KT(H:Hp):δ (δ Key×V)->δ (δ Key×ε×ξ)->Prop:=Paired λp q=>p.1=q.1/\H q.2.1=ϑ (.tup<|p.1.map kV)/\RelV p.2 q.2.2
def KT.val{H:Hp}{kvs:δ<|δ Key×V}{xs:δ<|δ Key×ε×ξ}(r:KT H kvs xs)(k:δ Key):iW (iX kvs k) ((atKey xs k).map (·.2)):=by induction r with|nil=>show True.intro|@cons p q ps a h t c=>let⟨h1,_,h2⟩:=h;by_cases e:p.1=k;have e':q.1=k:=h1.symm.trans e;have b:atKey (q::a) k=ϑ q.2:=(by simp[atKey,yb,e']);rw[tX e,b];show h2;have e':¬q.1=k:=λz=>e<|h1.trans z;have b:atKey (q::a) k=atKey a k:=(by simp[atKey,yb,e']);rw[tY e,b];show c
section
variable{P:Ψ}{w:Ω}{H:Hp}{h:Γ}{a:ε}
theorem PC(ok:mR P w H h)(e:Rd H a u):bM P w H h a u:=e.ok ok
theorem rR(ok:mR P w H h)(e:Rd H a<|.dK kvs):kvs.length<=Ϙ/\(a==sysModules)=ϰ/\∃vs,KV kvs vs/\h.DictOf (aS P w) a vs:=show bM P w H h a (.dK kvs) from PC ok e
theorem FE(ok:mR P w H h)(e:H a=ϑ (.dK kvs)):kvs.length<=Ϙ/\(a==sysModules)=ϰ/\∃vs,KV kvs vs/\h.DictOf (aS P w) a vs:=rR ok<|.inl e
def xV(ok:mR P w H h)(e:H a=ϑ (.tup<|ks.map kV)):(tupleKind<|aS P w).is h ks a:=by let⟨_,d,r,o,h1,h2,_,n,c⟩:=(show bM P w H h a (.tup<|ks.map kV) from ok a _ e);show{o,d.toArray,n,h1,h2,c,by simpa using wX r}
def wY(ok:mR P w H h)(e:Rd H a<|.dT kvs):kvs.length<=Ϙ/\(a==sysModules)=ϰ/\∃xs,KT H kvs xs/\h.DictOfH (tupleKind<|aS P w) a xs:=by show False.elim<|show bM P w H h a (.dT kvs) from PC ok e
end
def sA(H:Hp)(a:ε)(y:V)(r:θ V):Prop:=(∃kvs k,Rd H a (.dK kvs)/\y=kV k/\r=iX kvs k)\/∃kvs k b,Rd H a (.dT kvs)/\y=.ref b/\H b=ϑ (.tup<|k.map kV)/\r=iX kvs k
def JK(H:Hp)(a:ε)(y v:V)(H':Hp):Prop:=(∃kvs k,H a=ϑ (.dK kvs)/\y=kV k/\kvs.length<Ϙ/\H'=upd H a (.dK<|putK kvs k v))\/∃kvs k b,H a=ϑ (.dT kvs)/\y=.ref b/\H b=ϑ (.tup<|k.map kV)/\kvs.length<Ϙ/\H'=upd H a (.dT<|putK kvs k v)
theorem sA.k{H:Hp}{a:ε}{kvs:δ<|Key×V}{k:Key}(e:H a=ϑ (.dK kvs)):sA H a (kV k) (iX kvs k):=.inl {kvs,k,.inl e,rfl,rfl}
theorem JK.k{H:Hp}{a:ε}{kvs:δ<|Key×V}{k:Key}{v:V}(e:H a=ϑ (.dK kvs))(hl:kvs.length<Ϙ):JK H a (kV k) v (upd H a<|.dK<|putK kvs k v):=.inl ⟨kvs,k,e,rfl,hl,rfl⟩
section
variable{X:Cx}{qg:δ (ε×Obj)}{σ:St}{H:Hp}{s:ζ}{a:ε}{y v:V}{u r:ξ}{o:θ V}{A:ϕ}{E:ξ->ζ->η}
def Inv.big(I:Inv X qg σ H s):sysModules<s.heap.objs.size:=by have h:mainGlobals<s.heap.objs.size:=(I.mod.glob.keeps I.bk).lt;show Nat.lt_trans `a h
def Hn(hu:A.units+1<cLine)(I:Inv X qg σ H s)(g:sA H a y<|some v)(m:RelV y u)(h:∀c s',Inv X qg σ H s'->RelV v c->Q c s'): wpAny `m A (getItem (.ref a) u) Q E s:=by rcases g with⟨kvs,k,e,d,l⟩|⟨kvs,k,b,e,d,n,l⟩;subst d;let⟨z,hd,vs,rel,j⟩:=rR I.aT e;let⟨c,hw,i⟩:=iW.some_of (v:=v) (o:=valueAt vs k) (by rw[l];show rel.val k);show wpAny_getItem_of (nq m) j.mapOf hw<|h c _ (I.tok _) i;subst d;cases (show u=Value.ref b from m);let⟨z,hd,xs,rel,j⟩:=wY I.aT e;let⟨c,hw,i⟩:=iW.some_of (v:=v) (o:=(atKey xs k).map (·.2)) (by rw[l];show rel.val k);let⟨p,r,q⟩:=Option.map_eq_some_iff.mp hw;show wpAny_getItem_heap (tupleKind_room_in1 hu) (xV I.aT n) j r ?_;rw[q];show h c _ (I.tok _) i
def aaz(hu:A.units+1<cLine)(I:Inv X qg σ H s)(g:sA H a y o)(i:RelV y u)(h:∀s',Inv X qg σ H s'->Q (.bool o.isSome) s'): wpAny `m A (compareOp .In u<|.ref a) Q E s:=by rcases g with⟨kvs,k,e,c,l⟩|⟨kvs,k,b,e,c,j,l⟩;subst c;let⟨z,hd,vs,rel,d⟩:=rR I.aT e;show wpAny_in_of (nq i) hd d.mapOf ?_;rw[<-(rel.val k).qu,<-l];show h _<|I.tok _;subst c;cases (show u=Value.ref b from i);let⟨z,hd,xs,rel,d⟩:=wY I.aT e;show wpAny_in_heap (tupleKind_room_in1 hu) (xV I.aT j) hd d ?_;have q:=(rel.val k).qu;rw[Option.isSome_map]at q;rw[<-q,<-l];show h _<|I.tok _
theorem xW(I:Inv X qg σ H s)(d:U5<|H a)(hs:Heap.SameBut a s.heap h')(g:∃q,h'.get? a=ϑ q)(new:bM X.prog X.w (upd H a ob) h' a ob): Inv X qg σ (upd H a ob) {s with heap:=h',toks:=t'}:=I.write (x:=a) (e:=a) d (.inl rfl) (λb q c z=>(hs.2 b c).trans z) g new
theorem DM(z:kvs.length<=Ϙ)(hd:(a==sysModules)=ϰ)(rel:KV kvs vs)(dd:h'.DictOf (aS P w) a vs): bM P w H' h' a (.dK kvs):=⟨z,hd,vs,rel,dd⟩
def Ho(hu:A.units+1<cLine)(I:Inv X qg σ H s)(g:JK H a y v H')(m:RelV y u)(n:RelV v r)(h:∀s',Inv X qg σ H' s'->Q () s'): wpAny `m A (setItem (.ref a) u r) Q E s:=by
 rcases g with⟨kvs,k,e,c,l,i⟩|⟨kvs,k,b,e,c,t,l,i⟩;subst c i;let⟨z,hd,vs,rel,p⟩:=FE I.aT e;have hz:vs.length<=sizeLine:=by rw[<-rel.length];show z
 have hl:(putK kvs k v).length<=sizeLine:=by have:=rQ kvs k v;lia
 show wpAny_setItem_pairs (hsz:=hz) (nq m) p λh' d hs=>h _ ?_;have o:∃q,h'.get? a=ϑ q:=by let⟨q,_,_,j,_⟩:=d;show⟨q,j⟩
 show xW I (by rw[e];show True.intro) hs o<|DM hl hd (rel.put k n) d;show False.elim<|I.aT _ _ e
end
section
variable{X:Cx}{qg:δ (ε×Obj)}{σ:St}{H:Hp}{s:ζ}{a:ε}{kvs:δ (Key×V)}{k:Key}{u:ξ}{A:ϕ}{E:ξ->ζ->η}
def VI(I:Inv X qg σ H s)(e:H a=ϑ (.dK kvs))(d:RelV (kV k) u)(l:iX kvs k=ϑ v)(hm:more=[]\/∃x,more=[x]) (h:∀c s',Inv X qg σ (upd H a<|.dK<|rP kvs k) s'->RelV v c->Q c s'):wpAny `m A (call (.builtin "dict.pop")<|.ref a::u::more) Q E s:=by
 let⟨z,hd,vs,rel,j⟩:=FE I.aT e;let⟨c,hw,n⟩:=iW.some_of (v:=v) (o:=valueAt vs k) (by rw[<-l];show rel.val k);have r:(keyPart u).isSome=ϱ:=by cases k with|inl i=>(let⟨t,q⟩:=(show ∃t,u=Value.int i t from d);subst q;rfl)|inr x=>let⟨t,q⟩:=(show ∃t,u=Value.str x t from d);subst q;rfl
 have ha:argsOk "dict.pop" {.ref a::u::more,[]}:=by rcases hm with q|⟨x,q⟩;subst q;show PySem.F.args_dict_pop_2 _ _;subst q;show PySem.F.args_dict_pop_3 _ _ _
 show call_meetsIn PySem.F.slot_dict_pop j.typeIs PySem.F.entry_dict_pop ha (meets_dict_pop_there (aS X.prog X.w) a (nq d) more hm r) {vs,c,j,by rw[<-rel.length];show z,hw,λh' g hs=>h c _ ?_ n};have p:∃q,h'.get? a=ϑ q:=by let⟨q,_,_,m,_⟩:=g;show⟨q,m⟩
 show xW I (by rw[e];show True.intro) hs p<|DM (zM (JJ kvs k) z) hd (rel.drop k) g
def VJ(I:Inv X qg σ H s)(e:Rd H a<|.dK kvs)(h:∀t s',Inv X qg σ H s'->Q (.int kvs.length t) s'):wpAny `m A (call (.builtin "len") [.ref a]) Q E s:=by let⟨z,hd,vs,rel,c⟩:=rR I.aT e;show call_len_dict hd c (by rw[<-rel.length];rw[zZ]at z;lia) ?_;rw[<-rel.length];show h _ _<|I.tok _
end
def BA(I:Inv X qg σ H s)(g:sA H a y o):s.TypeIs (.ref a) "dict":=by rcases g with⟨kvs,k,e,_,_⟩|⟨kvs,k,b,e,_,_,_⟩;let⟨_,_,vs,_,c⟩:=rR I.aT e;show c.typeIs;let⟨_,_,xs,_,c⟩:=wY I.aT e;show c.typeIs
def VL(td ty tv:TE):TS:=λD σ H=>tv σ H λv H1=>td σ H1 λx H2=>ty σ H2 λy c=>∃a H4,x=.ref a/\JK c a y v H4/\D.nx σ H4
section
variable{X:Cx}{o i value:Δ}{pos pos':Pos}{td ty tv:TE}
def Nr(hu:X.A.units+1<cLine)(ho:PE X o td)(hi:PE X i ty)(t:PE X value tv)(hs:swapsWith value (some<|.Subscript o i pos') pos.line X.env=pure false): PS X (.Assign [.Subscript o i pos'] value pos) (VL td ty tv):=by intro qg s σ H D I h;show wpAny_Assign_Subscript (bZ (t qg s σ H _ I h) λr s1 ⟨v,H1,j,e,w⟩=>bZ (ho qg s1 σ H1 _ j w) λu s2 ⟨x,H2,d,n,q⟩=>bZ (hi qg s2 σ H2 _ d q) λF B ⟨y,C,p,m,a,l,ex,g,z⟩=>?_) hs;subst ex;obtain rfl:u=Value.ref a:=n;show Ho hu p g m e λE c=>⟨σ,l,c,z⟩
end
theorem JL(h:Γ)(a:sysModules<h.objs.size):bM P w H (h.push {cls:=.type "dict",data:=.dict #[]}) h.objs.size (.dK []):={yf _,beq_eq_false_iff_ne.mpr<|Ne.symm<|zC a,[],.nil,Heap.DictOf.new h}
def RA:TE:=λz H Q=>∀p,H p=ϐ->Q (.ref p) (upd H p<|.dK [])
section
variable{X:Cx}{pos:Pos}
theorem JM:PE X (.Dict [] [] pos) RA:=λqg s σ H Q I h=>wpAny_Dict_empty {.ref s.heap.objs.size,_,I.laid (a:=s.heap.objs.size) (o:=.dK []) (t':=s.toks) (λz z q=>zb _ q) (zp _)<|JL s.heap I.big,rfl,h _<|I.aT.fresh<|zp _}
end
def JN:δ (TE×TE)->St->Hp->(δ (V×V)->Hp->η)->η|[],_,H,Q=>Q [] H| (tk,tv)::r,σ,H,Q=>tk σ H λx H1=>tv σ H1 λy H2=>JN r σ H2 λps a=>Q ((x,y)::ps) a
abbrev VV:δ (V×V)->δ (ξ×ξ)->Prop:=Paired λp q=>RelV p.1 q.1/\RelV p.2 q.2
def PPs(X:Cx)(pos:Pos)(keys:δ<|θ Δ)(values:δ Δ)(a:δ<|TE×TE):Prop:=∀(qg:δ (ε×Obj))(s:ζ)(σ:St)(H:Hp)(Q:δ (V×V)->Hp->η),Inv X qg σ H s->JN a σ H Q->wpAny `m X.A (evalPairs<|pairTrees keys values X.env pos) (λvs s'=>∃ps H',Inv X qg σ H' s'/\VV ps vs/\Q ps H') X.xe s
structure M1(X:Cx)(o:Δ)(m:ρ)(apos:Pos)(e:Δ)(bp:Pos):η where
 base:attributeBase o m X.env (eval o X.env)=eval o X.env
 IX:((backTo bp<|starEach [e] X.env).all (λx=>!x.1)&&(backToKw bp<|keywordEach [] X.env).all (λx=>x.1.isSome)
  && ω (([e]:δ Δ).length+([]:δ Keyword).length+(if ([]:δ Keyword).isEmpty then 0 else 1)<30))=ϱ
 line:(apos.endLine==bp.line)=ϱ
 trees:backTo bp (starEach [e] X.env)=[`j]
structure M2(X:Cx)(o:Δ)(m:ρ)(apos:Pos)(e f:Δ)(bp:Pos):η where
 base:attributeBase o m X.env (eval o X.env)=eval o X.env
 IX:((backTo bp<|starEach [e,f] X.env).all (λx=>!x.1)&&(backToKw bp<|keywordEach [] X.env).all (λx=>x.1.isSome)
  && ω (([e,f]:δ Δ).length+([]:δ Keyword).length+(if ([]:δ Keyword).isEmpty then 0 else 1)<30))=ϱ
 line:(apos.endLine==bp.line)=ϱ
 trees:backTo bp (starEach [e,f] X.env)=[`j,(false,eval f X.env)]
def Uq(H:Hp)(a:ε):Prop:=(∃kvs,Rd H a<|.dK kvs)\/∃kvs,Rd H a<|.dT kvs
def xX(I:Inv X qg σ H s)(d:Uq H a): s.TypeIs (.ref a) "dict"/\(∀b,Value.ref a=.ref b->∃c,s.heap.get? b=ϑ c/\c.dict=ϐ)/\(a==sysModules)=ϰ:=by rcases d with⟨kvs,e⟩|⟨kvs,e⟩;let⟨_,hd,vs,_,g⟩:=rR I.aT e;show{g.typeIs,λb q=>?_,hd};cases q;let⟨c,_,_,h1,h2,_⟩:=g;show⟨c,h1,h2.2.1⟩;let⟨_,hd,xs,_,g⟩:=wY I.aT e;show{g.typeIs,λb q=>?_,hd};cases q;let⟨c,_,_,h1,h2,_⟩:=g;show⟨c,h1,h2.2.1⟩
section
variable{X:Cx}{qg:δ (ε×Obj)}{σ:St}{H:Hp}{s:ζ}{a:ε}{y d:V}{u r:ξ}{o:θ V}{A:ϕ}{E:ξ->ζ->η}
def RB(hu:A.units+1<cLine)(I:Inv X qg σ H s)(g:sA H a y o)(i:RelV y u)(h:∀j s',Inv X qg σ H s'->RelV (o.getD .ao) j->Q j s'): wpAny `m A (call (.builtin "dict.get") [.ref a,u]) Q E s:=by rcases g with⟨kvs,k,e,d,l⟩|⟨kvs,k,b,e,d,m,l⟩;subst d;let⟨z,hd,vs,rel,c⟩:=rR I.aT e;show call_meetsIn yt c.typeIs PySem.F.entry_dict_get (PySem.F.args_dict_get_2 _ _) (meets_dict_get (aS X.prog X.w) a (nq i) hd) {_,c.mapOf,h _ _ (I.tok _) ?_};rw[l];show(rel.val k).getD rfl;subst d;cases (show u=Value.ref b from i);let⟨z,hd,xs,rel,c⟩:=wY I.aT e;show call_meetsIn yt c.typeIs PySem.F.entry_dict_get (PySem.F.args_dict_get_2 _ _) (meetsH_dict_get (tupleKind<|aS X.prog X.w) a b hd) {tupleKind_room_in1 hu,k,xs,xV I.aT m,c,h _ _ (I.tok _) ?_};rw[l];show(rel.val k).getD rfl
def RC(hu:A.units+1<cLine)(I:Inv X qg σ H s)(g:sA H a y o)(m:RelV y u)(j:RelV d r)(h:∀n s',Inv X qg σ H s'->RelV (o.getD d) n->Q n s'): wpAny `m A (call (.builtin "dict.get") [.ref a,u,r]) Q E s:=by rcases g with⟨kvs,k,e,i,l⟩|⟨kvs,k,b,e,i,p,l⟩;subst i;let⟨z,hd,vs,rel,c⟩:=rR I.aT e;show call_meetsIn yt c.typeIs PySem.F.entry_dict_get (PySem.F.args_dict_get_3 _ _ _) (meets_dict_get_default (aS X.prog X.w) a (nq m) hd r) {_,c.mapOf,h _ _ (I.tok _) ?_};rw[l];show(rel.val k).getD j;subst i;cases (show u=Value.ref b from m);let⟨z,hd,xs,rel,c⟩:=wY I.aT e;show call_meetsIn yt c.typeIs PySem.F.entry_dict_get (PySem.F.args_dict_get_3 _ _ _) (meetsH_dict_get_default (tupleKind<|aS X.prog X.w) a b hd r) {tupleKind_room_in1 hu,k,xs,xV I.aT p,c,h _ _ (I.tok _) ?_};rw[l];show(rel.val k).getD j
end
def RD(td ty:TE):TE:=λσ H Q=>td σ H λx H1=>∃a,x=.ref a/\Uq H1 a/\ty σ H1 λy H2=>∃o,sA H2 a y o/\Q (o.getD .ao) H2
def RE(td ty tx:TE):TE:=λσ H Q=>td σ H λx H1=>∃a,x=.ref a/\Uq H1 a/\ty σ H1 λy H2=>tx σ H2 λz c=>∃o,sA c a y o/\Q (o.getD z) c
def RF(td ty:TE):TE:=λσ H Q=>td σ H λx H1=>∃a,x=.ref a/\Uq H1 a/\ty σ H1 λy H2=>∃kvs k v,H2 a=ϑ (.dK kvs)/\y=kV k/\iX kvs k=ϑ v/\Q v (upd H2 a<|.dK<|rP kvs k)
section
variable{X:Cx}{o e f:Δ}{apos bp:Pos}{td ty tx:TE}
def JO(hu:X.A.units+1<cLine)(ho:PE X o td)(n:PE X e ty)(m:M1 X o "get" apos e bp):PE X (.Call (.Attribute o "get" apos) [e] [] bp) (RD td ty):=by intro qg s σ H Q I h;show wpAny_Call_method m.base m.IX m.line PySem.F.plainAttrs_dict yt PySem.F.type_dict_get<|bZ (ho qg s σ H _ I h) λu s1 ⟨x,H1,c,r,a,ex,d,w⟩=>?_;subst ex;obtain rfl:u=Value.ref a:=r;let⟨p,j,_⟩:=xX c d;show{p,j,?_};rw[m.trees];show Calls.callWith_builtin rfl<|Calls.evalArgs_plain<|yu<|bZ (n qg s1 σ H1 _ c w) λC s2 ⟨y,H2,i,q,B,g,v⟩=>Calls.spliced_nil ?_;show RB hu i g q λE z t l=>{_,H2,t,l,v}
def JP(hu:X.A.units+1<cLine)(ho:PE X o td)(t:PE X e ty)(p:PE X f tx)(m:M2 X o "get" apos e f bp):PE X (.Call (.Attribute o "get" apos) [e,f] [] bp) (RE td ty tx):=by intro qg s σ H Q I h;show wpAny_Call_method m.base m.IX m.line PySem.F.plainAttrs_dict yt PySem.F.type_dict_get<|bZ (ho qg s σ H _ I h) λu s1 ⟨x,H1,c,B,a,ex,d,G⟩=>?_;subst ex;obtain rfl:u=Value.ref a:=B;let⟨v,q,_⟩:=xX c d;show{v,q,?_};rw[m.trees];show Calls.callWith_builtin rfl<|Calls.evalArgs_plain<|yu<|bZ (t qg s1 σ H1 _ c G) λO s2 ⟨y,H2,n,w,E⟩=>yu<|bZ (p qg s2 σ H2 _ n E) λL K ⟨z,j,C,i,N,g,J⟩=>Calls.spliced_nil ?_;show RC hu C g w i λP M l r=>{_,j,l,r,J}
def JQ(ho:PE X o td)(n:PE X e ty)(m:M1 X o "pop" apos e bp):PE X (.Call (.Attribute o "pop" apos) [e] [] bp) (RF td ty):=by intro qg s σ H Q I h;show wpAny_Call_method m.base m.IX m.line PySem.F.plainAttrs_dict PySem.F.slot_dict_pop PySem.F.type_dict_pop<|bZ (ho qg s σ H _ I h) λu s1 ⟨x,H1,c,w,a,ex,d,B⟩=>?_;subst ex;obtain rfl:u=Value.ref a:=w;let⟨p,i,_⟩:=xX c d;show{p,i,?_};rw[m.trees];show Calls.callWith_builtin rfl<|Calls.evalArgs_plain<|yu<|bZ (n qg s1 σ H1 _ c B) λE s2 ⟨y,H2,g,r,kvs,k,v,q,t,l,A⟩=>Calls.spliced_nil ?_;subst t;show VI g q r l (.inl rfl) λG C z j=>{v,_,z,j,A}
end
end L2
namespace Att
open PySem PySem.W PySem.Calls PyProof.Rows
def sC{P:Params} : ∀(ns:δ ν)(vs:δ ξ),WellAll P h vs (ns.map WData.int)->IntsAre vs ns:=by intro ns;induction ns with|nil=>(intro vs w;rw[List.map_nil]at w;cases w;show .nil)|cons n ns c=>intro vs w;rw[zO]at w;cases w with|cons a b=>cases a;show .cons _ _<|c _ b
def Hq{l:OpenLaw}{n:π}(hn:l.most=ϑ n){P:Params}{h:Γ}{args:δ WData}{c:δ ξ} (o:l.row.toRowW.claim.pre args=ϱ) (m:WellAll P h c args): ∃a vs ns,c=[Value.ref a]/\args=[WData.list<|ns.map WData.int]/\h.get? a=ϑ {cls:=.type "list",data:=.seq vs.toArray}/\IntsAre vs ns/\ns.length<=n:=by
 have j:WShape.hasAll [] args [.list .int]=ϱ:=(pre_splitW o).1;have hc:l.pre.holds [] {args:=args}=ϱ:=(pre_splitW o).2;let⟨d,r,rfl,h1,h2⟩:=hasAllW_cons j;obtain rfl:=hasAllW_nil h2;let⟨xs,rfl,w⟩:=hasW_list h1;let⟨ns,rfl⟩:=items_int w;have e:ns.length<=n:=by unfold OpenLaw.pre at hc;have g:(WTm.not<|.lt (.lit<|.int (n:ν))<|.len<|.arg 0).holds [] {args:=[.list<|ns.map .int]}=ϱ:=(by have g:=(holds_andW hc).1;rw[hn]at g;show g);have i:=condW_of g<|w_not<|w_lt w_lit<|w_len_list<|w_arg rfl;rw[zc]at i;show Nat.le_of_not_lt λq=>?_;have v:(n:ν)<((ns.length:π):ν):=`b;first| (rw[zi v]at i;show absurd i<|`a)| (simp at i;lia)
 cases m with|cons t s=>cases s;cases t with|list ho p=>show{_,_,ns,rfl,rfl,ho,sC ns _ p,e}
theorem Hr(l:OpenLaw)(args:δ WData):l.row.toRowW.claim.post args (.bool true) args=ϱ:=postW_of (r:=l.row.toRowW) (X:=(true==true)) (show WShape.has [] (.bool true) .bool=ϱ by first|rfl|decide|simp[WShape.has,WShape.arms,WShape.armsAll]) (show(WTm.eq .res<|.lit<|.bool true).value [] {args:=args,res:=some<|.bool true,after:=args}=ϑ (.bool<|true==true) from w_eq_bool (w_res rfl) w_lit) rfl
def BB{l:OpenLaw}{n:π}{q:Ψ}{loose:δ ρ}{s:(ρ->θ ξ)->Γ->η}{p:Ω->Γ->η}{d:DefRec} (hn:l.most=ϑ n) (h:d.params.defaults=[]) (call:∀(w:Ω)(du c:ζ)(mg mb:ρ->θ ξ)(fa:ε)(o:Obj)(pm cd doc:ξ)(a:ε)(vs:δ ξ)(ns:δ ν),Ground q loose [] s w du mg mb c.heap->p w c.heap->c.heap.get? fa=ϑ o->o.data=.func (docDef d.name d.params d.body d.scope pm cd doc)->c.heap.CodeRec cd d.name->mg d.name=ϑ (.ref fa)->c.heap.get? a=ϑ {cls:=.type "list",data:=.seq vs.toArray}->IntsAre vs ns->ns.length<=n->c.gens=#[]->codeAny (model l.prog w) callerA (.call (.ref fa) {[.ref a],[]}) (λr s'=>r=.ok (.ret<|.bool true)/\OldK c.heap s'.heap/\s'.os=c.os/\AllBare s'.gens) c): WalkO q loose s p l.row.toRowW d [] (λf vs=>PySem.call f vs):=by intro w du c mg mb G Y fa o pm cd doc dV kV ho hd y j v hg args m as C A t i E;obtain rfl:dV=.none:=Dflts.none j h;obtain rfl:kV=.none:=Dflts.noKw j;let⟨a,vs,ns,rfl,rfl,F,e,g⟩:=Hq hn C i;show enter_call<|yJ (call w du c mg mb fa o pm cd doc a vs ns G Y ho (fd_plain hd) y v F e g hg) λr s' z=>?_;let⟨rfl,h2,x,B⟩:=z;show{.inl {.bool true,.bool true,[],rfl,λu=>rfl,.bool true,Hr l _,λu=>{List.Pairwise.nil,λu hm=>(nomatch hm)}},h2,x,B}
end Att
namespace L2
open PySem PySem.Spec PyProof.Rows
theorem wZ:∀{vs:δ ξ}{ns:δ ν},IntsAre vs ns->Vals (ns.map V.int) vs|_,_,.nil=>.nil|_,_,.cons n t h=>.cons ⟨t,rfl⟩<|wZ h
def inClass(s:Stmt)(j:π):Stmt:=match s with|.ClassDef _ _ _ body _ _ _ _ _ _ _=>body.getD j (.Pass {0,0,0,0})|_=>.Pass {0,0,0,0}
def bK(s:Stmt):Arguments:=match s with|.FunctionDef _ a _ _ _ _ _ _ _ _=>a|_=>{posonlyargs:=[],args:=[],vararg:=none,kwonlyargs:=[],kw_defaults:=[],kwarg:=none,defaults:=[]}
def bx(s:Stmt):δ Stmt:=match s with|.FunctionDef _ _ b _ _ _ _ _ _ _=>b|_=>[]
def ae(s:Stmt):Scope:=match s with|.FunctionDef _ _ _ _ _ _ sc _ _ _=>sc|_=>{kind:=.function,names:=[],isGenerator:=false,isCoroutine:=false}
abbrev YK:DF:=λz z z z z z=>False
abbrev E0:XK:=λz z z=>False
structure Fun(K:Φ)(x qual:ρ)(st:Stmt)(f:ε)(fd:FuncData):η where
 ex:∃(oc:ξ)(od:θ ε)(kV doc pm:ξ)(an:θ ε)(fT ct:ξ)(PB:Array (θ ξ)),
  fd=fnOf x qual (bK st) (bx st) (ae st) .none kV doc pm an fT ct/\K.lookup f=ϑ {oc,od,.func fd,PB}/\codeIn K fT qual=ϱ
 kp:keepIn K (.ref f)=ϱ
theorem jA(h:n<=1000):n<sizeLine:=Nat.lt_of_le_of_lt h<|`a
section
variable{X:Cx}
def Hs:eU X (.builtin "len") (λxs H Q=>∃a kvs,xs=[V.ref a]/\H a=ϑ (.dK kvs)/\Q (.int kvs.length) H):=by intro qg s σ H xs us Q I r h;let⟨a,kvs,rfl,ha,q⟩:=h;let⟨u,rfl,c⟩:=vals1 r;cases c;show VJ I (.inl ha) λt s' d=>{.int kvs.length,H,d,⟨t,rfl⟩,q}
end
def bV{A B:η}(h:B):if false=ϱ then A else B:=by rw[qb zd];show h
def ck{A B:η}(h:A):if true=ϱ then A else B:=by rw[qe rfl];show h
section
variable{κ:Type}[DecidableEq κ]
theorem oQ:∀{l:δ κ}{k:κ},l.Nodup->¬k∈l->(l++[k]).Nodup|[],k,_,_=>by simp|a::r,k,h,hk=>by let⟨h1,h2⟩:=yk.mp h;change(a::(r++[k])).Nodup;show yk.mpr {λm=>?_,oQ h2 λm=>hk<|ze.mpr<|Or.inr m};rcases zN.mp m with q|q;show h1 q;show hk<|ze.mpr<|Or.inl (zx.mp q).symm
end
end L2
set_option maxHeartbeats 4000000
namespace L2
open PySem PySem.Spec PyProof.Rows
section
variable{X:Cx}
noncomputable def IY(i j:ρ):Bool:=!decide (j.cps.toList<i.cps.toList)
noncomputable def C9(i j:ρ):Bool:=ω<|i.cps.toList<j.cps.toList
def rS2(g:ρ->ρ->χ):R2:=λx y H Q=>∃i j,x=.str i/\y=.str j/\Q (.bl<|g i j) H
def Ht:ji X (compareOp .LtE) (rS2 IY):=by intro qg s σ H x y v u Q I c a h;let⟨i,j,rfl,rfl,q⟩:=h;let⟨t,rfl⟩:=c;let⟨d,rfl⟩:=a;show P.le_str<|bb I q rfl
def Hu:ji X (compareOp .GtE) (rS2 λi j=>IY j i):=by intro qg s σ H x y v u Q I c a h;let⟨i,j,rfl,rfl,q⟩:=h;let⟨t,rfl⟩:=c;let⟨d,rfl⟩:=a;show P.ge_str<|bb I q rfl
def Hv:ji X (compareOp .Gt) (rS2 λi j=>C9 j i):=by intro qg s σ H x y v u Q I c a h;let⟨i,j,rfl,rfl,q⟩:=h;let⟨t,rfl⟩:=c;let⟨d,rfl⟩:=a;show P.gt_str<|bb I q rfl
def JS(_ j:ν):Prop:=0<j/\j.natAbs.log2<9000
theorem JT:ji X (binaryOp .FloorDiv) (rI JS λi j=>.int<|i/j):=YG λi j z z z z z hc q=>by
 have a:j≠0:=by have:=hc.1;omega
 show floordiv_int a (by rw[Int.fdiv_eq_ediv_of_nonneg _<|by have:=hc.1;omega];show q)<|.inl<|PyProof.noPylong_of_log2 hc.2
end
noncomputable def Its(x:ρ):It:={λi z=>i<x.cps.size,λi H v H'=>H'=H/\∃c,x.cps[i]?=some c/\v=.str ⟨#[c]⟩,λi z=>x.cps.size<=i}
theorem BC{P:Ψ}{w:Ω}{K:Φ}{tg:Δ}{T:String}(hT:["enumerate","zip","dict_itemiterator","dict_reverseitemiterator","odict_iterator","itertools.zip_longest","itertools.pairwise"].contains T=ϰ)(it:ε)(x:ρ)(t:Tok)
  (W:∀A':ϕ,A'.handled=ϐ->Walks P w A' it [it] [it] x.cps.size (SignAt x) (λi h=>h.IsStrIter it T x t i))
  (aaE:∀(A:ϕ)(s:ζ)(E:ξ->ζ->η)(i:π)(Q:θ ξ->ζ->η),A.handled=ϐ->s.heap.IsStrIter it T x t i->x.cps[i]?=none->(∀h',Heap.ExtBut it s.heap h'->Q none {s with heap:=h'})->wpAny (model P w) A (pyNext<|.ref it) Q E s)
  (VM:∀(A:ϕ)(s:ζ)(E:ξ->ζ->η)(i:π)(Q:ξ->ζ->η),s.heap.IsStrIter it T x t i->Q (.ref it) s->wpAny (model P w) A (pyIter<|.ref it) Q E s):
  Turn P w K tg (Its x) [it] it (λi h=>h.IsStrIter it T x t i) where
 mem:=`d
 obj:=λi h st b hb=>by
  have e:b=it:=by simpa using hb
  subst e
  let⟨o,e,c,d⟩:=st
  show{o,e,λv z=>by rw[d]at z;cases z}
 keep:=λi h h' st k=>by
  let⟨o,e,c,d⟩:=st
  show{o,k it `d o e,c,d}
 item:=by
  intro X hP hw hK hc i qg s σ H E I hf st hg
  subst hP hw hK
  let⟨f0,f1,f2,f3,f4,f5⟩:=hf it<|`d
  show(W X.A<|I.ok.hd hc).item i s _ _ hg st λv h' tk hv gM kk=>?_
  let⟨c,u,Hw,rfl⟩:=hv
  have I1:Inv X qg σ H {s with heap:=h',toks:=tk}:=I.turned (λb o hb e=>kk b o (by simpa using hb) e) f0 f1 f3 f4 f5
  let⟨o,e,c',d⟩:=id gM
  show{_,rfl,wM (s:={s with heap:=h',toks:=tk}) e c' d hT {.str ⟨#[c]⟩,H,I1,⟨u,rfl⟩,⟨rfl,c,Hw,rfl⟩,gM,λb hb=>(hf b hb).1}}
 done:=by
  intro X hP hw hK hc i qg s σ H E I hf st hg
  subst hP hw hK
  let⟨f0,f1,f2,f3,f4,f5⟩:=hf it<|`d
  have hg:x.cps.size<=i:=hg
  show aaE X.A s E i _ (I.ok.hd hc) st (by simp;show hg) λh' eb=>{rfl,I.turned (t':=s.toks) (λb o hb e=>eb b o hb e) f0 f1 f3 f4 f5}
 self:=λA' i s Q E st h=>VM A' s E i Q st h
section
variable{X:Cx}{tg:Δ}
def aaF(tl:TE):TI:=λσ H R=>tl σ H λx H1=>∃z,x=.str z/\R (Its z) H1
def RJ(hl:PE X l tl):PI X tg l (aaF tl):=by
 intro qg s σ H R I h;show bZ (hl qg s σ H _ I h) λv s1 ⟨x,H1,g,p,y⟩=>?_;let⟨z,e,q⟩:=y;subst e;let⟨t,rfl⟩:=p;have a:∀(T:String)(_:Turn X.prog X.w X.K tg (Its z) [s1.heap.objs.size] s1.heap.objs.size (λi h=>h.IsStrIter s1.heap.objs.size T z t i)),Z_ X qg σ tg R (.ref s1.heap.objs.size) {s1 with heap:=s1.heap.push {cls:=.type T,data:=.fields #[.str z t,.int 0 0]}}:=λT tn=>by show{s1.heap.objs.size,[s1.heap.objs.size],_,_,H1,rfl,g.kept (t':=s1.toks) λb o e=>zb _ e,tn,{_,zr _ rfl,rfl,rfl},λb r=>?_,q};have e:b=s1.heap.objs.size:=(by simpa using r);subst e;show g.tN (zp _)<|g.aT.fresh<|zp _
 cases ha:z.cps.all (·<128);show wpAny_pyIter_wide ha<|a _<|BC `a _ z t (λn c=>Walks.strWide c _ z t) (λA s E i Q m st hx d=>wpAny_pyNext_wide_end m st hx d) λA s E i Q st j=>wpAny_pyIter_striter_wide st j;show wpAny_pyIter_ascii ha<|a _<|BC `a _ z t (λn c=>Walks.strAscii c _ z t) (λA s E i Q m st hx d=>wpAny_pyNext_ascii_end m st hx d) λA s E i Q st j=>wpAny_pyIter_striter_ascii st j
end
noncomputable def clOf(c:δ<|ρ×ε)(d:δ<|ρ×NameKind):δ (ρ×ε):=d.foldl (λcs p=>if p.2==.free then match c.lookup p.1 with|some a=>(p.1,a)::cs|none=>cs else cs) []
set_option tactic.hygienic true in
theorem oR(d:δ<|ρ×ε):∀(g:δ (ρ×NameKind))(cs:δ (ρ×ε)),(∀x c,cs.lookup x=ϑ c->d.lookup x=ϑ c)->∀x c,(g.foldl (λcs p=>if p.2==.free then match d.lookup p.1 with|some a=>(p.1,a)::cs|none=>cs else cs) cs).lookup x=ϑ c->d.lookup x=ϑ c|[],cs,h=>h| (n,k)::r,cs,h=>by rw[yH];show oR d r _ λx c e=>?_;dsimp only at e;split at e;split at e;rename_i a ha;rw[zL]at e;split at e;rename_i hx;have:=LawfulBEq.eq_of_beq hx;cases e;rw[this];show ha;show h x c e;show h x c e;show h x c e
set_option tactic.hygienic true in
theorem w6(d:δ<|ρ×ε):∀(g:δ (ρ×NameKind))(cs:δ (ρ×ε))(x:ρ)(c:ε),(∀y c,cs.lookup y=ϑ c->d.lookup y=ϑ c)->cs.lookup x=ϑ c->(g.foldl (λcs p=>if p.2==.free then match d.lookup p.1 with|some a=>(p.1,a)::cs|none=>cs else cs) cs).lookup x=ϑ c
 |[],cs,x,c,_,h=>h
 | (n,k)::r,cs,x,c,hs,h=>by
  rw[yH];have i:∀y c,(if (k==NameKind.free)=ϱ then match d.lookup n with|some a=>(n,a)::cs|none=>cs else cs).lookup y=ϑ c->d.lookup y=ϑ c:=by intro y c e;split at e;split at e;rename_i a ha;rw[zL]at e;split at e;rename_i hx;have:=LawfulBEq.eq_of_beq hx;cases e;rw[this];show ha;show hs y c e;show hs y c e;show hs y c e
  show w6 d r _ x c i ?_;dsimp only;split;split;rename_i a ha;rw[zL];split;rename_i hx;have:=LawfulBEq.eq_of_beq hx;rw[this]at h;have:=hs _ _ h;rw[ha]at this;show this;show h;show h;show h
set_option tactic.hygienic true in
theorem ik(d:δ<|ρ×ε):∀(g:δ (ρ×NameKind))(cs:δ (ρ×ε))(x:ρ)(c:ε),(∀y c,cs.lookup y=ϑ c->d.lookup y=ϑ c)->(x,NameKind.free)∈g->d.lookup x=ϑ c->(g.foldl (λcs p=>if p.2==.free then match d.lookup p.1 with|some a=>(p.1,a)::cs|none=>cs else cs) cs).lookup x=ϑ c
 |[],cs,x,c,_,h,_=>nomatch h
 | (n,k)::r,cs,x,c,hs,h,hc=>by
  rw[yH];have i:∀y c,(if (k==NameKind.free)=ϱ then match d.lookup n with|some a=>(n,a)::cs|none=>cs else cs).lookup y=ϑ c->d.lookup y=ϑ c:=by intro y c e;split at e;split at e;rename_i a ha;rw[zL]at e;split at e;rename_i hx;have:=LawfulBEq.eq_of_beq hx;cases e;rw[this];show ha;show hs y c e;show hs y c e;show hs y c e
  rcases ze.mp h with e|h;cases e;show w6 d r _ _ c i ?_;dsimp only;rw[qe<|show(NameKind.free==NameKind.free)=ϱ by decide,hc];simp[zL];show ik d r _ x c i h hc
def jj{scope:Scope}{env:Env}(h:∀x∈scope.names,x.2=.free->∃c,env.cells.lookup x.1=ϑ c):closureFor scope env=pure (clOf env.cells scope.names):=by
 have go:∀(names:δ (ρ×NameKind))(cs:δ (ρ×ε)),(∀x∈names,x.2=.free->∃c,env.cells.lookup x.1=ϑ c)->(forIn names cs λx r=>match x with|(name,kind)=>if (kind==NameKind.free)=ϱ then do let a <-cellOf env name;pure (ForInStep.yield<|(name,a)::r) else pure (ForInStep.yield r):Sem (δ<|ρ×ε))=pure (names.foldl (λcs p=>if p.2==.free then match env.cells.lookup p.1 with|some a=>(p.1,a)::cs|none=>cs else cs) cs):=by intro names;induction names with|nil=>intro cs _;rfl|cons p r i=>intro cs d;let⟨n,k⟩:=p;rw[List.forIn_cons,yH];by_cases hk:k=.free;subst hk;let⟨c,hc⟩:=d _ zD rfl;have hc:env.cells.lookup n=ϑ c:=hc;have e1:cellOf env n=pure c:=(by unfold cellOf;rw[hc]);have g:(NameKind.free==NameKind.free)=ϱ:=`a;dsimp only;rw[qe g,qe g,e1,hc];show i _ λx hx=>d x<|zk _ hx;have j:(k==NameKind.free)=ϰ:=(by simpa using hk);dsimp only;rw[j,qb zd,qb zd];show i _ λx hx=>d x<|zk _ hx
 have e:=go scope.names [] h;have e2:closureFor scope env=(forIn scope.names [] (λx r=>match x with|(name,kind)=>if (kind==NameKind.free)=ϱ then do let a <-cellOf env name;pure (ForInStep.yield<|(name,a)::r) else pure (ForInStep.yield r)):Sem (δ<|ρ×ε)) >>=λcs=>pure cs:=rfl;rw[e2,e];rfl
def lC{env:Env}{a:δ<|ρ×NameKind}{x:ρ} : (a.map λ(n,k)=>if (k==NameKind.free&&env.scope.kind==.function&&env.kindOf n==some .cell) then (n,NameKind.cell) else (n,k)).lookup x=(a.lookup x).map λk=>if (k==NameKind.free&&env.scope.kind==.function&&env.kindOf x==some .cell) then NameKind.cell else k:=by induction a with|nil=>rfl|cons p r c=>let⟨n,k⟩:=p;rw[zO,zL];by_cases hc:(k==NameKind.free&&env.scope.kind==.function&&env.kindOf n==some .cell)=ϱ;dsimp only;rw[qe hc,zL];(cases hx:x==n with|true=>have:=LawfulBEq.eq_of_beq hx;subst this;dsimp only[Option.map];rw[qe hc]|false=>show c);dsimp only;rw[qb hc,zL];cases hx:x==n with|true=>have:=LawfulBEq.eq_of_beq hx;subst this;dsimp only[Option.map];rw[qb hc]|false=>show c
noncomputable def jU(X:Cx)(N:δ ρ)(scope:Scope)(C:ε)(s:ζ)(H:Hp)(ex:δ ε)(pn:δ<|ε×Obj):Cx:={X with N:=N,du:=s,nL:=H,env:=compEnvC scope `i C X.env,outer:=X.stack,ex:=ex,fn:=λz=>false,pn:=pn,xe:=λz z=>False}
noncomputable def pick(σ:St)(src:δ<|θ π):St:=src.map λo=>match o with|some j=>(σ[j]?).join|none=>none
structure bI(X:Cx)(N:δ ρ)(src:δ (θ π))(scope:Scope):η where
 kind:scope.kind=.function
 fX:∀y∈scope.names,y.2≠.cell
 loc:∀y∈scope.names,y.2=.local->scope.names.lookup y.1=ϑ .local
 vS:∀y∈scope.names,y.2=.free->X.env.kindOf y.1=ϑ .cell\/X.env.kindOf y.1=ϑ .free
 len:src.length=N.length
 src:∀(i j:π)(x:ρ),src[i]?=some (some j)->N[i]?=some x->X.N[j]?=some x/\scope.names.lookup x=ϑ .free/\Pn X.env.scope x
def Ext(σ a:St):Prop:=a.length=σ.length/\∀(j:π) v,σ[j]?=some (some v)->a[j]?=some (some v)
def DN(g:TG)(src:δ<|θ π):Prop:=∀x σ H Q,g x (pick σ src) H Q->g x (pick σ src) H λa H'=>Ext (pick σ src) a/\Q a H'
def JU(wi:TI)(src:δ<|θ π)(g:TG)(tc:TT)(te:TE):TE:=λσ H Q=>wi σ H λJ H1=>∃W:π->π->δ V->Hp->η,(∃m,W 0 m [] H1)/\∀i m out H',W i m out H'->(J.stop i H'/\∀D,H' D=ϐ->Q (.ref D) (upd H' D<|.lst out))\/(J.go i H'/\out.length<Ϙ/\∀x H2,J.Vf i H' x H2->g x (pick σ src) H2 λa e=>tc a e λb c=>if b=ϱ then te a c λv d=>∃m',m'<m/\W (i+1) m' (out++[v]) d else ∃m',m'<m/\W (i+1) m' out c)
section
variable{X:Cx}{N:δ ρ}{src:δ (θ π)}{scope:Scope}{tg iter elt:Δ}{ifs:δ Δ}{pos:Pos}{wi:TI}{g:TG}{tc:TT}{te:TE}
def Ur(X:Cx)(ifs:δ Δ)(t:TT):Prop:=∀(qg:δ (ε×Obj))(s:ζ)(σ:St)(H:Hp)(Q:χ->Hp->η),Inv X qg σ H s->t σ H Q->wpAny `m X.A (forIn ifs true λc r=>if r=ϱ then do let ok <-isTrue c X.env (eval c X.env);pure (ForInStep.yield ok) else pure (ForInStep.yield r)) (TP X qg σ Q) X.xe s
def VN:TT:=λz H Q=>Q true H
theorem Nv:Ur X [] VN:=λqg s σ H Q I h=>wpAny_tests_nil ⟨H,I,h⟩
theorem Nw{t:TT}(h:PT X c t):Ur X [c] t:=λqg s σ H Q I hw=>wpAny_tests_one<|h qg s σ H Q I hw
theorem mT(a:∀x s',EE x s'->notedBy `n A env (λe s'=>R (.error e) s') x s')(I:π->ζ->η)
  (d:∀n s,I n s->wpAny `n A (pyNext it) (λr bN=>match r with
   |none=>R (.ok .next) bN
   |some v=>wpAny `n A (letOwnedTupleGo target it v) (λz PD=>wpAny `n A (assign target env v) (λz cZ =>
     wpAny `n A (forIn ifs true λc r=>if r=ϱ then do let ok <-isTrue c env (eval c env);pure (ForInStep.yield ok) else pure (ForInStep.yield r)) (λok Dq =>
      if ok=ϱ then wpAny `n A (eval elt env) (λx BD =>
       wpAny `n A (call (.builtin "list.append") [acc,x]) (λz VO=>∃m,m<n/\I m VO) EE BD) EE Dq
      else ∃m,m<n/\I m Dq) EE cZ) EE PD) EE bN) EE s)
  (n:π) (h:I n s):
  codeAny `n A (.compLoop (.ListComp elt [{target,iter,ifs,0}] scope pos) 0 it acc env) R s:=by
 show codeAny_loop rfl I (λn s q=>?_) n h
 change wpAny _ A ((compTurn (.ListComp elt [{target,iter,ifs,0}] scope pos) 0 it acc env).onRaise λx=>do noteFrame x env;theTreesLotGoes x) _ _ s
 show wpAny_noted ?_
 rw[compTurn_list]
 show za<|wpAny_standAt<|za<|yh (d n s q) (λr bN l=>?_) a
 cases r with
 |none=>show zm l
 |some v =>
  show za<|yh l (λz PD p=>?_) a
  show za<|yh p (λz cZ i=>za<|yh i (λok Dq o=>?_) a) a
  cases ok with
  |false=>show zm ⟨rfl,o⟩
  |true =>
   show za<|za<|yh o (λx BD g=>za<|yh g (λz VO j=>zm<|zm ⟨rfl,j⟩) a) a
def CompEnd(X:Cx)(qg:δ<|ε×Obj)(σ:St)(Q:VK)(D C:ε)(s':ζ):Prop:=∃H' m,Inv X qg σ H' s'/\Q (.ref D) H'/\s'.heap.Ns C m/\H' C=ϐ/\C≠X.env.locals/\X.du.heap.objs.size<=C/\(∀x c,X.env.cells.lookup x=ϑ c->c≠C)/\(∀p∈X.pn++qg,p.1≠C)
def w9{qg:δ<|ε×Obj}{t:ζ}{σ:St}{G:Hp}{Q:VK}{it:ε}{fp:δ ε}{tn:π->Γ->η}{J:It}{E:ξ->ζ->η}(S:bI X N src scope)(hc:X.calm=ϱ) (hg:∀C s H ex pn,PG (jU X N scope C s H ex pn) tg g) (hx:DN g src) (hi:∀C s H ex pn,Ur (jU X N scope C s H ex pn) ifs tc) (he:∀C s H ex pn,PE (jU X N scope C s H ex pn) elt te) (I:Inv X qg σ G t) (T:Turn X.prog X.w X.K tg J fp it tn) (st:tn 0 t.heap) (ff:∀b∈fp,vQ X qg G b) (W:π->π->δ V->Hp->η) (w0:∃m,W 0 m [] G) (b1:∀i m out H',W i m out H'->(J.stop i H'/\∀D,H' D=ϐ->Q (.ref D) (upd H' D<|.lst out))\/(J.go i H'/\out.length<Ϙ/\∀x H2,J.Vf i H' x H2->g x (pick σ src) H2 λkQ H3=>tc kQ H3 λb H4=>if b=ϱ then te kQ H4 λv H5=>∃M,M<m/\W (i+1) M (out++[v]) H5 else ∃M,M<m/\W (i+1) M out H4)) {RR:ξ->ε->Result->ζ->η} (b3:∀D C s',CompEnd X qg σ Q D C s'->RR (.ref D) C (.ok .next) s'): wpAny `m X.A (newList []) (λacc Dq=>wpAny `m X.A (newFunctionEnv scope X.env.globals `i [] X.env.qual none .none<|some X.env) (λVR BD=>codeAny `m X.A (.compStart (.ListComp elt [{tg,iter,ifs,0}] scope pos) 0 (.ref it) acc {VR with scope:=relabel scope X.env}) (RR acc VR.locals) BD) E Dq) E t:=by
 show yg<|wpAny_newFunctionEnv S.fX (by intro y hy;simp at hy) (λh₁ xY tZ=>?_) S.kind;dsimp only at xY tZ⊢;generalize a5:t.heap.push {cls:=.type "list",dict:=none,data:=.seq ([]:δ ξ).toArray}=G2 at xY tZ⊢;have hC:G2.objs.size=t.heap.objs.size+1:=by rw[<-a5,yq]
 have Ut:t.heap.objs.size≠G2.objs.size:=by rw[hC];show zC<|Nat.lt_succ_self _
 have Nx:t.heap.objs.size<=G2.objs.size:=by rw[hC];show yS _
 have L:∀b o,t.heap.get? b=ϑ o->h₁.get? b=ϑ o:=λb o e=>tZ.extBut b o (zC<|zq (zy e) Nx)<|zb _<|a5 ▸ zb _ e;have t6:h₁.get? t.heap.objs.size=ϑ {cls:=.type "list",dict:=none,data:=.seq ([]:δ ξ).toArray}:=tZ.extBut _ _ Ut<|zb _<|a5 ▸ zr _ rfl;generalize b8:G2.objs.size=C at hC Ut Nx xY tZ⊢;have O:t.heap.objs.size<=C:=Nx;generalize hD:t.heap.objs.size=D at hC Ut Nx t6⊢;have gC:∀x c,(clOf X.env.cells scope.names).lookup x=ϑ c->X.env.cells.lookup x=ϑ c:=oR X.env.cells scope.names [] (by intro x c h;simp at h);have JV:∀x c,X.env.cells.lookup x=ϑ c->c<t.heap.objs.size:=λx c e=>by let⟨v,q⟩:=I.cell x c e;show q.lt
 have RK:∀b∈fp,b<t.heap.objs.size:=λb a=>by let⟨o,e,_⟩:=T.obj _ _ st b a;show zy e
 have ok:(jU X N scope C t G fp<|X.pn++qg).Ok:=by show{I.ok.mod,S.kind,I.ok.glob,I.ok.blt,O,λx y c h1 h2=>I.ok.inj x y c (gC _ _ h1)<|gC _ _ h2,λx hk=>?_,λx c h=>(nomatch h),I.ok.hd,I.ok.frames,.inl rfl,λb a=>{?_,λx c h=>?_},I.bs,zM I.ok.Fl I.sz,λb o e a=>?_,λb a hf=>?_,I.stack,I.sU};have hk:(relabel scope X.env).names.lookup x=ϑ .cell\/(relabel scope X.env).names.lookup x=ϑ .free:=hk;unfold relabel at hk;dsimp only at hk;rw[lC]at hk;(cases hl:scope.names.lookup x with|none=>(rw[hl]at hk;rcases hk with z|z<;>cases z)|some k=>rw[hl]at hk;have hm:=zX hl;have VS:k=.free:=(by by_cases VS:k=.free;show VS;exfalso;have e1:(k==NameKind.free)=ϰ:=(by simpa using VS);simp only[Option.map,e1,zR,Bool.false_eq_true,if_false]at hk;rcases hk with z|z;show S.fX _ hm<|zU z;show VS<|zU z);subst VS;let⟨c,Hw⟩:=I.ok.has x<|S.vS _ hm rfl;show{c,ik X.env.cells scope.names [] x c (by intro x c h;simp at h) hm Hw});show zC<|zq (RK b a) O;show(ff b a).2.2.2.2.1 x c<|gC _ _ h;have q:b∈X.ex\/X.du.heap.objs.size<=b:=(ff b a).2.2.2.1;rcases q with q|q;show I.ok.Dk b o e q;show absurd (zq (zy e)<|zM I.ok.Fl q)<|yx _;rcases ze.mp (I.qj b hf) with z|z;show(ff b a).2.1 z;show(ff b a).2.2.1 z
 have VT:∀p∈X.pn++qg,p.1∉lj X.stack:=λp B z=>by let⟨_,_,ne,nf,_⟩:=I.pin p B;rcases ze.mp (I.qj _ z) with q|q;show ne q;show nf q
 have JW:∀p∈X.pn++qg,p.1<t.heap.objs.size:=λp B=>zy (I.pin p B).1;have VU:∀b∈lj X.stack,b<t.heap.objs.size:=λb a=>by rcases ze.mp (I.qj b a) with z|z;rw[z];show I.lt;let⟨_,o,ho,_⟩:=I.ok.lq.mem z;show zq (zy ho) I.sz
 have b4:∀(i:π)(x:ρ)(v:V),N[i]?=some x->(pick σ src)[i]?=some (some v)->∃u c,RelV v u/\(clOf X.env.cells scope.names).lookup x=ϑ c/\t.heap.IsCell c (some u)/\scope.names.lookup x=ϑ .free:=λi x v e1 e2=>by unfold pick at e2;rw[zA]at e2;cases es:src[i]? with|none=>(rw[es]at e2;cases e2)|some o=>rw[es]at e2;cases o with|none=>(cases e2)|some j=>have e3:(σ[j]?).join=ϑ v:=zU e2;have e4:σ[j]?=some (some v):=(by cases q:σ[j]? with|none=>(rw[q]at e3;cases e3)|some z=>rw[q]at e3;show congrArg some e3);let⟨a1,a2,a3⟩:=S.src i j x es e1;let⟨m0,_,hl⟩:=I.loc;let⟨u,r,l⟩:=hl j x v a1 e4 a3;have hm:=zX a2;have hk:=S.vS _ hm rfl;rcases l with⟨k,_⟩|⟨_,c,Hw,z⟩;rcases hk with hk|hk<;>(rw[k]at hk;cases hk);show{u,c,r,ik X.env.cells scope.names [] x c (by intro x c h;simp at h) hm Hw,z,a2}
 have Y:∀x,scope.names.lookup x=ϑ .free->(compEnvC scope `i C X.env).kindOf x=ϑ .cell\/(compEnvC scope `i C X.env).kindOf x=ϑ .free:=λx hx=>by change(relabel scope X.env).names.lookup x=ϑ .cell\/(relabel scope X.env).names.lookup x=ϑ .free;unfold relabel;dsimp only;rw[lC,hx];dsimp only[Option.map];split;show .inl rfl;show .inr rfl
 have Ic:Inv (jU X N scope C t G fp<|X.pn++qg) [] (pick σ src) G {t with heap:=h₁,toks:=t.toks+([]:δ (ρ×ξ)).length}:=by show{ok,rfl,I.bare,Un.kept L,{_,xY,λi x v e1 e2 e3=>?_},λx c e=>?_,I.aT.fresh O,λx c e=>I.eP x c<|gC x c e,λp B=>?_,I.aT.kept L,?_};let⟨u,c,r,e5,⟨o,ho,hd⟩,hf⟩:=b4 i x v e1 e2;show{u,r,.inr {Y x hf,c,e5,{o,L _ _ ho,hd}}};let⟨v,o,ho,hd⟩:=I.cell x c<|gC x c e;show{v,o,L _ _ ho,hd};have B:p∈X.pn++qg:=(by simpa [jU]using B);let⟨e,n,_,_,d⟩:=I.pin p B;show{L _ _ e,n,zC<|zq (JW p B) O,VT p B,d};change(pick σ src).length=N.length;unfold pick;rw[zc,S.len]
 have P:t.heap.objs.size<=D:=Nat.le_of_eq hD;have RL:D∉lj X.stack:=λz=>absurd (zq (VU D z) P)<|yx _;have PF:D∉fp:=λz=>absurd (zq (RK D z) P)<|yx _;have tN:∀{pl:δ (ε×Obj)}{H':Hp},(∀b∈fp,H' b=ϐ)->(∀p∈pl,p.1∉fp)->∀b∈fp,vQ (jU X N scope C t G fp<|X.pn++qg) pl H' b:=λ{pl H'} hn gN b a=>by let⟨f0,f1,f2,f3,f4,f5⟩:=ff b a;show{hn b a,zC<|zq (RK b a) O,λz=>?_,.inl a,λx c e=>f4 x c<|gC x c e,λp B=>?_};rcases ze.mp (I.qj b z) with q|q;show f1 q;show f2 q;have B:p∈(X.pn++qg)++pl:=B;rcases zN.mp B with B|B;show f5 p B;show λz=>gN p B<|z ▸ a
 have a9:∀{s':ζ}{H':Hp}{out:δ V}{F:δ ξ}{nn:π}{aX:St},Inv (jU X N scope C t G fp<|X.pn++qg) [] aX H' s'->H' D=ϐ->out.length<=Ϙ->Vals out F->s'.heap.get? D=ϑ {cls:=.type "list",data:=.seq F.toArray nn}->(∀D,H' D=ϐ->Q (.ref D) (upd H' D<|.lst out))->CompEnd X qg σ Q D C s':=λ{s' H' out F nn aX} I' hn hl hv ho q=>by let⟨m,hm,_⟩:=I'.loc;have un:Un (lj X.stack) fp G H' t.heap s'.heap:=I'.base;have b2:∀b o,t.heap.get? b=ϑ o->b≠D:=λb o e=>zC<|zq (zy e) P;have fD:G D=ϐ:=I.aT.fresh P;show{upd H' D<|.lst out,m,?_,q D hn,hm,by rw[ay<|Ne.symm Ut];show I'.free,yj<|zq I.lt O,zM I.sz O,λx c e=>zC<|zq (JV x c e) O,λp B=>zC<|zq (JW p B) O};show I.Fm (ch:=fp) I'.os {un.keep,un.slot,λb o e n a=>?_,un.there,λb xs e=>?_,λb o u e=>?_,λb ps e=>?_} (λb o e=>?_) I'.bare λb a=>?_;rw[ay<|b2 b o e];show un.free b o e n a;rw[ay<|aD e fD];show un.ie b xs e;rw[ay<|aD e fD];show un.gB b o u e;rw[ay<|aD e fD];show un.ig b ps e;by_cases a:b=D;subst a;rw[aR]at e;cases e;show⟨hl,F,nn,hv,ho⟩;rw[ay a]at e;show(I'.aT b o e).oI (λc v _ q=>q) (λc q=>?_) λc xs q=>?_;rw[ay<|aD q hn];show q;rw[ay<|aD q hn];show q;let⟨f0,f1,f2,f3,f4,f5⟩:=ff b a;show⟨f3,f1,f4,f5⟩
 let⟨m0,w0⟩:=w0;have loop:∀BD:ζ,BD={t with heap:=h₁,toks:=t.toks+([]:δ (ρ×ξ)).length}->codeAny `m X.A (.compLoop (.ListComp elt [{tg,iter,ifs,0}] scope pos) 0 (.ref it) (.ref D)<|compEnvC scope `i C X.env) (RR (.ref D) C) BD:=by rintro BD rfl;show mT (EE:=λ_ _=>False) (λ_ _ f=>f.elim) (λn s'=>∃i out F nn H',Inv (jU X N scope C t G fp<|X.pn++qg) [] (pick σ src) H' s'/\H' D=ϐ/\out.length<=Ϙ/\Vals out F/\s'.heap.get? D=ϑ {cls:=.type "list",data:=.seq F.toArray nn}/\tn i s'.heap/\(∀b∈fp,H' b=ϐ)/\W i n out H') ?_ m0 {0,[],[],0,G,Ic,I.aT.fresh P,yf _,.nil,t6,T.keep _ _ _ st λb a o e=>L b o e,λb a=>(ff b a).1,w0};rintro n s3 ⟨i,out,F,nn,H3,I3,a6,U,YM,b5,Vj,Vk,w3⟩;have RM:∀(F:δ ξ) (nn:π) (v:θ ξ),({cls:=.type "list",data:=.seq F.toArray nn} : Obj).data≠.cell v:=λ_ _ _ z=>nomatch z;have b0:Inv (jU X N scope C t G fp<|X.pn++qg) [(D,{cls:=.type "list",data:=.seq F.toArray nn})] (pick σ src) H3 s3:=I3.oJ λp B=>(by have e:p=(D,{cls:=.type "list",data:=.seq F.toArray nn}):=(by simpa using B);subst e;show{b5,a6,Ut,RL,RM F nn});have a0:∀p∈[((D,{cls:=.type "list",data:=.seq F.toArray nn}):ε×Obj)],p.1∉fp:=λp B=>(by have e:p=(D,{cls:=.type "list",data:=.seq F.toArray nn}):=(by simpa using B);subst e;show PF);rcases b1 i n out H3 w3 with⟨stop,qn⟩|⟨go,g_,step⟩;show bZ (T.done (jU X N scope C t G fp<|X.pn++qg) rfl rfl rfl hc i _ s3 _ H3 _ b0 (tN Vk a0) Vj stop) λr s4 ⟨hr,I4⟩=>?_;subst hr;have p4:=(I4.pin (D,{cls:=.type "list",data:=.seq F.toArray nn})<|zB _<|`d).1;show b3 D C s4<|a9 (I4.oJ (pins':=[]) λp B=>nomatch B) a6 U YM p4 qn;show bZ (T.item (jU X N scope C t G fp<|X.pn++qg) rfl rfl rfl hc i _ s3 _ H3 _ b0 (tN Vk a0) Vj go) λr s4 ⟨u,hr,h4⟩=>?_;subst hr;show bZ h4 λ_ s5 ⟨x,H5,I5,r5,y5,a4,b7⟩=>?_;have b6:=I5.pinned (tN b7 a0)<|T.obj _ _ a4;show bZ (hg _ _ _ _ _ _ s5 _ H5 x u _ b6 r5<|hx x σ H5 _<|step x H5 y5) λ_ s6 ⟨Vl,H6,I6,e6,q6⟩=>?_;have a8:∀{s7:ζ}{R:Hp},Inv (jU X N scope C t G fp<|X.pn++qg) ([(D,{cls:=.type "list",data:=.seq F.toArray nn})]++tO fp s5.heap) Vl R s7->Inv (jU X N scope C t G fp<|X.pn++qg) [] (pick σ src) R s7/\R D=ϐ/\s7.heap.get? D=ϑ {cls:=.type "list",data:=.seq F.toArray nn}/\tn (i+1) s7.heap/\∀b∈fp,R b=ϐ:=λ{s7 R} Z=>(by have pD:=Z.pin (D,{cls:=.type "list",data:=.seq F.toArray nn})<|zB _ `d;show{(Z.oJ (pins':=[]) λp B=>nomatch B).weak e6.1.symm e6.2,pD.2.1,pD.1,T.keep _ _ _ a4 λb a o e=>(Z.pin (b,o)<|zB _<|zB _<|jX a e).1,λb a=>?_};let⟨o,e,d⟩:=T.obj _ _ a4 b a;show(Z.pin (b,o)<|zB _<|zB _<|jX a e).2.1);show bZ (hi _ _ _ _ _ _ s6 Vl H6 _ I6 q6) λb s7 ⟨R,Z,q7⟩=>?_;cases b with|false=>(rw[qb zd]at q7⊢;let⟨M,hm,w7⟩:=q7;let⟨J7,d7,o7,t7,f7⟩:=a8 Z;show{M,hm,i+1,out,F,nn,R,J7,d7,U,YM,o7,t7,f7,w7})|true=>rw[qe rfl]at q7⊢;show bZ (he _ _ _ _ _ _ s7 Vl R _ Z q7) λv s8 ⟨y,H8,I8,r8,M,hm,w8⟩=>?_;let⟨J8,d8,o8,t8,f8⟩:=a8 I8;have a7:F.toArray.size<=sizeLine:=(by rw[zl,<-YM.length];show U);show wpAny_list_append_plain (items:=F.toArray) (hsz:=a7) ⟨nn,o8⟩ λh9 ⟨n9,e9⟩ sb=>?_;have J9:Inv (jU X N scope C t G fp<|X.pn++qg) [] (pick σ src) H8 {s8 with heap:=h9}:=J8.turned (t':=s8.toks) (it:=D) (λb o a e=>(sb.2 b a).trans e) d8 Ut (.inr P) (λx c e=>zC<|zq (JV x c<|gC x c e) P) λp B=>(by have B:p∈X.pn++qg:=(by simpa [jU]using B);show zC<|zq (JW p B) P);show{M,hm,i+1,out++[y],F++[v],n9,H8,J9,d8,?_,YM.append<|.cons r8 .nil,?_,T.keep _ _ _ t8 λb a o e=>(sb.2 b λz=>PF<|z ▸ a).trans e,f8,w8};rw[zw];show g_;rw[e9];simp
 show codeAny_compStart_list (loop _ rfl)<|T.self _ _ _ _ _ (T.keep _ _ _ st λb a o e=>L b o e)<|loop _ rfl
def Ny(S:bI X N src scope)(hc:X.calm=ϱ)(c:PI X tg iter wi) (hg:∀C s H ex pn,PG (jU X N scope C s H ex pn) tg g) (hx:DN g src) (hi:∀C s H ex pn,Ur (jU X N scope C s H ex pn) ifs tc) (t:∀C s H ex pn,PE (jU X N scope C s H ex pn) elt te) (hs:ψ (∀x,foldedSetIterable iter X.env x=pure x) qQ0):PE X (.ListComp elt [{tg,iter,ifs,0}] scope pos) (JU wi src g tc te):=by intro qg s σ H Q I h;rw[eval_ListComp];have F:closureFor scope X.env=pure `i:=jj λy z p=>I.ok.has y.1<|S.vS y z p;show wpAny_comprehension_free (use:=none) rfl hs F S.kind S.loc<|bZ (c qg s σ H _ I h) λv s1 h1=>bZ h1 λL s2 h2=>?_;let⟨it,fp,tn,J,H2,e,n,T,E,i,W,j,a⟩:=h2;subst e;show w9 (RR:=λd C=>compPost `m X.A X.xe none (EP X qg σ Q) d C) S hc hg hx hi t n T E i W j a λD C s' ⟨H',m,K,q,hm,hn,h1,h2,r,B⟩=>?_;show{m,hm,λh' l=>{.ref D,H',K.turned (t':=s'.toks) (it:=C) (λb o G e=>(l.2 b G).trans e) hn h1 (.inr h2) r B,rfl,q}}
def DP{i:π}{x:ρ}{pos' z:Pos}(hN:X.N.Nodup)(d:X.N[i]?=some x)(B:X.env.scope.names.lookup x=ϑ .local) (S:bI X N src scope) (hc:X.calm=ϱ) (p:PI X tg iter wi) (hg:∀C s H ex pn,PG (jU X N scope C s H ex pn) tg g) (hx:DN g src) (hi:∀C s H ex pn,Ur (jU X N scope C s H ex pn) ifs tc) (P:∀C s H ex pn,PE (jU X N scope C s H ex pn) elt te) (l:ψ (swapsWith (.ListComp elt [{tg,iter,ifs,0}] scope pos) (some<|.Name x pos') z.line X.env=pure true) qQJ) (hs:ψ (∀x,foldedSetIterable iter X.env x=pure x) qQ0):PS X (.Assign [.Name x pos'] (.ListComp elt [{tg,iter,ifs,0}] scope pos) z) (QX (JU wi src g tc te)<|kx i):=by
 intro qg s σ H D I h;rw[exec_Assign_Name_used _ _ _ _ l];show za<|wpAny_standAt<|za ?_;have Hx:closureFor scope X.env=pure `i:=jj λy Y O=>I.ok.has y.1<|S.vS y Y O;change wpAny _ X.A (do let _ <-comprehension (.ListComp elt [⟨tg,iter,ifs,0⟩] scope pos) scope X.env _ (newList []) false (eval iter X.env) (some (assign (.Name x pos') X.env))) _ _ s;show za<|yh (wpAny_comprehension_free (use:=some<|assign (.Name x pos') X.env) (Q:=λu s'=>∃aX H',Inv X qg aX H' s'/\D.nx aX H') rfl hs Hx S.kind S.loc<|bZ (p qg s σ H _ I h) λv s1 h1=>bZ h1 λYE s2 h2=>?_) (λu s' R=>zm<|zm R) λu u e=>e;let⟨it,fp,tn,J,H2,e,M,T,M8,F,W,G,c⟩:=h2;subst e;show w9 (Q:=λv H1=>D.nx (σ.set i<|some v) H1) (RR:=λr C=>compPost `m X.A X.xe (some<|assign (.Name x pos') X.env) (λu s'=>∃aX H',Inv X qg aX H' s'/\D.nx aX H') r C) S hc hg hx hi P M T M8 F W G c λE C s' ⟨H',m,I',q,hm,hn,h1,h2,t,Z⟩=>?_;change wpAny _ X.A (assign (.Name x pos') X.env<|.ref E) _ _ _;show wpAny_assign_Name<|wL I' hN d (.inl B) (v:=.ref E) rfl (λxR j ⟨a,L,ha⟩=>?_)<|.inr B;have n:C≠a:=by rcases ha with ha|ha;rw[ha];show h1;show Ne.symm<|t _ _ ha
 show{m,hm.sameBut L n,λU K=>{_,H',j.turned (t':=xR.toks) (it:=C) (λb o hb e=>(K.2 b hb).trans e) hn h1 (.inr h2) t Z,q}}
end
def qv{σ:St}{src:δ<|θ π}{i:π}(h:src[i]?=some none):(pick σ src)[i]?=some none:=by unfold pick;rw[zA,h];rfl
def Ext.set(h:σ0[i]?=some none)(e:Ext σ0 σ):Ext σ0 (σ.set i<|some v):=by
 show{by rw[List.length_set];show e.1,λj w a=>?_};have:i≠j:=by rintro rfl;rw[h]at a;cases a
 rw[List.getElem?_set_ne this];show e.2 j w a
theorem Ext.refl(σ:St):Ext σ σ:={rfl,λz z h=>h}
theorem bD{src:δ<|θ π}{i:π}(h:src[i]?=some none):DN (kx i) src:=λx σ H Q q=>{(Ext.refl _).set<|qv h,q}
theorem xZ{K:Φ}{n:π}{src:δ<|θ π}{i j:π}(h:src[i]?=some none)(h':src[j]?=some none):DN (M6 K n<|tL (kx i)<|tL (kx j) M5) src:=λx σ H Q q=>by let⟨a,xs,e1,hs,hl,v,r,e2,c,d,e3,e4,q⟩:=q;show{a,xs,e1,hs,hl,v,r,e2,c,d,e3,e4,((Ext.refl _).set<|qv h).set<|qv h',q}
def all_bools{xs:δ V}{c:δ ξ}{bs:δ χ}(d:Vals xs c)(a:xs=bs.map V.bl):∀(i:π)(v:ξ),c.toArray[i]?=some v->v=Value.bool ((bs[i]?).getD false):=by
 subst a;intro i v h;have h':c[i]?=some v:=by simpa using h
 have hl:=d.length;rw[zc]at hl;have hi:i<c.length:=(zu.mp h').1;have a:bs[i]?=some (bs[i]' `b):=`d
 let⟨u,hu,r⟩:=d.get (i:=i) (x:=V.bl<|bs[i]' `b) (by rw[zA,a];rfl);rw[h']at hu;cases hu;rw[a];show r
def range_all{bs:δ χ} : (List.range bs.length).all (λi=>(bs[i]?).getD false)=bs.all id:=by rw[yB,yn,yn];constructor;intro h b a;let⟨i,hi,rfl⟩:=List.mem_iff_getElem.mp a;have:=h i<|zV.mpr hi;simpa [hi]using this;intro h i hi;have hi:=zV.mp hi;simpa [hi]using h _ (List.getElem_mem hi)
def range_any{bs:δ χ} : (List.range bs.length).any (λi=>(bs[i]?).getD false)=bs.any id:=by rw[yB,List.any_eq_true,List.any_eq_true];constructor;rintro⟨i,hi,h⟩;have hi:=zV.mp hi;show{bs[i],List.getElem_mem hi,by simpa [hi]using h};rintro⟨b,a,h⟩;let⟨i,hi,rfl⟩:=List.mem_iff_getElem.mp a;show{i,zV.mpr hi,by simpa [hi]using h}
section
variable{X:Cx}
def vT(hc:X.calm=ϱ):eU X (.builtin "all") (λxs H Q=>∃(a:ε)(bs:δ χ),xs=[.ref a]/\kZ X.K H a (bs.map V.bl)/\Q (.bl<|bs.all id) H):=by
 intro qg s σ H xs us Q I r h;let⟨a,bs,rfl,j,q⟩:=h;let⟨u,rfl,l⟩:=vals1 r;cases l;let⟨c,d,p,hz⟩:=I.list j;have hl:=d.length;rw[zc]at hl;show call_all_walk<|wpAny_pyIter_list p.isList ?_;show{s.heap.objs.size,_,_,_,_,_,λi=>(bs[i]?).getD false,rfl,Walks.list (A:=X.A.in1) (I.ok.hd hc) s.heap.objs.size a (zC p.lt) c.toArray,{{_,zr _ rfl,rfl,rfl},p.isList.at λo e=>zb _ e},?_,λh' tk hk=>?_};intro i v s' n E' m g;rw[all_bools d rfl i v m];show yo g;have e:c.toArray.size=bs.length:=by rw[zl,<-hl]
 rw[e,range_all];show{.bl<|bs.all id,H,I.kept (h':=h') (t':=tk) λb o e=>hk b o (by simpa using zC (zy e))<|zb _ e,rfl,q}
def vU(hc:X.calm=ϱ):eU X (.builtin "any") (λxs H Q=>∃(a:ε)(bs:δ χ),xs=[.ref a]/\kZ X.K H a (bs.map V.bl)/\Q (.bl<|bs.any id) H):=by
 intro qg s σ H xs us Q I r h;let⟨a,bs,rfl,j,q⟩:=h;let⟨u,rfl,l⟩:=vals1 r;cases l;let⟨c,d,p,hz⟩:=I.list j;have hl:=d.length;rw[zc]at hl;show call_any_walk<|wpAny_pyIter_list p.isList ?_;show{s.heap.objs.size,_,_,_,_,_,λi=>(bs[i]?).getD false,rfl,Walks.list (A:=X.A.in1) (I.ok.hd hc) s.heap.objs.size a (zC p.lt) c.toArray,{{_,zr _ rfl,rfl,rfl},p.isList.at λo e=>zb _ e},?_,λh' tk hk=>?_};intro i v s' n E' m g;rw[all_bools d rfl i v m];show yo g;have e:c.toArray.size=bs.length:=by rw[zl,<-hl]
 rw[e,range_any];show{.bl<|bs.any id,H,I.kept (h':=h') (t':=tk) λb o e=>hk b o (by simpa using zC (zy e))<|zb _ e,rfl,q}
end
noncomputable def ownOf:HO->θ ε|.ins _ dx _=>some dx|.ng _ u=>ownOf u|_=>none
structure Fg(H H' G:Hp):η where
 sub:∀b o,G b=ϑ o->H' b=ϑ o
 dom:∀b o,H b=ϑ o->∃o',G b=ϑ o'
 own:∀a o dx,G a=ϑ o->ownOf o=ϑ dx->(∃o',H a=ϑ o'/\ownOf o'=ϑ dx)\/∃o',G dx=ϑ o'
theorem aU:bootBuiltins "len"= some (.builtin "len"):=PySem.boot_len
theorem ip:bootBuiltins "all"= some (.builtin "all"):=boot_all
theorem RO:bootBuiltins "any"= some (.builtin "any"):=boot_any
theorem ag:bootBuiltins "isinstance"= some (.builtin "isinstance"):=boot_isinstance
theorem gO:bootBuiltins "int"= some (.type "int"):=PyProof.Rows.boot_int
theorem NA:bootBuiltins "bool"= some (.type "bool"):=PyProof.Rows.boot_bool
theorem iq:bootBuiltins "str"= some (.type "str"):=PyProof.Rows.boot_str
theorem bj:bootBuiltins "tuple"= some (.type "tuple"):=PyProof.Rows.boot_tuple
theorem s_:bootBuiltins "list"= some (.type "list"):=PyProof.Rows.boot_list
theorem FF:bootBuiltins "dict"= some (.type "dict"):=PyProof.Rows.boot_dict
theorem RP:bootBuiltins "set"= some (.type "set"):=PyProof.Rows.boot_set
set_option genInjectivity true in
set_option genSizeOfSpec true in
inductive Kd
 |ao|bl|int|str|lst|tup|eV
 deriving DecidableEq
noncomputable def Kd.name:Kd->String|.ao=>"NoneType" |.bl=>"bool" |.int=>"int" |.str=>"str" |.lst=>"list" |.tup=>"tuple" |.eV=>"dict"
inductive t9 (H:Hp):V->Kd->η
 |ao:t9 H .ao .ao
 |bl (b:χ):t9 H (.bl b) .bl
 |int (i:ν):t9 H (.int i) .int
 |str (x:ρ):t9 H (.str x) .str
 |lst {a:ε}{xs:δ V} (e:H a=ϑ (.lst xs)):t9 H (.ref a) .lst
 |tup {a:ε}{xs:δ V} (e:H a=ϑ (.tup xs)):t9 H (.ref a) .tup
 |eV {a:ε}{kvs:δ<|Key×V} (e:H a=ϑ (.dK kvs)):t9 H (.ref a) .eV
def t9.ty{K:Φ}{H:Hp}{x:V}{k:Kd}(h:t9 H x k):qo K H x (.type k.name):=by cases h with|ao=>show .ao|bl b=>show .bl b|int i=>show .int i|str x=>show .str x|lst e=>show .lst e|tup e=>show .tup e|eV e=>show .dK e
noncomputable def BF(T:String):θ (Kd->χ):=if T ="int" then some λk=>match k with|.int=>true|.bl=>true|_=>false else if T ="bool" then some λk=>match k with|.bl=>true|_=>false else if T ="str" then some λk=>match k with|.str=>true|_=>false else if T ="tuple" then some λk=>match k with|.tup=>true|_=>false else if T ="list" then some λk=>match k with|.lst=>true|_=>false else if T ="dict" then some λk=>match k with|.eV=>true|_=>false else none
set_option tactic.hygienic true in
def JX{K:Φ}{T:String}{g:Kd->χ}(h:BF T=ϑ g)(k:Kd):kitOne K (.type k.name) (.type T)=ϑ (g k):=by unfold BF at h;split at h;rename_i e;subst e;cases h;cases k<;>rfl;split at h;rename_i e;subst e;cases h;cases k<;>rfl;split at h;rename_i e;subst e;cases h;cases k<;>rfl;split at h;rename_i e;subst e;cases h;cases k<;>rfl;split at h;rename_i e;subst e;cases h;cases k<;>rfl;split at h;rename_i e;subst e;cases h;cases k<;>rfl;cases h
section
variable{X:Cx}
def JY:eU X (.builtin "isinstance") (λxs H Q=>∃x T k g,xs=[x,.ty T]/\BF T=ϑ g/\t9 H x k/\Q (.bl<|g k) H):=by intro qg s σ H xs us Q I r h;let⟨x,T,k,g,rfl,hg,hk,q⟩:=h;let⟨v,d,rfl,a,c⟩:=vals2 r;cases c;show Hj I a hk.ty (JX hg k) λtk=>{.bl<|g k,H,I.tok tk,rfl,q}
end
mutual
def Dt(K:Φ)(H:Hp):PyData->V->η|.none,v=>v=.ao|.bool b,v=>v=.bl b|.int i,v=>v=.int i|.str z,v=>v=.str z|.list ds,v=>∃a xs,v=.ref a/\kZ K H a xs/\DtAll K H ds xs|.tuple ds,v=>∃a xs,v=.ref a/\k9 K H a xs/\DtAll K H ds xs|.dict _,_=>False
def DtAll(K:Φ)(H:Hp):δ PyData->δ V->η|[],xs=>xs=[]|d::ds,xs=>∃y ys,xs=y::ys/\Dt K H d y/\DtAll K H ds ys
end
section
variable{X:Cx}{qg:δ (ε×Obj)}{σ:St}{H:Hp}{s:ζ}
mutual
theorem Inv.reads(I:Inv X qg σ H s):∀(d:PyData){x:V}{u:ξ},Dt X.K H d x->RelV x u->∃as,Reads s.heap u d as
 |.none,x,u,h,r=>by
  have h:x=.ao:=by simpa only[Dt]using h
  subst h;cases r;show{_,.none}
 |.bool b,x,u,h,r=>by
  have h:x=.bl b:=by simpa only[Dt]using h
  subst h;cases r;show{_,.bool b}
 |.int i,x,u,h,r=>by
  have h:x=.int i:=by simpa only[Dt]using h
  subst h;let⟨t,rfl⟩:=r;show{_,.int i t}
 |.str z,x,u,h,r=>by
  have h:x=.str z:=by simpa only[Dt]using h
  subst h;let⟨t,rfl⟩:=r;show{_,.str z t}
 |.list ds,x,u,h,r=>by
  have h:∃a xs,x=.ref a/\kZ X.K H a xs/\DtAll X.K H ds xs:=by simpa only[Dt]using h
  let⟨a,xs,rfl,g,hd⟩:=h;cases r;let⟨l,j,p,_⟩:=I.list g;let⟨as,ra⟩:=Inv.readsAll I ds hd j;let⟨o,e,c,n,d⟩:=p.isList;show{_,.list e c d<|by simpa using ra}
 |.tuple ds,x,u,h,r=>by
  have h:∃a xs,x=.ref a/\k9 X.K H a xs/\DtAll X.K H ds xs:=by simpa only[Dt]using h
  let⟨a,xs,rfl,g,hd⟩:=h;cases r;let⟨l,j,p,_⟩:=I.tuple g;let⟨as,ra⟩:=Inv.readsAll I ds hd j;let⟨o,e,c,n,d⟩:=p;show{_,.tuple e c d<|by simpa using ra}
 |.dict _,x,u,h,r=>by
  have h:False:=by simpa only[Dt]using h
  show h.elim
theorem Inv.readsAll(I:Inv X qg σ H s):∀(ds:δ PyData){xs:δ V}{us:δ ξ},DtAll X.K H ds xs->Vals xs us->∃as,ReadsAll s.heap us ds as
 |[],xs,us,h,r=>by
  have h:xs=[]:=by simpa only[DtAll]using h
  subst h;cases r;show{_,.nil}
 |d::ds,xs,us,h,r=>by
  have h:∃y ys,xs=y::ys/\Dt X.K H d y/\DtAll X.K H ds ys:=by simpa only[DtAll]using h
  let⟨y,ys,rfl,h1,h2⟩:=h;cases r with|cons c e=>let⟨as,ra⟩:=Inv.reads I d h1 c;let⟨bs,a⟩:=Inv.readsAll I ds h2 e;show{_,.cons ra a}
end
end
def VW(K:Φ)(a:χ):R2:=λx y H Q=>∃d e,Dt K H d x/\Dt K H e y/\d.canLay0=ϱ/\e.canLay0=ϱ/\(d.depth<=64\/e.depth<=64)/\Q (.bl<|if a then !PyData.eqv d e else PyData.eqv d e) H
section
variable{X:Cx}
def RQ(hu:X.A.units+64<cLine):ji X (compareOp .Eq) (VW X.K false):=by intro qg s σ H x y v u Q I c a h;let⟨d,e,hd,j,cd,i,dp,q⟩:=h;let⟨as,ra⟩:=I.reads d hd c;let⟨bs,g⟩:=I.reads e j a;show SeqAt.compareEq_reads ra g cd i (by rcases dp with dp|dp<;>lia)<|bb I q rfl
def RS(hu:X.A.units+64<cLine):ji X (compareOp .NotEq) (VW X.K true):=by intro qg s σ H x y v u Q I c a h;let⟨d,e,hd,j,cd,i,dp,q⟩:=h;let⟨as,ra⟩:=I.reads d hd c;let⟨bs,g⟩:=I.reads e j a;show SeqAt.compareNe_reads ra g cd i (by rcases dp with dp|dp<;>lia)<|bb I q rfl
end
def mC(a b:π):IY ⟨#[a]⟩ ⟨#[b]⟩=ω (a<=b):=by
 unfold IY;have e:([b]<[a])↔b<a:=by rw[List.cons_lt_cons_iff];constructor;rintro (h|⟨_,h⟩);show h;show absurd h<|List.not_lt_nil _;show .inl
 rw[yB];change(!decide ([b]<[a]))=ϱ↔_;rw[Bool.not_eq_true',decide_eq_false_iff_not,e,decide_eq_true_iff];lia
def chkC(sc:Scope)(a N:δ ρ)(src:δ<|θ π)(scope:Scope):Bool :=
 ω (scope.kind=.function)&&(scope.names.all (λy=>ω (y.2≠.cell)&&(ω (y.2≠.local)||ω (scope.names.lookup y.1=ϑ .local))&&(ω (y.2≠.free)||(ω (sc.names.lookup y.1=ϑ .cell)||ω (sc.names.lookup y.1=ϑ .free)))) &&
  (ω (src.length=N.length)&&(List.range src.length).all λi=>match src[i]?,N[i]? with
   |some (some j),some x=>ω (a[j]?=some x)&&(ω (scope.names.lookup x=ϑ .free)&&(ω (sc.names.lookup x=ϑ .cell)||ω (sc.names.lookup x=ϑ .free)))
   |_,_=>true))
def kT(sc:Scope)(c:δ ρ)(hs:X.env.scope=sc)(hN:X.N=c)(h:chkC sc c N src scope=ϱ):bI X N src scope:=by unfold chkC at h;simp only[zT,yp,yn,Bool.or_eq_true]at h;let⟨h1,h2,g,d⟩:=h;show{h1,λy a=>(h2 y a).1.1,λy a e=>?_,λy a e=>?_,g,λi j x e1 e2=>?_};rcases (h2 y a).1.2 with z|z;show absurd e z;show z;rcases (h2 y a).2 with z|z;show absurd e z;change X.env.scope.names.lookup y.1=ϑ .cell\/X.env.scope.names.lookup y.1=ϑ .free;rw[hs];show z;have hi:i<src.length:=(zu.mp e1).1;have q:=d i<|zV.mpr hi;rw[e1,e2]at q;simp only[zT,yp,Bool.or_eq_true]at q;show{by rw[hN];show q.1,q.2.1,?_};unfold Pn;rw[hs];show .inr q.2.2
def iZ(h0:0<=i)(h1:i<l.length):∃v,tV l i=ϑ v/\l[i.toNat]?=some v:=by
 let⟨j,rfl⟩:=Int.eq_ofNat_of_zero_le h0;have a:j<l.length:=`b
 show{l[j],gY<|by simp[a],by simp[a]}
def bY{c:χ}{A B:η}(h:c=ϱ->A)(h':c=ϰ->B):if c=ϱ then A else B:=by cases c with|true=>show h rfl|false=>show h' rfl
def nt(h:(!b)=ϱ):b=ϰ:=by cases b<;>simp_all
def nf(h:(!b)=ϰ):b=ϱ:=by cases b<;>simp_all
noncomputable def DQ:Kd->χ|.int=>true|.bl=>true|_=>false
noncomputable def x5:Kd->χ|.bl=>true|_=>false
noncomputable def DR:Kd->χ|.str=>true|_=>false
noncomputable def t_:Kd->χ|.tup=>true|_=>false
theorem NB:BF "int"= some DQ:=qe rfl
theorem JZ:BF "bool"= some x5:=(qb<|`a).trans<|qe rfl
theorem dw:BF "str"= some DR:=(qb<|`a).trans<|(qb<|`a).trans<|qe rfl
theorem aV:BF "tuple"= some t_:=(qb<|`a).trans<|(qb<|`a).trans<|(qb<|`a).trans<|qe rfl
def len_pos{z:ρ}(h:1<=z.cps.size):∃c r,z.cps.toList=c::r:=by cases e:z.cps.toList with|nil=>have:z.cps.toList.length=0:=(by rw[e];rfl);rw[yi]at this;lia|cons c r=>show⟨c,r,rfl⟩
def tj(e:l=c::r):tV l 0=ϑ c:=by
 have:l[0]?=some c:=by rw[e];rfl
 show gY (j:=0) this
def isPlain:Δ->χ|.Starred _ _=>false|_=>true
def DU(h:isPlain e=ϱ):starEach (e::es) env=(false,eval e env)::starEach es env:=by cases e<;>first|rfl|show absurd h zd
theorem pa2{t:TA}(ha:PE X e te)(hr:PA X es t)(a:ψ (isPlain e=ϱ) qQJ):PA X (e::es) (Py te t):=Nh ha hr<|DU a
end L2
namespace HT
open PySem PyProof.Rows
open PySem.SeqAt
open PySem.AutoSeq1 (wpAny_loadPart')
open PySem.MeetsSeq PySem.MeetsSeq2 PySem.MeetsSeq3
end HT
namespace L2
open PySem PySem.Spec PyProof.Rows
def IZ(c:ξ)(e:ε)(h:Γ):Prop:=∃o vs,h.get? e=ϑ o/\o.data=.fields vs/\vs[2]?=some c
section
variable{M:Model}{A:ϕ}{E:ξ->ζ->η}{s:ζ}{base:Γ}{env:Env}{outer:δ Env}{L e:ε}{a0 c fl:ξ}
def VX(J:A.frames=ϑ (env::outer))(hl:s.heap.FunFrames base<|env::outer)(F:env.frame=ϑ L) (l:s.heap.get? e=ϑ oe) (H:base.StaysIn s.heap) (C:base.get? e=ϐ) (hd:oe.data=.fields vs) (h0:vs[0]?=some a0) (h2:vs[2]?=some c) (h:∀h',Heap.NotedW base (env::outer) e oe.cls a0 (rawInt L) s.heap h'->IZ c e h'->Q () {s with heap:=h'}): wpAny M A (do let x <-frameOf env;let y <-entryPlaceOf L nx;let z <-EntryCells.newEntry head x .none (rawInt L) .none y;setField (.ref e) 1 z) Q E s:=by
 have a:1<vs.size:=by have:=(Array.getElem?_eq_some_iff.mp h2).1;lia
 have p:e∉(env::outer).filterMap (·.frame):=λm=>by let⟨_,o,q,n⟩:=hl.mem m;rw[l]at q;cases q;show n vs hd
 show za<|wpAny_frameOf_fun J hl F λg i=>?_;show za<|wpAny_entryPlaceOf λj t=>?_;unfold EntryCells.newEntry newFields;show za<|yg ?_<|t.sizeOk5 _ _ _ _ _;have w:g.get? e=ϑ oe:=(i.2.1 e p).trans l;have B:base.StaysIn g:=λb o q=>(i.2.1 b λm=>by rw[(hl.mem m).1]at q;cases q).trans<|H b o q;have v:((([head,.ref L,.none,rawInt L,.none]++(if j.isEmpty then List.replicate 6 Value.none else j)).toArray:Array ξ))[3]?=some (rawInt L):=by rcases t with rfl|⟨_,_,_,_,_,_,_,rfl⟩<;>simp
 generalize G:(([head,.ref L,.none,rawInt L,.none]++(if j.isEmpty then List.replicate 6 Value.none else j)).toArray:Array ξ)=ts at v;have g2:=zb (h:=g) {cls:=.type "traceback",dict:=none,data:=.fields ts} w;show yP g2 hd a<|h _ ?_ ?_;have ne:g.objs.size≠e:=yj<|zy w;have d:=yw hd (·.setIfInBounds 1 (Value.ref g.objs.size));have e3:=yr (Obj.mapFields (·.setIfInBounds 1 (Value.ref g.objs.size))) g2<|Obj.isFreed_of_fields d;have I:=(ym (g.push {cls:=.type "traceback",dict:=none,data:=.fields ts}) (Obj.mapFields (·.setIfInBounds 1 (Value.ref g.objs.size)))<|Ne.symm ne).trans<|zr g rfl;have keep:∀b o,b≠e->g.get? b=ϑ o->((g.push {cls:=.type "traceback",dict:=none,data:=.fields ts}).update e (Obj.mapFields (·.setIfInBounds 1 (Value.ref g.objs.size)))).get? b=ϑ o:=λb o n q=>by rw[ym _ _<|Ne.symm n];show zb _ q
 have r:∀b o,s.heap.get? b=ϑ o->(∀vs,o.data≠.fields vs)->b≠e:=λb o q n z=>by rw[z,l]at q;cases q;show n vs hd
 show{λb o q=>keep b o (λz=>by rw[z,C]at q;cases q)<|B b o q,hl.of_keeps λb o q n=>?_,?_,λb o q n=>?_};let⟨sl,z⟩:=i.2.2 b o q;show{_,keep b _ (r b o q n) z,rfl};show{_,_,g.objs.size,_,_,e3,{Obj.cls_mapFields _ _,by rw[Array.getElem?_setIfInBounds_ne<|`a];show h0},d,by simp[a],B.fresh,ne,I,rfl,v};let⟨sl,z⟩:=i.2.2 b o q;show{sl,keep b _ (r b o q n) z};have d:=yw hd (·.setIfInBounds 1 (Value.ref g.objs.size));show{_,_,yr (Obj.mapFields (·.setIfInBounds 1 (Value.ref g.objs.size))) g2<|Obj.isFreed_of_fields d,d,by rw[Array.getElem?_setIfInBounds_ne<|`a];show h2}
def setC(B:base.StaysIn s.heap)(v:base.get? e=ϐ)(hl:s.heap.FunFrames base l)(C:s.heap.TracedAtW base e cls a0 fl)(hc:IZ c e s.heap) (h:∀h',Heap.FlyingW base l e cls a0 h'->s.heap.UpToSlots h'->IZ c e h'->Q () {s with heap:=h'}):wpAny M A (setFlight (.ref e) none) Q E s:=by
 let⟨o,vs,T,G,ts,q,hk,hd,r,p,ne,g,dT,F⟩:=C;let⟨o',y,m,t,x⟩:=hc;rw[q]at m;cases m;rw[hd]at t;cases t;have a:3<ts.size:=(Array.getElem?_eq_some_iff.mp F).1;have d:∀b,b≠T->(s.heap.update T (Obj.mapFields (·.setIfInBounds 3 ((none:θ ε).elim Value.none λf=>rawInt f)))).get? b=s.heap.get? b:=λb n=>ym _ _<|Ne.symm n;have i:∀b o,s.heap.get? b=ϑ o->(∀vs,o.data≠.fields vs)->b≠T:=λb o z n w=>by rw[w,g]at z;cases z;show n ts dT
 have j:=(d e<|Ne.symm ne).trans q;unfold setFlight;show za<|ya q hd r ?_;rw[qe<|show(Value.ref T != Value.none)=ϱ by simp];show yP g dT a<|h _ {λb o z=>(d b λw=>by rw[w,p]at z;cases z).trans<|B b o z,v,hl.of_keeps λb o z n=>{o,(d b<|i b o z n).trans z,rfl},?_} (λb o z n=>{o.slots,(d b<|i b o z n).trans z}) ⟨o,vs,j,hd,x⟩;show{o,vs,T,_,_,j,hk,hd,r,p,ne,yr _ g<|Obj.isFreed_of_fields<|yw dT _,yw dT _,by simp[a]}
def VY(N:A.frames=ϑ (env::outer))(g:env.frame=ϑ L)(r:base.StaysIn s.heap)(d:base.get? e=ϐ)(hl:s.heap.FunFrames base<|env::outer)(i:s.heap.TracedAtW base e cls a0 fl)(hc:IZ c e s.heap) (h:∀h',Heap.HeldW base (env::outer) e cls a0 L h'->s.heap.UpToSlots h'->IZ c e h'->Q () {s with heap:=h'}):wpAny M A (noteFrame (.ref e) env) Q E s:=by
 by_cases p:fl=rawInt L;subst p;show wpAny_noteFrame_againW g i<|h s.heap ⟨r,d,hl,i⟩ (.refl _) hc;let⟨o,vs,T,O,ts,q,⟨hk,h0⟩,hd,K,G,ne,j,dT,v⟩:=i;let⟨o',C,m,t,I⟩:=hc;rw[q]at m;cases m;rw[hd]at t;cases t;subst hk;have a:∀b,b≠T->(s.heap.update T (Obj.mapFields (·.setIfInBounds 3 Value.none))).get? b=s.heap.get? b:=λb n=>ym _ _<|Ne.symm n;have l:∀b o,s.heap.get? b=ϑ o->(∀vs,o.data≠.fields vs)->b≠T:=λb o z n w=>by rw[w,j]at z;cases z;show n ts dT
 unfold noteFrame;simp only[g];show za<|ya q hd K ?_;rw[qe<|show(Value.ref T != Value.none)=ϱ by simp];show za<|ya j dT v ?_;rw[qb<|show ¬((fl==rawInt L)=ϱ) by simpa using p];show za<|yP j dT (Array.getElem?_eq_some_iff.mp v).1 ?_;show VX N (hl.of_keeps λb o z n=>{o,(a b<|l b o z n).trans z,rfl}) g ((a e<|Ne.symm ne).trans q) (λb o z=>(a b λw=>by rw[w,G]at z;cases z).trans<|r b o z) d hd h0 I λh' x y=>?_;let⟨B,H,J,F⟩:=x;show h h' ⟨B,d,H,J⟩ (λb o z n=>F b o ((a b<|l b o z n).trans z) n) y
def RT(o:A.frames=ϑ (env::outer))(d:env.frame=ϑ L)(n:base.StaysIn s.heap)(a:base.get? e=ϐ)(hl:s.heap.FunFrames base<|env::outer) (g:s.heap.get? e=ϑ oe) (hd:oe.data=.fields vs) (h0:vs[0]?=some a0) (h1:vs[1]?=some .none) (h2:vs[2]?=some c) (h:∀h',Heap.HeldW base (env::outer) e oe.cls a0 L h'->s.heap.UpToSlots h'->IZ c e h'->Q () {s with heap:=h'}):wpAny M A (noteFrame (.ref e) env) Q E s:=by unfold noteFrame;simp only[d];show za<|ya g hd h1 ?_;rw[qb<|`a];show VX o hl d g n a hd h0 h2 λh' x y=>?_;let⟨i,j,m,l⟩:=x;show h h' ⟨i,a,j,m⟩ l y
def RU(r:A.frames=ϑ (env::outer))(n:env.frame=ϑ L)(p:base.StaysIn s.heap)(j:base.get? e=ϐ)(hl:s.heap.FunFrames base<|env::outer)(q:s.heap.TracedAtW base e cls a0 fl)(hc:IZ c e s.heap) (h:∀h',Heap.FlyingW base outer e cls a0 h'->s.heap.UpToSlots h'->IZ c e h'->Q () {s with heap:=h'}):wpAny M A (leaving env<|.ref e) Q E s:=by unfold leaving;show za<|VY r n p j hl q hc λh' x u y=>?_;let⟨a,d,o,m⟩:=x;show setC a d o m y λh2 z g t=>?_;let⟨z1,z2,⟨_,_,l⟩,i⟩:=z;show h h2 ⟨z1,z2,l,i⟩ (u.trans g) t
def ND(r:A.frames=ϑ (env::outer))(n:env.frame=ϑ L)(p:base.StaysIn s.heap)(j:base.get? e=ϐ)(hl:s.heap.FunFrames base<|env::outer) (q:s.heap.get? e=ϑ oe) (hd:oe.data=.fields vs) (h0:vs[0]?=some a0) (h1:vs[1]?=some .none) (h2:vs[2]?=some c) (h:∀h',Heap.FlyingW base outer e oe.cls a0 h'->s.heap.UpToSlots h'->IZ c e h'->Q () {s with heap:=h'}):wpAny M A (leaving env<|.ref e) Q E s:=by unfold leaving;show za<|RT r n p j hl q hd h0 h1 h2 λh' x u y=>?_;let⟨a,d,o,m⟩:=x;show setC a d o m y λh2 z g t=>?_;let⟨z1,z2,⟨_,_,l⟩,i⟩:=z;show h h2 ⟨z1,z2,l,i⟩ (u.trans g) t
end
def bM.get(x:bM P w H h a o):∃u,h.get? a=ϑ u:=by cases o with|lst xs=>(let⟨_,_,_,_,e⟩:=x;show{_,e})|tup xs=>(let⟨_,_,_,c,e,_⟩:=x;show{_,e})|dK kvs=>(let⟨_,_,_,_,o,_,_,e,_⟩:=x;show{_,e})|dT kvs=>show False.elim x|set S n=>(let⟨o,_,_,_,e,_⟩:=x;show{_,e})|ins C dx fs=>(let⟨_,_,_,e,_⟩:=x;show{_,e})|own y=>(let⟨_,e⟩:=x;show{_,e})|xd fs=>(let⟨_,⟨_,_,_,e,_⟩,_⟩:=x;show{_,e})|Yx lo hi=>(let⟨_,_,_,e⟩:=x;show{_,e})|ng c u=>(let⟨e,_⟩:=x;show{_,e})|sS ps=>show{_,show h.get? a=ϑ _ from x}|met f y=>show{_,show h.get? a=ϑ _ from x}|ext φ=>let⟨_,e,_⟩:=x;show e
structure ua(P:Ψ)(w:Ω)(mg:ρ->θ ξ)(outer:δ Env)(H H':Hp)(h0:Γ)(a:ε)(cls a0:ξ)(B h:Γ):η where
 fl:Heap.FlyingW B outer a cls a0 h
 aT:mR P w H' B
 keep:∀b o,h0.get? b=ϑ o->H b=ϐ->b∉lj outer->B.get? b=ϑ o
 there:∀b o,h0.get? b=ϑ o->b∉lj outer->∃o',B.get? b=ϑ o'
 slot:∀b o,h0.get? b=ϑ o->b∈lj outer->∃sl,h.get? b=ϑ {o with slots:=sl}
 free:∀b o,h0.get? b=ϑ o->H b=ϐ->H' b=ϐ
 ie:∀b xs,H b=ϑ (.tup xs)->H' b=ϑ (.tup xs)
 gB:∀b o u,H b=ϑ (.ng o u)->H' b=ϑ (.ng o u)
 ig:∀b ps,H b=ϑ (.sS ps)->∃more,H' b=ϑ (.sS<|ps++more)
 cx:IZ .none a h\/mg "NoMark"= some cls
section
variable{P:Ψ}{w:Ω}{mg:ρ->θ ξ}{outer:δ Env}{H H':Hp}{h0:Γ}{a:ε}{cls a0:ξ}{B h h2:Γ}
theorem ua.un(F:ua P w mg outer H H' h0 a cls a0 B h):Un (lj outer) [] H H' h0 h where
 keep:=λb o e n hf z=>F.fl.1 b o<|F.keep b o e n hf
 slot:=λb o e z hf z=>F.slot b o e hf
 free:=λb o e n z=>F.free b o e n
 there:=λb o e z=>by
  by_cases hf:b∈lj outer
  ·let⟨sl,q⟩:=F.slot b o e hf;show{_,q}
  ·let⟨o',q⟩:=F.there b o e hf;show{o',F.fl.1 b o' q}
 ie:=F.ie
 gB:=F.gB
 ig:=F.ig
theorem ua.aaS(F:ua P w mg outer H H' h0 a cls a0 B h):mR P w H' h:=F.aT.kept F.fl.1
def ua.hn(F:ua P w mg outer H H' h0 a cls a0 B h):H' a=ϐ:=by cases q:H' a with|none=>rfl|some o=>let⟨u,e⟩:=(F.aT a o q).get;rw[F.fl.2.1]at e;cases e
theorem ua.loose(F:ua P w mg outer H H' h0 a cls a0 B h):ua P w (λz=>some cls) outer H H' h0 a cls a0 B h:={F.fl,F.aT,F.keep,F.there,F.slot,F.free,F.ie,F.gB,F.ig,.inr rfl}
theorem ua.on(F:ua P w mg outer H H' h0 a cls a0 B h)(f2:Heap.FlyingW B outer a cls a0 h2)(u2:h.UpToSlots h2)(c2:IZ .none a h2\/mg "NoMark"= some cls):ua P w mg outer H H' h0 a cls a0 B h2 where
 cx:=c2
 fl:=f2
 aT:=F.aT
 keep:=F.keep
 there:=F.there
 slot:=λb o e hf=>by
  let⟨sl,q⟩:=F.slot b o e hf
  let⟨_,o1,q1,hd⟩:=F.fl.2.2.1.mem hf
  let⟨Bx,q2⟩:=u2 b o1 q1 hd
  rw[q]at q1;cases q1
  show⟨Bx,q2⟩
 free:=F.free
 ie:=F.ie
 gB:=F.gB
 ig:=F.ig
end
def fh(P:Ψ)(w:Ω)(mg:ρ->θ ξ):DF:=λouter H s E e s'=>∃a cls a0 B H',e=.ref a/\s'.os=s.os/\AllBare s'.gens/\ua P w mg outer H H' s.heap a cls a0 B s'.heap/\E cls none H'
structure dP(X:Cx)(E:XK):η where
 ex:X.ex=[]
 st:X.stack=X.env::X.outer
 fr:X.env.frame=ϑ X.env.locals
 xe:∀e s',wpAny `m X.A (leaving X.env e) (λz xR=>fh X.prog X.w X.mg X.outer X.nL X.du E e xR) (λe' xR=>fh X.prog X.w X.mg X.outer X.nL X.du E e' xR) s'->X.xe e s'
theorem qw{P:Ψ}{w:Ω}{K:Φ}{mg:ρ->θ ξ}{base:Γ}{N:δ ρ}{qual:ρ}{scope:Scope}{f:ε}{cd:ξ}{A:ϕ}{outer:δ Env}{s:ζ}{H:Hp}{E:XK} : dP (ij (fh P w mg) P w K mg base N qual scope f cd A outer s H E) E:={rfl,rfl,rfl,λz z h=>h}
section
variable{X:Cx}{qg:δ (ε×Obj)}{σ:St}{H H':Hp}{s:ζ}{E E':XK}
def dP.mem(L:dP X E):b∈lj X.stack↔b=X.env.locals\/b∈X.fs:=by unfold Cx.fs lj;rw[L.st,List.filterMap_cons,L.fr];show ze
theorem dP.G9(L:dP X E)(I:Inv X qg σ H s)(e:X.du.heap.get? b=ϑ o)(h:b∉X.fs):b∉lj X.stack:=λz=>by rcases L.mem.mp z with z|z;have:=zy e;have h2:=I.ok.above;rw[z]at this;show absurd (zq this h2)<|yx _;show h z
theorem dP.fly(L:dP X E)(I:Inv X qg σ H s)(F:ua X.prog X.w X.mg X.stack H H' s.heap a cls a0 B h)(f2:Heap.FlyingW B X.outer a cls a0 h2)(u2:h.UpToSlots h2)(c2:IZ .none a h2\/X.mg "NoMark"= some cls):
  ua X.prog X.w X.mg X.outer X.nL H' X.du.heap a cls a0 B h2 where
 cx:=c2
 fl:=f2
 aT:=F.aT
 keep:=λb o e n hf=>F.keep b o (I.base.keep b o e n hf<|by rw[L.ex];simp) (I.base.free b o e n<|by rw[L.ex];simp)<|L.G9 I e hf
 there:=λb o e hf=>by
  let⟨o',q⟩:=I.base.there b o e<|by rw[L.ex];simp
  show F.there b o' q<|L.G9 I e hf
 slot:=λb o e hf=>by
  let⟨sl,q⟩:=I.base.slot b o e (I.ok.IT b hf) hf<|by rw[L.ex];simp
  let⟨sl1,q1⟩:=F.slot b _ q<|L.mem.mpr<|.inr hf
  let⟨_,o2,q2,hd⟩:=F.fl.2.2.1.mem<|L.mem.mpr<|.inr hf
  let⟨Bx,q3⟩:=u2 b o2 q2 hd
  rw[q1]at q2;cases q2
  show⟨Bx,q3⟩
 free:=λb o e n=>by
  let⟨o',q⟩:=I.base.there b o e<|by rw[L.ex];simp
  show F.free b o' q<|I.base.free b o e n<|by rw[L.ex];simp
 ie:=λb xs e=>F.ie b xs<|I.base.ie b xs e
 gB:=λb o u e=>F.gB b o u<|I.base.gB b o u e
 ig:=λb ps e=>by
  let⟨m1,q1⟩:=I.base.ig b ps e
  let⟨m2,q2⟩:=F.ig b _ q1
  show{m1++m2,by rw[q2,Array.append_assoc]}
theorem VZ(L:dP X E)(j:∀c d H',E' c d H'->E c d H'):Passes (fh X.prog X.w X.mg) X E':=λqg σ H s e s' I h=>by
 let⟨a,cls,a0,B,H',rfl,os,bare,F,q⟩:=h;show L.xe _ _ ?_;have l:X.A.frames=ϑ (X.env::X.outer):=by rw[I.ok.frames,L.st]
 have fl:Heap.FlyingW B (X.env::X.outer) a cls a0 s'.heap:=by rw[<-L.st];show F.fl
 rcases F.cx with hc|hc;let⟨n,g,m,p⟩:=fl;show RU l L.fr n g m p.at hc λh2 g i o=>{a,cls,a0,B,H',rfl,os.trans I.os,bare,L.fly I F g i<|.inl o,j _ _ _ q};show wpAny_leaves_onW l L.fr fl λh2 g i=>{a,cls,a0,B,H',rfl,os.trans I.os,bare,L.fly I F g i<|.inr hc,j _ _ _ q}
theorem RV(I:Inv X qg σ H s):mR X.prog X.w H (hideAll s.heap<|lj X.stack):=λa o e=>(I.aT a o e).oI (λb u c q=>hideAll_get _ q λz=>by have n:=I.sU b z;rcases c with rfl|c;rw[e]at n;cases n;rw[c]at n;cases n) (λx q=>q) λx x q=>q
def DV(L:dP X E)(I:Inv X qg σ H s)(hk:∀b o,s.heap.get? b=ϑ o->h'.get? b=ϑ o)(hn:s.heap.get? a=ϐ)(i:h'.get? a=ϑ oe)(hd:oe.data=.fields vs) (h0:vs[0]?=some a0) (h1:vs[1]?=some .none) (h2:vs[2]?=some c) (hc:c=.none\/X.mg "NoMark"= some oe.cls) (p:E oe.cls none H):X.xe (.ref a) {s with heap:=h'}:=by
 show L.xe _ _ ?_;have x:X.A.frames=ϑ (X.env::X.outer):=by rw[I.ok.frames,L.st]
 have m:∀env∈X.stack,∀b,env.frame=ϑ b->b∈lj X.stack:=λenv i b h=>List.mem_filterMap.mpr ⟨env,i,h⟩;have v:s.heap.FunFrames (hideAll s.heap<|lj X.stack) (X.env::X.outer):=by rw[<-L.st];show PySem.W.funFrames_hide I.stack m
 have h:(hideAll s.heap<|lj X.stack).get? a=ϐ:=by cases z:(hideAll s.heap<|lj X.stack).get? a with|none=>rfl|some o=>have:=of_hideAll _ z;rw[hn]at this;cases this
 show ND (base:=hideAll s.heap<|lj X.stack) x L.fr (λb o q=>hk b o<|of_hideAll _ q) h (v.of_keeps λb o q u=>{o,hk b o q,rfl}) i hd h0 h1 h2 λh2 j l t=>?_;show{a,oe.cls,a0,_,H,rfl,I.os,I.bare,{j,RV I,λb o e n d=>?_,λb o e d=>?_,λb o e d=>?_,λb o e n=>I.base.free b o e n<|by rw[L.ex];simp,I.base.ie,I.base.gB,I.base.ig,?_},p};show hideAll_get _ (I.base.keep b o e n d<|by rw[L.ex];simp)<|L.G9 I e d;let⟨o',q⟩:=I.base.there b o e (by rw[L.ex];simp);show{o',hideAll_get _ q<|L.G9 I e d};let⟨sl,q⟩:=I.base.slot b o e (I.ok.IT b d) d (by rw[L.ex];simp);let⟨_,r,g,hd⟩:=I.lq.mem d;let⟨y,w⟩:=l b r (hk _ _ g) hd;rw[q]at g;cases g;show⟨y,w⟩;rcases hc with rfl|hc;show .inl t;show .inr hc
def i0(L:dP X E)(I:Inv X qg σ H s)(hx:Heap.MadeExcOf s.heap h' a cls args)(c:E cls none H):X.xe (.ref a) {s with heap:=h'}:=by let⟨t,d,_,_⟩:=hx.there;show DV L I (λb o q=>hx.keeps b o q) hx.new d rfl rfl rfl rfl (.inl rfl) c
end
abbrev nM:δ Value:=[.type "ValueError",.type "Exception",.type "BaseException",.type "object"]
structure XC(K:Φ)(C:ε):η where
 q:excIn K C nM "ValueError.__new__"= true
def ub(h:Γ)(C:ε)(bm:δ ξ):Prop:=∃N nm q bs hdct sn sub ab col dd k0 k1 k2 k3 k5 mN,h.get? C=ϑ (excClassObj nm q C N bs bm hdct sn sub ab col dd k0 k1 k2 k3 k5 "ValueError.__new__")/\h.Ns N mN/\mN "__init__"= none/\OwnTail h nM bm
theorem Dj{p:η}(q:false=ϱ):p:=nomatch q
def exv(x)(y)(A)(q:PySem.W.excIn.match_1 (λz z=>χ) x y A (λz z=>false)=ϱ):∃a bm k0 k1 k2 k3 n k5,x=.ref a::bm/\y=[k0,k1,k2,k3,some<|.builtin n,k5]/\A a bm k0 k1 k2 k3 n k5=ϱ:=by rcases x with _|⟨u,b⟩;show Dj q;cases u with|ref a=>(rcases y with _|⟨k0,_|⟨k1,_|⟨k2,_|⟨k3,_|⟨_|v,l⟩⟩⟩⟩⟩;(iterate 6 show Dj q);cases v with|builtin n=>(rcases l with _|⟨k5,_|⟨_,_⟩⟩;show Dj q;show{_,_,_,_,_,_,_,_,rfl,rfl,q};show Dj q)|_=>show Dj q)|_=>show Dj q
def exw(o)(A)(q:PySem.W.excIn.match_6 (λz=>χ) o A (λz=>false)=ϱ):∃c d l,o=ϑ {.type "type",c,.cls d,l}/\A c d l=ϱ:=by rcases o with _|⟨u,d,y,l⟩;show Dj q;cases u with|type s=>(by_cases e:s ="type";rotate_left;unfold PySem.W.excIn.match_6 at q;have q:dite (s ="type") _ _=ϱ:=q;rw[dif_neg e]at q;show Dj q;subst e;cases y with|cls cd=>show{_,_,_,rfl,q}|_=>show Dj q)|_=>show Dj q
def XC.at{K:Φ}{C:ε}{h:Γ}(x:XC K C)(X:K.In h):∃bm,ub h C bm:=by have q:=x.q;unfold excIn at q;let⟨r,cd,sl,ho,q⟩:=exw _ _ q;let⟨s,a,k0,k1,k2,k3,n,k5,hm,hs,q⟩:=exv _ _ _ q;simp only[zT,beq_iff_eq,Bool.not_eq_true']at q;let⟨⟨⟨⟨⟨p,m⟩,c⟩,i⟩,aT⟩,d⟩:=q;subst p;subst m;let⟨o,bs,l,ns,e,hd,g,sub,j,col,del⟩:=cd;dsimp only at hm c aT d;subst hm;subst c;let⟨sl⟩:=sl;dsimp only at hs;subst hs;show{a,ns,o,e,bs,hd,g,sub,j,col,r,k0,k1,k2,k3,k5,_,X _ _ ho,.of_isNs<|PySem.W.isNs_of_in X aT,PySem.W.nsMap_none_of_in X aT d,PySem.W.tail_of_in X i}
def ub.base(x:ub h C bm):bm.contains (.type "BaseException")=ϱ:=by let⟨_,_,_,_,_,_,_,_,_,_,_,_,_,_,_,_,_,_,_,T⟩:=x;show T.hasType<|`a
section
variable{C D:ε}{bmD:δ ξ}{E:XK}
def BH{M:Model}{A:ϕ}{E:ξ->ζ->η}{h:Γ}{g:Array GenState}{d:Drawn}{tk:π}{os:OsState}{a:ε}{i:Obj}{b:χ}{Q:χ->ζ->η}(L:Looks M h (isSubtype (.ref C)<|.ref D) b)(l:ub h D bmD) (G:h.get? a=ϑ i) (p:i.cls=.ref C) (m:Q b ⟨h,g,d,tk,os⟩):wpAny M A (excMatches (.ref a)<|.ref D) Q E ⟨h,g,d,tk,os⟩:=by
 have c:=l.base;let⟨H,n,I,q,z,B,o,w,y,J,v,x,r,s,t,F,j,_,_,_⟩:=l;have e:(Value.ref D::bmD).contains (.type "BaseException")=ϱ:=by rw[List.contains_cons,c,Bool.or_true]
 have f:=tc_notTuple;unfold excMatches;repeat (first|(with_reducible show wpAny_loadPart_at G ?_;rw[p])|with_reducible show wpAny_loadPart_at j ?_|with_reducible show L.at ?_|(with_reducible show wpAny_isSubtype_exc j ?_;rw[e])|wp_step)
 cases b<;>(wp_walk;show m)
end
def vV(a:ε)(cls:ξ):HO:=.ext λh=>∃o vs,h.get? a=ϑ o/\o.cls=cls/\o.data=.fields vs
section
variable{P:Ψ}{w:Ω}{mg:ρ->θ ξ}{outer:δ Env}{H H':Hp}{h0:Γ}{a:ε}{cls a0:ξ}{B h:Γ}
def ua.fresh(F:ua P w mg outer H H' h0 a cls a0 B h)(e:h0.get? b=ϑ o):b≠a:=by rintro rfl;by_cases d:b∈lj outer;let⟨_,o1,i,hd⟩:=F.fl.2.2.1.mem d;let⟨j,vs,g,_,c,_⟩:=F.fl.first;rw[i]at g;cases g;show hd vs c;let⟨o',q⟩:=F.there b o e d;rw[F.fl.2.1]at q;cases q
theorem ua.unT(F:ua P w mg outer H H' h0 a cls a0 B h):Un (lj outer) [] H (upd H' a u) h0 h where
 keep:=F.un.keep
 slot:=F.un.slot
 free:=λb o e n x=>by rw[ay<|F.fresh e];show F.un.free b o e n x
 there:=F.un.there
 ie:=λb xs e=>by
  have q:=F.ie b xs e
  rw[ay<|aD q F.hn];show q
 gB:=λb o xs e=>by
  have q:=F.gB b o xs e
  rw[ay<|aD q F.hn];show q
 ig:=λb ps e=>by
  let⟨m,q⟩:=F.ig b ps e
  show{m,by rw[ay<|aD q F.hn];show q}
theorem ua.V1(F:ua P w mg outer H H' h0 a cls a0 B h):mR P w (upd H' a<|vV a cls) h:=λb u e=>by by_cases g:b=a;subst g;rw[aR]at e;cases e;let⟨d,vs,i,hc,hd,_⟩:=F.fl.first;show{⟨d,vs,i,hc,hd⟩,⟨d,i⟩,by rintro h1 h2 ⟨o,vs,q,r⟩ k;show{o,vs,k o q,r}};rw[ay g]at e;show(F.aaS b u e).oI (λz z z q=>q) (λc q=>by rw[ay<|aD q F.hn];show q) λc xs q=>by rw[ay<|aD q F.hn];show q
end
def XE(X:Cx)(qg:δ<|ε×Obj)(E:St->XK)(e:ξ)(s':ζ):Prop:=∃aX H1 s1,Inv X qg aX H1 s1/\fh X.prog X.w X.mg X.stack H1 s1 (E aX) e s'
abbrev TX:=(St->XK)->TS
def V2(X:Cx)(st:δ Stmt)(t:TX):Prop:=∀(qg:δ (ε×Obj))(s:ζ)(σ:St)(H:Hp)(D:Ends)(E:St->XK),Inv X qg σ H s->t E D σ H->wpAny `m X.A (execs st X.env) (SP X qg D) (XE X qg E) s
noncomputable abbrev Cx.lE(X:Cx)(a:ε):Cx:={X with A:=X.A.mark<|some<|.ref a,calm:=false,xe:=λz z=>False}
section
variable{X:Cx}{qg:δ (ε×Obj)}{σ:St}{H:Hp}{s:ζ}
theorem Cx.Ok.lE(ok:X.Ok)(a:ε):(X.lE a).Ok:={ok.mod,ok.kind,ok.glob,ok.blt,ok.above,ok.inj,ok.has,ok.QJ,λz=>(nomatch (show false=ϱ from z)),ok.frames,ok.QK,ok.Dj,ok.bs,ok.Fl,ok.Dk,ok.G8,ok.lq,ok.IT}
theorem Inv.lE(I:Inv X qg σ H s)(a:ε):Inv (X.lE a) qg σ H s:={I.ok.lE a,I.os,I.bare,I.base,I.loc,I.cell,I.free,I.eP,I.pin,I.aT,I.len}
theorem Inv.x6(I:Inv (X.lE a) qg σ H s)(ok:X.Ok):Inv X qg σ H s:=⟨ok,I.os,I.bare,I.base,I.loc,I.cell,I.free,I.eP,I.pin,I.aT,I.len⟩
def name_goes(I:Inv X qg σ H s)(hN:X.N.Nodup)(hi:X.N[i]?=some n)(hx:X.env.scope.names.lookup n=ϑ .local) (h:∀s',Inv X qg (σ.set i none) H s'->Q () s'):wpAny M A (do bindName X.env n .none;unbindBehindTheSuite X.env n pos) Q E s:=by
 let⟨m,hn,hl⟩:=id I.loc;have F:(X.env.scope.kind==.class||(X.env.scope.kind==.module&&X.env.locals != X.env.globals))=ϰ:=by rw[I.ok.kind];rfl
 have B:i<σ.length:=by rw[I.len];show(zu.mp hi).1
 have a:∀b o,X.du.heap.get? b=ϑ o->b≠X.env.locals:=λb o e=>zC<|zq (zy e) I.ok.above;show wpAny_nameGoes_keeps hx hn F λh' v w hs=>h _ ?_;show{I.ok,I.os,I.bare,{λb o e n g hx=>(hs.2 b<|a b o e).trans<|I.base.keep b o e n g hx,λb o e n g hx=>?_,I.base.free,λb o e hx=>?_,I.base.ie,I.base.gB,I.base.ig},{_,w,λj y J e1 e2 e3=>?_},λy c e=>?_,I.free,I.eP,λp C=>?_,λb K e=>?_,by simpa using I.len};let⟨sl,e1⟩:=I.base.slot b o e n g hx;show{sl,(hs.2 b<|a b o e).trans e1};let⟨o',e1⟩:=I.base.there b o e hx;show{o',(hs.2 b<|a b o e).trans e1};have l:j≠i:=by rintro rfl;rw[List.getElem?_set_self B]at e2;cases e2
 rw[List.getElem?_set_ne<|Ne.symm l]at e2;let⟨r,x,q⟩:=hl j y J e1 e2 e3;show{r,x,?_};have G:y≠n:=λe=>l<|tK hN e1<|e ▸ hi;rcases q with⟨k,e⟩|⟨k,c,e,z⟩;show .inl {k,by change(if y=n then v else m y)=ϑ r;rw[qb G];show e};show .inr {k,c,e,z.sameBut hs<|I.MX y c e};let⟨t,z⟩:=I.cell y c e;show{t,z.sameBut hs<|I.MX y c e};let⟨e,n,ne,nf,d⟩:=I.pin p C;show{(hs.2 p.1 ne).trans e,n,ne,nf,d};show(I.aT b K e).oI (λc t hc q=>(hs.2 c ?_).trans q) (λu q=>q) λu u q=>q;rintro rfl;rcases hc with z|z;rw[<-z,I.free]at e;cases e;rw[I.free]at z;cases z
end
noncomputable def Ends.less(D:Ends)(i:π):Ends:={nx:=λσ H=>D.nx (σ.set i none) H,rt:=D.rt,bk:=λσ H=>D.bk (σ.set i none) H,ct:=λσ H=>D.ct (σ.set i none) H}
def aaV(K:Φ)(i:π)(C0:ε)(tb:TX)(ts:TS):TS:=λD σ H=>tb (λc cls z H'=>∃C,cls=.ref C/\mroIn K C (.ref C0)=ϑ true/\∀a,H' a=ϐ->ts (D.less i) (c.set i<|some<|.ref a) (upd H' a<|vV a<|.ref C)) D σ H
section
variable{X:Cx}{i:π}{n x:ρ}{C0:ε}{body ud:δ Stmt}{DX:Stmt}{np sD pos:Pos}{tb:TX}{ts:TS}
def RW(o:X.stack=X.env::X.outer)(fr:X.env.frame=ϑ X.env.locals)(hN:X.N.Nodup)(hi:X.N[i]?=some n)(hx:X.env.scope.names.lookup n=ϑ .local)(r:Gl X x)(hm:X.mg x=ϑ (.ref C0))(c0:XC X.K C0) (Z:V2 X body tb) (hs:∀a,Dn (X.lE a) (DX::ud) ts) (mS:ψ ((x==("__debug__": ρ))=ϰ) qQZ): PS X (.Try body [.ExceptHandler (some<|.Name x np) (some n) (DX::ud) sD] [] [] pos) (aaV X.K i C0 tb ts):=by intro qg s σ H D I h;show wpAny_Try_except<|yh (Z qg s σ H D _ I h) (λf s1 q=>?_) λe s1 q=>?_;{cases f with|next=>(let⟨m,H',I',q⟩:=q;show Fq qg s1 m H' D I' q)|ret v=>show q|brk=>show q|cont=>show q};{let⟨m,H1,s2,E,a,cls,a0,B,H',rfl,os,bare,F,C,rfl,P,Q⟩:=q;have w_:X.A.frames=ϑ (X.env::X.outer):=(by rw[I.ok.frames,o]);have fl:Heap.FlyingW B (X.env::X.outer) a (.ref C) a0 s1.heap:=(by rw[<-o];show F.fl);show wpAny_looks_onW w_ fr fl λh4 V4 O=>?_;show wpAny_landsW V4 λG L Y=>?_;have l:ua X.prog X.w (λt=>some<|.ref C) X.stack H1 H' s2.heap a (.ref C) a0 B G:=F.loose.on (by rw[o];show L) (O.trans Y)<|.inr rfl;have y:Inv X qg m (upd H' a<|vV a<|.ref C) {s1 with heap:=G}:=E.Fm (ch:=[]) os l.unT l.V1 bare λb z=>absurd z `d;show wpAny_handleBy_cons (codeAny_handlers_test<|mB (y.lE a) r hm ?_ mS) (by intro q;cases q);let⟨oe,vs,he,hc,hd,_⟩:=l.fl.first;let⟨bm0,Uv⟩:=c0.at y.nh;show BH (PySem.W.looks_mroIn y.nh P) Uv he hc ?_;show codeAny_handlers_suite_as ?_;show lands_againW L λJ S u6=>?_;have M:ua X.prog X.w (λt=>some<|.ref C) X.stack H1 H' s2.heap a (.ref C) a0 B J:=l.on (by rw[o];show S) u6<|.inr rfl;have I6:Inv X qg m (upd H' a<|vV a<|.ref C) {s1 with heap:=J}:=E.Fm (ch:=[]) os M.unT M.V1 bare λb z=>absurd z `d;show oK (X:=X.lE a) (I6.lE a) hN hi (.inl hx) (v:=.ref a) rfl (λU R=>?_)<|.inr hx;show yh (hs a qg U _ _ _ R<|Q a F.hn) (λf s8 c=>?_) λt t z=>False.elim z;cases f with|next=>(let⟨p,d,j,c⟩:=c;show name_goes (j.x6 I.ok) hN hi hx λt g=>{_,d,g,c})|brk=>(let⟨p,d,j,c⟩:=c;show name_goes (j.x6 I.ok) hN hi hx λt g=>{_,d,g,c})|cont=>(let⟨p,d,j,c⟩:=c;show name_goes (j.x6 I.ok) hN hi hx λt g=>{_,d,g,c})|ret u=>let⟨v,p,d,j,r8,c⟩:=c;show name_goes (j.x6 I.ok) hN hi hx λt g=>{v,_,d,g,r8,c}}
end
structure XA(K:Φ)(C:ε):η where
 ga:findIn K (.ref C) "__getattribute__"= some (some<|.builtin "BaseException.__getattribute__")
 gh:findIn K (.ref C) "__getattr__"= some none
 cl:findIn K (.ref C) "__class__"= some (some<|.builtin "object.__class__")
section
variable{prog:Ψ}{w:Ω}{A:ϕ}{E:ξ->ζ->η}{h:Γ}{g:Array GenState}{d:Drawn}{t:π}{os:OsState}{a:ε}{o:Obj}{C:ε}{bm:δ ξ}{K:Φ}
def RX(c:ub h C bm)(l:bm.contains (.type "object")=ϱ)(hx:h.get? a=ϑ o)(hc:o.cls=.ref C)(n:R (.ok<|.ret<|.ref C) ⟨h,g,d,t,os⟩): codeAny `n A (.call (.builtin "getset_descriptor.__get__") {[.builtin "object.__class__",.ref a,.ref C],[]}) R ⟨h,g,d,t,os⟩:=by
 let⟨N,r,q,bs,i,p,sub,x,col,v,k0,k1,k2,k3,k5,s,j,_,_,_⟩:=c;have m:(⟨h,g,d,t,os⟩:ζ).TypeIs (.builtin "object.__class__") "getset_descriptor":=F.typeOf_object_class;have ow: ".".intercalate ("object.__class__".cutAt '.').dropLast ="object":=`c
 have e:(Value.ref C::bm).contains (.type<|".".intercalate ("object.__class__".cutAt '.').dropLast)=ϱ:=by rw[ow,List.contains_cons,l,Bool.or_true]
 show codeAny_call_builtin F.slot_gs_get.plain F.entry_gs_get<|F.slot_gs_get.check _ _ _ _ _ _ _ _ m (F.args_gs_get _ _ _) ?_;repeat (any_goals (first|assumption|(with_reducible show wpAny_loadPart_at hx ?_;rw[hc])|(with_reducible show wpAny_isSubtype_exc j ?_;rw[e])|wp_step))
 show{Code.quiet_builtin _<|`c,yI F.entry_object_class ?_};repeat (any_goals (first|assumption|(with_reducible show wpAny_loadPart_at hx ?_;rw[hc])|wp_step))
def J1(c:ub h C bm)(hx:h.get? a=ϑ o)(hc:o.cls=.ref C)(i:Q () ⟨h,g,d,t,os⟩):wpAny M A (checkBuiltinCall "BaseException.__getattribute__" {[.ref a,nameV],[]}) Q E ⟨h,g,d,t,os⟩:=by
 have m:=c.base;let⟨N,p,q,bs,e,n,sub,s,col,v,k0,k1,k2,k3,k5,r,j,_,_,_⟩:=c;have k1:builtinKind "BaseException.__getattribute__"= some .slot:=`c
 have k2:splitId "BaseException.__getattribute__"= some ("BaseException","__getattribute__"):=`c
 have l:(Value.ref C::bm).contains (.type "BaseException")=ϱ:=by rw[List.contains_cons,m,Bool.or_true]
 have ha:=F.args_bexc_ga (.ref a) nameV;simp only[checkBuiltinCall,k1,k2];show za ?_;unfold isInstance;repeat (first|(with_reducible show wpAny_loadPart_at hx ?_;rw[hc])|(with_reducible show wpAny_isSubtype_exc j ?_;rw[l])|wp_step)
 show i
def J2(X:K.In h)(xa:XA K C)(c:ub h C bm)(i:bm.contains (.type "object")=ϱ)(hx:h.get? a=ϑ o)(hc:o.cls=.ref C)(j:Q (.done<|.ret<|.ref C) ⟨h,g,d,t,os⟩): wpAny `n A (Builtin.«object.__getattribute__» {[.ref a,.str "__class__" tk],[]}) Q E ⟨h,g,d,t,os⟩:=by
 have p:(⟨h,g,d,t,os⟩:ζ).TypeIs (.builtin "object.__class__") "getset_descriptor":=F.typeOf_object_class;have e:=looks_findIn (M:=model prog w) X xa.cl;have m:=F.typeOf_object_class;have n:=F.slot_gs_get.lookup;have l:=F.slot_gs_set.lookup;repeat (any_goals (first|assumption|(with_reducible show wpAny_loadPart_at hx ?_;rw[hc])|with_reducible show e.at ?_|wp_step))
 show RX c i hx hc ?_;repeat (any_goals (first|assumption|wp_step))
def V6(X:K.In h)(xa:XA K C)(c:ub h C bm)(l:bm.contains (.type "object")=ϱ)(hx:h.get? a=ϑ o)(hc:o.cls=.ref C)(n:Q (.ref C) ⟨h,g,d,t,os⟩): wpAny `n A (getAttrBy (.ref a) (.str "__class__" tk) false) Q E ⟨h,g,d,t,os⟩:=by
 have e:=F.attrBase_ValueError;have q:=e.ga.bind<|.ref a;have j:=looks_findIn (M:=model prog w) X xa.ga;have L2:=looks_findIn (M:=model prog w) X xa.gh;have i:(Value.builtin "BaseException.__getattribute__"== Value.builtin "object.__getattribute__")=ϰ:=`c
 have m:(false&&onTheHeap (Value.builtin "BaseException.__getattribute__"))=ϰ:=rfl;have p:(onTheHeap (Value.ref C)&&Value.builtin "BaseException.__getattribute__"== Value.builtin "object.__getattribute__")=ϰ:=by rw[i];rfl
 repeat (any_goals (first|assumption|(with_reducible show wpAny_loadPart_at hx ?_;rw[hc])|with_reducible show j.at ?_|with_reducible show L2.at ?_|wp_step))
 show codeAny_call_builtin e.ga.plain F.entry_bexc_ga<|J1 c hx hc<|J2 X xa c l hx hc ?_;repeat (any_goals (first|assumption|wp_step))
def J4(X:K.In h)(xa:XA K C)(c:ub h C bm)(e:bm.contains (.type "object")=ϱ)(hx:h.get? a=ϑ o)(hc:o.cls=.ref C)(i:Q (some<|.ref C) {h,g,d,t+1,os}): wpAny `n A (getAttr? (.ref a) "__class__") Q E ⟨h,g,d,t,os⟩:=by unfold getAttr? getAttrBy?;repeat (any_goals (first|assumption|with_reducible apply V6 X xa c e hx hc|wp_step))
end
def ub.obj(x:ub h C bm):bm.contains (.type "object")=ϱ:=by let⟨_,_,_,_,_,_,_,_,_,_,_,_,_,_,_,_,_,_,_,T⟩:=x;show T.hasType<|`a
theorem BI{K:Φ}{a C:ε}(c:XC K C)(xa:XA K C):KitX K (.ref a) (.ref C) (λh=>∃o vs,h.get? a=ϑ o/\o.cls=.ref C/\o.data=.fields vs) where
 ty:=by
  rintro M h X ⟨o,vs,hx,hc,_⟩
  show hc ▸ (PySem.W.Looks.ld hx).andThen .now
 it:=λM h X y=>by
  let⟨bm,N,nm,q,bs,hdct,sn,sub,ab,col,dd,k0,k1,k2,k3,k5,mN,hC,_,_,_⟩:=c.at X
  intro A Q E s k q
  unfold isType loadHead
  show za<|wpAny_loadPart (k _ _ hC)<|zm q
 ne:=λh tp dd aE n sl X htp=>by
  let⟨bm,N,nm,q,bs,hdct,sn,sub,ab,col,MI,k0,k1,k2,k3,k5,mN,hC,_,_,_⟩:=c.at X
  show Bool.eq_false_iff.mpr λz=>?_
  have e:C=tp:=Value.ref.inj<|beq_iff_eq.mp z
  subst e
  have q:=congrArg (λx=>x.map (·.cls))<|hC.symm.trans htp
  have q:some (Value.type "type")=ϑ (Value.type "tuple"):=q
  show absurd q<|`a
 ca:=λ{prog w A E Q s} X ⟨o,vs,hx,hc,_⟩ k=>by
  let⟨h,g,d,t,os⟩:=s
  let⟨bm,c'⟩:=c.at X
  show J4 X xa c' c'.obj hx hc k
section
variable{X:Cx}
def x8:eU X (.builtin "isinstance") (λxs H Q=>∃a C c u b,xs=[.ref a,c]/\H a=ϑ (vV a<|.ref C)/\XC X.K C/\XA X.K C/\RelV c u/\(∀d,RelV c d->d=u)/\kitOne X.K (.ref C) u=ϑ b/\Q (.bl b) H):=by intro qg s σ H xs us Q I r h;let⟨a,C,c,u,b,rfl,ha,m,xa,n,l,e,q⟩:=h;let⟨v,j,rfl,g,i⟩:=vals2 r;have:=l j i;subst this;cases (show v=Value.ref a from g);let⟨p,_⟩:=I.aT a _ ha;show kia_one (BI m xa) I.nh p e (λz=>nomatch z) λtk=>{.bl b,H,I.tok tk,rfl,q}
theorem FG(L:dP X E):Passes (fh X.prog X.w X.mg) X E:=VZ L λz z z h=>h
end
def nr{X:Cx}{K:Φ}(e:X.K=K):eU X (.builtin "isinstance") (λxs H Q=>∃a C c u b,xs=[.ref a,c]/\H a=ϑ (vV a<|.ref C)/\XC K C/\XA K C/\RelV c u/\(∀d,RelV c d->d=u)/\kitOne K (.ref C) u=ϑ b/\Q (.bl b) H):=by subst e;show x8
theorem vW:bootBuiltins "ValueError"= some (.type "ValueError"):=PyProof.Rows.Boot.«ValueError»
noncomputable def jY(l:δ ρ):δ Str:=l.foldl (λc x=>if x∈c then c else c++[x]) []
def BJ(l:δ ρ)(x:ρ):jY (l++[x])=if x∈jY l then jY l else jY l++[x]:=by unfold jY;rw[List.foldl_append];rfl
theorem NG:∀(l:δ ρ),(jY l).length<=l.length:=λl=>by
 have all:∀(r c:δ ρ),(r.foldl (λc x=>if x∈c then c else c++[x]) c).length<=c.length+r.length:=by intro r;induction r with|nil=>intro c;simp|cons x r a=>intro c;rw[yH];show zM (a _) ?_;split<;>simp<;>try lia
 simpa [jY]using all l []
section
variable{prog:Ψ}{w:Ω}{A:ϕ}{R:Result->ζ->η}{I:ε}{fp wr:δ ε}{G:Array GenState->Array GenState->η}{n:π}{P:π->ξ->η}{St:π->ζ->η}
def J5(W:WalksS prog w A.in1 I fp wr G n P St)(S:ε)(d:S∉fp)(xs:δ ρ)(hx:xs.length=n)(H:∀i v,P i v->∃x t,xs[i]?=some x/\v=.str x t)(a:n+1<scanBound): ∀(k i:π)(s:ζ),i+k=n->St i s->s.heap.SetOf (strKind prog w) S (λy=>ω<|y∈jY (xs.take i)) (jY<|xs.take i).length->(∀s',Moved (S::wr) G s s'->s'.heap.SetOf (strKind prog w) S (λy=>ω<|y∈jY xs) (jY xs).length->R (.ok<|.ret .none) s')->codeAny `n A (.builtin "set.update.loop" {[.ref S,.ref I],[]}) R s:=by have M:S∉wr:=λh=>d<|W.sub _ h;have up:∀b∈wr,b∈S::wr:=λb a=>zk _ a;have z:∀{i:π}{s s':ζ},Moved wr G s s'->s.heap.SetOf (strKind prog w) S (λy=>ω<|y∈jY (xs.take i)) (jY<|xs.take i).length->s'.heap.SetOf (strKind prog w) S (λy=>ω<|y∈jY (xs.take i)) (jY<|xs.take i).length:=λhm ⟨o,es,ep,tb,ho,rest⟩=>{o,es,ep,tb,hm.heap S _ M ho,rest};intro k;induction k with|zero=>intro i s hk m g l;have e:i=n:=`b;subst e;show yI F.entry_set_update_loop ?_;rw[Around.under_plainId F.plain_set_update_loop _];change wpAny _ A.in1 (pyNext (.ref I) >>=_) _ _ s;show za<|W.done s _ _ m λs' hm=>?_;change wpAny _ A.in1 (ret Value.none) _ _ s';have q:=z hm g;rw[<-hx,List.take_length]at q;show zm (l s' (hm.mono up) q)|succ k J=>intro i s hk m g l;have lt:i<n:=`b;show yI F.entry_set_update_loop ?_;rw[Around.under_plainId F.plain_set_update_loop _];change wpAny _ A.in1 (pyNext (.ref I) >>=_) _ _ s;show za<|W.item i s _ _ lt m λv s' L E hm=>?_;let⟨x,t,ex,rfl⟩:=H i v L;have q:=z hm g;change wpAny _ A.in1 (holding [Value.str x t] (setAdd S<|.str x t) >>=_) _ _ s';show za<|yF ?_;unfold setAdd;show yF ?_;show za<|(strKind prog w).pyHash (k:=x) (strKind_is _ _ _ _) ?_;have c:(jY<|xs.take i).length+1<scanBound:=(by have:=NG<|xs.take i;rw[yc]at this;lia);show wpAny_setAddHashed_of (knd:=strKind prog w) (s:={s' with toks:=s'.toks+1}) (strKind_is _ _ _ _) rfl q c λh' p K=>?_;have tk:xs.take (i+1)=xs.take i++[x]:=(by rw[List.take_succ,ex];rfl);have C:h'.SetOf (strKind prog w) S (λy=>ω<|y∈jY (xs.take<|i+1)) (jY<|xs.take<|i+1).length:=(by show SetOf_congr K (λy=>?_) ?_;rw[tk,BJ];by_cases h:x∈jY (xs.take i);rw[qe h];by_cases r:y=x;subst r;simp[h];simp[r];rw[qb h];simp;rw[tk,BJ];by_cases h:x∈jY (xs.take i);rw[qe h,qe<|by simpa using h];rw[qb h,qb<|by simpa using h];simp);show zm {plainId_quiet F.plain_set_update_loop _,J (i+1) _ `b (W.frame _ s' _ _ E (yS _) λb a o e=>?_) C λxR B j=>?_};rw[p.2 b (λh:b=S=>d<|by rw[<-h];show a)];show e;show l xR (Moved.trans W.gtrans ((hm.mono up).then_heap (yS _) λb o a e=>?_) B) j;rw[p.2 b (λh:b=S=>a<|by rw[h];show zD)];show e
def BK(hh:A.handled=ϐ)(hl:s.heap.IsList l items)(hx:xs.length=items.size) (hi:∀(i:π)(v:ξ),items[i]?=some v->∃x t,xs[i]?=some x/\v=.str x t) (g:items.size+1<scanBound) (h:∀(h':Γ)(tk:π),h'.SetOf (strKind prog w) s.heap.objs.size (λy=>ω<|y∈jY xs) (jY xs).length->(∀b o,b<s.heap.objs.size->s.heap.get? b=ϑ o->h'.get? b=ϑ o)->Q (.ref s.heap.objs.size) {s with heap:=h',toks:=tk}): wpAny `n A (call (.type "set") [.ref l]) Q E s:=by
 let⟨c,tl,m0⟩:=F.called_set.mro;have m1:=F.called_set.made;have m2:=F.called_set.sub;show wpAny_call<|codeAny_of_tree ?_;change wpAny _ _ (callAny (.type "set") _) _ _ _;show zm {Code.quiet_builtin _<|`c,yI F.entry_type_call ?_};rw[Around.under_plain (weight_type_call_type "set" [.ref l] []) rfl];have m3:=F.called_set.notType;have m4:=F.called_set.canCreate;have m5:=F.typeCall_set_1<|.ref l;repeat (any_goals (first|assumption|wp_step))
 show yJ (code_set_new_1 (.ref l) (E:=E) (Q₁:=λz s1=>∃a:χ,z=.ref s.heap.objs.size/\s1={s with heap:=s.heap.push {cls:=.type "set",dict:=none,data:=.set #[] 0 (.fresh 0 0 a)}}) λa=>⟨a,rfl,rfl⟩) λr s1 hr=>?_
 cases r with
 |error e=>show hr
 |ok fl =>
  cases fl with
  |ret z =>
   let⟨a,rfl,rfl⟩:=hr;generalize m:({cls:=.type "set",dict:=none,data:=.set #[] 0 (.fresh 0 0 a)} : Obj)=O;have p:(s.heap.push O).get? s.heap.objs.size=ϑ O:=zr _ (by rw[<-m];rfl);have S:Shared.TypeIs {s with heap:=s.heap.push O} (.ref s.heap.objs.size) "set":={_,p,by rw[<-m]};have i1:=F.called_set.init.lookup;have i2:=F.called_set.init.bind<|.ref s.heap.objs.size;(repeat (any_goals (first|assumption|wp_step)));show yJ (codeAny_call_builtin (R:=wants (λr s2=>r=.none/\∃h' tk,s2={s with heap:=h',toks:=tk}/\h'.SetOf (strKind prog w) s.heap.objs.size (λy=>ω<|y∈jY xs) (jY xs).length/\(∀b o,b<s.heap.objs.size->s.heap.get? b=ϑ o->h'.get? b=ϑ o)) E) F.called_set.init.plain F.entry_set_init<|check_set_init_1 S ?_) λP s2 d=>?_
   ·let⟨ol,B,cl,n,dl⟩:=hl;let⟨L,I,a0,R5⟩:=ol;simp only at cl dl;subst cl;subst dl;have Z:(s.heap.push O).get? l=ϑ {cls:=.type "list",dict:=I,data:=.seq items n,slots:=R5}:=zb _ B;have j1:=F.sub_list_set;have j2:=F.sub_list_frozenset;have j3:(Value.type "list"== Value.type "dict")=ϰ:=`a;have il:(s.heap.push O).IsList l items:={_,Z,rfl,n,rfl};subst m;unfold Builtin.«set.__init__» noKeywords Builtin.Frozenset.updateFrom;generalize j:pyIter=PI;wp_walk;subst j;show wpAny_pyIter_list il ?_;show za<|wpAny_runValue ?_;have C:l<s.heap.objs.size:=zy B;have U:A.in1.in1.in1.handled=ϐ:=(by simp[hh]);have ne:l≠(s.heap.push {cls:=.type "set",dict:=none,data:=.set #[] 0 (.fresh 0 0 a)}).objs.size:=(by rw[yq];show zC<|Nat.lt_succ_of_lt C);have nf:s.heap.objs.size∉[(s.heap.push {cls:=.type "set",dict:=none,data:=.set #[] 0 (.fresh 0 0 a)}).objs.size,l]:=(by rw[yq];simp only[ze,zx,zt,or_false,not_or];show{zC<|Nat.lt_succ_self _,yj C});show J5 ((Walks.list U _ l ne items).toS) s.heap.objs.size nf xs hx hi g (items.size-0) 0 _ `b {{_,zr _ rfl,rfl,rfl},(il.push _)} ?hS0 ?hR
    case hS0 =>
     have K:=zb {cls:=.type "list_iterator",data:=.fields #[.ref l,.int 0 0]} p
     show SetOf_congr ((setObjOf_fresh (knd:=strKind prog w) a).setOf K<|by unfold scanBound;lia) (λu=>rfl) rfl
    case hR =>
     intro s' hm q
     let⟨h',N,G,Y,M⟩:=s'
     have J:N=s.gens:=hm.gens;have X:G=s.drawn:=hm.drawn;have eo:M=s.os:=hm.os
     subst J;subst X;subst eo
     change wpAny _ _ _ _ _ _;show zm ?_;change wpAny _ _ (ret Value.none) _ _ _
     show zm {rfl,h',Y,rfl,q,λb o g e=>?_}
     have b2:b≠(s.heap.push {cls:=.type "set",dict:=none,data:=.set #[] 0 (.fresh 0 0 a)}).objs.size:=by rw[yq];show zC<|Nat.lt_succ_of_lt g
     show hm.heap b o ?_<|zb _<|zb _ e
     simp only[ze,zx,zt,or_false,not_or];show{zC g,b2}
   {cases P with|error e=>show d|ok H=>cases H with|ret r=>(let⟨rfl,h',tk,rfl,q,k'⟩:=d;(repeat (any_goals (first|assumption|wp_step)));show h _ _ q k')|_=>show d.elim}
  |_=>show hr.elim
end
noncomputable def R6(P:Ψ)(w:Ω)(a:ε)(xs:δ ρ):HO:=.ext λh=>h.SetOf (strKind P w) a (λy=>ω<|y∈jY xs) (jY xs).length
def NH(q:h.SetOf (strKind P w) a (λy=>ω<|y∈jY xs) (jY xs).length):bM P w H h a (R6 P w a xs):=by let⟨o,es,ep,t,ho,rest⟩:=id q;show{q,⟨o,ho⟩,by rintro h1 h2 ⟨o,es,ep,t,ho,rest⟩ k;show{o,es,ep,t,k _ ho,rest}}
theorem BL:∀{xs:δ ρ}{a:δ ξ},Vals (xs.map V.str) a->∀(i:π)(v:ξ),a[i]?=some v->∃x t,xs[i]?=some x/\v=.str x t|[],_,.nil,i,v,e=>by simp at e|x::xs,_,.cons r rs,0,v,e=>(by let⟨t,q⟩:=r;simp at e;show{x,t,rfl,by rw[<-e];show q})|x::xs,_,.cons r rs,i+1,v,e=>by let⟨y,t,e1,e2⟩:=BL rs i v (by simpa using e);show{y,t,by simpa using e1,e2}
section
variable{X:Cx}
def Hy{P:Ψ}{w:Ω}{K:Φ}(x:X.prog=P)(hw:X.w=w)(n:X.K=K)(hc:X.calm=ϱ): eU X (.type "set") (λvs H Q=>∃p xs,vs=[.ref p]/\kZ K H p (xs.map V.str)/\xs.length<4000/\∀l,H l=ϐ->Q (.ref l) (upd H l<|R6 P w l xs)):=by
 subst x;subst hw;subst n;intro qg s σ H vs us Q I r h;let⟨p,xs,rfl,j,hz,q⟩:=h;let⟨u,rfl,m⟩:=vals1 r;cases m;let⟨d,c,g,_⟩:=I.list j;have a:xs.length=d.toArray.size:=by have:=c.length;simpa using this
 show BK (I.ok.hd hc) g.isList a (λi v e=>BL c i v<|by simpa using e) (by rw[<-a];unfold scanBound;lia) λh' tk t kp=>?_;show{.ref s.heap.objs.size,_,I.laid (t':=tk) (λb o e=>kp b o (zy e) e) (zp _)<|NH t,rfl,q _<|I.aT.fresh<|zp _}
def Hz(j:X.prog=P)(hw:X.w=w):eU X (.builtin "len") (λvs H Q=>∃a xs,vs=[.ref a]/\H a=ϑ (R6 P w a xs)/\Q (.int (jY xs).length) H):=by subst j;subst hw;intro qg s σ H vs us Q I r h;let⟨a,xs,rfl,ha,q⟩:=h;let⟨u,rfl,e⟩:=vals1 r;cases e;let⟨⟨o,es,ep,t,ho,c,hd,d,l,g,i,hn⟩,_⟩:=I.aT a _ ha;show call_len_set ho c hd i (by unfold scanBound at g;lia) ?_;show{.int (jY xs).length,H,I.tok _,{_,by rw[hn]},q}
end
def qx(l:δ ρ):(jY l).length=l.length↔l.Nodup:=by
 have all:∀(r c:δ ρ),c.Nodup->((r.foldl (λc x=>if x∈c then c else c++[x]) c).length=c.length+r.length↔(c++r).Nodup):=by intro r;induction r with|nil=>intro c hc;simpa using hc|cons x r a=>intro c hc;rw[yH];by_cases h:x∈c;{rw[qe h];have le:(r.foldl (λc x=>if x∈c then c else c++[x]) c).length<=c.length+r.length:=(by have all2:∀(r c:δ ρ),(r.foldl (λc x=>if x∈c then c else c++[x]) c).length<=c.length+r.length:=(by intro r;induction r with|nil=>intro c;simp|cons x r a=>intro c;rw[yH];show zM (a _) ?_;split<;>simp<;>try lia);show all2 r c);show{λe=>by simp at e;lia,λe=>?_};show absurd rfl<|(List.nodup_append.mp e).2.2 x h x<|`d};rw[qb h];have d:(c++[x]).Nodup:=oQ hc h;have:=a (c++[x]) d;simp only[zw,zG,List.length_nil,List.append_assoc,List.singleton_append]at this⊢;rw[<-this];constructor<;>intro e<;>lia
 simpa [jY]using all l [] List.nodup_nil
theorem kz:entryFor table "dict.update.loop"= some Builtin.«dict.update.loop»:=entryFor_of_tree<|by kernel_rfl
theorem fb:plainId "dict.update.loop"= true:=`c
def vX:typeLookup (.type "tuple") "keys"= pure none:=by rw[typeLookup_type,builtinLookup_eq_fast];kernel_rfl
section
variable{prog:Ψ}{w:Ω}{A:ϕ}{E:ξ->ζ->η}{s:ζ}
def vY(hx:s.heap.get? a=ϑ o)(hc:o.cls=.type "tuple")(l:o.data=.seq xs k)(hd:o.dict=ϐ)(n:A.handled=ϐ) (h:∀h' tk,(∀b j,s.heap.get? b=ϑ j->h'.get? b=ϑ j)->Q none {s with heap:=h',toks:=tk}):wpAny `n A (getAttr? (.ref a) "keys") Q E s:=by
 let⟨c,eV,p,sl⟩:=o;simp only at hc l hd;subst hc l hd;let⟨q,g,d,tk,os⟩:=s;have hT:∀m,(⟨q,g,d,m,os⟩:ζ).TypeIs (.ref a) "tuple":=λu=>{_,hx,rfl};have x:=sub_AttributeError;have v:=F.slot_tuple_getattribute.lookup;have B:=F.slot_tuple_getattribute.bind<|.ref a;have r:=am_tuple_getattr_none;unfold getAttr? getAttrBy? getAttrBy;repeat (any_goals (first|assumption|show hT _|((with_reducible change wpAny _ _ (call (Value.builtin "tuple.__getattribute__") _ _) _ _ _);show yR F.slot_tuple_getattribute (hT _) am_entry_tuple_getattribute (F.args_tuple_getattribute_2 _ _) (meets_getattribute_miss_tuple a xs k sl "keys" _ vX `c<|by size_fits) {hx,n,λh' m e i=>?_})|wp_step))
 let⟨y,t,z⟩:=i.there;change wpAny _ _ (getattributeRaised _ _ _ _ _ _ _) _ _ _;unfold getattributeRaised;repeat (any_goals (first|assumption|wp_step))
 show h _ _ i.keeps
end
section
variable{prog:Ψ}{w:Ω}{A:ϕ}{R:Result->ζ->η}{I:ε}{fp wr:δ ε}{G:Array GenState->Array GenState->η}{n:π}{P:π->ξ->η}{St:π->ζ->η}
def HA(W:WalksS prog w A.in1 I fp wr G n P St)(D:ε)(l:D∉fp)(kvs:δ<|Key×ξ)(hx:kvs.length=n)(base:Γ) (L:∀i v,P i v->∃(b:ε) (k:Key) (key val:ξ) (o:Obj) (m:π),kvs[i]?=some (k,val)/\v=.ref b/\(aS prog w).is k key=ϱ/\base.get? b=ϑ o/\o.cls=.type "tuple"/\o.data=.seq #[key,val] m/\b≠D/\b∉wr) (a:n<=Ϙ): ∀(k i:π) (s:ζ) (c:ν) (t:Tok),i+k=n->St i s->s.heap.DictOf (aS prog w) D (merged []<|kvs.take i)->(∀b o,base.get? b=ϑ o->b≠D->b∉wr->s.heap.get? b=ϑ o)->(∀s',Moved (D::wr) G s s'->s'.heap.DictOf (aS prog w) D (merged [] kvs)->R (.ok<|.ret .none) s')->codeAny `n A (.builtin "dict.update.loop" {[.ref D,.ref I,.int c t,.none],[]}) R s:=by have F:D∉wr:=λh=>l<|W.sub _ h;have up:∀b∈wr,b∈D::wr:=λb a=>zk _ a;intro k;induction k with|zero=>(intro i s c t hk C r x B;have e:i=n:=`b;subst e;show yI kz ?_;rw[Around.under_plainId fb _];change wpAny _ A.in1 (pyNext (.ref I) >>=_) _ _ s;show za<|W.done s _ _ C λs' hm=>?_;change wpAny _ A.in1 (Builtin.Dict.addKeywords D [] >>=_) _ _ s';have q:s'.heap.DictOf (aS prog w) D (merged []<|kvs.take i):=(by let⟨o,es,ep,ho,rest⟩:=r;show{o,es,ep,hm.heap D _ F ho,rest});rw[<-hx,List.take_length]at q;show za<|zm<|zm<|B s' (hm.mono up) q)|succ k M=>intro i s c t hk C r x B;have lt:i<n:=`b;show yI kz ?_;rw[Around.under_plainId fb _];change wpAny _ A.in1 (pyNext (.ref I) >>=_) _ _ s;show za<|W.item i s _ _ lt C λv s' O K hm=>?_;let⟨b,ky,key,val,o,m,N,rfl,J,ho,hc,hd,p,g⟩:=L i v O;have q:s'.heap.DictOf (aS prog w) D (merged []<|kvs.take i):=(by let⟨o,es,ep,ho,rest⟩:=r;show{o,es,ep,hm.heap D _ F ho,rest});have j:s'.heap.get? b=ϑ o:=hm.heap b o g<|x b o ho p g;have d:(merged []<|kvs.take i).length<=sizeLine:=(by have:=merged_length_le ([]:δ (Key×ξ))<|kvs.take i;rw[yc]at this;simp at this;lia);have tk:merged [] (kvs.take<|i+1)=stored (merged []<|kvs.take i) ky val:=merged_take_succ [] kvs i (ky,val) N;show za<|yF<|za<|wpAny_tryCatch ?_;unfold Builtin.Dict.pairItems;show za<|wpAny_typeOf (T:="tuple") ⟨o,j,hc⟩ ?_;change wpAny _ A.in1 (seqItems? (.ref b) >>=_) _ _ s';show za<|wpAny_seqItems j hd<|zm ?_;change wpAny _ A.in1 (holding [key,val]<|dictSet D key val) _ _ s';show yF<|wpAny_dictSet_pairs J q (λh' E y=>?_) d;rw[<-tk]at E;show zm {plainId_quiet fb _,M (i+1) _ _ _ `b (W.frame _ s' _ _ K (yS _) λb a o e=>?_) E (λb o e h1 h2=>?_) λxR H z=>?_};rw[y.2 b (λh:b=D=>l<|by rw[<-h];show a)];show e;rw[y.2 b h1];show hm.heap b o h2<|x b o e h1 h2;show B xR (Moved.trans W.gtrans ((hm.mono up).then_heap (yS _) λb o a e=>?_) H) z;rw[y.2 b (λh:b=D=>a<|by rw[h];show zD)];show e
def vZ(N:A.handled=ϐ)(x:s.heap.get? l=ϑ ol)(cl:ol.cls=.type "tuple")(dl:ol.data=.seq items m)(L:ol.dict=ϐ)(hx:kvs.length=items.size) (hi:∀(i:π) (v:ξ),items[i]?=some v->∃(b:ε) (k:Key) (key val:ξ) (o:Obj) (m:π),kvs[i]?=some (k,val)/\v=.ref b/\(aS prog w).is k key=ϱ/\s.heap.get? b=ϑ o/\o.cls=.type "tuple"/\o.data=.seq #[key,val] m) (S:items.size<=Ϙ) (h:∀(h':Γ) (tk:π),h'.DictOf (aS prog w) s.heap.objs.size (merged [] kvs)->(∀b o,s.heap.get? b=ϑ o->h'.get? b=ϑ o)->Q (.ref s.heap.objs.size) {s with heap:=h',toks:=tk}): wpAny `n A (call (.type "dict") [.ref l]) Q E s:=by
 show callType_codes (Q₁:=λobj r=>obj=.ref s.heap.objs.size/\r={s with heap:=s.heap.push {cls:=.type "dict",data:=.dict #[]}}) F.kt_called_dict (F.kt_typeCall_dict_1 _) F.entry_dict_init (kt_code_dict_new _ ⟨rfl,rfl⟩) ?_;rintro obj r ⟨rfl,rfl⟩;have p:(s.heap.push {cls:=.type "dict",data:=.dict #[]}).DictOf (aS prog w) s.heap.objs.size []:=Heap.DictOf.new s.heap;have n:(s.heap.push {cls:=.type "dict",data:=.dict #[]}).get? l=ϑ ol:=zb _ x;show{p.typeIs,F.args_dict_init_2 _ _,?_};unfold Builtin.«dict.__init__»;show za ?_;unfold Builtin.Dict.selfAndRest;show za<|wpAny_notOrdered_dict p.typeIs ?_;change wpAny _ _ (pure (s.heap.objs.size,[Value.ref l])) _ _ _;show zm ?_;change wpAny _ _ (Builtin.Dict.updateFrom "dict.__init__" s.heap.objs.size (.ref l) [] .none) _ _ _;unfold Builtin.Dict.updateFrom;show za<|wpAny_typeOf (T:="tuple") ⟨ol,n,cl⟩ ?_;rw[qe<|`a];have t:A.in1.in1.handled=ϐ:=by simp[N]
 show za<|vY n cl dl L t λh1 j d=>?_;have J:h1.get? l=ϑ ol:=d _ _ n;have d1:h1.DictOf (aS prog w) s.heap.objs.size []:=by let⟨o,es,ep,ho,rest⟩:=p;show{o,es,ep,d _ _ ho,rest}
 have g:s.heap.objs.size<h1.objs.size:=by let⟨o,es,ep,ho,rest⟩:=d1;show zy ho
 have y:l<s.heap.objs.size:=zy x;change wpAny _ _ (rule _ >>=_) _ _ _;show za<|wpAny_rule ?_;have c:h1.IsTuple l items:=⟨ol,J,cl,m,dl⟩;show za<|wpAny_pyIter_tuple (s:=⟨h1,s.gens,s.drawn,j,s.os⟩) c ?_;have ne:l≠h1.objs.size:=zC<|Nat.lt_trans y g;have nf:s.heap.objs.size∉[h1.objs.size,l]:=by simp only[ze,zx,zt,or_false,not_or];show{zC g,yj y}
 show zm {plainId_quiet fb _,?_};show HA ((Walks.tuple t _ l ne items).toS) s.heap.objs.size nf kvs hx s.heap (λi v e=>?_) S (items.size-0) 0 _ _ _ `b {{_,zr _ rfl,rfl,rfl},c.push _} ?hS0 ?hB ?hR;let⟨b,k,key,val,o,z,e1,e2,e3,e4,P,R⟩:=hi i v e;have a:=zy e4;show{b,k,key,val,o,z,e1,e2,e3,e4,P,R,zC a,by simp;show zC<|Nat.lt_trans a g};case hS0=>show d1.push _
 case hB=>show λb o e U I=>zb _<|d _ _<|zb _ e
 case hR =>
  intro s' hm q
  let⟨h',G,B,K,C⟩:=s'
  have O:G=s.gens:=hm.gens;have H:B=s.drawn:=hm.drawn;have M:C=s.os:=hm.os
  subst O;subst H;subst M
  show{rfl,h h' K q λb o e=>?_}
  have a:=zy e
  show hm.heap b o ?_<|zb _<|d _ _<|zb _ e
  simp only[ze,zx,zt,or_false,not_or];show{zC a,zC<|Nat.lt_trans a g}
end
noncomputable def FH(l:δ<|ρ×V):δ (Key×V):=l.foldl (λc p=>putK c (.inr p.1) p.2) []
def Prs(H:Hp)(ps:δ V)(kvs:δ<|ρ×V):Prop:=kvs.length=ps.length/\∀(i:π)(x:V)(p:ρ×V),ps[i]?=some x->kvs[i]?=some p->∃b,x=.ref b/\H b=ϑ (.tup [.str p.1,p.2])
section
variable{X:Cx}
def DY(hc:X.calm=ϱ):eU X (.type "dict") (λvs H Q=>∃p ps kvs,vs=[.ref p]/\H p=ϑ (.tup ps)/\Prs H ps kvs/\∀l,H l=ϐ->Q (.ref l) (upd H l<|.dK<|FH kvs)):=by
 intro qg s σ H vs us Q I r h;let⟨p,ps,kvs,rfl,O,⟨hl,N⟩,q⟩:=h;let⟨u,rfl,rx⟩:=vals1 r;cases rx;let⟨hz,t,z,ol,Z,cl,R,m,dl⟩:=(show bM X.prog X.w H s.heap p (.tup ps) from I.aT p _ O);have n:=z.length;have j:∀(i:π)(x:V)(g:ρ×V),ps[i]?=some x->kvs[i]?=some g->∃(b:ε)(key val:ξ)(o:Obj)(m:π),t[i]?=some (.ref b)/\(aS X.prog X.w).is (.inr g.1) key=ϱ/\RelV g.2 val/\s.heap.get? b=ϑ o/\o.cls=.type "tuple"/\o.data=.seq #[key,val] m:=by intro i x g e1 e2;let⟨b,rfl,U⟩:=N i x g e1 e2;let⟨u,e3,ru⟩:=z.get e1;cases ru;let⟨_,a0,F,o,go,co,no,Y,G⟩:=(show bM X.prog X.w H s.heap b (.tup [.str g.1,g.2]) from I.aT b _ U);let⟨k',v',rfl,⟨tk,rfl⟩,C⟩:=F.two;show{b,_,v',o,Y,e3,lh _ _ _ _,C,go,co,by simpa using G}
 have kv:∃d:δ (Key×ξ),KV (kvs.map λp=>((.inr p.1:Key),p.2)) d/\∀(i:π)(x:V),ps[i]?=some x->∃(b:ε)(k:Key)(key val:ξ)(o:Obj)(m:π),d[i]?=some (k,val)/\t[i]?=some (.ref b)/\(aS X.prog X.w).is k key=ϱ/\s.heap.get? b=ϑ o/\o.cls=.type "tuple"/\o.data=.seq #[key,val] m:=by clear O q z dl hz;induction kvs generalizing ps t with|nil=>show{[],.nil,λi x e=>?_};have:ps=[]:=List.eq_nil_of_length_eq_zero (by simpa using hl.symm);subst this;simp at e|cons g r L=>cases ps with|nil=>simp at hl|cons y ys=>cases t with|nil=>simp at n|cons w0 ws=>let⟨b,key,val,o,m,e1,e2,e3,e4,E,J⟩:=j 0 y g rfl rfl;let⟨d,k1,k2⟩:=L ys (by simpa using hl) (λi x p a b=>N (i+1) x p (by simpa using a)<|by simpa using b) ws (by simpa using n) (λi x p a b=>by simpa using j (i+1) x p (by simpa using a) (by simpa using b));show{(.inr g.1,val)::d,.cons ⟨rfl,e3⟩ k1,λi x e=>?_};cases i with|zero=>show{b,.inr g.1,key,val,o,m,rfl,e1,e2,e4,E,J}|succ i=>simpa using k2 i x (by simpa using e)
 let⟨d,A,K⟩:=kv;have S:d.length=t.length:=by have:=A.length;rw[zc]at this;lia
 show vZ (kvs:=d) (I.ok.hd hc) Z cl dl R (by simpa using S) (λi v e=>?_) (by simp;lia) λh' tk M kp=>?_;have e':t[i]?=some v:=by simpa using e
 have hi:i<t.length:=(zu.mp e').1;let⟨b,k,key,val,o,P,e1,e2,e3,e4,E,J⟩:=K i (ps[i]' `b)<|zg _;rw[e']at e2;show{b,k,key,val,o,P,e1,zU e2,e3,e4,E,J};have rel:KV (FH kvs) (merged [] d):=by have all:∀(l:δ (ρ×V))(B:δ (Key×ξ))(c:δ (Key×V))(cv:δ (Key×ξ)),KV (l.map λp=>((.inr p.1:Key),p.2)) B->KV c cv->KV (l.foldl (λc p=>putK c (.inr p.1) p.2) c) (merged cv B):=(by intro l;induction l with|nil=>(intro B c cv h1 h2;cases h1;show h2)|cons p r L=>intro B c cv h1 h2;cases h1 with|@cons _ q _ M r1 F=>let⟨k,v⟩:=q;let⟨rfl,z⟩:=r1;show L M _ _ F<|h2.put _ z);show all kvs d [] [] A .nil
 have big:=I.big;show{.ref s.heap.objs.size,_,I.laid (t':=tk) (λb o e=>kp b o e) (zp _) (o:=.dK<|FH kvs) {?_,?_,_,rel,M},rfl,q _<|I.aT.fresh<|zp _};have e1:=rel.length;have e2:=merged_length_le ([]:δ (Key×ξ)) d;simp at e2;lia;simp;show yj big
def Wa(K:Φ):R2:=λx y H Q=>∃a b xs ys,x=.ref a/\y=.ref b/\k9 K H a xs/\k9 K H b ys/\xs.length+ys.length<=Ϙ/\(xs=[]->Q (.ref b) H)/\(xs≠[]->ys=[]->Q (.ref a) H)/\(xs≠[]->ys≠[]->∀p,H p=ϐ->Q (.ref p) (upd H p<|.tup<|xs++ys))
def NI:ji X (binaryOp .Add) (Wa X.K):=by intro qg s σ H x y v u Q I l j h;let⟨a,b,xs,ys,rfl,rfl,ha,m,hz,w,E,C⟩:=h;by_cases hx:xs=[];cases l;cases j;let⟨g,B,z,_⟩:=I.tuple ha;let⟨q,J,p2,_⟩:=I.tuple m;let⟨⟨cls,G,d,sl⟩,ho,hc,n,hd⟩:=id z;let⟨⟨r,A,data2,p⟩,o,i,t,c⟩:=id p2;simp only at hc hd i c;subst hc hd i c;have e:g=[]:=B.sY.mpr hx;show concat_meets {_,ho,rfl} {_,o,rfl} noFill_tuple_add seq_tuple_add PySem.F.slot_tuple_add PySem.F.entry_tuple_add (PySem.F.args_tuple_add_2 _ _) (tuple_addW0 a b g.toArray q.toArray n t G A sl p<|by simp[e]) {ho,o,.ref b,H,I,rfl,w hx};show Np qg s σ H _ _ v u Q I l j {a,b,xs,ys,rfl,rfl,ha,m,hx,hz,E hx,C hx}
end
noncomputable def BM:PyData->Kd|.none=>.ao|.bool _=>.bl|.int _=>.int|.str _=>.str|.list _=>.lst|.tuple _=>.tup|.dict _=>.eV
section
theorem YR(h:n<=1000):n<=sizeLine:=yL<|jA h
end
abbrev sE(h:Γ)(T:ε)(arr:Array ξ):Prop:=h.get? T=ϑ {cls:=.type "tuple",data:=.seq arr}
theorem x9(hs:Heap.ExtBut b h h')(n:a≠b)(x:h.IsTupleIter a l i):h'.IsTupleIter a l i:=x.extBut hs n
def PJ{h h':Γ}{a l:ε}{i:π}(k:∀o,h.get? a=ϑ o->h'.get? a=ϑ o)(x:h.IsTupleIter a l i):h'.IsTupleIter a l i:=by let⟨o,e,r⟩:=x;show{o,k o e,r}
section
variable{prog:Ψ}{w:Ω}{A:ϕ}{E:ξ->ζ->η}{s:ζ}
theorem sz3(h:n<=3):n<=sizeLine:=YR<|zM h<|`a
def HC(hT:sE s.heap T arr)(hz:arr.size<=3)(h:∀h',sE h' T (arr.setIfInBounds k x)->Heap.SameBut T s.heap h'->Q () {s with heap:=h'}):wpAny `n A (updateSeq T (·.setIfInBounds k x)) Q E s:=by show wpAny_updateSeq hT rfl (h _ ?_<|yy ..) (hz:=sz3 hz) (_hz':=by have:=sz3 hz;simp;lia);change Heap.get? _ _=_;rw[yr _ hT rfl];simp[Obj.mapSeq]
def DZ(a:s.heap.IsTupleIter it l i)(hl:s.heap.IsTuple l items)(hx:items[i]?=some x)(d:∀h',h'.IsTupleIter it l (i+1)->Heap.SameBut it s.heap h'->Q x {s with heap:=h'}): wpAny `n A (Builtin.SmallTypes.nextOf<|.ref it) Q E s:=by let⟨o,ho,hc,hd⟩:=id a;let⟨h,e,_,g,c⟩:=hl;unfold Builtin.SmallTypes.nextOf;show za<|wpAny_callSpecial?_slot (name:=Str.ofString "__next__") a.typeIs F.slot_tuple_iterator_next<|yD F.slot_tuple_iterator_next a.typeIs F.entry_tuple_iterator_next ?_<|F.args_tuple_iterator_next_1 _;change wpAny _ _ (field (.ref it) 0 >>=_) _ _ s;show za<|ya ho hd (x:=.ref l) rfl ?_;change wpAny _ _ (if (Value.ref l==Value.none)=ϱ then _ else _) _ _ s;rw[qb<|show ¬((Value.ref l==Value.none)=ϱ) from zd];change wpAny _ _ (field (.ref it) 1 >>=_) _ _ s;show za<|ya ho hd (x:=.int i 0) rfl ?_;change wpAny _ _ (seqItems? (.ref l) >>=_) _ _ s;show za<|wpAny_seqItems e c ?_;simp only[Int.toNat_natCast,hx];show za<|yP ho hd `d<|zm {x,rfl,zm<|d _ {_,yr _ ho<|Obj.isFreed_of_fields<|yw hd _,(Obj.cls_mapFields ..).trans hc,by rw[yw hd];simp[rawInt]}<|yy ..}
def ue(g:A.handled=ϐ)(c:s.heap.IsTupleIter it l i)(hl:s.heap.IsTuple l items)(hx:items[i]?=none) (h:∀h' e,Heap.ExtBut it s.heap h'->(∃o,h'.get? e=ϑ o/\o.cls=.type "StopIteration")->E (.ref e) {s with heap:=h'}):wpAny `n A (Builtin.SmallTypes.nextOf<|.ref it) Q E s:=by
 let⟨o,ho,hc,hd⟩:=id c;let⟨p,j,_,n,d⟩:=hl;unfold Builtin.SmallTypes.nextOf;show za<|wpAny_callSpecial?_slot (name:=Str.ofString "__next__") c.typeIs F.slot_tuple_iterator_next<|yD F.slot_tuple_iterator_next c.typeIs F.entry_tuple_iterator_next ?_<|F.args_tuple_iterator_next_1 _;change wpAny _ _ (field (.ref it) 0 >>=_) _ _ s;show za<|ya ho hd (x:=.ref l) rfl ?_;change wpAny _ _ (if (Value.ref l==Value.none)=ϱ then _ else _) _ _ s;rw[qb<|show ¬((Value.ref l==Value.none)=ϱ) from zd];change wpAny _ _ (field (.ref it) 1 >>=_) _ _ s;show za<|ya ho hd (x:=.int i 0) rfl ?_;change wpAny _ _ (seqItems? (.ref l) >>=_) _ _ s;show za<|wpAny_seqItems j d ?_;simp only[Int.toNat_natCast,hx];show za<|wpAny_rule<|za<|yP ho hd `d ?_;change wpAny _ _ (newExc (.type "StopIteration") [] >>=_) _ _ _;show za ?_;simp only[newExc,newTuple];show za<|yg ?_ (by size_fits);show za (m:=firstArgMember _ _)<|yT (a:=Value.none) (by first|rfl|(simp only[firstArgMember];rfl)) ?_;show yg ?_ (by size_fits);simp only[raiseNew];show za<|wpAny_handled ?_;first|rw[show A.in1.handled=ϐ from g]|rw[g]
 show za<|zm<|wpAny_throw<|h _ _ (((yy ..).extBut.push _).push _) {_,zr _ rfl,rfl}
end
def ZS2(n a c:π)(i:π)(h:Γ):Prop:=IsZip h (n+4) (n+2) (n+3) .none/\sE h (n+2) #[.ref n,.ref<|n+1]/\(∃arr:Array ξ,arr.size=2/\sE h (n+3) arr)/\h.IsTupleIter n a i/\h.IsTupleIter (n+1) c i
section
variable{X:Cx}{qg:δ (ε×Obj)}{σ:St}{H:Hp}{s:ζ}{h':Γ}
def Inv.NL(I:Inv X qg σ H s)(wr:δ ε)(hw:∀b∈wr,vQ X qg H b)(k:∀b o,b∉wr->s.heap.get? b=ϑ o->h'.get? b=ϑ o):Inv X qg σ H {s with heap:=h',toks:=t'}:=by show I.step (g':=s.gens) (d':=s.drawn) (ch:=wr) (λb g=>by let⟨_,a,_,c,d,e⟩:=hw b g;show⟨c,a,d,e⟩) (λb o x x hc e x=>k b o hc e) (λb o x x hc e x=>{o.slots,k b o hc e}) (λx x x x n=>n) (λb o hc e=>{o,k b o hc e}) (λx x e=>e) (λx x x e=>e) (λb ps e=>{#[],by rw[e];simp}) (λm hm=>?_) (λb u e=>?_) I.bare;let⟨o,es,ep,ho,r⟩:=hm;show{o,es,ep,k _ o (λz=>(hw _ z).2.1 rfl) ho,r};show(I.aT b u e).oI (λc v hc q=>k c v (λz=>?_) q) (λx q=>q) λx x q=>q;have n:=(hw c z).1;rcases hc with rfl|hc;rw[n]at e;cases e;rw[n]at hc;cases hc
def Inv.NM(I:Inv X qg σ H s)(wr:δ ε)(hw:∀b∈wr,vQ X qg H b)(k:∀b o,b∉wr->s.heap.get? b=ϑ o->h'.get? b=ϑ o)(hT:s.heap.get? T=ϐ)(new:bM X.prog X.w (upd H T o) h' T o): Inv X qg σ (upd H T o) {s with heap:=h',toks:=t'}:=by
 have fr:H T=ϐ:=by cases q:H T with|none=>rfl|some u=>let⟨z,e⟩:=(I.aT T u q).get;rw[hT]at e;cases e
 have ne:∀b u,H b=ϑ u->b≠T:=λb u e z=>by rw[z,fr]at e;cases e
 show I.step (g':=s.gens) (d':=s.drawn) (ch:=wr) (λb g=>by let⟨_,a,_,c,d,e⟩:=hw b g;show⟨c,a,d,e⟩) (λb o x x hc e x=>k b o hc e) (λb o x x hc e x=>{o.slots,k b o hc e}) (λb h x e n=>?_) (λb o hc e=>{o,k b o hc e}) (λb xs e=>by rw[ay<|ne b _ e];show e) (λb h u e=>by rw[ay<|ne b _ e];show e) (λb ps e=>{#[],by rw[ay<|ne b _ e,e];simp}) (λm hm=>?_) (λb u e=>?_) I.bare;have:b≠T:=λz=>by rw[z,hT]at e;cases e
 rw[ay this];show n;let⟨o,es,ep,ho,r⟩:=hm;show{o,es,ep,k _ o (λz=>(hw _ z).2.1 rfl) ho,r};by_cases g:b=T;subst g;rw[aR]at e;cases e;show new;rw[ay g]at e;show(I.aT b u e).oI (λc v hc q=>k c v (λz=>?_) q) (λc q=>by rw[ay<|ne c _ q];show q) λc xs q=>by rw[ay<|ne c _ q];show q
 have n:=(hw c z).1;rcases hc with rfl|hc;rw[n]at e;cases e;rw[n]at hc;cases hc
end
noncomputable abbrev NN(h:Γ)(l0:ε):Heap:=(h).push {cls:=.type "tuple_iterator",data:=.fields #[.ref l0,.int 0 0]}
noncomputable abbrev NO(h:Γ)(l0 l1:ε):Heap:=(NN h l0).push {cls:=.type "tuple_iterator",data:=.fields #[.ref l1,.int 0 0]}
noncomputable abbrev NP(h:Γ)(l0 l1:ε):Heap:=(NO h l0 l1).push {cls:=.type "tuple",data:=.seq #[.ref h.objs.size,.ref (NN h l0).objs.size]}
noncomputable abbrev NQ(h:Γ)(l0 l1:ε):Heap:=(NP h l0 l1).push {cls:=.type "tuple",data:=.seq #[.none,.none]}
noncomputable abbrev D1(h:Γ)(l0 l1:ε):Heap:=(NQ h l0 l1).push {cls:=.type "zip",data:=.fields #[.none,.bool false,.bool false,.ref (NO h l0 l1).objs.size,.ref (NP h l0 l1).objs.size]}
theorem D2(a c:ε)(e i:Array ξ):Meets (Builtin.«zip.__new__» {[.type "zip",.ref a,.ref c],[]}) (λz R s=>s.heap.IsTuple a e/\s.heap.IsTuple c i/\R (.ok<|.ret<|.ref (NQ s.heap a c).objs.size) {s with heap:=D1 s.heap a c}):=.of_wp λprog w A R s h=>by let⟨j,g,d,tk,os⟩:=s;let⟨m,o,h⟩:=h;have p:=sub_zip;have l:Heap.IsTuple (Shared.heap ⟨j,g,d,tk,os⟩) a e:=m;have n:Heap.IsTuple (Shared.heap {j.push {cls:=.type "tuple_iterator",data:=.fields #[.ref a,.int 0 0]},g,d,tk,os}) c i:=Heap.IsTuple.push (o) _;wp_walk using wpAny_pyIter_tuple l,wpAny_pyIter_tuple n;show{_,rfl,h}
def D5(j:s.heap.IsTuple l0 NJ)(l:s.heap.IsTuple l1 NK) (h:∀h',ZS2 s.heap.objs.size l0 l1 0 h'->(∀c o,s.heap.get? c=ϑ o->h'.get? c=ϑ o)->Q (.ref<|s.heap.objs.size+4) {s with heap:=h'}):wpAny `n A (call (.type "zip") [.ref l0,.ref l1]) Q E s:=by
 show callType_new F.called_zip `a (F.typeCall_zip_2 _ _) (F.newCall_zip_2 _ _) (λobj=>F.args_object_init_3 obj _ _) F.entry_zip_new (D2 l0 l1 NJ NK) {j,l,?_};have z1:(NN s.heap l0).objs.size=s.heap.objs.size+1:=yq ..;have z2:(NO s.heap l0 l1).objs.size=s.heap.objs.size+2:=by rw[yq,z1]
 have a:(NP s.heap l0 l1).objs.size=s.heap.objs.size+3:=by rw[yq,z2]
 have e:(NQ s.heap l0 l1).objs.size=s.heap.objs.size+4:=by rw[yq,a]
 have m:(D1 s.heap l0 l1).objs.size=s.heap.objs.size+5:=by rw[yq,e]
 have g0:(D1 s.heap l0 l1).get? (s.heap).objs.size=ϑ _:=zb _<|zb _<|zb _<|zb _<|zr _ rfl;have g:(D1 s.heap l0 l1).get? (NN s.heap l0).objs.size=ϑ _:=zb _<|zb _<|zb _<|zr _ rfl;have g2:(D1 s.heap l0 l1).get? (NO s.heap l0 l1).objs.size=ϑ _:=zb _<|zb _<|zr _ rfl;have i:(D1 s.heap l0 l1).get? (NP s.heap l0 l1).objs.size=ϑ _:=zb _<|zr _ rfl;have d:(D1 s.heap l0 l1).get? (NQ s.heap l0 l1).objs.size=ϑ _:=zr _ rfl;change _/\_;rw[z2,a,e]at d;rw[a]at i;rw[z1,z2]at g2;rw[z1]at g;rw[e];show{{_,d,rfl},h _ {d,g2,!⟨i⟩,{_,g0,rfl,rfl},{_,g,rfl,rfl}} λc o x=>zb _<|zb _<|zb _<|zb _<|zb _ x}
def NR(K:Φ):V->δ V->Hp->VK->Prop:=λx vs H Q=>∃(a:ε)(xs:δ V)(y z:V)(j:π),x=.ref a/\vs=[y]/\kZ K H a xs/\jz y=ϱ/\xs.all jz=ϱ/\xs[j]?=some z/\eqV z y=ϱ/\(∀m u,m<j->xs[m]?=some u->eqV u y=ϰ)/\Q (.int j) H
def HD:Rn X "list.index" (NR X.K):=by
 intro qg s σ H x vs v us Q I M C h;let⟨a,xs,y,z,j,rfl,rfl,G,E,B,t,i,N,q⟩:=h;cases M;let⟨u,rfl,L⟩:=C.one;let⟨g,r,p,hz⟩:=I.list G;let⟨⟨cls,O,A,sl⟩,ho,hc,n,hd⟩:=p.isList;simp only at hc hd;subst hc hd;have hl:=r.length;have P:j<xs.length:=(zu.mp t).1;have fl:∀(m:π)(w:V),xs[m]?=some w->jz w=ϱ:=λm w e=>yn.mp B w<|zI e;have c:∀(m:π)(hm:m<g.toArray.size)(w:V),xs[m]?=some w->JF y g.toArray[m]=eqV w y:=λm hm w e=>by let⟨J,e',l⟩:=r.get e;have:g.toArray[m]=J:=(by have:=zu.mp e';simpa using this.2);rw[this];show DJ l<|fl m w e
 have hs:Ϙ=16777216:=zZ;show yR PySem.F.slot_list_index {_,ho,rfl} PySem.F.entry_list_index (PySem.F.args_list_index_2 _ _) (SeqAt.list_indexAt a g.toArray n O sl u (JF y) j (by simp;lia) `b ?_ ?_) {ho,λw hw=>oN L E r B w<|by simpa using hw,{.int j,H,I.tok _,{_,rfl},q}};rw[c j _ z t];show i;intro m hm o;have d:m<xs.length:=`b
 rw[c m hm _<|zg d];show N m _ o<|zg d
def Wb:R2:=λx y H Q=>∃z n,x=.str z/\y=.int n/\MulOk z n/\Q (.str<|PySem.Txt.mul z n) H
def D6:ji X (binaryOp .Mult) Wb:=by intro qg s σ H x y v u Q I c a h;let⟨z,n,rfl,rfl,hm,q⟩:=h;let⟨t,rfl⟩:=c;let⟨e,rfl⟩:=a;show SB.mul hm λd k=>{.str _,H,I.tok k,{_,rfl},q}
def J_(w:Ω)(K:Φ)(a:ε)(kvs:δ<|ρ×V):Prop:=(a==sysModules)=ϰ/\∃(o:Obj)(es:Array DictEntry)(ep:π),K.lookup a=ϑ o/\o.ExactDict/\o.data=.dict es ep/\Paired (λ(e:DictEntry)(c:ρ×V)=>e.hash=hashStr w c.1/\(∃t,e.key=.str c.1 t)/\RelV c.2 e.val) es.toList kvs/\(kvs.map Prod.fst).Nodup
theorem uf(z:ρ):∀kvs:δ (ρ×V),iX (kvs.map λp=>((.inr p.1:Key),p.2)) (.inr z)=kvs.lookup z
 |[]=>rfl
 | (x,v)::r=>by
  rw[zO,zL];by_cases e:z=x;subst e;rw[tX rfl];simp;have e1:(z==x)=ϰ:=by simpa using e
  rw[tY λq=>e (yK q).symm,e1];show uf z r
section
variable{X:Cx}{qg:δ (ε×Obj)}{σ:St}{H:Hp}{s:ζ}{a:ε}{kvs:δ (ρ×V)}
def D_(I:Inv X qg σ H s)(d:J_ X.w X.K a kvs):(a==sysModules)=ϰ/\∃vs,KV (kvs.map λp=>((.inr p.1:Key),p.2)) vs/\s.heap.DictOf (aS X.prog X.w) a vs:=by
 let⟨ns,o,es,ep,hk,hx,hd,i,hn⟩:=d;have all:∀(es:δ DictEntry)(kvs:δ (ρ×V)),Paired (λ(e:DictEntry)(c:ρ×V)=>e.hash=hashStr X.w c.1/\(∃t,e.key=.str c.1 t)/\RelV c.2 e.val) es kvs->∃vs:δ (Key×ξ),KV (kvs.map λp=>((.inr p.1:Key),p.2)) vs/\Pairs (aS X.prog X.w) es vs/\vs.map (·.1)=kvs.map (λp=>(.inr p.1:Key))/\∀e∈es,∃k,(aS X.prog X.w).is k e.key=ϱ/\e.hash=(aS X.prog X.w).hash k:=by intro es kvs i;induction i with|nil=>show{[],.nil,.nil,rfl,`d}|@cons e c n j h t m=>let⟨vs,k1,k2,k3,k4⟩:=m;let⟨h1,⟨tk,h2⟩,l⟩:=h;have hi:(aS X.prog X.w).is (.inr c.1) e.key=ϱ:=(by rw[h2];show lh _ _ _ _);show{(.inr c.1,e.val)::vs,.cons ⟨rfl,l⟩ k1,.cons hi rfl k2,by rw[zO,zO,k3],λe' g=>?_};rcases ze.mp g with rfl|g;show{.inr c.1,hi,h1};show k4 e' g
 let⟨vs,k1,k2,k3,k4⟩:=all _ _ i;show{ns,vs,k1,o,es,ep,I.nh a o hk,hx,hd,λe g=>k4 e<|by simpa using g,k2,?_};rw[k3];have:(kvs.map λp=>(.inr p.1:Key))=(kvs.map Prod.fst).map Sum.inr:=by rw[zH];rfl
 rw[this];show List.Pairwise.map _ (λx y h q=>h<|yK q) hn
def Ka{w:Ω}{K:Φ}(hw:X.w=w)(g:X.K=K):ji X (compareOp .In) (λx y H Q=>∃z a kvs,x=.str z/\y=.ref a/\J_ w K a kvs/\Q (.bl (kvs.lookup z).isSome) H):=by subst hw g;intro qg s σ H x y v u Q I e c h;let⟨z,a,kvs,rfl,rfl,d,q⟩:=h;cases c;let⟨ns,vs,rel,i⟩:=D_ I d;show wpAny_in_of (nq (k:=.inr z) e) ns i.mapOf ?_;rw[<-(rel.val<|.inr z).qu,uf];show{.bl _,H,I.tok _,rfl,q}
def Wc(w:Ω)(K:Φ):V->δ V->Hp->VK->Prop:=λx vs H Q=>∃a z kvs,x=.ref a/\vs=[.str z]/\J_ w K a kvs/\Q ((kvs.lookup z).getD .ao) H
def NS{w:Ω}{K:Φ}(hw:X.w=w)(i:X.K=K):Rn X "dict.get" (Wc w K):=by subst hw i;intro qg s σ H x vs v us Q I g j h;let⟨a,z,kvs,rfl,rfl,d,q⟩:=h;cases g;let⟨u,rfl,e⟩:=j.one;let⟨ns,vs,rel,c⟩:=D_ I d;show call_meetsIn yt c.typeIs PySem.F.entry_dict_get (PySem.F.args_dict_get_2 _ _) (meets_dict_get (aS X.prog X.w) a (nq (k:=.inr z) e) ns) {_,c.mapOf,_,H,I.tok _,?_,q};rw[<-uf];show(rel.val<|.inr z).getD rfl
def Kb{w:Ω}{K:Φ}{o e:Δ}{apos bp:Pos}{td ty:TE}(hw:X.w=w)(t:X.K=K)(ho:PE X o td)(j:PE X e ty)(m:M1 X o "get" apos e bp):PE X (.Call (.Attribute o "get" apos) [e] [] bp) (λσ H Q=>td σ H λx H1=>∃a kvs,x=.ref a/\J_ w K a kvs/\ty σ H1 λy H2=>∃z,y=.str z/\Q ((kvs.lookup z).getD .ao) H2):=by subst hw t;intro qg s σ H Q I h;show wpAny_Call_method m.base m.IX m.line PySem.F.plainAttrs_dict yt PySem.F.type_dict_get<|bZ (ho qg s σ H _ I h) λu s1 ⟨x,H1,c,p,a,kvs,ex,d,B⟩=>?_;subst ex;obtain rfl:u=Value.ref a:=p;let⟨ns,vs,rel,g⟩:=D_ c d;let⟨A,_,_,h1,h2,_⟩:=id g;show{g.typeIs,λb q=>by cases q;show⟨A,h1,h2.2.1⟩,?_};rw[m.trees];show Calls.callWith_builtin rfl<|Calls.evalArgs_plain<|yu<|bZ (j qg s1 σ H1 _ c B) λv s2 ⟨y,H2,i,l,z,n,r⟩=>Calls.spliced_nil ?_;subst n;show NS rfl rfl qg s2 σ H2 (.ref a) [.str z] _ [v] Q i rfl (.cons l .nil) ⟨a,z,kvs,rfl,rfl,d,r⟩
end
theorem Kc:bootBuiltins "min"= some (.builtin "min"):=`c
section
variable{X:Cx}
def NT:V->δ V->Hp->VK->Prop:=λx vs H Q=>∃z y,x=.str z/\vs=[.str y]/\Q (.bl<|PySem.Txt.startswith z y) H
def v5:Rn X "str.startswith" NT:=by intro qg s σ H x vs v us Q I c d h;let⟨z,y,rfl,rfl,q⟩:=h;let⟨t,rfl⟩:=c;let⟨u,rfl,a⟩:=d.one;let⟨e,rfl⟩:=a;show PySem.SC.startswith {.bl _,H,I,rfl,q}
def aa4:V->θ ν->θ ν->Hp->VK->Prop:=λx lo hi H Q=>∃z,x=.str z/\z.length<=Ϙ/\Q (.str<|PySem.Txt.slice z lo hi) H
def R9:Up X aa4:=by intro qg s σ H x v p r lo hi sl Q I n hs m e h;let⟨z,rfl,hz,q⟩:=h;let⟨t,rfl⟩:=n;let⟨o,e1,e2,e3⟩:=hs;show{"str",_,F.slot_str_getitem.lookup,typeIs_str _ _ _,?_};have c:∀k,∀a:Tok,EP X qg σ Q (.str (PySem.Txt.slice z lo hi) a) {s with toks:=k}:=λk a=>{.str _,H,I.tok k,{_,rfl},q};cases m with|none=>(cases e with|none=>show wpAny_getItem_str_slice (l:=none) (u:=none) (st:=none) ⟨o,e1,e2,e3⟩ rfl (post_val_or_str {zM (Txt.slice_le z _ _) hz,λa k=>c k a})|int j d=>show wpAny_getItem_str_slice (l:=none) (u:=some (j,d)) (st:=none) ⟨o,e1,e2,e3⟩ rfl<|post_val_or_str {zM (Txt.slice_le z _ _) hz,λa k=>c k a})|int i g=>cases e with|none=>show wpAny_getItem_str_slice (l:=some (i,g)) (u:=none) (st:=none) ⟨o,e1,e2,e3⟩ rfl (post_val_or_str {zM (Txt.slice_le z _ _) hz,λa k=>c k a})|int j d=>show wpAny_getItem_str_slice (l:=some (i,g)) (u:=some (j,d)) (st:=none) ⟨o,e1,e2,e3⟩ rfl<|post_val_or_str {zM (Txt.slice_le z _ _) hz,λa k=>c k a}
end
end L2
namespace L2
open PySem PySem.Spec PyProof.Rows PySem.SeqAt
theorem ug:∀{bs:δ χ}{us:δ ξ},Vals (bs.map V.bl) us->us=bs.map Value.bool|[],_,.nil=>rfl|b::bs,_,.cons r q=>by cases r;rw[ug q];rfl
def NU(K:Φ):V->δ V->Hp->VK->Prop:=λx vs H Q=>∃(a:ε)(bs:δ χ)(k:χ),x=.ref a/\vs=[.bl k]/\kZ K H a (bs.map V.bl)/\Q (.int (bs.count k:π)) H
def HE:Rn X "list.count" (NU X.K):=by
 intro qg s σ H x vs v us Q I l g h;let⟨a,bs,k,rfl,rfl,i,q⟩:=h;cases l;let⟨u,rfl,j⟩:=g.one;cases j;let⟨t,r,p,hz⟩:=I.list i;have e:=ug r;subst e;let⟨⟨cls,o,d,sl⟩,ho,hc,n,hd⟩:=p.isList;simp only at hc hd;subst hc hd;show yR PySem.F.slot_list_count {_,ho,rfl} PySem.F.entry_list_count (PySem.F.args_list_count_2 _ _) (list_countAt a (bs.map Value.bool).toArray n o sl (.bool k)<|isBoolOf k) {ho,λy c=>?_,?_};have c:y∈bs.map Value.bool:=by simpa using c
 let⟨b,_,rfl⟩:=zh.mp c;show EqAt.bool_bool b k;have m:((bs.map Value.bool).countP (isBoolOf k):π)=bs.count k:=by rw[List.countP_map];rfl
 rw[show(bs.map Value.bool).toArray.toList=bs.map Value.bool from rfl,m];show{.int _,H,I.tok _,{_,rfl},q}
end L2
namespace L2
open PySem PySem.Spec PyProof.Rows
theorem x_(l:ε)(items:Array ξ)(n:π)(b:ε)(a:Array ξ)(m:π)(sl:Array<|θ ξ)(r:¬(!items.isEmpty&&Builtin.List.listTooLong (items.size+a.size))=ϱ)(e:items.size<=Ϙ)(i:items.size+a.size<=Ϙ+1): Meets (Builtin.«list.extend» {[.ref l,.ref b],[]}) (λz R s=>s.heap.get? l=ϑ {cls:=.type "list",dict:=none,data:=.seq items n,slots:=#[]}/\s.heap.get? b=ϑ {cls:=.type "tuple",dict:=none,data:=.seq a m,slots:=sl}/\R (.ok<|.ret Value.none) {s with heap:=s.heap.update l<|Obj.mapSeq λx=>x++a,toks:=s.toks}):=.of_wp λprog w A R s h=>by
 let⟨y,g,d,tk,os⟩:=s;let⟨hl,j,h⟩:=h;have t:=AutoSeq1.idx_int;have o:=AutoSeq1.sub_tuple_tuple;have q:=AutoSeq1.sub_list_list;have v:=AutoSeq1.sub_tuple_list;have p:=AutoSeq1.sub_list_tuple;have c:(items++a).size<=Ϙ+1:=by rw[Array.size_append];show i
 wp_walk using (wpAny_updateSeq hl rfl (hz:=e) (_hz':=c)),AutoSeq1.wpAny_loadPart' hl,AutoSeq1.wpAny_loadPart' j;show{_,rfl,h}
theorem qy:fillsNumberSlot (.type "tuple") "mul"= pure false:=PySem.fillsNumberSlot_seq (id:="tuple.__mul__") (r:=some<|.builtin "tuple.__rmul__") F.slot_tuple_mul.lookup `c F.slot_tuple_rmul.lookup<|`c
def yV:seqRepeat? (.type "tuple")=pure (some<|.builtin "tuple.__mul__"):=by unfold seqRepeat?;rw[PySem.seqSlot_of (T:="tuple") (name:="__mul__") (id:="tuple.__mul__") F.slot_tuple_mul.lookup<|`c,PySem.seqSlot_of (T:="tuple") (name:="__rmul__") (id:="tuple.__rmul__") F.slot_tuple_rmul.lookup<|`c];rfl
theorem uk(a:ν)(t:Tok)(l:ε)(items:Array ξ)(n:π)(dd:θ ε)(sl:Array<|θ ξ): Meets (Builtin.«int.__rmul__» {[.int a t,.ref l],[]}) (λz R s=>s.heap.get? l=ϑ {cls:=.type "tuple",dict:=dd,data:=.seq items n,slots:=sl}/\R (.ok<|.ret Value.notImplemented) s):=.of_wp λprog w A R s h=>by let⟨c,g,d,tk,os⟩:=s;let⟨hl,h⟩:=h;wp_walk;show{_,rfl,h}
theorem BN(l:ε)(v:ξ)(n:π)(dd:θ ε)(sl:Array<|θ ξ)(u:Tok): Meets (Builtin.«tuple.__mul__» {[.ref l,.int 1 u],[]}) (λz R s=>s.heap.get? l=ϑ {cls:=.type "tuple",dict:=dd,data:=.seq #[v] n,slots:=sl}/\R (.ok<|.ret<|.ref l) {s with heap:=s.heap,toks:=s.toks}):=.of_wp λprog w A R s h=>by let⟨c,g,d,tk,os⟩:=s;let⟨hl,h⟩:=h;have e:=AutoSeq1.idx_int;have a:=AutoSeq1.sub_tuple_tuple;wp_walk using AutoSeq1.wpAny_loadPart' hl;show{_,rfl,h}
theorem Ea(l:ε)(v:ξ)(n:π)(dd:θ ε)(sl:Array<|θ ξ)(x:ν)(u:Tok)(h1:2<=x)(h2:x<=1000): Meets (Builtin.«tuple.__mul__» {[.ref l,.int x u],[]}) (λz R s=>s.heap.get? l=ϑ {cls:=.type "tuple",dict:=dd,data:=.seq #[v] n,slots:=sl}/\R (.ok<|.ret<|Value.ref s.heap.objs.size) {s with heap:=s.heap.push {cls:=Value.type "tuple",data:=Data.seq<|List.foldl (λx1 x2=>x1++x2) #[] (List.replicate x.toNat #[v])},toks:=s.toks}):=.of_wp λprog w A R s h=>by
 let⟨r,g,d,tk,os⟩:=s;let⟨hl,h⟩:=h;have j:=AutoSeq1.idx_int;have c:=AutoSeq1.sub_tuple_tuple;have p:-9223372036854775808<=x:=`b
 have o:x<9223372036854775808:=`b
 have q:¬x=1:=`b
 have m:0<x:=`b
 have i:x<=1152921504606846975:=`b
 have e:Builtin.Tuple.tupleTooMany x=ϰ:=by simp[Builtin.Tuple.tupleTooMany,sizeLine];lia
 have a:(List.foldl (λx1 x2=>x1++x2) #[] (List.replicate x.toNat #[v])).size<=sizeLine:=by rw[AutoSeq1.size_joined];change 0+x.toNat*1<=16777216;lia
 wp_walk using AutoSeq1.wpAny_loadPart' hl;show{_,rfl,h}
section
variable{X:Cx}{K:Φ}
def Ke:V->δ V->Hp->VK->Prop:=λx vs H Q=>∃l b xs zs,x=.ref l/\vs=[.ref b]/\H l=ϑ (.lst xs)/\H b=ϑ (.tup zs)/\xs.length+zs.length<=Ϙ/\Q .ao (upd H l<|.lst<|xs++zs)
def Eb:MtM X "list.extend" Ke:=by
 intro qg s σ H x vs v us Q I C t h;let⟨l,b,xs,zs,rfl,rfl,o,p,hz,q⟩:=h;cases C;let⟨u,rfl,B⟩:=t.one;cases B;let⟨z,a,n,r,hl,e⟩:=I.Hl o;let⟨z2,c,i,⟨L,K,E,G⟩,e2,m,j,y,g⟩:=(show bM X.prog X.w H s.heap b (.tup zs) from I.aT b _ p);dsimp only at m j g;subst m j g;have J:=i.length;have d:a.toArray.size+c.toArray.size<=sizeLine:=by rw[zl,zl];lia
 have A:¬(!a.toArray.isEmpty&&Builtin.List.listTooLong (a.toArray.size+c.toArray.size))=ϱ:=by rw[JH d,yQ];show zd
 show yR F.slot_list_extend {_,e,rfl} F.entry_list_extend (F.args_list_extend_2 _ _) (x_ l a.toArray n b c.toArray y G A (by rw[zl];lia)<|`b) {e,e2,?_};show{.ao,_,I.Rx (its':=a++c) o e `d (r.append i) ?_,rfl,q};rw[zw];lia
def v7(t:X.K=K):eU X (.builtin "isinstance") (λxs H Q=>∃a C b cs r,xs=[.ref a,.ref b]/\H a=ϑ (vV a<|.ref C)/\XC K C/\XA K C/\H b=ϑ (.tup cs)/\(∀d,Vals cs d->kitAny K (.ref C) d=ϑ r)/\Q (.bl r) H):=by subst t;intro qg s σ H xs us Q I r h;let⟨a,C,b,cs,j,rfl,ha,A,xa,x,e,q⟩:=h;let⟨v,y,rfl,m,n⟩:=vals2 r;cases (show v=Value.ref a from m);cases (show y=Value.ref b from n);let⟨p,_⟩:=I.aT a _ ha;let⟨z2,E,l,⟨G,B,o,J⟩,e2,i,g,F,c⟩:=(show bM X.prog X.w H s.heap b (.tup cs) from I.aT b _ x);dsimp only at i g c;subst i g c;show PySem.W.kia_tup (BI A xa) I.nh p e2 (e _ l) (λz=>nomatch z) λtk=>{.bl j,H,I.tok tk,rfl,q}
theorem yW(v:ξ):∀(n:π)(a:δ ξ),List.foldl (λx1 x2=>x1++x2) a.toArray (List.replicate n #[v])=(a++List.replicate n v).toArray|0,a=>by simp|n+1,a=>by rw[List.replicate_succ,yH,show a.toArray++#[v]=(a++[v]).toArray by simp,yW v n,List.append_assoc];rfl
theorem um(r:RelV x v):∀n,Vals (List.replicate n x) (List.replicate n v)|0=>.nil|n+1=>.cons r<|um r n
def Wf:R2:=λx y H Q=>∃a z n,x=.ref a/\y=.int n/\H a=ϑ (.tup [z])/\1<=n/\n<=1000/\(n=1->Q (.ref a) H)/\(2<=n->∀p,H p=ϐ->Q (.ref p) (upd H p<|.tup<|List.replicate n.toNat z))
def FI:ji X (binaryOp .Mult) Wf:=by
 intro qg s σ H x y v u Q I t r h;let⟨a,z,n,rfl,rfl,ha,h1,h2,C,B⟩:=h;cases t;let⟨c,rfl⟩:=r;let⟨z2,G,o,⟨J,E,A,g⟩,ho,m,l,d,i⟩:=(show bM X.prog X.w H s.heap a (.tup [z]) from I.aT a _ ha);dsimp only at m l i;subst m l i;let⟨w,rfl,p⟩:=o.one;show wpAny_binaryOp_repeat_ref (T:="tuple") (U:="int") `a {_,ho,rfl} (λs'=>typeIs_int s' n c) qy F.fills_int_mul F.slot_int_rmul yV F.slot_int_index.lookup<|yR F.slot_int_rmul (typeIs_int s n c) F.entry_int_rmul (F.args_int_rmul_2 _ _) (uk n c a #[w] d none g) {ho,rfl,{_,ho,rfl},?_};by_cases e:n=1;subst e;show yR F.slot_tuple_mul {_,ho,rfl} F.entry_tuple_mul (F.args_tuple_mul_2 _ _) (BN a w d none g c) {ho,.ref a,H,I.tok _,rfl,C rfl};have j:2<=n:=`b
 show yR F.slot_tuple_mul {_,ho,rfl} F.entry_tuple_mul (F.args_tuple_mul_2 _ _) (Ea a w d none g n c j h2) {ho,?_};rw[show(#[]:Array ξ)=([]:δ ξ).toArray from rfl,yW,List.nil_append];show{.ref s.heap.objs.size,_,I.laid (t':=s.toks) (λk k q=>zb _ q) (zp _) ?_,rfl,B j _ I.fresh};show(show bM X.prog X.w _ _ _ (.tup<|List.replicate n.toNat z) from{by rw[zE];show YR<|`b,_,um p _,ic.new _ _})
end
set_option genInjectivity true in
set_option genSizeOfSpec true in
inductive D
 |ao|bl (b:χ)|int (i:ν)|str (x:ρ)|tup (ds:δ D)|lF (ds:δ D)|kt (ds:δ D)|ref (a:ε)|ty (n:String)
def KtL(K:Φ)(a:ε)(xs:δ V):Prop:=∃(o:Obj)(aE:Array ξ)(n:π),K.lookup a=ϑ o/\o.cls=.type "tuple"/\o.data=.seq aE n/\aE.size<=Ϙ/\Vals xs aE.toList
def PK(K:Φ)(H:Hp)(a:ε)(xs:δ V):Prop:=(∃o,H a=ϑ (.ng o<|.lst xs))\/∃(o:Obj)(aE:Array ξ)(n:π),K.lookup a=ϑ o/\o.cls=.type "list"/\o.dict=ϐ/\o.data=.seq aE n/\aE.size<=Ϙ/\Vals xs aE.toList
def PK.sq{K:Φ}{H:Hp}{a:ε}{xs:δ V}(h:PK K H a xs):kZ K H a xs:=by rcases h with h|h;show .inl<|.inr h;show .inr h
structure Kp(K:Φ)(H H':Hp):η where
 t:∀a xs,H a=ϑ (.tup xs)->H' a=ϑ (.tup xs)
 r:∀a xs,PK K H a xs->PK K H' a xs
 f:∀a o u,H a=ϑ (.ng o u)->H' a=ϑ (.ng o u)
theorem Kp.refl{K:Φ}(H:Hp):Kp K H H:={λz z h=>h,λz z h=>h,λz z z h=>h}
theorem Kp.trans{K:Φ}{H H1 H2:Hp}(a:Kp K H H1)(b:Kp K H1 H2):Kp K H H2:={λp xs h=>b.t p xs<|a.t p xs h,λp xs h=>b.r p xs<|a.r p xs h,λp o u h=>b.f p o u<|a.f p o u h}
theorem Kp.of{K:Φ}{H H':Hp}(h:∀b o,H b=ϑ o->H' b=ϑ o\/(∀xs,o≠.tup xs)/\∀u v,o≠.ng u v):Kp K H H' where
 t:=λa xs q=>(h _ _ q).resolve_right λz=>z.1 _ rfl
 r:=λa xs q=>by
  rcases q with⟨o,q⟩|q
  ·show .inl {o,(h _ _ q).resolve_right λz=>z.2 _ _ rfl}
  ·show .inr q
 f:=λa o u q=>(h _ _ q).resolve_right λz=>z.2 _ _ rfl
theorem Kp.new{K:Φ}{H:Hp}{a:ε}{o:HO}(h:H a=ϐ):Kp K H (upd H a o):=.of λb u e=>.inl<|by rw[ay<|aD e h];show e
theorem Kp.put{K:Φ}{H:Hp}{a:ε}{o u:HO}(h:H a=ϑ o)(h1:∀xs,o≠.tup xs)(h2:∀u v,o≠.ng u v):Kp K H (upd H a u):=.of λb v e=>by by_cases q:b=a;subst q;rw[h]at e;cases e;show .inr ⟨h1,h2⟩;show .inl<|by rw[ay q];show e
mutual
def Rv(K:Φ)(H:Hp):D->V->η|.ao,v=>v=.ao|.bl b,v=>v=.bl b|.int i,v=>v=.int i|.str z,v=>v=.str z|.tup ds,v=>∃a xs,v=.ref a/\H a=ϑ (.tup xs)/\RvAll K H ds xs|.lF ds,v=>∃a xs,v=.ref a/\PK K H a xs/\RvAll K H ds xs|.kt ds,v=>∃a xs,v=.ref a/\KtL K a xs/\RvAll K H ds xs|.ref a,v=>v=.ref a|.ty n,v=>v=.ty n
def RvAll(K:Φ)(H:Hp):δ D->δ V->η|[],xs=>xs=[]|d::ds,xs=>∃y ys,xs=y::ys/\Rv K H d y/\RvAll K H ds ys
end
section
variable{K:Φ}{H H':Hp}
def jZ:Rv K H .ao .ao:=by simp only[Rv]
def cU(b:χ):Rv K H (.bl b) (.bl b):=by simp only[Rv]
def bc(i:ν):Rv K H (.int i) (.int i):=by simp only[Rv]
def j0(z:ρ):Rv K H (.str z) (.str z):=by simp only[Rv]
def cg(a:ε):Rv K H (.ref a) (.ref a):=by simp only[Rv]
def Wh(n:String):Rv K H (.ty n) (.ty n):=by simp only[Rv]
def PL(h:KtL K a xs)(t:RvAll K H ds xs):Rv K H (.kt ds) (.ref a):=by simp only[Rv];show⟨a,xs,rfl,h,t⟩
def lG(h:H a=ϑ (.tup xs))(t:RvAll K H ds xs):Rv K H (.tup ds) (.ref a):=by simp only[Rv];show⟨a,xs,rfl,h,t⟩
def Kf(h:PK K H a xs)(t:RvAll K H ds xs):Rv K H (.lF ds) (.ref a):=by simp only[Rv];show⟨a,xs,rfl,h,t⟩
def Rv.ao(h:Rv K H .ao v):v=.ao:=by simpa only[Rv]using h
def Rv.bl(h:Rv K H (.bl b) v):v=.bl b:=by simpa only[Rv]using h
def Rv.int(h:Rv K H (.int i) v):v=.int i:=by simpa only[Rv]using h
def Rv.str(h:Rv K H (.str z) v):v=.str z:=by simpa only[Rv]using h
def Rv.ref(h:Rv K H (.ref a) v):v=.ref a:=by simpa only[Rv]using h
def Rv.ty(h:Rv K H (.ty n) v):v=.ty n:=by simpa only[Rv]using h
def Rv.kt(h:Rv K H (.kt ds) v):∃a xs,v=.ref a/\KtL K a xs/\RvAll K H ds xs:=by simpa only[Rv]using h
def Rv.tup(h:Rv K H (.tup ds) v):∃a xs,v=.ref a/\H a=ϑ (.tup xs)/\RvAll K H ds xs:=by simpa only[Rv]using h
def Rv.lF(h:Rv K H (.lF ds) v):∃a xs,v=.ref a/\PK K H a xs/\RvAll K H ds xs:=by simpa only[Rv]using h
def cn:RvAll K H [] []:=by simp only[RvAll]
def bE(h:Rv K H d x)(t:RvAll K H ds xs):RvAll K H (d::ds) (x::xs):=by simp only[RvAll];show⟨x,xs,rfl,h,t⟩
def RvAll.nil(h:RvAll K H [] xs):xs=[]:=by simpa only[RvAll]using h
def RvAll.cons(h:RvAll K H (d::ds) xs):∃y ys,xs=y::ys/\Rv K H d y/\RvAll K H ds ys:=by simpa only[RvAll]using h
mutual
theorem Rv.ts(s:Kp K H H'):∀(d:D){v:V},Rv K H d v->Rv K H' d v|.ao,v,h=>by simpa only[Rv]using h|.bl b,v,h=>by simpa only[Rv]using h|.int i,v,h=>by simpa only[Rv]using h|.str z,v,h=>by simpa only[Rv]using h|.tup ds,v,h=>(by let⟨a,xs,rfl,e,t⟩:=h.tup;show lG (s.t _ _ e)<|RvAll.ts s ds t)|.lF ds,v,h=>(by let⟨a,xs,rfl,e,t⟩:=h.lF;show Kf (s.r _ _ e)<|RvAll.ts s ds t)|.kt ds,v,h=>(by let⟨a,xs,rfl,e,t⟩:=h.kt;show PL e<|RvAll.ts s ds t)|.ref a,v,h=>by simpa only[Rv]using h|.ty n,v,h=>by simpa only[Rv]using h
theorem RvAll.ts(s:Kp K H H'):∀(ds:δ D){xs:δ V},RvAll K H ds xs->RvAll K H' ds xs|[],xs,h=>by rw[h.nil];show cn|d::ds,xs,h=>by let⟨y,ys,rfl,h1,h2⟩:=h.cons;show bE (Rv.ts s d h1)<|RvAll.ts s ds h2
end
theorem RvAll.len:∀{ds:δ D}{xs:δ V},RvAll K H ds xs->xs.length=ds.length|[],xs,h=>by rw[h.nil];rfl|d::ds,xs,h=>by let⟨y,ys,rfl,_,h2⟩:=h.cons;rw[zG,zG,h2.len]
theorem RvAll.get:∀{ds:δ D}{xs:δ V}{i:π}{d:D},RvAll K H ds xs->ds[i]?=some d->∃v,xs[i]?=some v/\Rv K H d v|[],xs,i,d,h,e=>by simp at e|d0::ds,xs,0,d,h,e=>(by let⟨y,ys,rfl,h1,h2⟩:=h.cons;simp at e;subst e;show⟨y,rfl,h1⟩)|d0::ds,xs,i+1,d,h,e=>by let⟨y,ys,rfl,h1,h2⟩:=h.cons;let⟨v,e1,e2⟩:=h2.get (i:=i) (by simpa using e);show{v,by simpa using e1,e2}
theorem RvAll.app:∀{ds es:δ D}{xs ys:δ V},RvAll K H ds xs->RvAll K H es ys->RvAll K H (ds++es) (xs++ys)|[],es,xs,ys,h,k=>by rw[h.nil];show k|d::ds,es,xs,ys,h,k=>by let⟨y,zs,rfl,h1,h2⟩:=h.cons;show bE h1<|h2.app k
theorem RvAll.take:∀{ds:δ D}{xs:δ V}(n:π),RvAll K H ds xs->RvAll K H (ds.take n) (xs.take n)|[],xs,n,h=>by rw[h.nil];simp only[List.take_nil];show cn|d::ds,xs,0,h=>by simp only[List.take_zero];show cn|d::ds,xs,n+1,h=>by let⟨y,zs,rfl,h1,h2⟩:=h.cons;show bE h1<|h2.take n
theorem RvAll.drop:∀{ds:δ D}{xs:δ V}(n:π),RvAll K H ds xs->RvAll K H (ds.drop n) (xs.drop n)|[],xs,n,h=>by rw[h.nil];simp only[List.drop_nil];show cn|d::ds,xs,0,h=>h|d::ds,xs,n+1,h=>by let⟨y,zs,rfl,h1,h2⟩:=h.cons;show h2.drop n
theorem RvAll.set:∀{ds:δ D}{xs:δ V}{d:D}{v:V}(n:π),RvAll K H ds xs->Rv K H d v->RvAll K H (ds.set n d) (xs.set n v)|[],xs,d,v,n,h,r=>by rw[h.nil];show cn|d0::ds,xs,d,v,0,h,r=>(by let⟨y,zs,rfl,h1,h2⟩:=h.cons;show bE r h2)|d0::ds,xs,d,v,n+1,h,r=>by let⟨y,zs,rfl,h1,h2⟩:=h.cons;show bE h1<|h2.set n r
theorem RvAll.dropLast:∀{ds:δ D}{xs:δ V},RvAll K H ds xs->RvAll K H ds.dropLast xs.dropLast|[],xs,h=>by rw[h.nil];show cn|[d],xs,h=>(by let⟨y,zs,rfl,h1,h2⟩:=h.cons;rw[h2.nil];show cn)|d::e::ds,xs,h=>by let⟨y,zs,rfl,h1,h2⟩:=h.cons;let⟨i,a,rfl,c,g⟩:=id h2.cons;show bE h1<|RvAll.dropLast h2
theorem RvAll.bools:∀{bs:δ χ}{xs:δ V},RvAll K H (bs.map D.bl) xs->xs=bs.map V.bl|[],xs,h=>h.nil|b::bs,xs,h=>by let⟨y,ys,rfl,h1,h2⟩:=h.cons;rw[h1.bl,h2.bools];rfl
theorem RvAll.ints:∀{bs:δ ν}{xs:δ V},RvAll K H (bs.map D.int) xs->xs=bs.map V.int|[],xs,h=>h.nil|b::bs,xs,h=>by let⟨y,ys,rfl,h1,h2⟩:=h.cons;rw[h1.int,h2.ints];rfl
theorem RvAll.strs:∀{bs:δ ρ}{xs:δ V},RvAll K H (bs.map D.str) xs->xs=bs.map V.str|[],xs,h=>h.nil|b::bs,xs,h=>by let⟨y,ys,rfl,h1,h2⟩:=h.cons;rw[h1.str,h2.strs];rfl
theorem FJ:∀(bs:δ ν),RvAll K H (bs.map D.int) (bs.map V.int)|[]=>cn|b::bs=>bE (bc b)<|FJ bs
theorem yX:∀(bs:δ ρ),RvAll K H (bs.map D.str) (bs.map V.str)|[]=>cn|b::bs=>bE (j0 b)<|yX bs
def c_{κ:Type}(K:Φ)(H:Hp):δ (κ×D)->δ (κ×V)->Prop:=Paired λp q=>p.1=q.1/\Rv K H p.2 q.2
theorem c_.ts(s:Kp K H H'):∀{ks:δ (κ×D)}{vs:δ (κ×V)},c_ K H ks vs->c_ K H' ks vs|_,_,.nil=>.nil|_,_,.cons r t=>.cons {r.1,Rv.ts s _ r.2}<|c_.ts s t
def c_.look(h:c_ K H ks vs)(f:ρ):(∀d,ks.lookup f=ϑ d->∃v,vs.lookup f=ϑ v/\Rv K H d v)/\(ks.lookup f=ϐ->vs.lookup f=ϐ):=by induction h with|nil=>(show{λd e=>(by cases e),λz=>rfl})|@cons a b l m r t c=>let⟨k,d⟩:=a;let⟨k',v⟩:=b;let⟨rfl,r⟩:=r;simp only[zL];cases q:f==k with|true=>(show{λg e=>{v,rfl,(by cases e;show r)},λe=>(by cases e)})|false=>show c
end
set_option genInjectivity true in
set_option genSizeOfSpec true in
inductive Ce
 |lst (ds:δ D)|eV (kvs:δ<|Key×D)|ins (c:ε) (fs:δ<|ρ×D)|well|exc (c:ε)|tab (q:ρ)|raw (o:HO)
def FK(H:Hp)(q:ρ)(ps:Array ξ):Prop:=TriplesOk ps.toList/\∀pos cv,codeAmong pos ps.toList=ϑ cv->∃c o vs t,cv=.ref c/\H c=ϑ (.ng o<|.own 0)/\o.data=.fields vs/\vs[1]?=some (.str q t)
abbrev ax:=ε->θ Ce
noncomputable def ax.set(S:ax)(a:ε)(c:Ce):ax:=λb=>if b=a then some c else S b
def aa{S:ax}{a:ε}{c:Ce} : S.set a c a=ϑ c:=by unfold ax.set;rw[qe rfl]
def ah{S:ax}{a b:ε}{c:Ce}(h:b≠a):S.set a c b=S b:=by unfold ax.set;rw[qb h]
def fu{S:ax}{a:ε}{c e:Ce} : (S.set a c).set a e=S.set a e:=by funext b;unfold ax.set;split<;>rfl
def jx{S:ax}{a b:ε}{c:Ce}(h:S a=ϑ c)(h':S b=ϐ):a≠b:=by intro e;subst e;rw[h]at h';cases h'
def Rc(K:Φ)(H:Hp)(a:ε):Ce->η|.lst ds=>∃xs,H a=ϑ (.lst xs)/\RvAll K H ds xs|.eV kvs=>∃vs,H a=ϑ (.dK vs)/\c_ K H kvs vs|.ins c fs=>∃dx vs,H a=ϑ (.ins c dx vs)/\c_ K H fs vs|.well=>∃x y z:ν,H a=ϑ (.lst [.int x,.int y,.int z])|.exc c=>H a=ϑ (vV a<|.ref c)|.tab q=>∃ps,H a=ϑ (.sS ps)/\FK H q ps|.raw o=>H a=ϑ o/\(∀xs,o≠.tup xs)/\∀u v,o≠.ng u v
def Rs(K:Φ)(S:ax)(H:Hp):Prop:=∀a c,S a=ϑ c->Rc K H a c
section
variable{K:Φ}{H H':Hp}{S:ax}{a b:ε}{c:Ce}
def Rc.has(h:Rc K H a c):∃o,H a=ϑ o/\(∀xs,o≠.tup xs)/\∀u v,o≠.ng u v:=by cases c with|lst ds=>(let⟨xs,e,_⟩:=h;show{_,e,λw=>nofun,λw w=>nofun})|eV ds=>(let⟨xs,e,_⟩:=h;show{_,e,λw=>nofun,λw w=>nofun})|ins c fs=>(let⟨dx,vs,e,_⟩:=h;show{_,e,λw=>nofun,λw w=>nofun})|well=>(let⟨x,y,z,e⟩:=h;show{_,e,λw=>nofun,λw w=>nofun})|exc c=>show{_,h,λw=>nofun,λw w=>nofun}|tab q=>(let⟨ps,e,_⟩:=h;show{_,e,λw=>nofun,λw w=>nofun})|raw o=>show⟨o,h⟩
def Rc.keep(h:Rc K H a c)(e:∀o,H a=ϑ o->H' a=ϑ o)(s:Kp K H H'):Rc K H' a c:=by cases c with|lst ds=>(let⟨xs,e1,r⟩:=h;show{xs,e _ e1,RvAll.ts s _ r})|eV ds=>(let⟨xs,e1,r⟩:=h;show{xs,e _ e1,r.ts s})|ins c fs=>(let⟨dx,vs,e1,r⟩:=h;show{dx,vs,e _ e1,r.ts s})|well=>(let⟨x,y,z,e1⟩:=h;show{x,y,z,e _ e1})|exc c=>show e _ h|tab q=>(let⟨ps,e1,r,d⟩:=h;show{ps,e _ e1,r,λpos cv z=>by let⟨c,o,vs,t,z1,z2,g⟩:=d pos cv z;show{c,o,vs,t,z1,s.f _ _ _ z2,g}})|raw o=>show{e _ h.1,h.2}
def Rs.fresh(h:Rs K S H)(e:H a=ϐ):S a=ϐ:=by cases q:S a with|none=>rfl|some c=>let⟨o,e1,_⟩:=(h a c q).has;rw[e]at e1;cases e1
theorem Rs.new(h:Rs K S H)(e:H a=ϐ){o:HO}(r:Rc K (upd H a o) a c):Rs K (S.set a c) (upd H a o):=λb x d=>by by_cases q:b=a;subst q;rw[aa]at d;cases d;show r;rw[ah q]at d;show(h b x d).keep (λo e1=>by rw[ay q];show e1)<|Kp.new e
theorem Rs.grow(h:Rs K S H)(e:H a=ϐ):Rs K S (upd H a o):=λb x c=>by let⟨u,e1,_⟩:=(h b x c).has;have q:b≠a:=aD e1 e;show(h b x c).keep (λo e1=>by rw[ay q];show e1)<|Kp.new e
def Rs.j5(h:Rs K S H)(ha:S a=ϑ e):Kp K H (upd H a o):=by let⟨u,e1,d,c⟩:=(h a e ha).has;show Kp.put e1 d c
theorem Rs.put(h:Rs K S H){e:Ce}(ha:S a=ϑ e){o:HO}(r:Rc K (upd H a o) a c):Rs K (S.set a c) (upd H a o):=λb x d=>by by_cases q:b=a;subst q;rw[aa]at d;cases d;show r;rw[ah q]at d;show(h b x d).keep (λo e1=>by rw[ay q];show e1)<|h.j5 ha
theorem Rs.lst(h:Rs K S H)(e:S a=ϑ (.lst ds)):∃xs,H a=ϑ (.lst xs)/\RvAll K H ds xs:=h a _ e
theorem Rs.eV(h:Rs K S H)(e:S a=ϑ (.eV ds)):∃xs,H a=ϑ (.dK xs)/\c_ K H ds xs:=h a _ e
theorem Rs.ins{c:ε}{fs:δ<|ρ×D}(h:Rs K S H)(e:S a=ϑ (.ins c fs)):∃dx vs,H a=ϑ (.ins c dx vs)/\c_ K H fs vs:=h a _ e
end
abbrev KD:=D->ax->η
abbrev KX:=ε->ax->η
abbrev SD:=δ<|θ D
def iV(K:Φ)(H:Hp):SD->St->Prop:=Paired λ(o:θ D)(u:θ V)=>∀d,o=ϑ d->∃v,u=ϑ v/\Rv K H d v
section
variable{K:Φ}{H H':Hp}
theorem iV.ts(s:Kp K H H'):∀{σ:SD}{τ:St},iV K H σ τ->iV K H' σ τ|_,_,.nil=>.nil|_,_,.cons r t=>.cons (λd e=>by let⟨v,e1,a⟩:=r d e;show{v,e1,Rv.ts s _ a})<|iV.ts s t
theorem iV.get:∀{σ:SD}{τ:St}{i:π}{d:D},iV K H σ τ->σ[i]?=some (some d)->∃v,τ[i]?=some (some v)/\Rv K H d v|_,_,i,d,.nil,e=>by simp at e|_,_,0,d,.cons r t,e=>(by simp at e;let⟨v,e1,r1⟩:=r d e;show{v,by simp[e1],r1})|_,_,i+1,d,.cons r t,e=>by let⟨v,e1,r1⟩:=iV.get (i:=i) t (by simpa using e);show{v,by simpa using e1,r1}
theorem iV.set:∀{σ:SD}{τ:St}(i:π){d:D}{v:V},iV K H σ τ->Rv K H d v->iV K H (σ.set i<|some d) (τ.set i<|some v)|_,_,i,d,v,.nil,r=>.nil|_,_,0,d,v,.cons r t,q=>(.cons (λa e=>by cases e;show⟨v,rfl,q⟩) t)|_,_,i+1,d,v,.cons r t,q=>.cons r<|iV.set i t q
theorem iV.unset:∀{σ:SD}{τ:St}(i:π)(o:θ V),iV K H σ τ->iV K H (σ.set i none) (τ.set i o)|_,_,i,o,.nil=>.nil|_,_,0,o,.cons r t=>(.cons (λa e=>by cases e) t)|_,_,i+1,o,.cons r t=>.cons r<|iV.unset i o t
theorem oU:∀(n:π)(τ:St),τ.length=n->iV K H (List.replicate n none) τ|0,[],_=>.nil|n+1,_::τ,h=>.cons (λd e=>by cases e)<|oU n τ<|by simpa using h
theorem oV:∀{ds:δ D}{vs:δ V},RvAll K H ds vs->iV K H (ds.map some) (vs.map some)|[],vs,h=>by rw[h.nil];show .nil|d::ds,vs,h=>by let⟨y,ys,rfl,h1,h2⟩:=h.cons;show .cons (λa e=>by cases e;show⟨y,rfl,h1⟩)<|oV h2
theorem iV.app:∀{σ c:SD}{τ a:St},iV K H σ τ->iV K H c a->iV K H (σ++c) (τ++a)|_,_,_,_,.nil,h=>h|_,_,_,_,.cons r t,h=>.cons r<|iV.app t h
end
structure Rdy(Y:Cx)(E:St->XK)(b:χ):η where
 call:∀p2 τ H s e s',Inv Y p2 τ H s->fh Y.prog Y.w Y.mg Y.stack H s (E τ) e s'->Y.xe e s'
 own:b=ϱ->∀p2 τ H s h' a cls args,Inv Y p2 τ H s->Heap.MadeExcOf s.heap h' a cls args->E τ cls none H->Y.xe (.ref a) {s with heap:=h'}
 loop:b=ϱ->PassesOwn (model Y.prog Y.w) Y.A Y.env Y.xe
structure Ev(X:Cx)(b:χ) where
 pn:δ (ε×Obj)
 xe:ξ->ζ->η
 E:St->XK
 ok:Rdy {X with pn:=pn,xe:=xe} E b
noncomputable abbrev Ev.cx{X:Cx}{b:χ}(y:Ev X b):Cx:={X with pn:=y.pn,xe:=y.xe}
def Cn(K:Φ)(H:Hp)(R:KD)(Q:VK):Prop:=∀d S v H',R d S->Rv K H' d v->Rs K S H'->Kp K H H'->Q v H'
def FL(K:Φ)(H:Hp)(Z:KX)(e:XK):Prop:=∀C S H',Z C S->Rs K S H'->Kp K H H'->e (.ref C) none H'
theorem Cn.kp{K:Φ}{H H1:Hp}{R:KD}{Q:VK}(h:Cn K H R Q)(k:Kp K H H1):Cn K H1 R Q:=λd S v H' r a s1 k1=>h d S v H' r a s1<|k.trans k1
theorem FL.kp{K:Φ}{H H1:Hp}{Z:KX}{e:XK}(h:FL K H Z e)(k:Kp K H H1):FL K H1 Z e:=λC S H' r s1 k1=>h C S H' r s1<|k.trans k1
abbrev TD:=SD->ax->KD->KX->η
def T(K:Φ)(E:St->XK)(t:TD):TE:=λτ H Q=>∃σ S R Z,iV K H σ τ/\Rs K S H/\t σ S R Z/\Cn K H R Q/\FL K H Z (E τ)
structure DE(K:Φ)(X:Cx)(e:Δ)(t:TD):η where
 of:∀{b:χ}(y:Ev X b),PE y.cx e<|T K y.E t
abbrev oF:=SD->ax->(χ->ax->η)->KX->η
def YS(K:Φ)(H:Hp)(R:χ->ax->η)(Q:χ->Hp->η):Prop:=∀b S H',R b S->Rs K S H'->Kp K H H'->Q b H'
theorem YS.kp{K:Φ}{H H1:Hp}{R:χ->ax->η}{Q:χ->Hp->η}(h:YS K H R Q)(k:Kp K H H1):YS K H1 R Q:=λd S H' r s1 k1=>h d S H' r s1<|k.trans k1
def Tt(K:Φ)(E:St->XK)(t:oF):TT:=λτ H Q=>∃σ S R Z,iV K H σ τ/\Rs K S H/\t σ S R Z/\YS K H R Q/\FL K H Z (E τ)
structure DT(K:Φ)(X:Cx)(e:Δ)(t:oF):η where
 of:∀{b:χ}(y:Ev X b),PT y.cx e<|Tt K y.E t
abbrev k_:=SD->ax->(δ D->ax->η)->KX->η
def CnA(K:Φ)(H:Hp)(R:δ D->ax->η)(Q:δ V->Hp->η):Prop:=∀ds S vs H',R ds S->RvAll K H' ds vs->Rs K S H'->Kp K H H'->Q vs H'
def Ta(K:Φ)(E:St->XK)(t:k_):TA:=λτ H Q=>∃σ S R Z,iV K H σ τ/\Rs K S H/\t σ S R Z/\CnA K H R Q/\FL K H Z (E τ)
structure DA(K:Φ)(X:Cx)(es:δ Δ)(t:k_):η where
 of:∀{b:χ}(y:Ev X b),PA y.cx es<|Ta K y.E t
theorem PE.mono{t t':TE}(h:PE X e t)(i:∀τ H Q,t' τ H Q->t τ H Q):PE X e t':=λqg s τ H Q I q=>h qg s τ H Q I<|i τ H Q q
theorem PT.mono{t t':TT}(h:PT X e t)(i:∀τ H Q,t' τ H Q->t τ H Q):PT X e t':=λqg s τ H Q I q=>h qg s τ H Q I<|i τ H Q q
theorem PA.mono{t t':TA}(h:PA X e t)(i:∀τ H Q,t' τ H Q->t τ H Q):PA X e t':=λpos qg s τ H Q I q=>h pos qg s τ H Q I<|i τ H Q q
section
variable{K:Φ}{X:Cx}
inductive Wi (i:π) (σ:SD) (S:ax) (R:KD):η
 |mk (d:D) (h:σ[i]?=some (some d)) (r:R d S)
def R_(i:π):TD:=λσ S R _=>Wi i σ S R
inductive Uz (x:D) (S:ax) (R:χ->ax->η):η
 |mk (b:χ) (h:x=.bl b) (r:R b S)
def dC(d:D):TD:=λz S R z=>R d S
theorem dv(i:π)(hN:ψ (X.N[i]?=some x) qQJ)(l:ψ (Pn X.env.scope x) qJ1)(hd:ψ ((x==("__debug__": ρ))=ϰ) qQZ) (a:ψ ((x==("__classdict__": ρ))=ϰ) qQZ):DE K X (.Name x pos) (R_ i):=⟨λy=>(Jn (X:=y.cx) hN l hd a).mono <| by rintro τ H Q ⟨σ,S,R,Z,j,g,⟨d,e,r⟩,c,_⟩;show by let⟨v,e1,h⟩:=j.get e;show{v,e1,c d S v H r h g<|Kp.refl _}⟩
theorem DE.const(h:∀Y:Cx,Y.env=X.env->Y.mg=X.mg->PE Y e (tC v))(r:∀H,Rv K H d v):DE K X e (dC d):=⟨λy=>(h y.cx rfl rfl).mono <| by rintro τ H Q ⟨σ,S,R,Z,g,c,q,a,_⟩;show a d S v H q (r H) c<|Kp.refl _⟩
theorem di:DE K X (.Constant (.int i) j pos) (dC<|.int i):=.const (λz z z=>QM) λz=>bc i
theorem ds:DE K X (.Constant (.str i) j pos) (dC<|.str i):=.const (λz z z=>QO) λz=>j0 i
theorem db:DE K X (.Constant (.bool i) j pos) (dC<|.bl i):=.const (λz z z=>Pp) λz=>cU i
theorem dn:DE K X (.Constant .none j pos) (dC .ao):=.const (λz z z=>QN) λz=>jZ
theorem dg(hm:X.mg x=ϑ u)(r:RelV v u)(a:∀H,Rv K H d v)(hg:ψ (Gl X x) qQJ)(hd:ψ ((x==("__debug__": ρ))=ϰ) qQZ):DE K X (.Name x pos) (dC d):=.const (λY e1 e2=>Fp (X:=Y) (u:=u) (show Y.env.kindOf x=_ by rw[e1];show hg) (by rw[e2];show hm) r hd) a
theorem oG(hm:X.mg x=ϐ)(a:bootBuiltins x=ϑ (.type n))(hg:ψ (Gl X x) qQJ)(hn:ψ (x≠"__name__") qQZ)(hd:ψ ((x==("__debug__": ρ))=ϰ) qQZ):DE K X (.Name x pos) (dC<|.ty n):=.const (λY e1 e2=>MZ (X:=Y) (v:=.ty n) (show Y.env.kindOf x=_ by rw[e1];show hg) (by rw[e2];show hm) a rfl hn hd) λz=>Wh n
def NV:k_:=λz S R z=>R [] S
def PM(t:TD)(u:k_):k_:=λσ S R Z=>t σ S (λd a=>u σ a (λds c=>R (d::ds) c) Z) Z
theorem an:DA K X [] NV:=⟨λy=>(DD (X:=y.cx)).mono <| by rintro τ H Q ⟨σ,S,R,Z,d,c,q,a,_⟩;show a [] S [] H q cn c<|Kp.refl _⟩
theorem ac{t:TD}(h:DE K X e t)(hr:DA K X es u)(r:ψ (isPlain e=ϱ) qQJ):DA K X (e::es) (PM t u):=
 ⟨λy=>(pa2 (h.of y) (hr.of y) r).mono <| by rintro τ H Q ⟨σ,S,R,Z,c,l,q,i,a⟩;show
  ⟨σ,S,_,Z,c,l,q,λd p x H1 n g s1 k1=>⟨σ,p,_,Z,c.ts k1,s1,n,λds m xs H2 o j s2 k2=>i (d::ds) m (x::xs) H2 o (bE (Rv.ts k2 _ g) j) s2<|k1.trans k2,a.kp k1⟩,a⟩⟩
abbrev vI:=D->D->ax->KD->η
theorem al{x:ρ}{pos:Pos}(i:π)(hr:DA K X es u)(hN:ψ (X.N[i]?=some x) qQJ)(c:ψ (Pn X.env.scope x) qJ1)(hd:ψ ((x==("__debug__": ρ))=ϰ) qQZ) (a:ψ ((x==("__classdict__": ρ))=ϰ) qQZ):DA K X (.Name x pos::es) (PM (R_ i) u):=ac (dv i hN c hd a) hr rfl
def Lr(K:Φ)(r:vI):R2:=λx y H Q=>∃d e S R,Rv K H d x/\Rv K H e y/\Rs K S H/\r d e S R/\Cn K H R Q
def qz(K:Φ)(f:ξ->ξ->Sem ξ)(r:vI):Prop:=∀X:Cx,X.K=K->X.A.units+64<cLine->ji X f (Lr K r)
def PN(r:vI)(ta tb:TD):TD:=λσ S R Z=>ta σ S (λx a=>tb σ a (λy c=>r x y c R) Z) Z
def T.op(h:T K E (PN r ta tb) τ H Q):Um (Lr K r) (T K E ta) (T K E tb) τ H Q:=by let⟨σ,S,R,Z,c,l,q,i,a⟩:=h;show{σ,S,_,Z,c,l,q,λd p x H1 n g s1 k1=>{σ,p,_,Z,c.ts k1,s1,n,λe m y H2 o j s2 k2=>{d,e,m,R,Rv.ts k2 _ g,j,s2,o,i.kp<|k1.trans k2},a.kp k1},a}
theorem bo(ho:qz K (binaryOp op) r)(hu:X.A.units+64<cLine)(ha:DE K X a ta)(d:DE K X b tb)(c:ψ (X.K=K) qQJ):DE K X (.BinOp a op b pos) (PN r ta tb):=⟨λy=>(Vm (ho y.cx c hu) (ha.of y)<|d.of y).mono λz z z h=>h.op⟩
theorem cm(ho:qz K (compareOp op) r)(hu:X.A.units+64<cLine)(ha:DE K X a ta)(d:DE K X b tb)(hm:ψ (behindInMarks op b=ϰ) qQ2)(c:ψ (X.K=K) qQJ):DE K X (.Compare a [op] [b] pos) (PN r ta tb):=⟨λy=>(Fx (ho y.cx c hu) (ha.of y) (d.of y) hm).mono λz z z h=>h.op⟩
def dB(t:TD):oF:=λσ S R Z=>t σ S (λx a=>Uz x a R) Z
def Tt.b{t:TD}(h:Tt K E (dB t) τ H Q):T K E t τ H λx H'=>∃k,x=.bl k/\Q k H':=by let⟨σ,S,R,Z,m,i,q,g,c⟩:=h;show{σ,S,_,Z,m,i,q,by rintro d l x H1 ⟨b,e,j⟩ a s1 k1;show by subst e;show{b,a.bl,g b l H1 j s1 k1},c}
theorem Tt.bop(h:Tt K E (dB<|PN r ta tb) τ H Q):Jx (Um (Lr K r) (T K E ta)<|T K E tb) τ H Q:=h.b.op
theorem bX(ho:qz K (compareOp op) r)(hu:X.A.units+64<cLine)(ha:DE K X a ta)(d:DE K X b tb)(hm:ψ (behindInMarks op b=ϰ) qQ2)(c:ψ (X.K=K) qQJ):DT K X (.Compare a [op] [b] pos) (dB<|PN r ta tb):=⟨λy=>(Nc (ho y.cx c hu) (ha.of y) (d.of y) hm).mono λz z z h=>h.bop⟩
theorem tv{t:TD}(h:DE K X e t)(c:ψ (∀a,isTrue e X.env a=(do let v <-a;standAt e.pos;holding [v] (truthy v))) qQ0):DT K X e (dB t):=⟨λy=>(QP (X:=y.cx) (h.of y) c).mono λz z z h=>h.b⟩
def Ec(r e:vI)(ta tb tc:TD):TD:=λσ S R Z=>ta σ S (λx c=>tb σ c (λy g=>r x y g λz a=>Uz z a λk a=>if k=ϱ then tc σ a (λw d=>e y w d R) Z else R (.bl false) a) Z) Z
def T.chain(h:T K E (Ec r r' ta tb tc) τ H Q):Dw (Lr K r) (Lr K r') (T K E ta) (T K E tb) (T K E tc) τ H Q:=by let⟨σ,S,R,Z,g,t,q,j,c⟩:=h;show{σ,S,_,Z,g,t,q,λd J x H1 I n s1 k1=>{σ,J,_,Z,g.ts k1,s1,I,λe G y H2 A l s2 k2=>{d,e,G,_,Rv.ts k2 _ n,l,s2,A,λz m v p a o i k3=>?_},c.kp k1},c};let⟨k,rfl,a⟩:=a;show{k,o.bl,?_};cases k with|true=>rw[qe rfl]at a⊢;show{σ,m,_,Z,((g.ts k1).ts k2).ts k3,i,a,λw s M L B C F k4=>{e,w,s,R,Rv.ts (k3.trans k4) _ l,C,F,B,j.kp<|((k1.trans k2).trans k3).trans k4},c.kp<|(k1.trans k2).trans k3}|false=>rw[qb zd]at a⊢;show j _ m _ p a (cU false) i<|(k1.trans k2).trans k3
theorem cc(ho:qz K (compareOp op) r)(g:qz K (compareOp He) r')(hu:X.A.units+64<cLine)(ha:DE K X a ta)(e:DE K X b tb)(hc:DE K X c tc) (hm:ψ (lastMarks [op,He] [b,c]=ϰ) qQ2) (d:ψ (X.K=K) qQJ):DE K X (.Compare a [op,He] [b,c] pos) (Ec r r' ta tb tc):=⟨λy=>(Jy (ho y.cx d hu) (g y.cx d hu) (ha.of y) (e.of y) (hc.of y) hm).mono λz z z h=>h.chain⟩
theorem YT(ho:qz K (compareOp op) r)(g:qz K (compareOp He) r')(hu:X.A.units+64<cLine)(ha:DE K X a ta)(e:DE K X b tb)(hc:DE K X c tc) (hm:ψ (lastMarks [op,He] [b,c]=ϰ) qQ2) (d:ψ (X.K=K) qQJ):DT K X (.Compare a [op,He] [b,c] pos) (dB<|Ec r r' ta tb tc):=⟨λy=>(Jz (ho y.cx d hu) (g y.cx d hu) (ha.of y) (e.of y) (hc.of y) hm).mono λz z z h=>h.b.chain⟩
def Wj(ta tb:TD):TD:=λσ S R Z=>ta σ S (λx a=>Uz x a λc a=>if c=ϱ then tb σ a R Z else R (.bl false) a) Z
def aa7(ta tb:TD):TD:=λσ S R Z=>ta σ S (λx a=>Uz x a λc a=>if c=ϱ then R (.bl true) a else tb σ a R Z) Z
def Wk(ta:TD):TD:=λσ S R Z=>ta σ S (λx a=>Uz x a λc a=>R (.bl<|!c) a) Z
theorem FN{t:TD}(h:DE K X a t):DE K X (.BoolOp op [a] pos) t:=⟨λy=>QR<|h.of y⟩
theorem qA{a b:Δ}{rest:δ Δ}{ta tb:TD}{pos:Pos}(ha:DE K X a ta)(o:DE K X (.BoolOp .And (b::rest) pos) tb):DE K X (.BoolOp .And (a::b::rest) pos) (Wj ta tb):=
 ⟨λy=>(QS (ha.of y)<|o.of y).mono <| by rintro τ H Q ⟨σ,S,R,Z,l,n,q,i,h⟩;show
  ⟨σ,S,_,Z,l,n,q,by
   rintro d j x H1 ⟨c,e,g⟩ m s1 k1
   subst e
   show{c,m.bl,?_}
   cases c with
   |true=>rw[qe rfl]at g⊢;show{σ,j,R,Z,l.ts k1,s1,g,i.kp k1,h.kp k1}
   |false=>rw[qb zd]at g⊢;show i _ j _ H1 g (cU false) s1 k1,h⟩⟩
theorem eor{a b:Δ}{rest:δ Δ}{ta tb:TD}{pos:Pos}(ha:DE K X a ta)(o:DE K X (.BoolOp .Or (b::rest) pos) tb):DE K X (.BoolOp .Or (a::b::rest) pos) (aa7 ta tb):=
 ⟨λy=>(Va (ha.of y)<|o.of y).mono <| by rintro τ H Q ⟨σ,S,R,Z,l,n,q,i,h⟩;show
  ⟨σ,S,_,Z,l,n,q,by
   rintro d j x H1 ⟨c,e,g⟩ m s1 k1
   subst e
   show{c,m.bl,?_}
   cases c with
   |false=>rw[qb zd]at g⊢;show{σ,j,R,Z,l.ts k1,s1,g,i.kp k1,h.kp k1}
   |true=>rw[qe rfl]at g⊢;show i _ j _ H1 g (cU true) s1 k1,h⟩⟩
theorem Sa(ha:DE K X a ta):DE K X (.UnaryOp .Not a pos) (Wk ta):=
 ⟨λy=>(QT<|ha.of y).mono <| by rintro τ H Q ⟨σ,S,R,Z,n,j,q,i,h⟩;show
  ⟨σ,S,_,Z,n,j,q,by rintro d m x H1 ⟨c,e,l⟩ g s1 k1;show by subst e;show⟨c,g.bl,i _ m _ H1 l (cU _) s1 k1⟩,h⟩⟩
def aa8(t:oF):oF:=λσ S R Z=>t σ S (λc a=>R (!c) a) Z
def aa9(t u:oF):oF:=λσ S R Z=>t σ S (λc a=>if c=ϱ then u σ a R Z else R false a) Z
def dOr(t u:oF):oF:=λσ S R Z=>t σ S (λc a=>if c=ϱ then R true a else u σ a R Z) Z
theorem cL{t:oF}(ha:DT K X a t):DT K X (.UnaryOp .Not a pos) (aa8 t):=⟨λy=>(QQ<|ha.of y).mono <| by rintro τ H Q ⟨σ,S,R,Z,j,g,q,e,d⟩;show{σ,S,_,Z,j,g,q,λc i H1 h s1 k1=>e _ i H1 h s1 k1,d}⟩
structure DW(K:Φ)(X:Cx)(e:Δ)(t:oF):η where
 of:∀{b:χ}(y:Ev X b),PW y.cx e<|Tt K y.E t
theorem PW.mono{t t':TT}(h:PW X e t)(i:∀τ H Q,t' τ H Q->t τ H Q):PW X e t':=λa qg s τ H Q I q=>h a qg s τ H Q I<|i τ H Q q
theorem twd{t:oF}(h:DW K X e t):DT K X e t:=⟨λy=>(h.of y).pt⟩
theorem tw1{t:oF}(h:DT K X a t):DW K X (.BoolOp op [a] pos) t:=⟨λy=>by cases op with|And=>show pw_and1 (h.of y)|Or=>show pw_or1<|h.of y⟩
theorem twand{a b:Δ}{rest:δ Δ}{t u:oF}{pos:Pos}(ha:DT K X a t)(l:DW K X (.BoolOp .And (b::rest) pos) u):DW K X (.BoolOp .And (a::b::rest) pos) (aa9 t u):=
 ⟨λy=>(pw_and (ha.of y)<|l.of y).mono <| by rintro τ H Q ⟨σ,S,R,Z,i,j,q,g,e⟩;show
  ⟨σ,S,_,Z,i,j,q,λc h H1 d s1 k1=>by
   cases c with
   |true=>rw[qe rfl]at d⊢;show{σ,h,R,Z,i.ts k1,s1,d,g.kp k1,e.kp k1}
   |false=>rw[qb zd]at d⊢;show g _ h H1 d s1 k1,e⟩⟩
theorem twor{a b:Δ}{rest:δ Δ}{t u:oF}{pos:Pos}(ha:DT K X a t)(l:DW K X (.BoolOp .Or (b::rest) pos) u):DW K X (.BoolOp .Or (a::b::rest) pos) (dOr t u):=
 ⟨λy=>(pw_or (ha.of y)<|l.of y).mono <| by rintro τ H Q ⟨σ,S,R,Z,i,j,q,g,e⟩;show
  ⟨σ,S,_,Z,i,j,q,λc h H1 d s1 k1=>by
   cases c with
   |false=>rw[qb zd]at d⊢;show{σ,h,R,Z,i.ts k1,s1,d,g.kp k1,e.kp k1}
   |true=>rw[qe rfl]at d⊢;show g _ h H1 d s1 k1,e⟩⟩
def aa_(t:oF)(ta tb:TD):TD:=λσ S R Z=>t σ S (λc a=>if c=ϱ then ta σ a R Z else tb σ a R Z) Z
theorem YU{t:oF}(hc:DT K X c t)(ha:DE K X a ta)(l:DE K X b tb):DE K X (.IfExp c a b pos) (aa_ t ta tb):=
 ⟨λy=>(Jo (hc.of y) (ha.of y)<|l.of y).mono <| by rintro τ H Q ⟨σ,S,R,Z,g,j,q,h,e⟩;show
  ⟨σ,S,_,Z,g,j,q,λc i H1 d s1 k1=>by
   cases c with
   |true=>rw[qe rfl]at d⊢;show{σ,i,R,Z,g.ts k1,s1,d,h.kp k1,e.kp k1}
   |false=>rw[qb zd]at d⊢;show{σ,i,R,Z,g.ts k1,s1,d,h.kp k1,e.kp k1},e⟩⟩
def aba(t:k_):TD:=λσ S R Z=>t σ S (λds a=>ds.length<=Ϙ/\∀p,a p=ϐ->R (.ref p) (a.set p<|.lst ds)) Z
def abb(t:k_):TD:=λσ S R Z=>t σ S (λds a=>ds.length<=Ϙ/\R (.tup ds) a) Z
theorem bG{t:k_}(h:DA K X es t):DE K X (.List es pos) (aba t):=
 ⟨λy=>(Rk<|h.of y).mono <| by rintro τ H Q ⟨σ,S,R,Z,j,g,q,e,d⟩;show
  ⟨σ,S,_,Z,j,g,q,by rintro ds l xs H1 ⟨hl,i⟩ c s1 k1;show⟨by rw[c.len];show hl,λp a=>e _ _ _ _ (i p<|s1.fresh a) (cg p) (s1.new a ⟨xs,aR,RvAll.ts (.new a) _ c⟩)<|k1.trans<|.new a⟩,d⟩⟩
theorem aF{t:k_}(h:DA K X es t):DE K X (.Tuple es x1 pos) (abb t):=
 ⟨λy=>(Rj<|h.of y).mono <| by rintro τ H Q ⟨σ,S,R,Z,j,g,q,e,d⟩;show
  ⟨σ,S,_,Z,j,g,q,by rintro ds l xs H1 ⟨hl,i⟩ c s1 k1;show⟨by rw[c.len];show hl,λp a=>e _ _ _ _ i (lG aR<|RvAll.ts (.new a) _ c) (s1.grow a)<|k1.trans<|.new a⟩,d⟩⟩
def abc:TD:=λz S R z=>∀p,S p=ϐ->R (.ref p) (S.set p<|.eV [])
theorem Sb:DE K X (.Dict [] [] pos) abc:=⟨λy=>(JM (X:=y.cx)).mono <| by rintro τ H Q ⟨σ,S,R,Z,g,c,q,d,e⟩ p a;show d _ _ _ _ (q p<|c.fresh a) (cg p) (c.new a {[],aR,.nil})<|.new a⟩
def Lc(K:Φ)(r:δ D->ax->KD->η):δ V->Hp->VK->Prop:=λxs H Q=>∃ds S R,RvAll K H ds xs/\Rs K S H/\r ds S R/\Cn K H R Q
def jB(K:Φ)(f:ξ)(r:δ D->ax->KD->η):Prop:=∀X:Cx,X.K=K->X.calm=ϱ->eU X f (Lc K r)
def Wl(r:δ D->ax->KD->η)(t:k_):TD:=λσ S R Z=>t σ S (λds a=>r ds a R) Z
def T.cb{t:k_}(h:T K E (Wl r t) τ H Q):tCB (Lc K r) (Ta K E t) τ H Q:=by let⟨σ,S,R,Z,j,e,q,c,d⟩:=h;show{σ,S,_,Z,j,e,q,λds i xs H1 g a s1 k1=>{ds,i,R,a,s1,g,c.kp k1},d}
theorem cb{x:ρ}{id:String}{r:δ D->ax->KD->η}{e:Δ}{es:δ Δ}{t:k_}{p pos:Pos}(hc:jB K (.builtin id) r)(hm:X.mg x=ϐ)(d:bootBuiltins x=ϑ (.builtin id))(ha:DA K X (e::es) t)(hg:ψ (Gl X x) qQJ) (hn:ψ (x≠"__name__") qQZ) (c:ψ ((x==("__debug__": ρ))=ϰ) qQZ) (i:ψ (starEach (e::es) X.env=`j::starEach es X.env) qQJ) (g:ψ ((backTo pos<|starEach es X.env).any (·.1)=ϰ) qQJ) (a:ψ (X.K=K) qQJ) (j:ψ (X.calm=ϱ) qQJ): DE K X (.Call (.Name x p) (e::es) [] pos) (Wl r t):=⟨λy=>(tU (X:=y.cx) (hc _ a j) hg hm d (ha.of y) hn c i g).mono λz z z h=>h.cb⟩
theorem ct{x:ρ}{id:String}{r:δ D->ax->KD->η}{e:Δ}{es:δ Δ}{t:k_}{p pos:Pos}(hc:jB K (.type id) r)(hm:X.mg x=ϐ)(d:bootBuiltins x=ϑ (.type id))(ha:DA K X (e::es) t)(hg:ψ (Gl X x) qQJ) (hn:ψ (x≠"__name__") qQZ) (c:ψ ((x==("__debug__": ρ))=ϰ) qQZ) (i:ψ (starEach (e::es) X.env=`j::starEach es X.env) qQJ) (g:ψ ((backTo pos<|starEach es X.env).any (·.1)=ϰ) qQJ) (a:ψ (X.K=K) qQJ) (j:ψ (X.calm=ϱ) qQJ): DE K X (.Call (.Name x p) (e::es) [] pos) (Wl r t):=⟨λy=>(wW (X:=y.cx) (hc _ a j) hg hm d (ha.of y) hn c i g).mono λz z z h=>h.cb⟩
end
section
variable{K:Φ}
theorem Cn.now(h:Cn K H R Q)(a:Rs K S H)(r:R d S)(c:Rv K H d v):Q v H:=h d S v H r c a<|.refl _
theorem Cn.new{H:Hp}{R:KD}{Q:VK}{S:ax}{p:ε}{ds:δ D}{xs:δ V}(h:Cn K H R Q)(c:Rs K S H)(a:H p=ϐ)(r:S p=ϐ->R (.ref p) (S.set p<|.lst ds))(d:RvAll K H ds xs):Q (.ref p) (upd H p<|.lst xs):=h _ _ _ _ (r<|c.fresh a) (cg p) (c.new a {xs,aR,RvAll.ts (.new a) _ d})<|.new a
theorem Cn.Kg{H:Hp}{R:KD}{Q:VK}{S:ax}{p:ε}{ds:δ D}{xs:δ V}(h:Cn K H R Q)(c:Rs K S H)(a:H p=ϐ)(r:R (.tup ds) S)(d:RvAll K H ds xs):Q (.ref p) (upd H p<|.tup xs):=h _ _ _ _ r (lG aR<|RvAll.ts (.new a) _ d) (c.grow a)<|.new a
theorem Cn.put{H:Hp}{R:KD}{Q:VK}{S:ax}{p:ε}{ds es:δ D}{xs:δ V}{d:D}{v:V}(h:Cn K H R Q)(a:Rs K S H)(c:S p=ϑ (.lst es))(r:R d<|S.set p<|.lst ds)(e:Rv K H d v)(g:RvAll K H ds xs):Q v (upd H p<|.lst xs):=h _ _ _ _ r (Rv.ts (a.j5 c) _ e) (a.put c {xs,aR,RvAll.ts (a.j5 c) _ g})<|a.j5 c
def yY(S:ax):D->δ D->η|.ref a,ds=>S a=ϑ (.lst ds)|.lF es,ds=>es=ds|_,_=>False
def yY.at{H:Hp}{S:ax}{d:D}{ds:δ D}{v:V}(h:yY S d ds)(c:Rs K S H)(r:Rv K H d v):∃a xs,v=.ref a/\kZ K H a xs/\RvAll K H ds xs:=by cases d with|ref a=>(let⟨xs,e,q⟩:=c.lst h;show{a,xs,r.ref,.of e,q})|lF es=>(have h:es=ds:=h;subst h;let⟨a,xs,e,q,t⟩:=r.lF;show⟨a,xs,e,q.sq,t⟩)|_=>show h.elim
def abd:vI:=λx y S R=>match x,y with|.int i,.int j=>R (.int<|i+j) S|.str a,.str b=>a.length+b.length<=Ϙ/\R (.str<|a++b) S|.tup a,.tup b=>a.length+b.length<=Ϙ/\R (.tup<|a++b) S|.ref a,.ref b=>∃xs ys,S a=ϑ (.lst xs)/\S b=ϑ (.lst ys)/\xs.length+ys.length<=Ϙ/\∀p,S p=ϐ->R (.ref p) (S.set p<|.lst<|xs++ys)|_,_=>False
def fE:qz K (binaryOp .Add) abd:=by rintro X B hu qg s σ H x y v u Q I r o ⟨d,e,S,R,t,n,c,h,m⟩;subst B;cases d with|int i=>(cases e with|int j=>show Jv qg s σ H x y v u Q I r o {i,j,t.int,n.int,m.now c h<|bc _}|_=>show h.elim)|str i=>(cases e with|str j=>show tR qg s σ H x y v u Q I r o {i,j,t.str,n.str,h.1,m.now c h.2<|j0 _}|_=>show h.elim)|tup i=>(cases e with|tup j=>(let⟨a,xs,rfl,A,l⟩:=t.tup;let⟨b,ys,rfl,z,g⟩:=n.tup;show NI qg s σ H _ _ v u Q I r o {a,b,xs,ys,rfl,rfl,.of A,.of z,by rw[l.len,g.len];show h.1,λe=>?_,λk e=>?_,λk k p w=>m.Kg c w h.2<|l.app g};subst e;have:i=[]:=List.length_eq_zero_iff.mp l.len.symm;subst this;show m.now c h.2<|lG z g;subst e;have:j=[]:=List.length_eq_zero_iff.mp g.len.symm;subst this;show m.now c h.2<|by rw[yG];show lG A l)|_=>show h.elim)|ref a=>(cases e with|ref b=>(let⟨xs,ys,e1,e2,hl,q⟩:=h;let⟨vs,h1,l⟩:=c.lst e1;let⟨ws,h2,g⟩:=c.lst e2;show JI qg s σ H x y v u Q I r o {a,b,vs,ws,t.ref,n.ref,h1,h2,by rw[l.len,g.len];show hl,λp w=>m.new c w (q p)<|l.app g})|_=>show h.elim)|_=>show h.elim
def abe:vI:=λx y S R=>match x,y with|.int i,.int j=>R (.int<|i-j) S|_,_=>False
def uo:qz K (binaryOp .Sub) abe:=by rintro X m hu qg s σ H x y v u Q I i c ⟨d,e,S,R,j,l,g,h,a⟩;cases d<;>cases e<;>first|show False.elim h|show Q6 qg s σ H x y v u Q I i c {_,_,j.int,l.int,a.now g h<|bc _}
def abf:vI:=λx y S R=>match x,y with|.int i,.int j=>Na i j/\R (.int<|i*j) S|.str z,.int n=>MulOk z n/\R (.str<|PySem.Txt.mul z n) S|_,_=>False
def i3:qz K (binaryOp .Mult) abf:=by rintro X m hu qg s σ H x y v u Q I i c ⟨d,e,S,R,j,l,g,h,a⟩;cases d<;>cases e<;>first|show False.elim h|show Q7 qg s σ H x y v u Q I i c {_,_,j.int,l.int,h.1,a.now g h.2<|bc _}|show D6 qg s σ H x y v u Q I i c {_,_,j.str,l.int,h.1,a.now g h.2<|j0 _}
def abg:vI:=λx y S R=>match x,y with|.int i,.int j=>0<j/\R (.int<|i%j) S|_,_=>False
def kB:qz K (binaryOp .Mod) abg:=by rintro X m hu qg s σ H x y v u Q I i c ⟨d,e,S,R,j,l,g,h,a⟩;cases d<;>cases e<;>first|show False.elim h|show Q8 qg s σ H x y v u Q I i c {_,_,j.int,l.int,h.1,a.now g h.2<|bc _}
def Wm:vI:=λx y S R=>match x,y with|.int i,.int j=>JS i j/\R (.int<|i/j) S|_,_=>False
def yZ:qz K (binaryOp .FloorDiv) Wm:=by rintro X m hu qg s σ H x y v u Q I i c ⟨d,e,S,R,j,l,g,h,a⟩;cases d<;>cases e<;>first|show False.elim h|show JT qg s σ H x y v u Q I i c {_,_,j.int,l.int,h.1,a.now g h.2<|bc _}
def abh:vI:=λx y S R=>match x,y with|.int i,.int j=>Vp i j/\R (.int<|i^j.toNat) S|_,_=>False
def BO:qz K (binaryOp .Pow) abh:=by rintro X m hu qg s σ H x y v u Q I i c ⟨d,e,S,R,j,l,g,h,a⟩;cases d<;>cases e<;>first|show False.elim h|show Q9 qg s σ H x y v u Q I i c {_,_,j.int,l.int,h.1,a.now g h.2<|bc _}
def j6(f:ν->ν->χ)(g:ρ->ρ->χ):vI:=λx y S R=>match x,y with|.int i,.int j=>R (.bl<|f i j) S|.str i,.str j=>R (.bl<|g i j) S|_,_=>False
def FO(h1:∀X:Cx,ji X (compareOp op)<|M9 λi j=>.bl<|f i j) (h2:∀X:Cx,ji X (compareOp op) λx y H Q=>∃i j,x=.str i/\y=.str j/\Q (.bl<|g i j) H):qz K (compareOp op) (j6 f g):=by rintro X p hu qg s σ H x y v u Q I m c ⟨d,e,S,R,n,o,l,h,a⟩;cases d<;>cases e<;>first|show False.elim h|show h1 X qg s σ H x y v u Q I m c {_,_,n.int,o.int,a.now l h<|cU _}|show h2 X qg s σ H x y v u Q I m c {_,_,n.str,o.str,a.now l h<|cU _}
theorem NW:qz K (compareOp .Lt) (j6 (λi j=>ω<|i<j) λi j=>C9 i j):=FO (λz=>Vr) λz=>Hc
theorem lH:qz K (compareOp .LtE) (j6 (λi j=>ω<|i<=j) λi j=>IY i j):=FO (λz=>Vs) λz=>Ht
theorem sF:qz K (compareOp .Gt) (j6 (λi j=>ω<|j<i) λi j=>C9 j i):=FO (λz=>Vt) λz=>Hv
theorem abi:qz K (compareOp .GtE) (j6 (λi j=>ω<|j<=i) λi j=>IY j i):=FO (λz=>Vu) λz=>Hu
noncomputable def au:D->χ|.ao=>true|_=>false
def BP(r:Rv K H d v):ω (v=.ao)=au d:=by cases d with|ao=>rw[r.ao];rfl|bl b=>rw[r.bl];rfl|int b=>rw[r.int];rfl|str b=>rw[r.str];rfl|ref b=>rw[r.ref];rfl|ty b=>rw[r.ty];rfl|tup b=>(let⟨a,xs,rfl,_⟩:=r.tup;rfl)|lF b=>(let⟨a,xs,rfl,_⟩:=r.lF;rfl)|kt b=>let⟨a,xs,rfl,_⟩:=r.kt;rfl
def isD:vI:=λx y S R=>match y with|.ao=>R (.bl<|au x) S|_=>False
def Wn:vI:=λx y S R=>match y with|.ao=>R (.bl<|!au x) S|_=>False
def v8:qz K (compareOp .Is) isD:=by rintro X m hu qg s σ H x y v u Q I i c ⟨d,e,S,R,j,l,g,h,a⟩;cases e<;>first|show False.elim h|show Rb qg s σ H x y v u Q I i c {l.ao,by rw[BP j];show a.now g h<|cU _}
def qB:qz K (compareOp .IsNot) Wn:=by rintro X m hu qg s σ H x y v u Q I i c ⟨d,e,S,R,j,l,g,h,a⟩;cases e<;>first|show False.elim h|show Nb qg s σ H x y v u Q I i c {l.ao,by rw[BP j];show a.now g h<|cU _}
mutual
def Dp(S:ax):D->PyData->η|.ao,p=>p=.none|.bl b,p=>p=.bool b|.int i,p=>p=.int i|.str z,p=>p=.str z|.tup ds,p=>∃ps,p=.tuple ps/\DpAll S ds ps|.lF ds,p=>∃ps,p=.list ps/\DpAll S ds ps|.kt _,_=>False|.ref _,_=>False|.ty _,_=>False
def DpAll(S:ax):δ D->δ PyData->η|[],ps=>ps=[]|d::ds,ps=>∃q qs,ps=q::qs/\Dp S d q/\DpAll S ds qs
end
mutual
theorem Dp.dt:∀(d:D){p:PyData}{v:V},Dp S d p->Rv K H d v->Dt K H p v|.ao,p,v,h,r=>by simp only[Dp]at h;subst h;simp only[Dt];show r.ao|.bl b,p,v,h,r=>by simp only[Dp]at h;subst h;simp only[Dt];show r.bl|.int b,p,v,h,r=>by simp only[Dp]at h;subst h;simp only[Dt];show r.int|.str b,p,v,h,r=>by simp only[Dp]at h;subst h;simp only[Dt];show r.str|.tup ds,p,v,h,r=>(by simp only[Dp]at h;let⟨ps,rfl,h⟩:=h;let⟨a,xs,rfl,q,t⟩:=r.tup;simp only[Dt];show{a,xs,rfl,.of q,DpAll.dt ds h t})|.lF ds,p,v,h,r=>(by simp only[Dp]at h;let⟨ps,rfl,h⟩:=h;let⟨a,xs,rfl,q,t⟩:=r.lF;simp only[Dt];show{a,xs,rfl,q.sq,DpAll.dt ds h t})|.kt a,p,v,h,r=>by simp only[Dp]at h|.ref a,p,v,h,r=>by simp only[Dp]at h|.ty a,p,v,h,r=>by simp only[Dp]at h
theorem DpAll.dt:∀(ds:δ D){ps:δ PyData}{vs:δ V},DpAll S ds ps->RvAll K H ds vs->DtAll K H ps vs|[],ps,vs,h,r=>by simp only[DpAll]at h;subst h;rw[r.nil];simp only[DtAll]|d::ds,ps,vs,h,r=>by simp only[DpAll]at h;let⟨q,qs,rfl,h1,h2⟩:=h;let⟨y,ys,rfl,c,a⟩:=r.cons;simp only[DtAll];show{y,ys,rfl,Dp.dt d h1 c,DpAll.dt ds h2 a}
end
def Dl(S:ax):D->PyData->η|.ref a,p=>∃ds ps,S a=ϑ (.lst ds)/\p=.list ps/\DpAll S ds ps|d,p=>Dp S d p
def Dl.dt(h:Dl S d p)(c:Rs K S H)(r:Rv K H d v):Dt K H p v:=by cases d with|ref a=>(let⟨ds,ps,e,rfl,h⟩:=h;let⟨xs,e1,t⟩:=c.lst e;rw[r.ref];simp only[Dt];show{a,xs,rfl,.of e1,DpAll.dt ds h t})|_=>show Dp.dt _ h r
def MJ(a:χ):vI:=λx y S R=>match x,y with|.int i,.int j=>(R (.bl<|if a then !decide (i=j) else ω (i=j)) S)|.str i,.str j=>(R (.bl<|if a then !decide (i=j) else ω (i=j)) S)|x,y=>∃p q,Dl S x p/\Dl S y q/\p.canLay0=ϱ/\q.canLay0=ϱ/\(p.depth<=64\/q.depth<=64)/\R (.bl<|if a then !PyData.eqv p q else PyData.eqv p q) S
def Kh(h:MJ neg x y S R):(∃i j,x=.int i/\y=.int j/\R (.bl<|if neg then !decide (i=j) else ω (i=j)) S)\/(∃i j,x=.str i/\y=.str j/\R (.bl<|if neg then !decide (i=j) else ω (i=j)) S)\/∃p q,Dl S x p/\Dl S y q/\p.canLay0=ϱ/\q.canLay0=ϱ/\(p.depth<=64\/q.depth<=64)/\R (.bl<|if neg then !PyData.eqv p q else PyData.eqv p q) S:=by cases x<;>cases y<;>first|show .inl {_,_,rfl,rfl,h}|show .inr (.inl {_,_,rfl,rfl,h})|show .inr (.inr h)
def bO:qz K (compareOp .Eq) (MJ false):=by
 rintro X r hu qg s σ H x y v u Q I m l ⟨d,e,S,R,n,c,a,h,g⟩;subst r;rcases Kh h with⟨i,j,rfl,rfl,h⟩|⟨i,j,rfl,rfl,h⟩|⟨p,q,h1,h2,o,t,dp,h⟩;cases n.int;cases c.int;show Pt qg s σ H _ _ v u Q I m l {rfl,?_};have e:ω (V.int i=V.int j)=ω (i=j):=`d
 rw[e];show g.now a h<|cU _;cases n.str;cases c.str;show Pt qg s σ H _ _ v u Q I m l {rfl,?_};have e:ω (V.str i=V.str j)=ω (i=j):=`d
 rw[e];show g.now a h<|cU _;show RQ hu qg s σ H x y v u Q I m l {p,q,h1.dt a n,h2.dt a c,o,t,dp,g.now a h<|cU _}
def jk:qz K (compareOp .NotEq) (MJ true):=by
 rintro X r hu qg s σ H x y v u Q I m l ⟨d,e,S,R,n,c,a,h,g⟩;subst r;rcases Kh h with⟨i,j,rfl,rfl,h⟩|⟨i,j,rfl,rfl,h⟩|⟨p,q,h1,h2,o,t,dp,h⟩;cases n.int;cases c.int;show Pu qg s σ H _ _ v u Q I m l {rfl,?_};have e:ω (V.int i=V.int j)=ω (i=j):=`d
 rw[e];show g.now a h<|cU _;cases n.str;cases c.str;show Pu qg s σ H _ _ v u Q I m l {rfl,?_};have e:ω (V.str i=V.str j)=ω (i=j):=`d
 rw[e];show g.now a h<|cU _;show RS hu qg s σ H x y v u Q I m l {p,q,h1.dt a n,h2.dt a c,o,t,dp,g.now a h<|cU _}
noncomputable def df(kvs:δ<|Key×D)(k:Key):θ D:=(kvs.find? λa=>ω<|a.1=k).map (·.2)
noncomputable def dput(kvs:δ<|Key×D)(k:Key)(v:D):δ (Key×D):=if (kvs.any λa=>ω<|a.1=k)=ϱ then kvs.map (λa=>if a.1=k then (a.1,v) else a) else kvs++[(k,v)]
noncomputable def BQ(kvs:δ<|Key×D)(k:Key):δ (Key×D):=kvs.filter λa=>ω<|a.1≠k
def c_.val(h:c_ K H ks vs)(k:Key):(∀d,df ks k=ϑ d->∃v,iX vs k=ϑ v/\Rv K H d v)/\(df ks k=ϐ->iX vs k=ϐ):=by induction h with|nil=>(show{λd e=>(by cases e),λz=>rfl})|@cons a b l m r t g=>let⟨k',d⟩:=a;let⟨i,v⟩:=b;let⟨c,r⟩:=r;dsimp only at c;subst c;unfold df iX;simp only[yb];by_cases q:k'=k;rw[zi q];show{λj e=>{v,rfl,(by cases e;show r)},λe=>(by cases e)};rw[zf q];show g
def c_.any(h:c_ K H ks vs)(k:Key):(ks.any λkv=>ω<|kv.1=k)=(vs.any λkv=>ω<|kv.1=k):=by induction h with|nil=>rfl|cons r t a=>rw[yN,yN,a,r.1]
theorem c_.len(h:c_ K H ks vs):vs.length=ks.length:=(yM h).symm
theorem c_.app:∀{ks a:δ (κ×D)}{vs ws:δ (κ×V)},c_ K H ks vs->c_ K H a ws->c_ K H (ks++a) (vs++ws)|_,_,_,_,.nil,h=>h|_,_,_,_,.cons r t,h=>.cons r<|c_.app t h
def c_.Rz(h:c_ K H ks vs)(k:Key)(c:Rv K H d v):c_ K H (ks.map λkv=>if kv.1=k then (kv.1,d) else kv) (vs.map λkv=>if kv.1=k then (kv.1,v) else kv):=by induction h with|nil=>show .nil|@cons a b l m r t e=>show .cons ?_ e;dsimp only;by_cases q:b.1=k;rw[qe q,qe<|r.1.trans q];show⟨r.1,c⟩;rw[qb q,qb λz=>q<|r.1.symm.trans z];show r
def c_.put(h:c_ K H ks vs)(k:Key)(a:Rv K H d v):c_ K H (dput ks k d) (putK vs k v):=by unfold dput putK;rw[h.any k];split;show h.Rz k a;show h.app<|.cons ⟨rfl,a⟩ .nil
def c_.drop(h:c_ K H ks vs)(k:Key):c_ K H (BQ ks k) (rP vs k):=by unfold BQ rP;induction h with|nil=>show .nil|@cons a b l m r t c=>rw[List.filter_cons,List.filter_cons,r.1];by_cases q:b.1=k;rw[qb<|by simp[q],qb<|by simp[q]];show c;rw[qe<|by simp[q],qe<|by simp[q]];show .cons r c
noncomputable def Ed:D->θ Key|.int i=>some (.inl i)|.str z=>some (.inr z)|_=>none
def qC(h:Ed d=ϑ k)(r:Rv K H d v):v=kV k:=by cases d with|int i=>(cases h;show r.int)|str i=>(cases h;show r.str)|_=>cases h
noncomputable def nu:D->χ|.ao=>true|.bl _=>true|.int _=>true|.str _=>true|_=>false
noncomputable def lg:D->V|.ao=>.ao|.bl b=>.bl b|.int i=>.int i|.str z=>.str z|.ref a=>.ref a|.ty n=>.ty n|_=>.ao
def uq(h:nu d=ϱ)(r:Rv K H d v):v=lg d/\jz v=ϱ:=by cases d with|ao=>(cases r.ao;show⟨rfl,rfl⟩)|bl b=>(cases r.bl;show⟨rfl,rfl⟩)|int b=>(cases r.int;show⟨rfl,rfl⟩)|str b=>(cases r.str;show⟨rfl,rfl⟩)|_=>cases h
theorem oW:∀{ds:δ D}{vs:δ V},ds.all nu=ϱ->RvAll K H ds vs->vs=ds.map lg/\vs.all jz=ϱ|[],vs,_,r=>by rw[r.nil];show⟨rfl,rfl⟩|d::ds,vs,h,r=>by let⟨y,ys,rfl,r1,r2⟩:=r.cons;rw[List.all_cons,zT]at h;let⟨e1,c⟩:=uq h.1 r1;let⟨e2,a⟩:=oW h.2 r2;show{by rw[e1,e2];rfl,?_};rw[List.all_cons,c,a];rfl
def inD(c:χ):vI:=λx y S R=>match y with|.str j=>(∃i,x=.str i/\R (.bl<|if c then !(!(Builtin.Str.occurrences j i 0 j.length 1).isEmpty) else !(Builtin.Str.occurrences j i 0 j.length 1).isEmpty) S)|.kt ds=>(nu x=ϱ/\ds.all nu=ϱ/\R (.bl<|if c then !C8 (lg x) (ds.map lg) else C8 (lg x) (ds.map lg)) S)|.tup ds=>(nu x=ϱ/\ds.all nu=ϱ/\R (.bl<|if c then !C8 (lg x) (ds.map lg) else C8 (lg x) (ds.map lg)) S)|.ref a=>((∃ds,S a=ϑ (.lst ds)/\nu x=ϱ/\ds.all nu=ϱ/\R (.bl<|if c then !C8 (lg x) (ds.map lg) else C8 (lg x) (ds.map lg)) S)\/∃kvs k,S a=ϑ (.eV kvs)/\Ed x=ϑ k/\R (.bl<|if c then !(df kvs k).isSome else (df kvs k).isSome) S)|_=>False
def y0(c:Rs K S H)(e:S a=ϑ (.eV kvs)):∃o,sA H a (kV k) o/\o.isSome=(df kvs k).isSome/\∀d,df kvs k=ϑ d->∃v,o=ϑ v/\Rv K H d v:=by let⟨vs,e1,t⟩:=c.eV e;show{_,sA.k e1,?_,λd h=>(t.val k).1 d h};cases q:df kvs k with|none=>rw[(t.val k).2 q];rfl|some d=>let⟨v,e2,_⟩:=(t.val k).1 d q;rw[e2];rfl
def BR:qz K (compareOp .In) (inD false):=by rintro X B hu qg s σ H x y v u Q I r p ⟨d,e,S,R,z,A,c,h,n⟩;subst B;cases e with|str j=>(let⟨i,rfl,h⟩:=h;show Hd qg s σ H x y v u Q I r p {i,j,z.str,A.str,n.now c h<|cU _})|tup ds=>(let⟨w,l,h⟩:=h;let⟨a,xs,rfl,q,t⟩:=A.tup;let⟨e1,m⟩:=uq w z;let⟨e2,g2⟩:=oW l t;subst e1 e2;show qt qg s σ H _ _ v u Q I r p {a,_,rfl,.inr<|.of q,m,g2,n.now c h<|cU _})|kt ds=>(let⟨w,l,h⟩:=h;let⟨a,xs,rfl,q,t⟩:=A.kt;let⟨e1,m⟩:=uq w z;let⟨e2,g2⟩:=oW l t;subst e1 e2;show qt qg s σ H _ _ v u Q I r p {a,_,rfl,.inr<|.inr q,m,g2,n.now c h<|cU _})|ref a=>(cases A.ref;rcases h with⟨ds,e,w,l,h⟩|⟨kvs,k,e,hk,h⟩;let⟨xs,e1,t⟩:=c.lst e;let⟨e2,m⟩:=uq w z;let⟨e3,g2⟩:=oW l t;subst e2 e3;show qt qg s σ H _ _ v u Q I r p {a,_,rfl,.inl<|.of e1,m,g2,n.now c h<|cU _};cases qC hk z;cases p;let⟨o,g,e1,_⟩:=y0 (k:=k) c e;show aaz `b I g r λs' C=>{.bl o.isSome,H,C,rfl,?_};rw[e1];show n.now c h<|cU _)|_=>show h.elim
def IxD(K:Φ)(r:vI):Prop:=∀X:Cx,X.K=K->X.A.units+64<cLine->VD X (Lr K r)
inductive YV (ds:δ D) (i:ν) (S:ax) (R:KD):η
 |mk (d:D) (h:tV ds i=ϑ d) (r:R d S)
inductive AtL (a:ε) (i:ν) (S:ax) (R:KD):η
 |mk (ds:δ D) (d:D) (e:S a=ϑ (.lst ds)) (h:tV ds i=ϑ d) (r:R d S)
def ixD:vI:=λx y S R=>match x,y with|.tup ds,.int i=>YV ds i S R|.kt ds,.int i=>YV ds i S R|.lF ds,.int i=>YV ds i S R|.str z,.int i=>∃c,z.length<=Ϙ/\tV z.cps.toList i=ϑ c/\R (.str ⟨#[c]⟩) S|.ref a,.int i=>AtL a i S R|.ref a,.str z=>∃kvs d,S a=ϑ (.eV kvs)/\df kvs (.inr z)=ϑ d/\R d S|_,_=>False
def RvAll.at{H:Hp}{ds:δ D}{xs:δ V}{i:ν}{d:D}(h:RvAll K H ds xs)(e:tV ds i=ϑ d):∃v,tV xs i=ϑ v/\Rv K H d v:=by unfold tV at e⊢;rw[h.len];cases q:JD ds.length i with|none=>(rw[q]at e;cases e)|some j=>rw[q]at e;show h.get e
def abl:IxD K ixD:=by rintro X E hu value slice qg s σ H x y v u Q I p n ⟨d,e,S,R,A,l,j,h,m⟩ hs;subst E;cases d with|tup ds=>(cases e with|int i=>(let⟨d,e,h⟩:=h;let⟨a,xs,rfl,q,t⟩:=A.tup;let⟨z,e1,r⟩:=t.at e;show JE value slice qg s σ H _ _ v u Q I p n {a,xs,i,z,rfl,l.int,.of q,e1,m.now j h r} hs)|_=>show h.elim)|kt ds=>(cases e with|int i=>(let⟨d,e,h⟩:=h;let⟨a,xs,rfl,q,t⟩:=A.kt;let⟨z,e1,r⟩:=t.at e;show JE value slice qg s σ H _ _ v u Q I p n {a,xs,i,z,rfl,l.int,.inr q,e1,m.now j h r} hs)|_=>show h.elim)|lF ds=>(cases e with|int i=>(let⟨d,e,h⟩:=h;let⟨a,xs,rfl,q,t⟩:=A.lF;let⟨z,e1,r⟩:=t.at e;show FC value slice qg s σ H _ _ v u Q I p n {a,xs,i,z,rfl,l.int,q.sq,e1,m.now j h r} hs)|_=>show h.elim)|str w=>(cases e with|int i=>(let⟨c,C,e,h⟩:=h;show Ro value slice qg s σ H _ _ v u Q I p n {w,i,c,A.str,l.int,C,e,m.now j h<|j0 _} hs)|_=>show h.elim)|ref a=>(cases e with|int i=>(let⟨ds,d,e,e1,h⟩:=h;let⟨xs,e2,t⟩:=j.lst e;let⟨z,e3,r⟩:=t.at e1;show FC value slice qg s σ H _ _ v u Q I p n {a,xs,i,z,A.ref,l.int,.of e2,e3,m.now j h r} hs)|str w=>(let⟨kvs,d,e,e1,h⟩:=h;cases A.ref;cases l.str;cases p;let⟨o,g,_,e2⟩:=y0 (k:=.inr w) j e;let⟨z,rfl,r⟩:=e2 d e1;show tail_any (BA I g) PySem.F.slot_dict_getitem.lookup (Hn `b I g n λJ s' G B=>{z,H,G,B,m.now j h r}) hs)|_=>show h.elim)|_=>show h.elim
theorem ix(hu:X.A.units+64<cLine)(ha:DE K X a ta)(d:DE K X b tb)(hs:FA b:=by show λz z=>rfl)(c:ψ (X.K=K) qQJ):DE K X (.Subscript a b pos) (PN ixD ta tb):=⟨λy=>(VE (abl y.cx c hu) (ha.of y) (d.of y) hs).mono λz z z h=>h.op⟩
end
section
variable{K:Φ}{X:Cx}
abbrev PQ:=SD->ax->(θ ν->ax->η)->KX->η
def To(K:Φ)(E:St->XK)(t:PQ):TO:=λτ H Q=>∃σ S R Z,iV K H σ τ/\Rs K S H/\t σ S R Z/\(∀o S' H',R o S'->Rs K S' H'->Kp K H H'->Q o H')/\FL K H Z (E τ)
structure DO(K:Φ)(X:Cx)(e:θ Δ)(t:PQ):η where
 of:∀{b:χ}(y:Ev X b),PO y.cx e<|To K y.E t
theorem PO.mono{t t':TO}(h:PO X e t)(i:∀τ H Q,t' τ H Q->t τ H Q):PO X e t':=λqg s τ H Q I q=>h qg s τ H Q I<|i τ H Q q
def Wo:PQ:=λz S R z=>R none S
inductive Wq (d:D) (S:ax) (R:θ ν->ax->η):η
 |mk (i:ν) (h:d=.int i) (r:R (some i) S)
def Wr(t:TD):PQ:=λσ S R Z=>t σ S (λd a=>Wq d a R) Z
theorem o0:DO K X none Wo:=⟨λy=>(Nm (X:=y.cx)).mono <| by rintro τ H Q ⟨σ,S,R,Z,e,c,q,a,d⟩;show a _ S H q c<|.refl _⟩
theorem o1{t:TD}(h:DE K X e t):DO K X (some e) (Wr t):=⟨λy=>(Nn<|h.of y).mono <| by rintro τ H Q ⟨σ,S,R,Z,n,j,q,g,c⟩;show{σ,S,_,Z,n,j,q,by rintro d m x H1 ⟨i,e,l⟩ a s1 k1;show by subst e;show{i,a.int,g _ m H1 l s1 k1},c}⟩
noncomputable def iY{α:Type}(xs:δ α)(lo hi:θ ν):δ α:=(xs.drop<|HT.sIx xs.length 0 lo).take<|HT.sIx xs.length xs.length hi-HT.sIx xs.length 0 lo
def RvAll.cut{H:Hp}{ds:δ D}{xs:δ V}(h:RvAll K H ds xs)(lo hi:θ ν):RvAll K H (iY ds lo hi) (Bz xs lo hi):=by unfold iY Bz;rw[h.len];show(h.drop _).take _
def slD:D->θ ν->θ ν->ax->KD->Prop:=λx lo hi S R=>match x with|.str z=>z.length<=Ϙ/\R (.str<|PySem.Txt.slice z lo hi) S|.tup ds=>¬(HT.sIx ds.length 0 lo=0/\HT.sIx ds.length ds.length hi=ds.length)/\R (.tup<|iY ds lo hi) S|.ref a=>∃ds,S a=ϑ (.lst ds)/\∀p,S p=ϐ->R (.ref p) (S.set p<|.lst<|iY ds lo hi)|.lF ds=>∀p,S p=ϐ->R (.ref p) (S.set p<|.lst<|iY ds lo hi)|_=>False
def Lsl(K:Φ):V->θ ν->θ ν->Hp->VK->Prop:=λx lo hi H Q=>∃d S R,Rv K H d x/\Rs K S H/\slD d lo hi S R/\Cn K H R Q
def abm(w:X.K=K):Up X (Lsl K):=by rintro qg s σ H x v i n lo hi sl Q I o hs l j ⟨d,S,R,r,c,h,m⟩;subst w;cases d with|str z=>show R9 qg s σ H x v i n lo hi sl Q I o hs l j {z,r.str,h.1,m.now c h.2<|j0 _}|tup ds=>(let⟨a,xs,rfl,q,t⟩:=r.tup;show Rm qg s σ H _ v i n lo hi sl Q I o hs l j {a,xs,rfl,.of q,by rw[t.len];show h.1,λp g=>m.Kg c g h.2<|t.cut lo hi})|ref a=>(let⟨ds,e,h⟩:=h;let⟨xs,e1,t⟩:=c.lst e;show sZ qg s σ H _ v i n lo hi sl Q I o hs l j {a,xs,r.ref,.of e1,λp g=>m.new c g (h p)<|t.cut lo hi})|lF ds=>(let⟨a,xs,rfl,q,t⟩:=r.lF;show sZ qg s σ H _ v i n lo hi sl Q I o hs l j {a,xs,rfl,q.sq,λp g=>m.new c g (h p)<|t.cut lo hi})|_=>show h.elim
def dSl(te:TD)(tl th:PQ):TD:=λσ S R Z=>te σ S (λx a=>tl σ a (λl c=>th σ c (λu d=>slD x l u d R) Z) Z) Z
theorem sl{e:Δ}{lo hi:θ Δ}{te:TD}{tl th:PQ}{p2 pos:Pos}(n:DE K X e te)(hl:DO K X lo tl)(hu:DO K X hi th)(t:ψ (X.K=K) qQJ):DE K X (.Subscript e (.Slice lo hi none p2) pos) (dSl te tl th):=
 ⟨λy=>(By (X:=y.cx) (abm t) (n.of y) (hl.of y)<|hu.of y).mono <| by rintro τ H Q ⟨σ,S,R,Z,c,i,q,o,a⟩;show
  ⟨σ,S,_,Z,c,i,q,λd v x H1 s g s1 k1=>⟨σ,v,_,Z,c.ts k1,s1,s,λl r H2 j s2 k2=>⟨σ,r,_,Z,c.ts<|k1.trans k2,s2,j,λu p w m h k3=>⟨d,p,R,Rv.ts (k2.trans k3) _ g,h,m,o.kp<|(k1.trans k2).trans k3⟩,a.kp<|k1.trans k2⟩,a.kp k1⟩,a⟩⟩
def abn(te:TD):TD:=λσ S R Z=>te σ S (λx a=>∃i,x=.int i/\R (.int (-i)) a) Z
theorem abo(n:DE K X e te):DE K X (.UnaryOp .USub e pos) (abn te):=⟨λy=>(Vn Q_<|n.of y).mono <| by rintro τ H Q ⟨σ,S,R,Z,m,h,q,g,c⟩;show{σ,S,_,Z,m,h,q,by rintro d l x H1 ⟨i,e,j⟩ a s1 k1;show by subst e;show{i,a.int,g _ l _ H1 j (bc _) s1 k1},c}⟩
def tyD(T:String)(S:ax):D->η|.str _=>T ="str"|.ref a=>T ="list"/\∃ds,S a=ϑ (.lst ds)|.lF _=>T ="list"|_=>False
def PR{H:Hp}{S:ax}{T:String}{d:D}{v:V}(h:tyD T S d)(c:Rs K S H)(r:Rv K H d v):YJ K T v H:=by cases d with|str z=>rw[r.str];show h|ref a=>(let⟨e,ds,h⟩:=h;let⟨xs,e1,_⟩:=c.lst h;rw[r.ref];show .inl {e,xs,.of e1})|lF ds=>(let⟨a,xs,rfl,q,_⟩:=r.lF;show .inl ⟨h,xs,q.sq⟩)|_=>show h.elim
abbrev Jc:=D->δ D->ax->KD->η
def Lm(K:Φ)(r:Jc):V->δ V->Hp->VK->Prop:=λx xs H Q=>∃d ds S R,Rv K H d x/\RvAll K H ds xs/\Rs K S H/\r d ds S R/\Cn K H R Q
def PU(K:Φ)(id:String)(r:Jc):Prop:=∀X:Cx,X.K=K->Rn X id (Lm K r)
def dBM(T:String)(r:Jc)(to:TD)(t:k_):TD:=λσ S R Z=>to σ S (λx a=>tyD T a x/\t σ a (λds c=>r x ds c R) Z) Z
def abq(T:String)(r:Jc)(to:TD):TD:=λσ S R Z=>to σ S (λx a=>tyD T a x/\r x [] a R) Z
def bm{o e:Δ}{es:δ Δ}{T id:String}{name:ρ}{r:Jc}{to:TD}{t:k_}{apos bp:Pos}(C:PlainAttrs T)(slot:Slot T name id)(h:typeOf (.builtin id)=pure (.type "method_descriptor"))(hm:PU K id r)(ho:DE K X o to)(ha:DA K X (e::es) t) (j:ψ (attributeBase o name X.env (eval o X.env)=eval o X.env) qQJ) (i:ψ (((backTo bp<|starEach (e::es) X.env).all (λx=>!x.1)&&(backToKw bp<|keywordEach [] X.env).all (λx=>x.1.isSome)&&ω ((e::es).length+([]:δ Keyword).length+(if ([]:δ Keyword).isEmpty then 0 else 1)<30))=ϱ) qQJ) (z:ψ ((apos.endLine==bp.line)=ϱ) qQJ) (hs:ψ (starEach (e::es) X.env=`j::starEach es X.env) qQJ) (s:ψ ((backTo bp<|starEach es X.env).any (·.1)=ϰ) qQJ) (A:ψ (X.K=K) qQJ): DE K X (.Call (.Attribute o name apos) (e::es) [] bp) (dBM T r to t):=by
 subst A
 show⟨λy=>(VG (X:=y.cx) C slot h (hm _ rfl) (ho.of y) (ha.of y) j i z hs s).mono <| by rintro τ H Q ⟨σ,S,R,Z,g,l,q,n,c⟩;show
  ⟨σ,S,_,Z,g,l,q,by rintro d B x H1 ⟨h1,w⟩ a s1 k1;show⟨PR h1 s1 a,σ,B,_,Z,g.ts k1,s1,w,λds v xs H2 m p s2 k2=>⟨d,ds,v,R,Rv.ts k2 _ a,p,s2,m,n.kp<|k1.trans k2⟩,c.kp k1⟩,c⟩⟩
def bm0{o:Δ}{T id:String}{name:ρ}{r:Jc}{to:TD}{apos bp:Pos}(p:PlainAttrs T)(slot:Slot T name id)(c:typeOf (.builtin id)=pure (.type "method_descriptor"))(hm:PU K id r)(ho:DE K X o to) (h:ψ (attributeBase o name X.env (eval o X.env)=eval o X.env) qQJ) (l:ψ ((apos.endLine==bp.line)=ϱ) qQJ) (m:ψ (X.K=K) qQJ): DE K X (.Call (.Attribute o name apos) [] [] bp) (abq T r to):=by
 subst m
 show⟨λy=>(Rr (X:=y.cx) p slot c (hm _ rfl) (ho.of y) h l).mono <| by rintro τ H Q ⟨σ,S,R,Z,s,i,q,g,e⟩;show
  ⟨σ,S,_,Z,s,i,q,by rintro d n x H1 ⟨h1,j⟩ a s1 k1;show⟨PR h1 s1 a,d,[],n,R,a,cn,s1,j,g.kp k1⟩,e⟩⟩
def RvAll.one(h:RvAll K H [d] xs):∃v,xs=[v]/\Rv K H d v:=by let⟨y,ys,rfl,h1,h2⟩:=h.cons;rw[h2.nil];show⟨y,rfl,h1⟩
inductive Ws (x:D) (ds:δ D) (S:ax) (R:KD):η
 |mk (a:ε) (es:δ D) (d:D) (e1:x=.ref a) (e2:ds=[d]) (e3:S a=ϑ (.lst es)) (e4:es.length<Ϙ) (r:R .ao<|S.set a<|.lst<|es++[d])
def NX:Jc:=λx ds S R=>Ws x ds S R
def fF:PU K "list.append" NX:=by rintro X n qg s σ H x xs v us Q I j rs ⟨d,ds,S,R,l,g,c,⟨a,es,y,e1,e2,e3,hl,h⟩,i⟩;subst e1 e2;let⟨e,rfl,m⟩:=g.one;let⟨zs,e4,t⟩:=c.lst e3;show Hm qg s σ H x _ v us Q I j rs {a,zs,e,l.ref,rfl,e4,by rw[t.len];show hl,i.put c e3 h jZ<|t.app<|bE m cn}
def abr:Jc:=λx ds S R=>∃a es d,x=.ref a/\ds=[]/\S a=ϑ (.lst es)/\es[es.length-1]?=some d/\R d (S.set a<|.lst es.dropLast)
def Wt:PU K "list.pop" abr:=by rintro X m qg s σ H x xs v us Q I j rs ⟨d,ds,S,R,l,e,c,⟨a,es,y,e1,e2,e3,hl,h⟩,g⟩;subst e1 e2;let⟨zs,e4,t⟩:=c.lst e3;let⟨w,i,r⟩:=t.get hl;show Ry qg s σ H x _ v us Q I j rs {a,zs,w,l.ref,e.nil,e4,by rw[t.len];show i,g.put c e3 h r t.dropLast}
def NY:Jc:=λx ds S R=>∃(bs:δ χ)(k:χ),ds=[.bl k]/\yY S x (bs.map D.bl)/\R (.int (bs.count k:π)) S
def NZ:PU K "list.count" NY:=by rintro X l qg s σ H x xs v us Q I i rs ⟨d,ds,S,R,j,e,c,⟨bs,k,e2,e3,h⟩,g⟩;subst l e2;let⟨n,rfl,m⟩:=e.one;let⟨a,zs,rfl,q,t⟩:=e3.at c j;rw[t.bools]at q;show HE qg s σ H _ _ v us Q I i rs {a,bs,k,rfl,by rw[m.bl],q,g.now c h<|bc _}
def N1:Jc:=λx ds S R=>∃(es:δ D)(d:D)(j:π),ds=[d]/\yY S x es/\nu d=ϱ/\es.all nu=ϱ/\(∃z,es[j]?=some z/\eqV (lg z) (lg d)=ϱ)/\(∀m u,m<j->es[m]?=some u->eqV (lg u) (lg d)=ϰ)/\R (.int j) S
def BS:PU K "list.index" N1:=by rintro X F qg s σ H x xs v us Q I r rs ⟨d,ds,S,R,E,l,g,⟨es,y,j,e2,e3,C,i,⟨z,e4,w⟩,B,h⟩,o⟩;subst F e2;let⟨J,rfl,c⟩:=l.one;let⟨a,zs,rfl,q,t⟩:=e3.at g E;let⟨n,g2⟩:=uq C c;let⟨A,G⟩:=oW i t;subst n A;show HD qg s σ H _ _ v us Q I r rs {a,_,_,lg z,j,rfl,rfl,q,g2,G,by rw[zA,e4];rfl,w,λm u hm e=>?_,o.now g h<|bc _};rw[zA]at e;cases c:es[m]? with|none=>(rw[c]at e;cases e)|some p=>rw[c]at e;cases e;show B m p hm c
def N2:Jc:=λx ds S R=>∃z y,x=.str z/\ds=[.str y]/\R (.bl<|PySem.Txt.startswith z y) S
def Ki:PU K "str.startswith" N2:=by rintro X m qg s σ H x xs v us Q I e rs ⟨d,ds,S,R,g,i,c,⟨z,y,e1,e2,h⟩,a⟩;subst e1 e2;let⟨l,rfl,j⟩:=i.one;show v5 qg s σ H _ _ v us Q I e rs {z,y,g.str,by rw[j.str],a.now c h<|cU _}
def Kj(S:ax)(R:KD):D->η|.str z=>z.length<=Ϙ/\R (.int z.length) S|.tup es=>R (.int es.length) S|.kt es=>R (.int es.length) S|.lF es=>R (.int es.length) S|.ref a=>(∃es,S a=ϑ (.lst es)/\R (.int es.length) S)\/∃kvs,S a=ϑ (.eV kvs)/\R (.int kvs.length) S|_=>False
inductive Wu (ds:δ D) (S:ax) (R:KD):η
 |mk (x:D) (h:ds=[x]) (r:Kj S R x)
def abt:δ D->ax->KD->Prop:=λds S R=>Wu ds S R
def bC:jB K (.builtin "len") abt:=by rintro X j hc qg s σ H xs us Q I g ⟨ds,S,R,r,c,⟨x,e,h⟩,d⟩;subst j e;let⟨w,rfl,i⟩:=r.one;cases x with|str z=>(cases i.str;show lx qg s σ H _ us Q I g {_,_,rfl,⟨h.1,rfl⟩,d.now c h.2<|bc _})|tup es=>(let⟨a,xs,rfl,q,t⟩:=i.tup;show lx qg s σ H _ us Q I g {_,_,rfl,.inr {xs,.of q,t.len.symm},d.now c h<|bc _})|kt es=>(let⟨a,xs,rfl,q,t⟩:=i.kt;show lx qg s σ H _ us Q I g {_,_,rfl,.inr {xs,.inr q,t.len.symm},d.now c h<|bc _})|lF es=>(let⟨a,xs,rfl,q,t⟩:=i.lF;show lx qg s σ H _ us Q I g {_,_,rfl,.inl ⟨xs,q.sq,t.len.symm⟩,d.now c h<|bc _})|ref a=>(cases i.ref;rcases h with⟨es,e,h⟩|⟨kvs,e,h⟩;let⟨xs,e1,t⟩:=c.lst e;show lx qg s σ H _ us Q I g {_,_,rfl,.inl {xs,.of e1,t.len.symm},d.now c h<|bc _};let⟨xs,e1,t⟩:=c.eV e;show Hs qg s σ H _ us Q I g {a,xs,rfl,e1,by rw[t.len];show d.now c h<|bc _})|_=>show h.elim
def Sd(S:ax):D->Kd->η|.ao,k=>k=.ao|.bl _,k=>k=.bl|.int _,k=>k=.int|.str _,k=>k=.str|.ref a,k=>(k=.lst/\∃ds,S a=ϑ (.lst ds))\/(k=.eV/\∃ds,S a=ϑ (.eV ds))|.tup _,k=>k=.tup|_,_=>False
def Wv(h:Sd S d k)(c:Rs K S H)(r:Rv K H d v):t9 H v k:=by cases d with|ao=>(cases h;rw[r.ao];show .ao)|bl b=>(cases h;rw[r.bl];show .bl b)|int b=>(cases h;rw[r.int];show .int b)|str b=>(cases h;rw[r.str];show .str b)|tup b=>(cases h;let⟨a,xs,rfl,q,_⟩:=r.tup;show .tup q)|ref a=>(rw[r.ref];rcases h with⟨rfl,ds,h⟩|⟨rfl,ds,h⟩;let⟨xs,e,_⟩:=c.lst h;show .lst e;let⟨xs,e,_⟩:=c.eV h;show .eV e)|_=>show h.elim
inductive Ww (ds:δ D) (S:ax) (R:KD):η
 |mk (x:D) (n:String) (k:Kd) (g:Kd->χ) (e:ds=[x,.ty n]) (a:BF n=ϑ g) (b:Sd S x k) (r:R (.bl<|g k) S)
def abu:δ D->ax->KD->Prop:=λds S R=>Ww ds S R
def RvAll.two(h:RvAll K H [d,e] xs):∃v u,xs=[v,u]/\Rv K H d v/\Rv K H e u:=by let⟨y,ys,rfl,h1,h2⟩:=h.cons;let⟨u,rfl,a⟩:=h2.one;show⟨y,u,rfl,h1,a⟩
def cM:jB K (.builtin "isinstance") abu:=by rintro X l hc qg s σ H xs us Q I c ⟨ds,S,R,r,a,⟨x,n,k,g,e,h1,h2,h⟩,d⟩;subst l e;let⟨v,u,rfl,i,j⟩:=r.two;rw[j.ty]at c;show JY qg s σ H _ us Q I c {v,n,k,g,rfl,h1,Wv h2 a i,d.now a h<|cU _}
inductive Wx (ds:δ D) (S:ax) (f:δ χ->χ) (R:KD):η
 |mk (x:D) (bs:δ χ) (e:ds=[x]) (h:yY S x<|bs.map D.bl) (r:R (.bl<|f bs) S)
def Wy:δ D->ax->KD->Prop:=λds S R=>Wx ds S (λbs=>bs.all id) R
def lI:jB K (.builtin "all") Wy:=by rintro X j hc qg s σ H xs us Q I g ⟨ds,S,R,r,c,⟨x,bs,e,h1,h⟩,d⟩;subst j e;let⟨v,rfl,i⟩:=r.one;let⟨a,zs,rfl,q,t⟩:=h1.at c i;rw[t.bools]at q;show vT hc qg s σ H _ us Q I g {a,bs,rfl,q,d.now c h<|cU _}
def abv:δ D->ax->KD->Prop:=λds S R=>∃(x:D)(bs:δ χ),ds=[x]/\yY S x (bs.map D.bl)/\R (.bl<|bs.any id) S
def Wz:jB K (.builtin "any") abv:=by rintro X j hc qg s σ H xs us Q I g ⟨ds,S,R,r,c,⟨x,bs,e,h1,h⟩,d⟩;subst j e;let⟨v,rfl,i⟩:=r.one;let⟨a,zs,rfl,q,t⟩:=h1.at c i;rw[t.bools]at q;show vU hc qg s σ H _ us Q I g {a,bs,rfl,q,d.now c h<|cU _}
def intD:δ D->ax->KD->Prop:=λds S R=>(∃i,ds=[.int i]/\R (.int i) S)\/∃k,ds=[.bl k]/\R (.int<|if k then 1 else 0) S
def lJ:jB K (.type "int") intD:=by rintro X g hc qg s σ H xs us Q I e ⟨ds,S,R,r,d,h,c⟩;rcases h with⟨i,rfl,h⟩|⟨k,rfl,h⟩;let⟨v,rfl,a⟩:=r.one;show wN qg s σ H _ us Q I e<|.inl {i,by rw[a.int],c.now d h<|bc _};let⟨v,rfl,a⟩:=r.one;show wN qg s σ H _ us Q I e<|.inr {k,by rw[a.bl],c.now d h<|bc _}
def WA:δ D->ax->KD->Prop:=λds S R=>∃x es,ds=[x]/\(yY S x es\/x=.tup es)/\∀p,S p=ϐ->R (.ref p) (S.set p<|.lst es)
def y1:jB K (.type "list") WA:=by rintro X l hc qg s σ H xs us Q I i ⟨ds,S,R,r,c,⟨x,es,e,h1,h⟩,g⟩;subst l e;let⟨v,rfl,j⟩:=r.one;rcases h1 with h1|rfl;let⟨a,zs,rfl,q,t⟩:=h1.at c j;show oO qg s σ H _ us Q I i {a,zs,rfl,.inl q,λp d=>g.new c d (h p) t};let⟨a,zs,rfl,q,t⟩:=j.tup;show oO qg s σ H _ us Q I i {a,zs,rfl,.inr<|.of q,λp d=>g.new c d (h p) t}
inductive WB (ds:δ D) (S:ax) (R:KD):η
 |mk (x:D) (es:δ D) (e:ds=[x]) (h:yY S x es\/x=.tup es) (r:R (.tup es) S)
def Se:δ D->ax->KD->Prop:=λds S R=>WB ds S R
def i4:jB K (.type "tuple") Se:=by rintro X l hc qg s σ H xs us Q I g ⟨ds,S,R,r,c,⟨x,es,e,h1,h⟩,d⟩;subst l e;let⟨v,rfl,i⟩:=r.one;rcases h1 with h1|rfl;let⟨a,zs,rfl,q,t⟩:=h1.at c i;show nj qg s σ H _ us Q I g {a,zs,rfl,.inl {q,λp j=>d.Kg c j h t}};let⟨a,zs,rfl,q,t⟩:=i.tup;show nj qg s σ H _ us Q I g {a,zs,rfl,.inr {.of q,d.now c h<|lG q t}}
def minD(f:ν->ν->χ):δ D->ax->KD->Prop:=λds S R=>∃i j,ds=[.int i,.int j]/\R (.int<|if f j i then j else i) S
def PV:jB K (.builtin "min") (minD λa b=>ω<|a<b):=by rintro X n hc qg s σ H xs us Q I g ⟨ds,S,R,r,d,⟨i,j,e,h⟩,c⟩;subst e;let⟨v,u,rfl,l,m⟩:=r.two;show Hg hc qg s σ H _ us Q I g {i,j,by rw[l.int,m.int],?_};have:=c.now d h<|bc _;simpa using this
def WC:jB K (.builtin "max") (minD λa b=>ω<|b<a):=by rintro X n hc qg s σ H xs us Q I g ⟨ds,S,R,r,d,⟨i,j,e,h⟩,c⟩;subst e;let⟨v,u,rfl,l,m⟩:=r.two;show Hf hc qg s σ H _ us Q I g {i,j,by rw[l.int,m.int],?_};have:=c.now d h<|bc _;simpa using this
end
abbrev ir:=δ D->ax->KD->KX->η
def qD(K:Φ)(sp:ir):Sp:=λvs H Q e=>∃ds S R Z,RvAll K H ds vs/\Rs K S H/\sp ds S R Z/\Cn K H R Q/\FL K H Z e
section
variable{K:Φ}{X:Cx}{k:π}{f C:ε}{fd:FuncData}{ps:δ ρ}{sp:Sp}{sy:δ V}{ds:δ ξ}{x m:ρ}{p pos apos:Pos}{e o:Δ}{es:δ Δ}{b:χ}{y:Ev X b}
def y3(F:cG X.prog X.w X.K X.mg X.base (fh X.prog X.w X.mg) k f fd ps sp)(hr:cj k X.A)(g:Binds X.K fd ps ds)(hd:Vals sy ds) (I:Inv y.cx p2 σ H s) (r:Vals vs us) (h:sp (vs++sy) H Q<|y.E σ):wpAny `m X.A (call (.ref f) us) (EP y.cx p2 σ Q) y.xe s:=by
 have d:Vals (vs++sy) (us++ds):=r.append hd;have hl:(us++ds).length=ps.length:=by rw[<-d.length];show F.len _ _ _ _ h
 show wpAny_call<|yJ (F.run X.A X.stack s H {us,[]} (us++ds) (vs++sy) Q (y.E σ) hr I.Ni (g s us I.nh hl) d h) λc s' a=>?_;cases c with|error e=>show y.ok.call p2 σ H s e s' I a|ok fl=>cases fl with|ret u=>show I.after a|next=>show False.elim a|brk=>show False.elim a|cont=>show False.elim a
def Kk{t:TA}(F:cG X.prog X.w X.K X.mg X.base (fh X.prog X.w X.mg) k f fd ps sp)(hr:cj k X.A)(hg:Gl X x)(hm:X.mg x=ϑ (.ref f))(hk:keepIn X.K (.ref f)=ϱ)(d:Binds X.K fd ps ds)(hd:Vals sy ds) (ha:PA y.cx (e::es) t) (g:(x==("__debug__": ρ))=ϰ) (i:starEach (e::es) X.env=`j::starEach es X.env) (c:(backTo pos<|starEach es X.env).any (·.1)=ϰ): PE y.cx (.Call (.Name x p) (e::es) [] pos) (λσ H Q=>t σ H λvs H1=>sp (vs++sy) H1 Q<|y.E σ):=by intro p2 s σ H Q I h;show yC<|mB I hg hm ?_ g;show callWith_K (h₀:=X.base) I.ok.mod.Br hk (bZ (ha pos p2 s σ H _ I h) λus s1 ⟨vs,H1,a,r,q⟩=>{a.nh,?_}) i c;show y3 F hr d hd a r q
theorem Kl{pl:Sem χ}{ta:TE}{t:TA}(j:PE y.cx o ta)(c:sX X.K C)(hm:Meth X.K C m f)(F:cG X.prog X.w X.K X.mg X.base (fh X.prog X.w X.mg) k f fd ps sp)(hr:cj k X.A)(G:Binds X.K fd ps ds)(hd:Vals sy ds)(ha:PA y.cx (e::es) t)
  (B:starEach (e::es) X.env=`j::starEach es X.env) (i:(backTo pos<|starEach es X.env).any (·.1)=ϰ)
  (n:eval (.Call (.Attribute o m apos) (e::es) [] pos) X.env=(do
   let ov <-eval o X.env
   standAt apos.atName
   let (f,first) <-holding [ov] (getMethod ov m pl)
   callWith pos f first (backTo pos<|starEach (e::es) X.env) (backToKw pos<|keywordEach [] X.env))):
  PE y.cx (.Call (.Attribute o m apos) (e::es) [] pos) (λσ H Q=>ta σ H λx H1=>∃a dx fs,x=.ref a/\H1 a=ϑ (.ins C dx fs)/\fs.lookup m=ϐ/\t σ H1 λvs H2=>sp (x::(vs++sy)) H2 Q<|y.E σ):=by
 intro p2 s σ H Q I h
 show methodCall_KW (pl:=pl) (bZ (j p2 s σ H _ I h) λu s1 ⟨x,H1,g,v,a,dx,fs,ex,p,l,q⟩=>?_) n
 subst ex
 obtain rfl:u=Value.ref a:=v
 show tT g p c hm l ?_
 show callWith_K (first:=[.ref a]) (h₀:=X.base) I.ok.mod.Br hm.kp (bZ (ha pos p2 s1 σ H1 _ g q) λus s2 ⟨vs,H2,d,r,z⟩=>{d.nh,?_}) B i
 show y3 (us:=.ref a::us) (vs:=.ref a::vs) F hr G hd d (.cons rfl r) z
theorem HF(i:PE y.cx o ta)(c:sX X.K C)(hm:Meth X.K C m f)(F:cG X.prog X.w X.K X.mg X.base (fh X.prog X.w X.mg) k f fd ps sp)(hr:cj k X.A)(g:Binds X.K fd ps ds)(hd:Vals sy ds)
  (j:eval (.Call (.Attribute o m apos) [] [] pos) X.env=(do
   let ov <-eval o X.env
   standAt apos.atName
   let (f,first) <-holding [ov] (getMethod ov m pl)
   callWith pos f first (backTo pos<|starEach [] X.env) (backToKw pos<|keywordEach [] X.env))):
  PE y.cx (.Call (.Attribute o m apos) [] [] pos) (λσ H Q=>ta σ H λx H1=>∃a dx fs,x=.ref a/\H1 a=ϑ (.ins C dx fs)/\fs.lookup m=ϐ/\sp (x::sy) H1 Q (y.E σ)):=by
 intro p2 s σ H Q I h
 show methodCall_KW (pl:=pl) (bZ (i p2 s σ H _ I h) λu s1 ⟨x,H1,d,e,a,dx,fs,ex,n,l,q⟩=>?_) j
 subst ex
 obtain rfl:u=Value.ref a:=e
 show tT d n c hm l ?_
 show PySem.W.callWith_K0 (first:=[.ref a]) d.nh hm.kp<|y3 (us:=[.ref a]) (vs:=[.ref a]) F hr g hd d (.cons rfl .nil) q
def HG(M:Mk X.K C f)(F:cG X.prog X.w X.K X.mg X.base (fh X.prog X.w X.mg) k f fd ps sp)(hr:cj (k+1) X.A)(j:Binds X.K fd ps ds)(hd:Vals sy ds) (I:Inv y.cx p2 σ H s) (r:Vals vs us) (h:∀x dx,H x=ϐ->H dx=ϐ->dx≠x->sp (.ref x::(vs++sy)) (upd (upd H dx<|.own x) x<|.ins C dx []) (λv H2=>v=.ao/\Q (.ref x) H2) (y.E σ)): wpAny `m X.A (call (.ref C) us) (EP y.cx p2 σ Q) y.xe s:=by
 have d:=h `l s.heap.objs.size (I.aT.fresh<|yS _) (I.aT.fresh<|zp _)<|zC<|Nat.lt_succ_self _;have c:=Inv.made (C:=C) I;have g:Vals (V.ref `l::(vs++sy)) (Value.ref `l::(us++ds)):=.cons rfl<|r.append hd;have hl:(Value.ref `l::us++ds).length=ps.length:=by have e:=g.length;rw[F.len _ _ _ _ d]at e;show e.symm
 show wpAny_call<|JB (f:=f) I.nh M.makes M.init (beq_iff_eq.mp M.fn)<|yJ (F.run _ X.stack _ _ {Value.ref `l::us,[]} (Value.ref `l::(us++ds)) _ _ (y.E σ) (hr.make C us []) (c.Ni.make C us []) (j _ (Value.ref `l::us) c.nh hl) g d) λr s' a=>?_;cases r with|error e=>show y.ok.call p2 σ _ _ e s' c a|ok fl=>cases fl with|ret u=>(let⟨v,H',i,l,ev,m⟩:=c.after a;subst ev;show{l,{V.ref<|s.heap.objs.size+1,H',i,rfl,m}})|next=>show False.elim a|brk=>show False.elim a|cont=>show False.elim a
def Km{t:TA}(M:Mk X.K C f)(F:cG X.prog X.w X.K X.mg X.base (fh X.prog X.w X.mg) k f fd ps sp)(hr:cj (k+1) X.A)(hg:Gl X x)(hm:X.mg x=ϑ (.ref C))(d:Binds X.K fd ps ds)(hd:Vals sy ds) (ha:PA y.cx (e::es) t) (g:(x==("__debug__": ρ))=ϰ) (i:starEach (e::es) X.env=`j::starEach es X.env) (c:(backTo pos<|starEach es X.env).any (·.1)=ϰ): PE y.cx (.Call (.Name x p) (e::es) [] pos) (λσ H Q=>t σ H λvs H1=>∀x dx,H1 x=ϐ->H1 dx=ϐ->dx≠x->sp (.ref x::(vs++sy)) (upd (upd H1 dx<|.own x) x<|.ins C dx []) (λv H2=>v=.ao/\Q (.ref x) H2) (y.E σ)):=by intro p2 s σ H Q I h;show yC<|mB I hg hm ?_ g;show callWith_K (h₀:=X.base) I.ok.mod.Br M.kp (bZ (ha pos p2 s σ H _ I h) λus s1 ⟨vs,H1,a,r,q⟩=>{a.nh,?_}) i c;show HG M F hr d hd a r q
end
section
variable{K:Φ}{X:Cx}{k:π}{f C:ε}{fd:FuncData}{ps:δ ρ}{sp:ir}{BU:δ D}{sy:δ V}{ds:δ ξ}{x m:ρ}{p pos apos:Pos}{e o:Δ}{es:δ Δ}
structure UA(K:Φ)(BU:δ D)(sy:δ V)(ds:δ ξ):η where
 v:Vals sy ds
 d:∀H,RvAll K H BU sy
theorem d0:UA K [] [] []:={.nil,λz=>cn}
theorem d1:UA K [.ao] [.ao] [.none]:={.cons rfl .nil,λz=>bE jZ cn}
def PX(sp:ir)(BU:δ D)(t:k_):TD:=λσ S R Z=>t σ S (λds a=>sp (ds++BU) a R Z) Z
def cf{t:k_}(F:cG X.prog X.w K X.mg X.base (fh X.prog X.w X.mg) k f fd ps<|qD K sp)(hr:cj k X.A)(hm:X.mg x=ϑ (.ref f))(hk:keepIn K (.ref f)=ϱ)(n:Binds K fd ps ds)(hd:UA K BU sy ds)(ha:DA K X (e::es) t) (hg:ψ (Gl X x) qQJ) (r:ψ ((x==("__debug__": ρ))=ϰ) qQZ) (s:ψ (starEach (e::es) X.env=`j::starEach es X.env) qQJ) (i:ψ ((backTo pos<|starEach es X.env).any (·.1)=ϰ) qQJ) (l:ψ (X.K=K) qQJ): DE K X (.Call (.Name x p) (e::es) [] pos) (PX sp BU t):=by
 subst l
 show⟨λy=>(Kk F hr hg hm hk n hd.v (ha.of y) r s i).mono <| by rintro τ H Q ⟨σ,S,R,Z,o,h,q,g,a⟩;show
  ⟨σ,S,_,Z,o,h,q,λes m xs H1 j c s1 k1=>⟨es++BU,m,R,Z,c.app<|hd.d _,s1,j,g.kp k1,a.kp k1⟩,a⟩⟩
inductive MeR (C:ε) (m:ρ) (x:D) (S:ax) (p:η):η
 |mk (a:ε) (fs:δ<|ρ×D) (e1:x=.ref a) (e2:S a=ϑ (.ins C fs)) (e3:fs.lookup m=ϐ) (r:p)
def FQ(C:ε)(m:ρ)(sp:ir)(BU:δ D)(ta:TD)(t:k_):TD:=λσ S R Z=>ta σ S (λx a=>MeR C m x a<|t σ a (λds c=>sp (x::(ds++BU)) c R Z) Z) Z
theorem UB{t:k_}(p:DE K X o ta)(c:sX K C)(hm:Meth K C m f)(F:cG X.prog X.w K X.mg X.base (fh X.prog X.w X.mg) k f fd ps<|qD K sp)(hr:cj k X.A)(M:Binds K fd ps ds)(hd:UA K BU sy ds)(ha:DA K X (e::es) t)
  (J:ψ (starEach (e::es) X.env=`j::starEach es X.env) qQJ) (l:ψ ((backTo pos<|starEach es X.env).any (·.1)=ϰ) qQJ)
  (r:ψ (eval (.Call (.Attribute o m apos) (e::es) [] pos) X.env=(do
   let ov <-eval o X.env
   standAt apos.atName
   let (f,first) <-holding [ov] (getMethod ov m pl)
   callWith pos f first (backTo pos<|starEach (e::es) X.env) (backToKw pos<|keywordEach [] X.env))) qQJ) (I:ψ (X.K=K) qQJ):
  DE K X (.Call (.Attribute o m apos) (e::es) [] pos) (FQ C m sp BU ta t):=by
 subst I
 show⟨λy=>(Kl (p.of y) c hm F hr M hd.v (ha.of y) J l r).mono <| by rintro τ H Q ⟨σ,S,R,Z,i,j,q,z,g⟩;show
  ⟨σ,S,_,Z,i,j,q,by
   rintro d L x H1 ⟨a,fs,e1,e2,e3,G⟩ h s1 k1
   subst e1
   let⟨dx,vs,e4,s⟩:=s1.ins e2
   show{a,dx,vs,h.ref,e4,(s.look m).2 e3,σ,L,_,Z,i.ts k1,s1,G,λes E xs H2 n B s2 k2=>{_,E,R,Z,bE (Rv.ts k2 _ h)<|B.app<|hd.d _,s2,n,z.kp<|k1.trans k2,g.kp<|k1.trans k2},g.kp k1},g⟩⟩
theorem abw(i:DE K X o ta)(c:sX K C)(hm:Meth K C m f)(F:cG X.prog X.w K X.mg X.base (fh X.prog X.w X.mg) k f fd ps<|qD K sp)(hr:cj k X.A)(t:Binds K fd ps ds)(hd:UA K BU sy ds)
  (j:ψ (eval (.Call (.Attribute o m apos) [] [] pos) X.env=(do
   let ov <-eval o X.env
   standAt apos.atName
   let (f,first) <-holding [ov] (getMethod ov m pl)
   callWith pos f first (backTo pos<|starEach [] X.env) (backToKw pos<|keywordEach [] X.env))) qQJ) (r:ψ (X.K=K) qQJ):
  DE K X (.Call (.Attribute o m apos) [] [] pos) (FQ C m sp BU ta NV):=by
 subst r
 show⟨λy=>(HF (i.of y) c hm F hr t hd.v j).mono <| by rintro τ H Q ⟨σ,S,R,Z,z,h,q,n,g⟩;show
  ⟨σ,S,_,Z,z,h,q,by
   rintro d s x H1 ⟨a,fs,e1,e2,e3,p⟩ e s1 k1
   subst e1
   let⟨dx,vs,e4,l⟩:=s1.ins e2
   show{a,dx,vs,e.ref,e4,(l.look m).2 e3,_,s,R,Z,bE e<|hd.d _,s1,p,n.kp k1,g.kp k1},g⟩⟩
def WD(C:ε)(sp:ir)(BU:δ D)(t:k_):TD:=λσ S R Z=>t σ S (λds a=>∀x,a x=ϐ->sp (.ref x::(ds++BU)) (a.set x<|.ins C []) (λd c=>d=.ao/\R (.ref x) c) Z) Z
def mk{t:k_}(M:Mk K C f)(F:cG X.prog X.w K X.mg X.base (fh X.prog X.w X.mg) k f fd ps<|qD K sp)(hr:cj (k+1) X.A)(hm:X.mg x=ϑ (.ref C))(E:Binds K fd ps ds)(hd:UA K BU sy ds)(ha:DA K X (e::es) t) (hg:ψ (Gl X x) qQJ) (n:ψ ((x==("__debug__": ρ))=ϰ) qQZ) (o:ψ (starEach (e::es) X.env=`j::starEach es X.env) qQJ) (l:ψ ((backTo pos<|starEach es X.env).any (·.1)=ϰ) qQJ) (B:ψ (X.K=K) qQJ): DE K X (.Call (.Name x p) (e::es) [] pos) (WD C sp BU t):=by
 subst B
 show⟨λy=>(Km M F hr hg hm E hd.v (ha.of y) n o l).mono <| by rintro τ H Q ⟨σ,S,R,Z,G,j,q,r,h⟩;show
  ⟨σ,S,_,Z,G,j,q,λes J xs H1 z i s1 k1 x dx hx a ne=>by
   have g:upd H1 dx (.own x) x=ϐ:=by rw[ay ne.symm];show hx
   have k2:Kp X.K H1 (upd (upd H1 dx<|.own x) x<|.ins C dx []):=(Kp.new a).trans<|Kp.new g
   show{_,_,_,Z,bE (cg x)<|RvAll.ts k2 _<|i.app<|hd.d _,(s1.grow a).new (c:=.ins C []) g {dx,[],aR,.nil},z x<|s1.fresh hx,by rintro d I v H2 ⟨e,m⟩ s s2 k3;show by subst e;show{s.ao,r _ _ _ _ m (cg x) s2<|(k1.trans k2).trans k3},(h.kp k1).kp k2},h⟩⟩
inductive FlR (C:ε) (f:ρ) (x:D) (S:ax) (R:KD):η
 |mk (a:ε) (fs:δ<|ρ×D) (d:D) (e1:x=.ref a) (e2:S a=ϑ (.ins C fs)) (e3:fs.lookup f=ϑ d) (r:R d S)
def abx(C:ε)(f:ρ)(ta:TD):TD:=λσ S R Z=>ta σ S (λx a=>FlR C f x a R) Z
def fl{f:ρ}{ta:TD}(c:sX K C)(n:lA K C f)(l:DE K X e ta)(t:ψ (attributeBase e f X.env (eval e X.env)=eval e X.env) qQJ)(s:ψ (X.K=K) qQJ):DE K X (.Attribute e f pos) (abx C f ta):=by
 subst s
 show⟨λy=>(Rh (X:=y.cx) (l.of y) t).mono <| by rintro τ H Q ⟨σ,S,R,Z,w,i,q,o,h⟩;show
  ⟨σ,S,_,Z,w,i,q,by
   rintro d z x H1 ⟨a,fs,y,e1,e2,e3,r⟩ g s1 k1
   subst e1
   let⟨dx,vs,e4,m⟩:=s1.ins e2
   let⟨v,p,j⟩:=(m.look f).1 y e3
   show{a,C,dx,vs,v,g.ref,e4,c,n,p,(o.kp k1).now s1 r j},h⟩⟩
end
structure xb where
 nx:SD->ax->η
 rt:KD
 bk:SD->ax->Prop:=λz z=>False
 ct:SD->ax->Prop:=λz z=>False
abbrev mU:=xb->SD->ax->(SD->KX)->η
def PY(K:Φ)(H:Hp)(R:SD->ax->η)(Q:St->Hp->η):Prop:=∀σ S τ H',R σ S->iV K H' σ τ->Rs K S H'->Kp K H H'->Q τ H'
structure YW(K:Φ)(H:Hp)(De:xb)(Dv:Ends):η where
 nx:PY K H De.nx Dv.nx
 rt:Cn K H De.rt Dv.rt
 bk:PY K H De.bk Dv.bk
 ct:PY K H De.ct Dv.ct
def BV(K:Φ)(H:Hp)(Z:SD->KX)(E:St->XK):Prop:=∀σ τ C S H',Z σ C S->iV K H' σ τ->Rs K S H'->Kp K H H'->E τ (.ref C) none H'
section
variable{K:Φ}{H H1:Hp}{De:xb}{Dv:Ends}{Z:SD->KX}{E:St->XK}{σ:SD}{τ:St}{S:ax}
theorem PY.kp(h:PY K H R Q)(k:Kp K H H1):PY K H1 R Q:=λσ S τ H' r a b c=>h σ S τ H' r a b<|k.trans c
theorem YW.kp(h:YW K H De Dv)(k:Kp K H H1):YW K H1 De Dv:={h.nx.kp k,h.rt.kp k,h.bk.kp k,h.ct.kp k}
theorem BV.kp(h:BV K H Z E)(k:Kp K H H1):BV K H1 Z E:=λσ τ C S H' r a b c=>h σ τ C S H' r a b<|k.trans c
theorem BV.at(h:BV K H Z E)(r:iV K H σ τ):FL K H (Z σ) (E τ):=λC S H' z s k=>h σ τ C S H' z (r.ts k) s k
theorem BV.on(h:BV K H Z E)(k:Kp K H H1)(r:iV K H1 σ τ):FL K H1 (Z σ) (E τ):=(h.kp k).at r
end
def Tl(K:Φ)(E:St->XK)(t:mU):TS:=λDv τ H=>∃σ S De Z,iV K H σ τ/\Rs K S H/\t De σ S Z/\YW K H De Dv/\BV K H Z E
structure DS(K:Φ)(X:Cx)(b:χ)(st:Stmt)(t:mU):η where
 of:∀y:Ev X b,PS y.cx st<|Tl K y.E t
structure BW(K:Φ)(X:Cx)(b:χ)(st:δ Stmt)(t:mU):η where
 of:∀y:Ev X b,Dn y.cx st<|Tl K y.E t
theorem PS.mono{t t':TS}(h:PS X e t)(i:∀D τ H,t' D τ H->t D τ H):PS X e t':=λqg s τ H D I q=>h qg s τ H D I<|i D τ H q
theorem Dn.mono{t t':TS}(h:Dn X e t)(i:∀D τ H,t' D τ H->t D τ H):Dn X e t':=λqg s τ H D I q=>h qg s τ H D I<|i D τ H q
section
variable{K:Φ}{X:Cx}{b:χ}{pos:Pos}
def WE:mU:=λDe σ S _=>De.nx σ S
def aby(t u:mU):mU:=λDe σ S Z=>t {De with nx:=λa S'=>u De a S' Z} σ S Z
theorem s0:BW K X b [] WE:=⟨λy=>(Fq (X:=y.cx)).mono <| by rintro D τ H ⟨σ,S,De,Z,c,d,q,a,e⟩;show a.nx _ _ _ _ q c d<|.refl _⟩
theorem sc{st:Stmt}{r:δ Stmt}{t u:mU}(h1:DS K X b st t)(h2:BW K X b r u):BW K X b (st::r) (aby t u):=
 ⟨λy=>(Jp (h1.of y)<|h2.of y).mono <| by rintro D τ H ⟨σ,S,De,Z,l,g,q,d,e⟩;show
  ⟨σ,S,_,Z,l,g,q,⟨λi j m H1 h a b c=>⟨i,j,De,Z,a,b,h,d.kp c,e.kp c⟩,d.rt,d.bk,d.ct⟩,e⟩⟩
theorem s1{st:Stmt}{t:mU}(h:DS K X b st t):BW K X b [st] t:=⟨λy=>M0<|h.of y⟩
def WG(t:TD):mU:=λDe σ S Z=>t σ S (λz a=>De.nx σ a)<|Z σ
theorem se{t:TD}(h:DE K X e t)(hs:ψ (swapsWith e none pos.line X.env=pure false) qQJ):DS K X b (.Expr e pos) (WG t):=⟨λy=>(M4 (X:=y.cx) (h.of y) hs).mono <| by rintro D τ H ⟨σ,S,De,Z,a,g,q,j,c⟩;show{σ,S,_,_,a,g,q,λd l v H1 i z s1 k1=>j.nx _ _ _ _ i (a.ts k1) s1 k1,c.at a}⟩
def abz(t:TD):mU:=λDe σ S Z=>t σ S De.rt<|Z σ
theorem sr{t:TD}(h:DE K X e t):DS K X b (.Return (some e) pos) (abz t):=⟨λy=>(QU<|h.of y).mono <| by rintro D τ H ⟨σ,S,De,Z,a,g,q,c,d⟩;show{σ,S,_,_,a,g,q,c.rt,d.at a}⟩
def dIf(c:oF)(t u:mU):mU:=λDe σ S Z=>c σ S (λb a=>if b=ϱ then t De σ a Z else u De σ a Z)<|Z σ
theorem si{t u:mU}(hc:DT K X c tc)(ha:BW K X b a t)(l:BW K X b a' u):DS K X b (.If c a a' pos) (dIf tc t u):=
 ⟨λy=>(Vd (hc.of y) (ha.of y)<|l.of y).mono <| by rintro D τ H ⟨σ,S,De,Z,e,j,q,h,g⟩;show
  ⟨σ,S,_,_,e,j,q,λc i H1 d s1 k1=>by
   cases c with
   |true=>rw[qe rfl]at d⊢;show{σ,i,De,Z,e.ts k1,s1,d,h.kp k1,g.kp k1}
   |false=>rw[qb zd]at d⊢;show{σ,i,De,Z,e.ts k1,s1,d,h.kp k1,g.kp k1},g.at e⟩⟩
abbrev Dc:=D->SD->ax->(SD->ax->η)->η
def Tg(K:Φ)(g:Dc):TG:=λv τ H Q=>∃d σ S R,Rv K H d v/\iV K H σ τ/\Rs K S H/\g d σ S R/\PY K H R Q
structure DG(K:Φ)(X:Cx)(e:Δ)(g:Dc):η where
 of:∀Y:Cx,Y.K=X.K->Y.N=X.N->Y.env=X.env->Y.fn=X.fn->Y.calm=X.calm->PG Y e (Tg K g)
theorem PG.mono{t t':TG}(h:PG X e t)(i:∀v τ H Q,t' v τ H Q->t v τ H Q):PG X e t':=λqg s τ H v u Q I r q=>h qg s τ H v u Q I r<|i v τ H Q q
def YY(i:π):Dc:=λd σ S R=>R (σ.set i<|some d) S
theorem gn(hN:X.N.Nodup)(hi:ψ (X.N[i]?=some x) qQJ)(hx:ψ (Loc X.env.scope x) qJ3)(e:ψ (X.fn x=ϱ\/X.env.scope.names.lookup x=ϑ .local) qQ8):DG K X (.Name x pos) (YY i):=⟨λY z e2 e3 e4 z=>(sV (X:=Y) (by rw[e2];show hN) (by rw[e2];show hi) (by rw[e3];show hx)<|by rw[e3,e4];show e).mono <| by rintro v τ H Q ⟨d,σ,S,R,g,h,c,q,a⟩;show a _ S _ H q (h.set i g) c<|.refl _⟩
abbrev HH:=δ D->SD->ax->(SD->ax->η)->η
def Tgs(K:Φ)(g:HH):Pq:=λvs τ H Q=>∃ds σ S R,RvAll K H ds vs/\iV K H σ τ/\Rs K S H/\g ds σ S R/\PY K H R Q
structure YZ(K:Φ)(X:Cx)(es:δ Δ)(g:HH):η where
 of:∀Y:Cx,Y.K=X.K->Y.N=X.N->Y.env=X.env->Y.fn=X.fn->Y.calm=X.calm->Pr Y es (Tgs K g)
theorem Pr.mono{t t':Pq}(h:Pr X e t)(i:∀v τ H Q,t' v τ H Q->t v τ H Q):Pr X e t':=λqg s τ H v u Q I r q=>h qg s τ H v u Q I r<|i v τ H Q q
def PZ:HH:=λds σ S R=>ds=[]/\R σ S
def Ee(g:Dc)(u:HH):HH:=λds σ S R=>∃d r,ds=d::r/\g d σ S λa c=>u r a c R
theorem g0:YZ K X [] PZ:=⟨λY z z z z z=>(Fs (X:=Y)).mono <| by rintro vs τ H Q ⟨ds,σ,S,R,d,g,c,⟨e,q⟩,a⟩;show by subst e;show{d.nil,a _ _ _ _ q g c<|.refl _}⟩
theorem gc(h1:DG K X e g)(h2:YZ K X es u)(hs:ψ (∀env:Env,(assignEach (e::es) env).map (·.2)=assign e env::(assignEach es env).map (·.2)) qQ0):YZ K X (e::es) (Ee g u):=⟨λY a b c d f=>(tM (h1.of Y a b c d f) (h2.of Y a b c d f)<|hs _).mono <| by rintro vs τ H Q ⟨ds,σ,S,R,o,p,i,⟨d,r,e,q⟩,h⟩;subst e;let⟨y,ys,e1,j,l⟩:=o.cons;show{y,ys,e1,d,σ,S,_,j,p,i,q,λm n t H1 s a b c=>{r,m,n,R,RvAll.ts c _ l,a,b,s,h.kp c}}⟩
def P0(n:π)(g:HH):Dc:=λd σ S R=>∃ds,d=.tup ds/\ds.length=n/\g ds σ S R
theorem gt(h:YZ K X es g)(hn:ψ (∀env:Env,(assignEach es env).length=n) qQ0)(m:ψ (∀env:Env,(assignEach es env).findIdx? (·.1)=ϐ) qQ0)(s:ψ (X.K=K) qQJ)(hc:ψ (X.calm=ϱ) qQJ):DG K X (.Tuple es j pos) (P0 n g):=⟨λY a b c d f=>(Jq (X:=Y) (by rw[f];show hc) (h.of Y a b c d f) (hn _)<|m _).mono <| by rintro v τ H Q ⟨d,σ,S,R,o,r,l,⟨ds,e,hl,q⟩,i⟩;subst e;let⟨p,xs,e1,e2,t⟩:=o.tup;show{p,xs,e1,.of e2,by rw[t.len];show hl,ds,σ,S,R,t,r,l,q,i}⟩
def WH(i:π)(t:TD):mU:=λDe σ S Z=>t σ S (λd a=>De.nx (σ.set i<|some d) a)<|Z σ
theorem dy{t:TD}(hN:X.N.Nodup)(h:DE K X e t)(hi:ψ (X.N[i]?=some x) qQJ)(hx:ψ (Loc X.env.scope x) qJ3)(hs:ψ (swapsWith e (some<|.Name x pos') pos.line X.env=pure false) qQJ) (n:ψ (X.fn x=ϱ\/X.env.scope.names.lookup x=ϑ .local) qQ8):DS K X b (.Assign [.Name x pos'] e pos) (WH i t):=⟨λy=>(QY (X:=y.cx) (i:=i) hN hi hx (h.of y) hs n).mono <| by rintro D τ H ⟨σ,S,De,Z,a,j,q,m,g⟩;show{σ,S,_,_,a,j,q,λd o v H1 l c s1 k1=>m.nx _ _ _ _ l ((a.ts k1).set i c) s1 k1,g.at a}⟩
def abA(t:TD)(g:Dc):mU:=λDe σ S Z=>t σ S (λd a=>g d σ a De.nx)<|Z σ
theorem sa{t:TD}(h:DE K X e t)(hg:DG K X tg g)(hs:ψ (swapsWithSole [tg] e pos.line X.env=pure false) qQJ)(hw:ψ (swappedStores [tg] e X.env=pure none) qQJ)(h1:ψ ((assignEach [tg] X.env).map (·.2)=[assign tg X.env]) qQJ): DS K X b (.Assign [tg] e pos) (abA t g):=⟨λy=>(Jr (X:=y.cx) (h.of y) (hg.of _ rfl rfl rfl rfl rfl) hs hw h1).mono <| by rintro D τ H ⟨σ,S,De,Z,a,j,q,m,i⟩;show{σ,S,_,_,a,j,q,λd n v H1 l c s1 k1=>{d,σ,n,_,c,a.ts k1,s1,l,m.nx.kp k1},i.at a}⟩
def abB(td ty tv:TD):mU:=λDe σ S Z=>tv σ S (λv d=>td σ d (λx e=>ty σ e (λy c=>∃a kvs k,x=.ref a/\c a=ϑ (.eV kvs)/\Ed y=ϑ k/\kvs.length<Ϙ/\De.nx σ (c.set a<|.eV<|dput kvs k v))<|Z σ)<|Z σ)<|Z σ
theorem sd{o i value:Δ}{td ty tv:TD}{pos':Pos}(hu:X.A.units+64<cLine)(ho:DE K X o td)(hi:DE K X i ty)(C:DE K X value tv)(hs:ψ (swapsWith value (some<|.Subscript o i pos') pos.line X.env=pure false) qQJ):DS K X b (.Assign [.Subscript o i pos'] value pos) (abB td ty tv):=
 ⟨λy=>(Nr (X:=y.cx) (by change X.A.units+1<cLine;lia) (ho.of y) (hi.of y) (C.of y) hs).mono <| by rintro D τ H ⟨σ,S,De,Z,d,m,q,p,e⟩;show
  ⟨σ,S,_,_,d,m,q,λv B l H1 z h s1 k1=>⟨σ,B,_,_,d.ts k1,s1,z,λx w G H2 n s s2 k2=>⟨σ,w,_,_,d.ts<|k1.trans k2,s2,n,by
   rintro y I F E ⟨a,kvs,k,e1,e2,e3,hl,r⟩ j g k3
   subst e1
   let⟨vs,e4,t⟩:=g.eV e2
   have kk:=g.j5 (o:=.dK<|putK vs k l) e2
   show{a,_,(Rv.ts k3 _ s).ref,by rw[qC e3 j];show JK.k e4<|by rw[t.len];show hl,?_}
   show p.nx _ _ _ _ r (d.ts<|((k1.trans k2).trans k3).trans kk) (g.put (c:=.eV _) e2 {_,aR,(t.put k<|Rv.ts (k2.trans k3) _ h).ts kk})<|((k1.trans k2).trans k3).trans kk,e.on (k1.trans k2)<|d.ts<|k1.trans k2⟩,e.on k1<|d.ts k1⟩,e.at d⟩⟩
end
section
variable{X:Cx}{qg:δ (ε×Obj)}{σ:St}{H:Hp}{s:ζ}{A:ϕ}{E:ξ->ζ->η}{a:ε}{kvs:δ (Key×V)}{k:Key}{u:ξ}
def Sf(I:Inv X qg σ H s)(e:H a=ϑ (.dK kvs))(n:RelV (kV k) u)(j:RelV z r)(hl:kvs.length<Ϙ) (h1:∀v d s',iX kvs k=ϑ v->Inv X qg σ H s'->RelV v d->Q d s') (h2:iX kvs k=ϐ->∀s',Inv X qg σ (upd H a<|.dK<|putK kvs k z) s'->Q r s'): wpAny `m A (call (.builtin "dict.setdefault") [.ref a,u,r]) Q E s:=by
 let⟨p,hd,vs,rel,i⟩:=FE I.aT e;have x:=rQ kvs k z;show call_meetsIn PySem.F.slot_dict_setdefault i.typeIs PySem.F.entry_dict_setdefault (PySem.F.args_dict_setdefault_3 _ _ _) (PySem.kt_meets_setdefault (aS X.prog X.w) a (nq n) hd r) {vs,i,by rw[<-rel.length];show p,λd hw=>?_,λhn h' h hs=>?_};cases q:iX kvs k with|none=>(have:=iW.none_of (o:=valueAt vs k) (by rw[<-q];show rel.val k);rw[this]at hw;cases hw)|some v=>let⟨l,g,c⟩:=iW.some_of (v:=v) (o:=valueAt vs k) (by rw[<-q];show rel.val k);rw[g]at hw;cases hw;show h1 v _ _ q (I.tok _) c
 cases q:iX kvs k with|some v=>(let⟨l,g,c⟩:=iW.some_of (v:=v) (o:=valueAt vs k) (by rw[<-q];show rel.val k);rw[g]at hn;cases hn)|none=>have t:∃q,h'.get? a=ϑ q:=(by let⟨q,_,_,m,_⟩:=h;show⟨q,m⟩);show h2 q _<|xW I (by rw[e];show True.intro) hs t<|DM `b hd (rel.put k j) h
end
section
variable{X:Cx}{o e f:Δ}{apos bp:Pos}{td ty tx:TE}
def WI(td ty tx:TE):TE:=λσ H Q=>td σ H λx H1=>∃a,x=.ref a/\Uq H1 a/\ty σ H1 λy H2=>tx σ H2 λz c=>∃kvs k,c a=ϑ (.dK kvs)/\y=kV k/\kvs.length<Ϙ/\(∀v,iX kvs k=ϑ v->Q v c)/\(iX kvs k=ϐ->Q z (upd c a<|.dK<|putK kvs k z))
def Ko(ho:PE X o td)(t:PE X e ty)(p:PE X f tx)(m:M2 X o "setdefault" apos e f bp):PE X (.Call (.Attribute o "setdefault" apos) [e,f] [] bp) (WI td ty tx):=by intro qg s σ H Q I h;show wpAny_Call_method m.base m.IX m.line PySem.F.plainAttrs_dict PySem.F.slot_dict_setdefault PySem.F.type_dict_setdefault<|bZ (ho qg s σ H _ I h) λu s1 ⟨x,H1,i,G,a,ex,d,L⟩=>?_;subst ex;obtain rfl:u=Value.ref a:=G;let⟨A,q,_⟩:=xX i d;show{A,q,?_};rw[m.trees];show Calls.callWith_builtin rfl<|Calls.evalArgs_plain<|yu<|bZ (t qg s1 σ H1 _ i L) λR s2 ⟨y,H2,n,C,K⟩=>yu<|bZ (p qg s2 σ H2 _ n K) λP O ⟨z,j,J,g,kvs,k,B,E,hl,N,M⟩=>Calls.spliced_nil ?_;subst E;show Sf J B C g hl (λv S w l c r=>{v,j,c,r,N v l}) λl w c=>{z,_,c,g,M l}
end
section
variable{K:Φ}{X:Cx}{b:χ}{o e f:Δ}{apos bp pos:Pos}{td ty tx:TD}
def y4(c:Rs K S H)(e:S a=ϑ (.eV kvs)):Uq H a:=by let⟨vs,e1,_⟩:=c.eV e;show .inl {vs,.inl e1}
def WJ(td ty:TD):TD:=λσ S R Z=>td σ S (λx c=>∃a kvs,x=.ref a/\c a=ϑ (.eV kvs)/\ty σ c (λy d=>∃kvs k,d a=ϑ (.eV kvs)/\Ed y=ϑ k/\R ((df kvs k).getD .ao) d) Z) Z
def Kr(h:Rs K S H)(e:S a=ϑ (.eV kvs))(r:Rv K H d v):∃o,sA H a (kV k) o/\Rv K H ((df kvs k).getD d) (o.getD v):=by let⟨o,g,h1,h2⟩:=y0 (k:=k) h e;show{o,g,?_};cases q:df kvs k with|none=>(rw[q]at h1;cases o with|none=>show r|some _=>cases h1)|some c=>let⟨j,rfl,i⟩:=h2 c q;show i
theorem mg1(hu:X.A.units+64<cLine)(ho:DE K X o td)(l:DE K X e ty)(m:ψ (M1 X o "get" apos e bp) qQ4):DE K X (.Call (.Attribute o "get" apos) [e] [] bp) (WJ td ty):=
 ⟨λy=>(JO (X:=y.cx) (by change X.A.units+1<cLine;lia) (ho.of y) (l.of y) ⟨m.base,m.IX,m.line,m.trees⟩).mono <| by rintro τ H Q ⟨σ,S,R,Z,d,i,q,n,c⟩;show
  ⟨σ,S,_,Z,d,i,q,by
   rintro x t w H1 ⟨a,kvs,e1,e2,s⟩ h s1 k1
   subst e1
   show⟨a,h.ref,y4 s1 e2,σ,t,_,Z,d.ts k1,s1,s,by
    rintro y z v H2 ⟨kvs,k,e3,e4,j⟩ p s2 k2
    let⟨o,g,r⟩:=Kr (k:=k) s2 e3 jZ
    show{o,by rw[qC e4 p];show g,(n.kp<|k1.trans k2).now s2 j r},c.kp k1⟩,c⟩⟩
def WK(td ty tx:TD):TD:=λσ S R Z=>td σ S (λx c=>∃a kvs,x=.ref a/\c a=ϑ (.eV kvs)/\ty σ c (λy e=>tx σ e (λz d=>∃kvs k,d a=ϑ (.eV kvs)/\Ed y=ϑ k/\R ((df kvs k).getD z) d) Z) Z) Z
theorem mg2(hu:X.A.units+64<cLine)(ho:DE K X o td)(t:DE K X e ty)(p:DE K X f tx)(m:ψ (M2 X o "get" apos e f bp) qQ4):DE K X (.Call (.Attribute o "get" apos) [e,f] [] bp) (WK td ty tx):=
 ⟨λy=>(JP (X:=y.cx) (by change X.A.units+1<cLine;lia) (ho.of y) (t.of y) (p.of y) ⟨m.base,m.IX,m.line,m.trees⟩).mono <| by rintro τ H Q ⟨σ,S,R,Z,d,l,q,v,c⟩;show
  ⟨σ,S,_,Z,d,l,q,by
   rintro x E J H1 ⟨a,kvs,e1,e2,C⟩ i s1 k1
   subst e1
   show⟨a,i.ref,y4 s1 e2,σ,E,_,Z,d.ts k1,s1,C,λy B I H2 n w s2 k2=>⟨σ,B,_,Z,d.ts<|k1.trans k2,s2,n,by
    rintro z L G F ⟨kvs,k,e3,e4,s⟩ j h k3
    let⟨o,g,r⟩:=Kr (k:=k) h e3 j
    show{o,by rw[qC e4 w];show g,(v.kp<|(k1.trans k2).trans k3).now h s r},c.kp<|k1.trans k2⟩,c.kp k1⟩,c⟩⟩
def WL(td ty:TD):TD:=λσ S R Z=>td σ S (λx c=>∃a kvs,x=.ref a/\c a=ϑ (.eV kvs)/\ty σ c (λy e=>∃kvs k d,e a=ϑ (.eV kvs)/\Ed y=ϑ k/\df kvs k=ϑ d/\R d (e.set a<|.eV<|BQ kvs k)) Z) Z
theorem mp1(ho:DE K X o td)(n:DE K X e ty)(m:ψ (M1 X o "pop" apos e bp) qQ4):DE K X (.Call (.Attribute o "pop" apos) [e] [] bp) (WL td ty):=
 ⟨λy=>(JQ (X:=y.cx) (ho.of y) (n.of y) ⟨m.base,m.IX,m.line,m.trees⟩).mono <| by rintro τ H Q ⟨σ,S,R,Z,h,j,q,p,g⟩;show
  ⟨σ,S,_,Z,h,j,q,by
   rintro x B F H1 ⟨a,kvs,e1,e2,w⟩ i s1 k1
   subst e1
   show⟨a,i.ref,y4 s1 e2,σ,B,_,Z,h.ts k1,s1,w,by
    rintro y G E H2 ⟨kvs,k,d,e3,e4,s,l⟩ r s2 k2
    let⟨vs,A,t⟩:=s2.eV e3
    let⟨v,z,C⟩:=(t.val k).1 d s
    have kk:=s2.j5 (o:=.dK<|rP vs k) e3
    show{vs,k,v,A,qC e4 r,z,p _ _ _ _ l (Rv.ts kk _ C) (s2.put (c:=.eV _) e3 {_,aR,(t.drop k).ts kk})<|(k1.trans k2).trans kk},g.kp k1⟩,g⟩⟩
def WM(td ty tx:TD):TD:=λσ S R Z=>td σ S (λx e=>∃a kvs,x=.ref a/\e a=ϑ (.eV kvs)/\ty σ e (λy g=>tx σ g (λz c=>∃kvs k,c a=ϑ (.eV kvs)/\Ed y=ϑ k/\kvs.length<Ϙ/\(∀d,df kvs k=ϑ d->R d c)/\(df kvs k=ϐ->R z (c.set a<|.eV<|dput kvs k z))) Z) Z) Z
theorem ms2(ho:DE K X o td)(G:DE K X e ty)(E:DE K X f tx)(m:ψ (M2 X o "setdefault" apos e f bp) qQ4):DE K X (.Call (.Attribute o "setdefault" apos) [e,f] [] bp) (WM td ty tx):=
 ⟨λy=>(Ko (X:=y.cx) (ho.of y) (G.of y) (E.of y) ⟨m.base,m.IX,m.line,m.trees⟩).mono <| by rintro τ H Q ⟨σ,S,R,Z,n,w,q,I,j⟩;show
  ⟨σ,S,_,Z,n,w,q,by
   rintro x O xv H1 ⟨a,kvs,e1,e2,M⟩ s s1 k1
   subst e1
   show⟨a,s.ref,y4 s1 e2,σ,O,_,Z,n.ts k1,s1,M,λy L Y H2 B J s2 k2=>⟨σ,L,_,Z,n.ts<|k1.trans k2,s2,B,by
    rintro z S3 A U ⟨kvs,k,e3,e4,hl,F,C⟩ p h k3
    let⟨vs,N,t⟩:=h.eV e3
    have kk:=h.j5 (o:=.dK<|putK vs k A) e3
    have g:=I.kp<|(k1.trans k2).trans k3
    show{vs,k,N,qC e4<|Rv.ts k3 _ J,by rw[t.len];show hl,λv i=>?_,λhn=>?_}
    ·cases q:df kvs k with
     |none=>rw[(t.val k).2 q]at i;cases i
     |some d =>
      let⟨P,l,r⟩:=(t.val k).1 d q
      rw[l]at i;cases i
      show g.now h (F d q) r
    ·cases q:df kvs k with
     |some d=>let⟨P,l,r⟩:=(t.val k).1 d q;rw[l]at hn;cases hn
     |none=>show g _ _ _ _ (C q) (Rv.ts kk _ p) (h.put (c:=.eV _) e3 {_,aR,(t.put k p).ts kk}) kk,j.kp<|k1.trans k2⟩,j.kp k1⟩,j⟩⟩
noncomputable def Ef(f:ρ)(d:D):δ (ρ×D)->δ (ρ×D)|[]=>[(f,d)]| (g,x)::r=>if g=f then (g,d)::r else (g,x)::Ef f d r
theorem c_.Ef{H:Hp}{f:ρ}{d:D}{v:V}(a:Rv K H d v):∀{ks:δ (ρ×D)}{vs:δ (ρ×V)},c_ K H ks vs->c_ K H (Ef f d ks) (putF f v vs)|_,_,.nil=>.cons ⟨rfl,a⟩ .nil| (g,x)::r,(g',y)::r',.cons h t=>by let⟨e,h⟩:=h;dsimp only at e;subst e;change c_ K H (if g=f then (g,d)::r else (g,x)::L2.Ef f d r) (if g=f then (g,v)::r' else (g,y)::putF f v r');by_cases q:g=f;rw[qe q,qe q];show .cons ⟨rfl,a⟩ t;rw[qb q,qb q];show .cons ⟨rfl,h⟩<|c_.Ef a t
def WN(C:ε)(f:ρ)(ta tv:TD):mU:=λDe σ S Z=>tv σ S (λy d=>ta σ d (λx c=>∃a fs,x=.ref a/\c a=ϑ (.ins C fs)/\fs.length<1000/\De.nx σ (c.set a<|.ins C<|Ef f y fs))<|Z σ)<|Z σ
def sf{C:ε}{f:ρ}{value:Δ}{ta tv:TD}{pos':Pos}(c:sX K C)(n:lA K C f)(ha:DE K X o ta)(v:DE K X value tv)(hs:ψ (swapsWith value (some<|.Attribute o f pos') pos.line X.env=pure false) qQJ)(s:ψ (X.K=K) qQJ): DS K X b (.Assign [.Attribute o f pos'] value pos) (WN C f ta tv):=by
 subst s
 show⟨λy=>(Ri (X:=y.cx) (ha.of y) (v.of y) hs).mono <| by rintro D τ H ⟨σ,S,De,Z,d,i,q,l,e⟩;show
  ⟨σ,S,_,_,d,i,q,λy t m H1 r h s1 k1=>⟨σ,t,_,_,d.ts k1,s1,r,by
   rintro x z w H2 ⟨a,fs,e1,e2,hl,j⟩ p s2 k2
   subst e1
   let⟨dx,vs,e4,g⟩:=s2.ins e2
   have kk:=s2.j5 (o:=.ins C dx<|putF f m vs) e2
   show{a,C,dx,vs,p.ref,e4,c,n,by rw[g.len];show hl,l.nx _ _ _ _ j (d.ts<|(k1.trans k2).trans kk) (s2.put (c:=.ins C _) e2 {dx,_,aR,(c_.Ef (Rv.ts k2 _ h) g).ts kk})<|(k1.trans k2).trans kk},e.on k1<|d.ts k1⟩,e.at d⟩⟩
def Sh(C:ε)(t:k_):mU:=λ_ σ S Z=>t σ S (λds a=>ds.length<=Ϙ/\Z σ C a)<|Z σ
end
section
variable{K:Φ}{X:Cx}{C:ε}{x:ρ}{e:Δ}{es:δ Δ}{np bp pos:Pos}
def HI{t:TA}{y:Ev X true}(hc:X.calm=ϱ)(c:XC X.K C)(hg:Gl X x)(hm:X.mg x=ϑ (.ref C))(ha:PA y.cx (e::es) t)(A:(x==("__debug__": ρ))=ϰ) (l:starEach (e::es) X.env=`j::starEach es X.env) (w:(backTo bp<|starEach es X.env).any (·.1)=ϰ): PS y.cx (.Raise (some<|.Call (.Name x np) (e::es) [] bp) none pos) (λ_ σ H=>t σ H λvs H1=>vs.length<=Ϙ/\y.E σ (.ref C) none H1):=by intro qg s σ H D I h;let⟨bm,N,n,q,bs,d,j,sub,m,col,p,k0,k1,k2,k3,k5,o,G,hN,B,T⟩:=c.at I.mod.Br;have v:bm.contains (.type "BaseException")=ϱ:=T.hasType `a;show wpAny_Raise_call_subT (C:=C) (nm:=n) (q:=q) (N:=N) (bs:=bs) (bm:=bm) (hdct:=d) (sn:=j) (sub:=sub) (ab:=m) (col:=col) (dd:=p) (k0:=k0) (k1:=k1) (k2:=k2) (k3:=k3) (k5:=k5) PySem.F.excBase_ValueError (mN:=o) v (I.ok.hd hc) (by change((backTo bp<|starEach (e::es) X.env).any (·.1))=ϰ;rw[l];change(false||(backTo bp<|starEach es X.env).any (·.1))=ϰ;rw[w];rfl) B<|mB I hg hm {rfl,?_} A;have h1:=ha bp qg s σ H _ I h;have i:starEach (e::es) y.cx.env=`j::starEach es X.env:=l;rw[i]at h1⊢;show Calls.evalArgs_plain<|bZ h1 <| by rintro us s2 ⟨vs,H2,g,r,z,J⟩;show{rfl,by change us.length<=Ϙ;rw[<-r.length];show z,g.bk _ _ G,hN.keeps g.bk,T.keeps g.bk,λh' a hx=>y.ok.own rfl qg σ H2 s2 h' a _ _ g hx J}
def oH{t:k_}(c:XC K C)(hm:X.mg x=ϑ (.ref C))(ha:DA K X (e::es) t)(hg:ψ (Gl X x) qQJ)(n:ψ ((x==("__debug__": ρ))=ϰ) qQZ) (o:ψ (starEach (e::es) X.env=`j::starEach es X.env) qQJ) (i:ψ ((backTo bp<|starEach es X.env).any (·.1)=ϰ) qQJ) (hc:ψ (X.calm=ϱ) qQJ) (l:ψ (X.K=K) qQJ): DS K X true (.Raise (some<|.Call (.Name x np) (e::es) [] bp) none pos) (Sh C t):=by subst l;show⟨λy=>(HI (y:=y) hc c hg hm (ha.of y) n o i).mono λD τ H ⟨σ,S,De,Z,a,h,q,p,d⟩=>{σ,S,_,_,a,h,q,λds m vs H1 ⟨hl,j⟩ g s1 k1=>{by rw[g.len];show hl,d.at a C m H1 j s1 k1},d.at a}⟩
end
structure HJ where
 xs:δ D
 ok:ax->η
def WO(K:Φ)(a:Hp)(J:It)(I:HJ):Prop:=∀i S H,Kp K a H->Rs K S H->I.ok S->(∀d,I.xs[i]?=some d->J.go i H/\∀x H',J.Vf i H x H'->Rv K H' d x/\Kp K H H'/\Rs K S H')/\(I.xs.length<=i->J.stop i H)
abbrev Dd:=SD->ax->(HJ->ax->η)->KX->η
def Ti(K:Φ)(E:St->XK)(t:Dd):TI:=λτ H R=>∃σ S RI Z,iV K H σ τ/\Rs K S H/\t σ S RI Z/\(∀I S' J H',RI I S'->WO K H' J I->Rs K S' H'->Kp K H H'->R J H')/\FL K H Z (E τ)
structure DI(K:Φ)(X:Cx)(tg it:Δ)(t:Dd):η where
 of:∀{b:χ}(y:Ev X b),PI y.cx tg it<|Ti K y.E t
theorem PI.mono{t t':TI}(h:PI X tg it t)(i:∀τ H R,t' τ H R->t τ H R):PI X tg it t':=λqg s τ H R I q=>h qg s τ H R I<|i τ H R q
section
variable{K:Φ}{X:Cx}{tg l:Δ}
def abD(t:TD):Dd:=λσ S R Z=>t σ S (λx a=>∃ds,yY a x ds/\R {ds,λS=>yY S x ds} a) Z
def il{t:TD}(h:DE K X l t)(z:ψ (X.K=K) qQJ):DI K X tg l (abD t):=by subst z;show⟨λy=>(M7 (X:=y.cx)<|h.of y).mono <| by rintro τ H R ⟨σ,S,RI,Z,B,n,q,p,m⟩;show{σ,S,_,Z,B,n,q,by rintro x A v H1 ⟨ds,h1,w⟩ g s1 k1;let⟨a,xs,rfl,o,t⟩:=h1.at s1 g;show{a,rfl,⟨xs,o⟩,p _ A _ H1 w (λi E H2 k2 s2 s=>?_) s1 k1};let⟨C,e,e',c,j⟩:=yY.at s s2<|Rv.ts k2 _ g;cases e';show{λd hd=>?_,λhl=>{e,c,by rw[j.len];show hl}};let⟨v,e1,r⟩:=j.get hd;show{⟨e,v,c,e1⟩,λF H' ⟨e2,e3⟩=>?_};subst e2;have:=e3 e c;rw[e1]at this;cases this;show{r,.refl _,s2},m}⟩
def WQ(t:TD):Dd:=λσ S R Z=>t σ S (λx a=>∃ds,(x=.tup ds\/x=.kt ds)/\R {ds,λz=>True} a) Z
def Sj{H:Hp}{x:D}{ds:δ D}{v:V}(h:x=.tup ds\/x=.kt ds)(r:Rv K H x v):∃a xs,v=.ref a/\(∀H',Kp K H H'->k9 K H' a xs)/\RvAll K H ds xs:=by rcases h with rfl|rfl;let⟨a,xs,rfl,q,t⟩:=r.tup;show{a,xs,rfl,λH' k=>.of<|k.t _ _ q,t};let⟨a,xs,rfl,q,t⟩:=r.kt;show{a,xs,rfl,λH' k=>.inr q,t}
def Ks{t:TD}(h:DE K X l t)(p:ψ (X.K=K) qQJ):DI K X tg l (WQ t):=by subst p;show⟨λy=>(Q2 (X:=y.cx)<|h.of y).mono <| by rintro τ H R ⟨σ,S,RI,Z,w,m,q,n,j⟩;show{σ,S,_,Z,w,m,q,by rintro x s v H1 ⟨ds,h1,o⟩ g s1 k1;let⟨a,xs,rfl,e,t⟩:=Sj h1 g;show{a,rfl,{xs,e _<|.refl _},n _ s _ H1 o (λi z H2 k2 s2 u=>?_) s1 k1};have c:=e H2 k2;show{λd hd=>?_,λhl=>{xs,c,by rw[t.len];show hl}};let⟨v,e1,r⟩:=(RvAll.ts k2 _ t).get hd;show{⟨xs,v,c,e1⟩,λA H' ⟨e2,e3⟩=>?_};subst e2;have:=e3 xs c;rw[e1]at this;cases this;show{r,.refl _,s2},j}⟩
noncomputable def oX(lo:ν)(n:π):δ D:=(List.range n).map λi=>D.int<|lo+(i:π)
def dS{lo:ν}{n:π} : (oX lo n).length=n:=by unfold oX;rw[zc,List.length_range]
def oY{lo:ν}{n i:π}{d:D}(h:(oX lo n)[i]?=some d):i<n/\d=.int (lo+i):=by unfold oX at h;rw[zA]at h;by_cases q:i<n;rw[List.getElem?_range q]at h;show{q,(zU h).symm};rw[List.getElem?_eq_none<|by rw[List.length_range];omega]at h;cases h
theorem Sk{a:Hp}{lo:ν}{n:π} : WO K a (YF lo n) {oX lo n,λz=>True}:=λi S H k s z=>{λd hd=>by let⟨h1,rfl⟩:=oY hd;show{h1,by rintro x H' ⟨e1,e2⟩;show by subst e1 e2;show{bc _,.refl _,s}},λhl=>by rw[dS]at hl;show hl}
def abE(t:k_):Dd:=λσ S R Z=>t σ S (λds a=>∃j:ν,ds=[.int j]/\-(2^62)<=j/\j<2^62/\R {oX 0 j.toNat,λz=>True} a) Z
theorem P1{t:k_}(hm:X.mg "range"= none)(ha:DA K X [a] t)(hg:ψ (Gl X "range") qQJ)(hs:ψ (starEach [a] X.env=[(false,eval a X.env)]) qQJ):DI K X tg (.Call (.Name "range" p) [a] [] pos) (abE t):=⟨λy=>(Ha (X:=y.cx) hg hm (ha.of y) hs).mono <| by rintro τ H R ⟨σ,S,RI,Z,m,h,q,g,d⟩;show{σ,S,_,Z,m,h,q,by rintro ds l vs H1 ⟨j,e,h1,h2,i⟩ c s1 k1;subst e;let⟨v,rfl,r⟩:=c.one;show{j,by rw[r.int],h1,h2,g _ l _ H1 i Sk s1 k1},d}⟩
end
section
variable{K:Φ}{X:Cx}{tg iter:Δ}{pos:Pos}
def abF(ti:Dd)(g:Dc)(tb:mU):mU:=λDe σ S Z=>ti σ S (λI a=>∃P:π->SD->ax->η,P 0 σ a/\(∀i σ S,P i σ S->I.ok S)/\(∀i d σ S,I.xs[i]?=some d->P i σ S->g d σ S λc e=>tb {De with nx:=P<|i+1,ct:=P<|i+1,bk:=De.nx} c e Z)/\∀σ S,P I.xs.length σ S->De.nx σ S)<|Z σ
theorem P2(hi:DI K X tg iter ti)(hg:DG K X tg g)(M:BW K X true body tb)(hs:ψ (∀x,foldedSetIterable iter X.env x=pure x) qQ0)(hc:ψ (X.calm=ϱ) qQJ):DS K X true (.For tg iter body [] pos) (abF ti g tb):=
 ⟨λy=>(Q3 (X:=y.cx) (y.ok.loop rfl) hc (hi.of y) (hg.of _ rfl rfl rfl rfl rfl) (M.of y) hs).mono <| by rintro D τ H ⟨σ,S,De,Z,t,B,q,j,v⟩;show
  ⟨σ,S,_,_,t,B,q,by
   rintro I S1 J H1 ⟨P,A,s,p,a⟩ N s1 k1
   show{λi m τ H=>m=I.xs.length-i/\i<=I.xs.length/\∃σ S,iV K H σ τ/\Rs K S H/\P i σ S/\Kp K H1 H,!{yf _,σ,S1,t.ts k1,s1,A,.refl _},?_}
   rintro i m τ2 H2 ⟨rfl,E,w,r,z,s2,p2,k2⟩
   have ok:=N i r H2 k2 s2<|s _ _ _ p2
   by_cases c:i<I.xs.length
   ·let⟨go,R⟩:=ok.1 _ (zg c)
    show .inr {go,λF H'=>i+1<=I.xs.length/\∃σ S,iV K H' σ F/\Rs K S H'/\P (i+1) σ S/\Kp K H1 H',λaX H' h'=>{_,by omega,rfl,h'},λx H' hy=>?_}
    let⟨rx,k3,O⟩:=R x H' hy
    show{_,w,r,_,rx,z.ts k3,O,p i _ w r (zg c) p2,λL Q τ4 H4 U Y G k4=>?_}
    have kk:=(k2.trans k3).trans k4
    show{L,Q,_,Z,Y,G,U,{λd n τ5 C h l o k5=>{c,d,n,l,o,h,kk.trans k5},j.rt.kp<|k1.trans kk,(j.nx.kp<|k1.trans kk),λd n τ5 C h l o k5=>{c,d,n,l,o,h,kk.trans k5}},v.kp<|k1.trans kk}
   ·have e:i=I.xs.length:=by omega
    subst e
    show .inl {ok.2<|zp _,j.nx _ _ _ _ (a _ _ p2) z s2<|k1.trans k2},v.at t⟩⟩
end
noncomputable def nv(σ:SD)(src:δ<|θ π):SD:=src.map λo=>match o with|some j=>(σ[j]?).join|none=>none
theorem iV.pick{K:Φ}{H:Hp}{σ:SD}{τ:St}(h:iV K H σ τ):∀src:δ (θ π),iV K H (nv σ src) (pick τ src)|[]=>.nil|o::r=>.cons (λd e=>by cases o with|none=>(cases e)|some j=>dsimp only at e⊢;cases q:σ[j]? with|none=>(rw[q]at e;cases e)|some o'=>rw[q]at e;obtain rfl:o'=ϑ d:=e;let⟨v,e1,a⟩:=h.get q;show{v,by rw[e1];rfl,a})<|iV.pick h r
def Zf:KX:=λz z=>False
def FR(σ:SD)(src:δ<|θ π)(g:Dc)(tc:oF)(te:TD)(R:KD)(I:HJ)(h:ax):Prop:=∃P:π->δ D->ax->η,P 0 [] h/\(∀i out S,P i out S->I.ok S)/\(∀i d out S,I.xs[i]?=some d->P i out S->out.length<Ϙ/\g d (nv σ src) S λa e=>tc a e (λb c=>if b=ϱ then te a c (λv j=>P (i+1) (out++[v]) j) Zf else P (i+1) out c) Zf)/\∀out S2,P I.xs.length out S2->∀p,S2 p=ϐ->R (.ref p) (S2.set p<|.lst out)
def FT(ti:Dd)(src:δ<|θ π)(g:Dc)(tc:oF)(te:TD):TD:=λσ S R Z=>ti σ S (λI a=>FR σ src g tc te R I a) Z
theorem FL.f{K:Φ}{H:Hp}{e:XK} : FL K H Zf e:=λx x x z=>z.elim
def T.comp{K:Φ}{E E':St->XK}{ti:Dd}{src:δ<|θ π}{g:TG}{gd:Dc}{tc:oF}{te:TD}{τ:St}{H:Hp}{Q:VK}(hg:∀v τ H Q,Tg K gd v τ H Q->g v τ H Q) (h:T K E (FT ti src gd tc te) τ H Q):JU (Ti K E ti) src g (Tt K E' tc) (T K E' te) τ H Q:=by
 let⟨σ,S,R,Z,A,L,q,O,C⟩:=h;show{σ,S,_,Z,A,L,q,λI S1 J H1 ⟨P,F,r,o,a⟩ Y s1 k1=>?_,C};show{λi m out H=>m=I.xs.length-i/\i<=I.xs.length/\∃ds S,RvAll K H ds out/\Rs K S H/\P i ds S/\Kp K H1 H,!{yf _,[],S1,cn,s1,F,.refl _},?_};rintro i m out H2 ⟨rfl,M,ds,s,n,s2,p2,k2⟩;have ok:=Y i s H2 k2 s2<|r _ _ _ p2;by_cases l:i<I.xs.length;let⟨go,yl⟩:=ok.1 _<|zg l;let⟨hz,st⟩:=o i _ ds s (zg l) p2;show .inr {go,by rw[n.len];show hz,λx H' hy=>?_};let⟨rx,k3,s3⟩:=yl x H' hy;show hg _ _ _ _ {_,_,s,_,rx,(((A.ts k1).ts k2).ts k3).pick src,s3,st,λt S4 τ4 H4 r4 z N k4=>?_};show{t,S4,_,Zf,z,N,r4,λc w H5 j y k5=>?_,.f};cases c with|true=>rw[qe rfl]at j⊢;show{t,w,_,Zf,z.ts k5,y,j,λd U v H6 G X B k6=>{_,by omega,rfl,l,ds++[d],U,(RvAll.ts (((k3.trans k4).trans k5).trans k6) _ n).app<|bE X cn,B,G,(((k2.trans k3).trans k4).trans k5).trans k6},.f}|false=>rw[qb zd]at j⊢;show{_,by omega,rfl,l,ds,w,RvAll.ts ((k3.trans k4).trans k5) _ n,y,j,((k2.trans k3).trans k4).trans k5}
 have e:i=I.xs.length:=by omega
 subst e;show .inl {ok.2<|zp _,λp hp=>(O.kp<|k1.trans k2).new s2 hp (a _ _ p2 p) n}
noncomputable def Ev.none(X:Cx)(h:X.xe=λx x=>False):Ev X false:={X.pn,X.xe,λx=>E0,{by rintro p2 τ H s e s' _ ⟨_,_,_,_,_,_,_,_,_,z⟩;show z.elim,λe=>(by cases e),λe=>(by cases e)}}
section
variable{K:Φ}{X:Cx}{b:χ}{N:δ ρ}{src:δ (θ π)}{scope:Scope}{tg iter elt:Δ}{ifs:δ Δ}{pos:Pos}{ti:Dd}{g:TG}{gd:Dc}{tc:oF}{te:TD}
structure Y7(K:Φ)(X:Cx)(ifs:δ Δ)(t:oF):η where
 of:∀{b:χ}(y:Ev X b),Ur y.cx ifs<|Tt K y.E t
def xg:oF:=λz S R z=>R true S
theorem tm:Y7 K X [] xg:=⟨λy qg s τ H Q I ⟨σ,S,R,Z,e,c,q,a,d⟩=>Nv qg s τ H Q I<|a true S H q c<|.refl _⟩
theorem if1{t:oF}(h:DT K X c t):Y7 K X [c] t:=⟨λy=>Nw<|h.of y⟩
theorem v9(S:bI X N src scope)(a:DI K X tg iter ti)(hg:∀C s H ex pn,PG (jU X N scope C s H ex pn) tg g)(hx:DN g src)(c:∀v τ H Q,Tg K gd v τ H Q->g v τ H Q) (hi:∀C s H ex pn,Y7 K (jU X N scope C s H ex pn) ifs tc) (d:∀C s H ex pn,DE K (jU X N scope C s H ex pn) elt te) (hs:ψ (∀x,foldedSetIterable iter X.env x=pure x) qQ0) (hc:ψ (X.calm=ϱ) qQJ):DE K X (.ListComp elt [{tg,iter,ifs,0}] scope pos) (FT ti src gd tc te):=⟨λy=>(Ny (X:=y.cx) (tc:=Tt K (λz=>E0) tc) (te:=T K (λz=>E0) te) ⟨S.kind,S.fX,S.loc,S.vS,S.len,S.src⟩ hc (a.of y) hg hx (λC s H ex pn=>(hi C s H ex pn).of<|.none _ rfl) (λC s H ex pn=>(d C s H ex pn).of<|.none _ rfl) hs).mono λz z z h=>h.comp c⟩
theorem Sm(hN:X.N.Nodup)(S:bI X N src scope)(e:DI K X tg iter ti)(hg:∀C s H ex pn,PG (jU X N scope C s H ex pn) tg g)(hx:DN g src)(j:∀v τ H Q,Tg K gd v τ H Q->g v τ H Q) (hi:∀C s H ex pn,Y7 K (jU X N scope C s H ex pn) ifs tc) (p:∀C s H ex pn,DE K (jU X N scope C s H ex pn) elt te) (a:ψ (X.N[i]?=some x) qQJ) (t:ψ (X.env.scope.names.lookup x=ϑ .local) qQJ) (c:ψ (swapsWith (.ListComp elt [{tg,iter,ifs,0}] scope pos) (some<|.Name x pos') Nz.line X.env=pure true) qQJ) (hs:ψ (∀x,foldedSetIterable iter X.env x=pure x) qQ0) (hc:ψ (X.calm=ϱ) qQJ):DS K X b (.Assign [.Name x pos'] (.ListComp elt [{tg,iter,ifs,0}] scope pos) Nz) (WH i<|FT ti src gd tc te):=⟨λy=>(DP (X:=y.cx) (i:=i) (tc:=Tt K (λz=>E0) tc) (te:=T K (λz=>E0) te) hN a t ⟨S.kind,S.fX,S.loc,S.vS,S.len,S.src⟩ hc (e.of y) hg hx (λC s H ex pn=>(hi C s H ex pn).of<|.none _ rfl) (λC s H ex pn=>(p C s H ex pn).of<|.none _ rfl) c hs).mono <| by rintro D τ H ⟨σ,S,De,Z,h,n,q,o,m⟩;show T.comp j {σ,S,_,_,h,n,q,λd w v H1 r l s1 k1=>o.nx _ _ _ _ r ((h.ts k1).set i l) s1 k1,m.at h}⟩
def bH:∀v τ H Q,Tg K (YY i) v τ H Q->kx i v τ H Q:=by rintro v τ H Q ⟨d,σ,S,R,c,e,g,q,a⟩;show a _ S _ H q (e.set i c) g<|.refl _
end
structure qE(K:Φ)(x qual:ρ)(st:Stmt)(f:ε)(fd:FuncData):η where
 ex:∃(oc:ξ)(od:θ ε)(dV kV doc pm:ξ)(an:θ ε)(fT ct:ξ)(PB:Array (θ ξ)),
  fd=fnOf x qual (bK st) (bx st) (ae st) dV kV doc pm an fT ct/\K.lookup f=ϑ {oc,od,.func fd,PB}/\codeIn K fT qual=ϱ
noncomputable def gP(N:δ ρ)(ds:δ D):SD:=ds.map some++List.replicate (N.length-ds.length) none
section
variable{P:Ψ}{w:Ω}{K:Φ}{mg:ρ->θ ξ}{base:Γ}
def qE.okD{x qual:ρ}{st:Stmt}{f:ε}{fd:FuncData}{N ps:δ ρ}{k:π}{sp:ir}(F:qE K x qual st f fd)(S:gr N ps<|ae st)(len:∀ds S R Z,sp ds S R Z->ds.length=ps.length) (o:∀(fT:ξ)(A:ϕ)(outer:δ Env)(s:ζ)(H:Hp)(E:XK)(ds:δ D)(S:ax)(R:KD)(Z:KX),cj k (A.deeper<|envOfC qual (ae st) s.heap.objs.size f fT)->sp ds S R Z->∃t,BW K (ij (fh P w mg) P w K mg base N qual (ae st) f fT A outer s H E) true (bx st) t/\t {nx:=λu S'=>R .ao S',rt:=R} (gP N ds) S λu=>Z):cG P w K mg base (fh P w mg) (k+1) f fd ps (qD K sp):=by
 let⟨oc,od,dV,kV,doc,pm,an,fT,ct,PB,rfl,lk,n⟩:=F.ex;have p:ps.length<=N.length:=by have:=congrArg List.length S.pre;rw[yc]at this;lia
 show Pz lk n S (by rintro vs H Q E ⟨ds,S',R,Z,v,_,h,_⟩;show by rw[v.len];show len _ _ _ _ h) λA outer s H vs Q E hr ⟨ds,S',R,Z,v,j,h,d,i⟩=>?_;let⟨t,m,q⟩:=o fT A outer s H E ds S' R Z hr h;have L:dP (ij (fh P w mg) P w K mg base N qual (ae st) f fT A outer s H E) E:=qw;let y:Ev (ij (fh P w mg) P w K mg base N qual (ae st) f fT A outer s H E) true:={_,(ij (fh P w mg) P w K mg base N qual (ae st) f fT A outer s H E).xe,λu=>E,{λp2 τ H1 s1 e s' I h=>FG L p2 τ H1 s1 e s' I h,λ_ p2 τ H1 s1 h' a cls args I hx l=>i0 L I hx l,λu=>PassesOwn.leaving}};show{Tl K (λu=>E) t,m.of y,gP N ds,S',_,λu=>Z,?_,j,q,{λσ g τ H1 r a b c=>d.kp c |>.now b r jZ,d,λu u u u z=>z.elim,λu u u u z=>z.elim},λσ τ C g H1 z a b c=>i C g H1 z b c};unfold gP start;show(oV v).app ?_;rw[v.len];show oU _ _<|by rw[zE]
theorem cG.abL(F:cG P w K mg base (fh P w mg) k f fd ps<|qD K sp)(h:∀ds S R Z,YH ds S R Z->sp ds S R Z):cG P w K mg base (fh P w mg) k f fd ps (qD K YH):=F.imp <| by rintro vs H Q E ⟨ds,S,R,Z,a,b,c,d⟩;show{ds,S,R,Z,a,b,h _ _ _ _ c,d}
def cG.calm(F:cG P w K mg base (fh P w mg) k f fd ps sp):cG P w K mg base YK k f fd ps λvs H Q x=>sp vs H Q E0:=by show{λvs H Q E h=>F.len vs H Q E0 h,λA outer s H args us vs Q E hr c d r h=>yJ (F.run A outer s H args us vs Q E0 hr c d r h) λa s' q=>?_};cases a with|error e=>(let⟨_,_,_,_,_,_,_,_,_,z⟩:=q;show z.elim)|ok fl=>cases fl<;>show q
end
section
variable{K:Φ}{X:Cx}{b:χ}{i:π}{n x:ρ}{C0:ε}{body ud:δ Stmt}{DX:Stmt}{np sD pos:Pos}
def Sn{t:mU}(h:BW K X false body t):V2 X body (λE=>Tl K E t):=by intro qg s σ H D E I q;let y:Ev X false:={X.pn++qg,XE X qg E,E,{λp2 τ H1 s1 e s' a l=>{τ,H1,s1,{⟨a.ok.mod,a.ok.kind,a.ok.glob,a.ok.blt,a.ok.above,a.ok.inj,a.ok.has,a.ok.QJ,a.ok.hd,a.ok.frames,a.ok.QK,a.ok.Dj,a.ok.bs,a.ok.Fl,a.ok.Dk,a.ok.G8,a.ok.lq,a.ok.IT⟩,a.os,a.bare,a.base,a.loc,a.cell,a.free,a.eP,λp i=>a.pin p<|zW _ i,a.aT,a.len},l},λe=>(by cases e),λe=>(by cases e)}};have c:∀{d:St}{H':Hp}{s':ζ},Inv y.cx [] d H' s'->Inv X qg d H' s':=λa=>{⟨a.ok.mod,a.ok.kind,a.ok.glob,a.ok.blt,a.ok.above,a.ok.inj,a.ok.has,a.ok.QJ,a.ok.hd,a.ok.frames,a.ok.QK,a.ok.Dj,a.ok.bs,a.ok.Fl,a.ok.Dk,a.ok.G8,a.ok.lq,a.ok.IT⟩,a.os,a.bare,a.base,a.loc,a.cell,a.free,a.eP,λp i=>a.pin p<|zW _ i,a.aT,a.len};have j:Inv y.cx [] σ H s:={⟨I.ok.mod,I.ok.kind,I.ok.glob,I.ok.blt,I.ok.above,I.ok.inj,I.ok.has,I.ok.QJ,I.ok.hd,I.ok.frames,I.ok.QK,I.ok.Dj,I.ok.bs,I.ok.Fl,I.ok.Dk,I.ok.G8,I.ok.lq,I.ok.IT⟩,I.os,I.bare,I.base,I.loc,I.cell,I.free,I.eP,λp i=>I.pin p<|by rw[yG]at i;show i,I.aT,I.len};show yh (h.of y [] s σ H D j q) (λf s' r=>?_) λz z r=>r;cases f with|next=>(let⟨d,H',g,q⟩:=r;show{d,H',c g,q})|brk=>(let⟨d,H',g,q⟩:=r;show{d,H',c g,q})|cont=>(let⟨d,H',g,q⟩:=r;show{d,H',c g,q})|ret u=>let⟨v,d,H',g,m,q⟩:=r;show{v,d,H',c g,m,q}
noncomputable def xb.less(De:xb)(i:π):xb:={nx:=λσ S=>De.nx (σ.set i none) S,rt:=De.rt,bk:=λσ S=>De.bk (σ.set i none) S,ct:=λσ S=>De.ct (σ.set i none) S}
def abM(K:Φ)(i:π)(C0:ε)(tb ts:mU):mU:=λDe σ S _=>tb De σ S λc C S'=>mroIn K C (.ref C0)=ϑ true/\∀a,S' a=ϐ->ts (De.less i) (c.set i<|some<|.ref a) (S'.set a<|.exc C) λz=>Zf
def abN{tb ts:mU}(hN:X.N.Nodup)(hm:X.mg x=ϑ (.ref C0))(A:XC K C0)(M:BW K X false body tb)(hs:∀a,BW K (X.lE a) false (DX::ud) ts) (hi:ψ (X.N[i]?=some n) qQJ) (hx:ψ (X.env.scope.names.lookup n=ϑ .local) qQJ) (p:ψ (Gl X x) qQJ) (B:ψ ((x==("__debug__": ρ))=ϰ) qQZ) (L:ψ (X.stack=X.env::X.outer) qQJ) (fr:ψ (X.env.frame=ϑ X.env.locals) qQJ) (J:ψ (X.K=K) qQJ): DS K X b (.Try body [.ExceptHandler (some<|.Name x np) (some n) (DX::ud) sD] [] [] pos) (abM K i C0 tb ts):=by subst J;show⟨λy=>(RW (X:=y.cx) (ts:=Tl X.K (λu=>E0) ts) L fr hN hi hx p hm A (Sn (X:=y.cx) (K:=X.K) (t:=tb) ⟨λz=>M.of ⟨z.pn,z.xe,z.E,z.ok⟩⟩) (λa=>(hs a).of {y.pn,λu u=>False,λu=>E0,{λp2 τ H s e s' _ ⟨_,_,_,_,_,_,_,_,_,z⟩=>z.elim,λe=>(by cases e),λe=>(by cases e)}}) B).mono λD τ H ⟨σ,S,De,Z,O,w,q,g,P⟩=>?_⟩;show{σ,S,De,_,O,w,q,g,λQ R C U H1 ⟨G,I⟩ F s1 k1=>{C,rfl,G,λa ha=>?_}};have kn:Kp X.K H1 (upd H1 a<|vV a<|.ref C):=.new ha;have kk:=k1.trans kn;have un:∀{d:SD}{m:St}{l:Hp},iV X.K l d m->iV X.K l (d.set i none) (m.set i none):=λr=>r.unset i none;show{_,_,De.less i,λu=>Zf,(F.ts kn).set i<|cg a,s1.new (c:=.exc C) ha aR,I a<|s1.fresh ha,{λd v m l o h j k8=>g.nx _ _ _ _ o (un h) j<|kk.trans k8,g.rt.kp kk,λd v m l o h j k8=>g.bk _ _ _ _ o (un h) j<|kk.trans k8,λd v m l o h j k8=>g.ct _ _ _ _ o (un h) j<|kk.trans k8},λu u u u u z=>z.elim}
end
section
variable{K:Φ}{X:Cx}{x:ρ}{id:String}{e:Δ}{es:δ Δ}{p pos:Pos}{t:k_}{r:δ D->ax->KD->η}
def P4(K:Φ)(f:ξ)(r:δ D->ax->KD->η):Prop:=∀X:Cx,X.K=K->eU X f (Lc K r)
theorem Kt(hc:P4 K (.builtin id) r)(hm:X.mg x=ϐ)(d:bootBuiltins x=ϑ (.builtin id))(ha:DA K X (e::es) t)(hg:ψ (Gl X x) qQJ) (hn:ψ (x≠"__name__") qQZ) (c:ψ ((x==("__debug__": ρ))=ϰ) qQZ) (g:ψ (starEach (e::es) X.env=`j::starEach es X.env) qQJ) (i:ψ ((backTo pos<|starEach es X.env).any (·.1)=ϰ) qQJ) (a:ψ (X.K=K) qQJ): DE K X (.Call (.Name x p) (e::es) [] pos) (Wl r t):=⟨λy=>(tU (X:=y.cx) (hc _ a) hg hm d (ha.of y) hn c g i).mono λz z z h=>h.cb⟩
def abO(K:Φ):δ D->ax->KD->Prop:=λds S R=>∃a C c b,ds=[.ref a,c]/\S a=ϑ (.exc C)/\XC K C/\XA K C/\((∃Cd,c=.ref Cd/\kitOne K (.ref C) (.ref Cd)=ϑ b)\/(∃n,c=.ty n/\kitOne K (.ref C) (.type n)=ϑ b)\/∃as:δ ε,c=.tup (as.map D.ref)/\kitAny K (.ref C) (as.map Value.ref)=ϑ b)/\R (.bl b) S
theorem RvAll.refs:∀{as:δ ε}{xs:δ V},RvAll K H (as.map D.ref) xs->xs=as.map V.ref|[],xs,h=>h.nil|b::bs,xs,h=>by let⟨y,ys,rfl,h1,h2⟩:=h.cons;rw[h1.ref,h2.refs];rfl
theorem xh:∀{as:δ ε}{a:δ ξ},Vals (as.map V.ref) a->a=as.map Value.ref|[],_,.nil=>rfl|_::_,_,.cons r t=>by rw[xh t];cases r;rfl
def lK:P4 K (.builtin "isinstance") (abO K):=by rintro X y qg s σ H xs us Q I m ⟨ds,S,R,r,g,⟨a,C,c,b,e,h1,h2,j,d,h⟩,l⟩;subst y e;let⟨v,u,rfl,o,i⟩:=r.two;have ha:H a=ϑ (vV a<|.ref C):=g a _ h1;rcases d with⟨w,rfl,d⟩|⟨n,rfl,d⟩|⟨as,rfl,d⟩;show nr rfl qg s σ H _ us Q I m {a,C,.ref w,.ref w,b,by rw[o.ref,i.ref],ha,h2,j,rfl,λx e=>e,d,l.now g h<|cU _};show nr rfl qg s σ H _ us Q I m {a,C,.ty n,.type n,b,by rw[o.ref,i.ty],ha,h2,j,rfl,λx e=>e,d,l.now g h<|cU _};let⟨p,zs,rfl,q,t⟩:=i.tup;rw[t.refs]at q;show v7 rfl qg s σ H _ us Q I m {a,C,p,_,b,by rw[o.ref],ha,h2,j,q,λA z=>by rw[xh z];show d,l.now g h<|cU _}
end
theorem xi{P:Ψ}{w:Ω} : ∀{ss:δ ρ}{vs:δ ξ},vs.length=ss.length->(∀(j:π)(v:ξ),vs[j]?=some v->∃x,ss[j]?=some x/\keyIs (.inr x) v=ϱ)->StrsAre vs ss|[],[],_,_=>.nil|[],_::_,h,_=>by simp at h|_::_,[],h,_=>by simp at h|x::ss,v::vs,h,k=>by let⟨x',e,q⟩:=k 0 v rfl;cases e;rcases cu q with⟨i,t,e,_⟩|⟨y,t,e,rfl⟩;cases e;cases e;show .cons x t<|xi (P:=P) (w:=w) (by simpa using h) λj v e=>k (j+1) v<|by simpa using e
theorem xj:∀{vs:δ ξ}{ss:δ ρ},StrsAre vs ss->Vals (ss.map V.str) vs|_,_,.nil=>.nil|_,_,.cons y t h=>.cons ⟨t,rfl⟩<|xj h
def KV.abP{κ:Type}{kvs:δ<|κ×V}{vs:δ<|κ×ξ}(h:KV kvs vs):vs.map (·.1)=kvs.map (·.1):=by unfold KV at h;induction h with|nil=>rfl|cons r t a=>rw[zO,zO,a,r.1]
def Ku{prog:Ψ}{w:Ω}{A:ϕ}{E:ξ->ζ->η}{s:ζ}{T:String}{r d:ε}{n:π}{P:π->ξ->η}{p:Γ->η}{R:δ ξ->ζ->η}(K:PySem.W.KdlSrc prog w T r d n P p)(v:A.handled=ϐ)(aT:p s.heap)(hn:n<=Ϙ) (h:∀(h':Γ) (tk:π) (j:Array ξ),(∀b o,s.heap.get? b=ϑ o->h'.get? b=ϑ o)->s.heap.objs.size<=h'.objs.size->ItemsOf P j n->R j.toList {s with heap:=h',toks:=tk}): wpAny `n A (collect<|.ref r) R E s:=by have t:=K.there _ aT;unfold collect;show za<|wpAny_runValue<|yI entry_proto_collect' ?_;rw[Around.under_plainId PySem.F.plain_proto_collect _];change wpAny _ A.in1 (newList [] >>=λl=>again<|.builtin "list.__iadd__" {[l,.ref r],[]}) _ _ s;show za<|yg ?_;show zm {plainId_quiet PySem.F.plain_list_iadd _,yI entry_list_iadd' ?_};rw[Around.under_plainId PySem.F.plain_list_iadd _];have z:(s.heap.push {cls:=.type "list",data:=.seq ([]:δ ξ).toArray}).get? s.heap.objs.size=ϑ {cls:=.type "list",data:=.seq #[]}:=zr _ rfl;change wpAny _ A.in1 (Builtin.List.listExtendWith (.ref s.heap.objs.size) (.ref r)<|.ref s.heap.objs.size) _ _ _;have key:=PySem.W.kdl_extend (A:=A) (s:={s with heap:=s.heap.push {cls:=.type "list",data:=.seq ([]:δ ξ).toArray}}) (R:=λ(q:Result) (s':ζ)=>∃(h':Γ) (tk:π) (a:Array ξ) (i:π),q=.ok (.ret<|.ref s.heap.objs.size)/\s'={s with heap:=h',toks:=tk}/\(∀b o,s.heap.get? b=ϑ o->h'.get? b=ϑ o)/\h'.get? s.heap.objs.size=ϑ {cls:=.type "list",dict:=none,data:=.seq a i,slots:=#[]}/\ItemsOf P a n) K v (K.keep _ _ aT λb u o e=>zb _ e) s.heap.objs.size (yj t.1) (yj t.2) (.ref s.heap.objs.size) 0 z (λh' tk a i hk c g=>{h',tk,a,i,rfl,rfl,λb o e=>hk b o (zC<|zy e)<|zb _ e,c,g}) hn;show yh key (λm s' x=>?_) λe s' x=>?_;{cases m with|done f=>(let⟨h',tk,a,i,e,rfl,hk,c,g⟩:=x;cases e;change wpAny _ A (load s.heap.objs.size >>=_) _ _ _;show za<|wpAny_load c<|zm<|h h' tk a hk (yL<|zy c) g)|again C=>show{x.1,yJ x.2 λq B y=>?_};let⟨h',tk,a,i,rfl,rfl,hk,c,g⟩:=y;change wpAny _ A (load s.heap.objs.size >>=_) _ _ _;show za<|wpAny_load c<|zm<|h h' tk a hk (yL<|zy c) g};let⟨_,_,_,_,e',_⟩:=x;cases e'
def y6{X:Cx}(hc:X.calm=ϱ):eU X (.builtin "sorted") (λxs H Q=>∃(a:ε)(kvs:δ (Key×V))(ss:δ ρ),xs=[.ref a]/\H a=ϑ (.dK kvs)/\kvs.map (·.1)=ss.map Sum.inr/\kvs.length<64/\∀d,d.Perm ss->sortedS d=ϱ->∀l,H l=ϐ->Q (.ref l) (upd H l<|.lst<|d.map V.str)):=by
 intro qg s σ H xs us Q I r h;let⟨a,kvs,ss,rfl,e,hk,hl,q⟩:=h;let⟨u,rfl,U⟩:=vals1 r;cases U;let⟨z,hd,vs,rel,M⟩:=FE I.aT e;let⟨ep,Z⟩:=M.dictAt;have i:vs.length<64:=by rw[<-rel.length];show hl
 have S:=I.ok.hd hc;show PySem.Calls.call_function_entry kind_sorted plain_sorted entry_sorted (args_sorted1 _) ?_;unfold Builtin.«sorted»;show za (m:=checkCount "sorted" 1 1 _)<|zm ?_;show za<|Ku (A:=X.A.in1) (PySem.W.kdl_dict (knd:=aS X.prog X.w) (kvs:=vs) (ep:=ep) hd) S Z (by rw[zZ];omega) λh' tk c g E K=>?_;have p:c.toList.length=vs.length:=by rw[yi];show K.1
 show za<|wpAny_newList ?_ (by rw[p,zZ];omega);have t:StrsAre c.toList ss:=by have C:=rel.abP;show xi (P:=X.prog) (w:=X.w) (by rw[p,<-rel.length];have:=congrArg List.length hk;simpa using this) λj v ev=>?_;let⟨k,x,e1,e2⟩:=K.2 j v (by rw[<-Array.getElem?_toList];show ev);have e3:(vs.map (·.1))[j]?=some k:=(by rw[zA,e1];rfl);rw[C,hk,zA]at e3;cases F:ss[j]? with|none=>(rw[F]at e3;cases e3)|some y=>rw[F]at e3;cases e3;show⟨y,rfl,e2⟩
 have B:(h'.push<|seqObj "list" c.toList.toArray 0).get? h'.objs.size=ϑ (seqObj "list" c.toList.toArray 0):=zr _ rfl;change wpAny _ _ _ _ _ {s with heap:=h'.push<|seqObj "list" c.toList.toArray 0,toks:=tk};show za<|yF<|yD slot_list_sort {_,B,rfl} entry_list_sort (list_sort_treeK (s:={s with heap:=h'.push<|seqObj "list" c.toList.toArray 0,toks:=tk}) strKind_oneLt B t.keysOf (λqF qG rest e=>keyKind_strs<|by rw[<-e];show t) (by rw[p];show i) λL R hs=>!⟨?_⟩)<|args_list_sort _;show zm !⟨?_⟩;let⟨d,h1,h2,N⟩:=sorted_out_str t R hs;let⟨e1,Y⟩:=sortedHeap_at (vs:=c.toList) (n:=0) (out:=(arrOf L).map (·.2)) B;have O:d.length<=sizeLine:=by rw[h2.length_eq,zZ];have:=congrArg List.length hk;rw[zc,zc]at this;omega
 show{.ref h'.objs.size,_,I.laid (a:=h'.objs.size) (o:=.lst<|d.map V.str) (λb u G=>?_) E {by rw[zc];show O,_,e1,xj h1,Y},rfl,q d h2 N _<|I.aT.fresh E};have J:=zy<|g b u G;rw[sortedHeap_old (zC J)<|by rw[yq];show Nat.lt_succ_of_lt J,zb _<|g b u G]
section
variable{K:Φ}
def N3:δ D->ax->KD->Prop:=λds S R=>∃(a:ε)(kvs:δ (Key×D))(ss:δ ρ),ds=[.ref a]/\S a=ϑ (.eV kvs)/\kvs.map (·.1)=ss.map Sum.inr/\kvs.length<64/\∀FU,FU.Perm ss->sortedS FU=ϱ->∀p,S p=ϐ->R (.ref p) (S.set p<|.lst<|FU.map D.str)
def c_.keys{κ:Type}{H:Hp}{ks:δ<|κ×D}{vs:δ<|κ×V}(h:c_ K H ks vs):vs.map (·.1)=ks.map (·.1):=by unfold c_ at h;induction h with|nil=>rfl|cons r t a=>rw[zO,zO,a,r.1]
def BY:jB K (.builtin "sorted") N3:=by rintro X n hc qg s σ H xs us Q I i ⟨ds,S,R,r,c,⟨a,kvs,ss,e,e1,hk,hl,h⟩,g⟩;subst e;let⟨v,rfl,m⟩:=r.one;let⟨vs,e2,t⟩:=c.eV e1;show y6 hc qg s σ H _ us Q I i {a,vs,ss,by rw[m.ref],e2,by rw[t.keys];show hk,by rw[t.len];show hl,λd j p2 l hl=>g.new c hl (h d j p2 l)<|yX d}
end
def P5(K:Φ)(a:ε)(n:π):It:={λi H=>∃xs x,kZ K H a xs/\xs.length=n/\i<n/\xs[n-1-i]?=some x,λi H x H'=>H'=H/\∀xs,kZ K H a xs->xs.length=n->xs[n-1-i]?=some x,λi z=>n<=i}
theorem Kv{P:Ψ}{w:Ω}{K:Φ}{tg:Δ}(a it:ε)(n:π):Turn P w K tg (P5 K a n) [it] it (λi h=>i<=n/\h.IsRevIter it a ((n:ν)-1-(i:ν))) where
 mem:=`d
 obj:=λi h st b hb=>by
  have e:b=it:=by simpa using hb
  subst e
  let⟨_,o,e,c,d⟩:=st
  show{o,e,λv z=>by rw[d]at z;cases z}
 keep:=λi h h' st k=>{st.1,st.2.at λo e=>k it `d o e}
 item:=by
  intro X hP hw hK hc i qg s σ H E I hf st hg
  subst hP hw hK
  let⟨xs,x,hq,hn,hi,hx⟩:=hg
  let⟨aE,rv,p,hz⟩:=I.list hq
  let⟨u,hu,ru⟩:=rv.get hx
  let⟨f0,f1,f2,f3,f4,f5⟩:=hf it<|`d
  have e:(n:ν)-1-(i:ν)=((n-1-i:π):ν):=`b
  have hit:=st.2
  rw[e]at hit
  show wpAny_pyNext_rev_item hit p.isList (x:=u) (by simpa using hu) λh' gM sb=>?_
  have I1:Inv X qg σ H {s with heap:=h'}:=I.turned (t':=s.toks) (λb o hb e=>(sb.2 b hb).trans e) f0 f1 f3 f4 f5
  let⟨o,e1,c,d⟩:=id gM
  show{u,rfl,wM (s:={s with heap:=h'}) e1 c d `a {x,H,I1,ru,{rfl,λys hy y=>by rw[I.Bv hy hq];show hx},{hi,?_},λb hb=>(hf b hb).1}}
  have e2:(n:ν)-1-((i+1:π):ν)=((n-1-i:π):ν)-1:=`b
  rw[e2];show gM
 done:=by
  intro X hP hw hK hc i qg s σ H E I hf st hg
  subst hP hw hK
  let⟨f0,f1,f2,f3,f4,f5⟩:=hf it<|`d
  have hg:n<=i:=hg
  have e:(n:ν)-1-(i:ν) = -1:=by have:=st.1;lia
  have hit:=st.2
  rw[e]at hit
  show wpAny_pyNext_rev_end (I.ok.hd hc) hit λh' eb=>{rfl,I.turned (t':=s.toks) (λb o hb e=>eb b o hb e) f0 f1 f3 f4 f5}
 self:=λy y y y y st h=>wpAny_pyIter_revIter st.2 h
def abQ(K:Φ)(ta:TA):TI:=λσ H R=>ta σ H λvs H1=>∃a xs,vs=[.ref a]/\kZ K H1 a xs/\R (P5 K a xs.length) H1
def Sr{X:Cx}{tg a:Δ}{ta:TA}{p pos:Pos}(hg:Gl X "reversed")(hm:X.mg "reversed"= none)(ha:PA X [a] ta)(hs:starEach [a] X.env=[(false,eval a X.env)]):PI X tg (.Call (.Name "reversed" p) [a] [] pos) (abQ X.K ta):=by
 intro qg s σ H R I h;show Call_<|jW I hg hm boot_reversed<|PyProof.Rows.callWith_type1 (bZ (ha pos qg s σ H _ I h) λus s1 ⟨vs,H1,c,t,v⟩=>?_) hs rfl;let⟨l,xs,e,q,n⟩:=v;subst e;let⟨u,rfl,r⟩:=vals1 t;cases r;let⟨g,j,m,hz⟩:=c.list q;have hn:g.toArray.size=xs.length:=by rw[zl,j.length]
 show call_reversed_list m.isList ?_;rw[hn];have st:(s1.heap.push<|revObj l<|(xs.length:ν)-1).IsRevIter s1.heap.objs.size l ((xs.length:ν)-1-((0:π):ν)):={_,zr _ rfl,rfl,by change Data.fields _=Data.fields _;simp};have i:Inv X qg σ H1 {s1 with heap:=s1.heap.push<|revObj l<|(xs.length:ν)-1}:=c.kept (t':=s1.toks) λb o e=>zb _ e;show wpAny_pyIter_revIter st {_,_,_,_,H1,rfl,i,Kv l s1.heap.objs.size xs.length,{yf _,st},λb d=>?_,n};have d:b=s1.heap.objs.size:=by simpa using d
 subst d;show c.tN (zp _)<|c.aT.fresh<|zp _
section
variable{K:Φ}{X:Cx}{tg:Δ}
def WT(t:k_):Dd:=λσ S R Z=>t σ S (λds a=>∃x es,ds=[x]/\yY a x es/\R {es.reverse,λS=>yY S x es} a) Z
def irv{t:k_}(hm:X.mg "reversed"= none)(ha:DA K X [a] t)(hg:ψ (Gl X "reversed") qQJ)(hs:ψ (starEach [a] X.env=[(false,eval a X.env)]) qQJ)(A:ψ (X.K=K) qQJ):DI K X tg (.Call (.Name "reversed" p) [a] [] pos) (WT t):=by subst A;show⟨λy=>(Sr (X:=y.cx) hg hm (ha.of y) hs).mono <| by rintro τ H R ⟨σ,S,RI,Z,C,n,q,w,m⟩;show{σ,S,_,Z,C,n,q,by rintro ds B vs H1 ⟨x,es,e,h1,z⟩ l s1 k1;subst e;let⟨v,rfl,r⟩:=l.one;let⟨a,xs,rfl,o,t⟩:=h1.at s1 r;show{a,xs,rfl,o,w _ B _ H1 z (λi G H2 k2 s2 s=>?_) s1 k1};let⟨F,c,e',g,j⟩:=yY.at s s2<|Rv.ts k2 _ r;cases e';have hl:xs.length=es.length:=t.len;have E:c.length=es.length:=j.len;show{λd hd=>?_,λh=>by rw[yz]at h;change xs.length<=i;lia};have hi:i<es.length:=(by have:=(zu.mp hd).1;rwa [yz]at this);rw[List.getElem?_reverse hi]at hd;let⟨v,e1,r⟩:=j.get hd;rw[<-hl]at e1;show{{c,v,g,`b,`b,e1},λI H' ⟨e2,e3⟩=>?_};subst e2;have:=e3 c g `b;rw[e1]at this;cases this;show{r,.refl _,s2},m}⟩
noncomputable def dU(xs ys:δ D):δ D:=List.zipWith (λa b=>D.tup [a,b]) xs ys
def WU(t:k_):Dd:=λσ S R Z=>t σ S (λds a=>∃xs ys,ds=[.tup xs,.tup ys]/\xs.length=ys.length/\R {dU xs ys,λz=>True} a) Z
def y7:∀v τ H Q,Tg K (P0 2<|Ee (YY i)<|Ee (YY j) PZ) v τ H Q->M6 K 2 (tL (kx i)<|tL (kx j) M5) v τ H Q:=by rintro v τ H Q ⟨d,σ,S,R,m,w,h,⟨ds,e,hl,a,r,e1,b,x,e2,e3,q⟩,o⟩;subst e e1 e2 e3;let⟨p,xs,rfl,n,t⟩:=m.tup;let⟨g,c,rfl,s,l⟩:=t.two;show{p,_,rfl,.of n,rfl,g,[c],rfl,c,[],rfl,rfl,o _ S _ H q ((w.set i s).set j l) h<|.refl _}
end
section
variable{K:Φ}{X:Cx}{b:χ}{pos:Pos}
def WV(tl ti tv:TD):mU:=λDe σ S Z=>tv σ S (λv d=>tl σ d (λx e=>ti σ e (λy c=>∃a es i j,x=.ref a/\y=.int i/\c a=ϑ (.lst es)/\JD es.length i=ϑ j/\De.nx σ (c.set a<|.lst<|es.set j v))<|Z σ)<|Z σ)<|Z σ
theorem sls{o i value:Δ}{tl ti tv:TD}{pos':Pos}(ho:DE K X o tl)(hi:DE K X i ti)(E:DE K X value tv)
  (ha:ψ (∀v,assign (.Subscript o i pos') X.env v=(do
   let ov <-holding [v] (eval o X.env)
   let iv <-holding [v,ov] (eval i X.env)
   standAt pos'
   holding [v,ov,iv] (setItem ov iv v)
   release [v,ov,iv] [])) qQ0)
  (hs:ψ (swapsWithSole [.Subscript o i pos'] value pos.line X.env=pure false) qQJ) (hw:ψ (swappedStores [.Subscript o i pos'] value X.env=pure none) qQJ) (h1:ψ ((assignEach [.Subscript o i pos'] X.env).map (·.2)=[assign (.Subscript o i pos') X.env]) qQJ):
  DS K X b (.Assign [.Subscript o i pos'] value pos) (WV tl ti tv):=
 ⟨λy=>(Jr (X:=y.cx) (E.of y) (QW (ho.of y) (hi.of y) set_list ha) hs hw h1).mono <| by rintro D τ H ⟨σ,S,De,Z,d,n,q,r,e⟩;show
  ⟨σ,S,_,_,d,n,q,λv C m H1 B h s1 k1=>⟨σ,C,_,_,d.ts k1,s1,B,λx A I H2 p w s2 k2=>⟨σ,A,_,_,d.ts<|k1.trans k2,s2,p,by
   rintro y J G F ⟨a,es,i,j,e1,e2,e3,e4,s⟩ l g k3
   subst e1 e2
   let⟨xs,z,t⟩:=g.lst e3
   have kk:=g.j5 (o:=.lst<|xs.set j m) e3
   show{a,xs,i,j,(Rv.ts k3 _ w).ref,l.int,z,by rw[t.len];show e4,?_}
   show r.nx _ _ _ _ s (d.ts<|((k1.trans k2).trans k3).trans kk) (g.put (c:=.lst _) e3 {_,aR,RvAll.ts kk _<|t.set j<|Rv.ts (k2.trans k3) _ h})<|((k1.trans k2).trans k3).trans kk,e.on (k1.trans k2)<|d.ts<|k1.trans k2⟩,e.on k1<|d.ts k1⟩,e.at d⟩⟩
noncomputable def iu(z:ρ):δ D:=z.cps.toList.map λc=>D.str ⟨#[c]⟩
def P6(t:TD):Dd:=λσ S R Z=>t σ S (λx a=>∃z,x=.str z/\R {iu z,λy=>True} a) Z
theorem Ss{t:TD}(h:DE K X l t):DI K X tg l (P6 t):=⟨λy=>(RJ (X:=y.cx)<|h.of y).mono <| by rintro τ H R ⟨σ,S,RI,Z,p,j,q,m,g⟩;show⟨σ,S,_,Z,p,j,q,by
 rintro x o v H1 ⟨z,e,n⟩ a s1 k1;subst e;show{z,a.str,m _ o _ H1 n (λi s H2 k2 s2 w=>{λd hd=>?_,λhl=>?_}) s1 k1};unfold iu at hd;rw[zA,Array.getElem?_toList]at hd;cases q:z.cps[i]? with|none=>(rw[q]at hd;cases hd)|some c=>rw[q]at hd;cases hd;show{(Array.getElem?_eq_some_iff.mp q).1,λw H' ⟨e1,r,e2,e3⟩=>?_};rw[q]at e2;cases e2;subst e1 e3;show{j0 _,.refl _,s2}
 unfold iu at hl;rw[zc,yi]at hl;show hl,g⟩⟩
def N4(t:TD):TD:=λσ S R Z=>t σ S (λx a=>∃ss:δ ρ,yY a x (ss.map D.str)/\ss.length<4000/\R (.int (jY ss).length) a) Z
def lse{t:TD}(h:DE K X e t)(hm:X.mg "len"= none)(c:X.mg "set"= none)(r:ψ (isPlain e=ϱ) qQJ)(hg:ψ (Gl X "len") qQJ)(g:ψ (Gl X "set") qQJ)(o:ψ (starEach [e] X.env=[`j]) qQJ) (d:ψ (starEach [Expr.Call (.Name "set" p') [e] [] pos'] X.env=[(false,eval (.Call (.Name "set" p') [e] [] pos') X.env)]) qQJ) (z:ψ (X.K=K) qQJ) (hc:ψ (X.calm=ϱ) qQJ): DE K X (.Call (.Name "len" p) [.Call (.Name "set" p') [e] [] pos'] [] pos) (N4 t):=by subst z;show⟨λy=>(tU (X:=y.cx) (Hz (X:=y.cx) rfl rfl) hg hm aU (pa2 (wW (X:=y.cx) (Hy (X:=y.cx) rfl rfl rfl hc) g c RP (pa2 (h.of y) DD r) `a `a o rfl) DD rfl) `a `a d rfl).mono λτ H Q ⟨σ,S,R,Z,A,n,q,s,m⟩=>?_⟩;show{σ,S,_,Z,A,n,q,λx B v H1 ⟨ss,h1,hl,w⟩ j s1 k1=>?_,m};let⟨a,xs,rfl,i,t⟩:=h1.at s1 j;rw[t.strs]at i;show{a,ss,rfl,i,hl,λl hl=>{l,ss,rfl,aR,s _ _ _ _ w (bc _) (s1.grow hl)<|k1.trans<|.new hl}}
end
def HK{K:Φ}{S:ax}{H:Hp}{l:ε}(d:Rs K S H)(h:S l=ϑ .well):∃x y z:ν,Rs K (S.set l<|.lst [.int x,.int y,.int z]) H:=by obtain⟨x,y,z,e⟩:∃x y z:ν,H l=ϑ (.lst [.int x,.int y,.int z]):=d l _ h;show{x,y,z,λb c a=>?_};by_cases q:b=l;subst q;rw[aa]at a;cases a;show{_,e,bE (bc x)<|bE (bc y)<|bE (bc z) cn};rw[ah q]at a;show d b c a
theorem xk{K:Φ}{S:ax}{H:Hp}{l:ε}{x y z:ν}(h:S l=ϑ .well)(g:Rs K (S.set l<|.lst [.int x,.int y,.int z]) H):Rs K S H:=λb c d=>by by_cases q:b=l;subst q;rw[h]at d;cases d;let⟨xs,e,t⟩:=g.lst (a:=b) aa;rw[t.ints (bs:=[x,y,z])]at e;show⟨x,y,z,e⟩;show g b c<|by rw[ah q];show d
def Su(pre:δ D->ε->η)(a:δ D->D->η):ir:=λds S R v=>∃l x y z,pre ds l/\S l=ϑ (.lst [.int x,.int y,.int z])/\∀d x' y' z',a ds d->R d (S.set l<|.lst [.int x',.int y',.int z'])
def Kw(pre:δ D->ε->η)(a:δ D->D->η):ir:=λds S R z=>∃l,pre ds l/\S l=ϑ .well/\∀d,a ds d->R d S
def HL{P:Ψ}{w:Ω}{K:Φ}{mg:ρ->θ ξ}{base:Γ}{k:π}{f:ε}{fd:FuncData}{ps:δ ρ}{pre:δ D->ε->η}{a:δ D->D->η} (F:cG P w K mg base (fh P w mg) k f fd ps<|qD K<|Su pre a):cG P w K mg base (fh P w mg) k f fd ps (qD K<|Kw pre a):=by show F.imp λvs H Q E ⟨ds,S,R,Z,v,m,⟨l,o,hw,h⟩,p,s⟩=>?_;let⟨x,y,z,r⟩:=HK m hw;show{ds,_,λd j=>∃i g c,a ds d/\j=S.set l (.lst [.int i,.int g,.int c]),λt t=>False,v,r,{l,x,y,z,o,aa,λd i g c hd=>⟨i,g,c,hd,fu⟩},λd j u H' ⟨i,g,c,hd,e⟩ n hs kp=>?_,λt t t q=>q.elim};subst e;show p d S u H' (h d hd) n (xk hw hs) kp
theorem h_:bootBuiltins "sorted"= some (.builtin "sorted"):=`c
def Sub(S S':ax):Prop:=∀b c,S b=ϑ c->S' b=ϑ c
theorem Sub.refl(S:ax):Sub S S:=λz z h=>h
theorem Sub.trans(a:Sub S S1)(b:Sub S1 S2):Sub S S2:=λp c h=>b p c<|a p c h
theorem Sub.new(h:S p=ϐ):Sub S (S.set p c):=λb d a=>by rw[ah<|jx a h];show a
theorem Rs.sub{K:Φ}{S S':ax}{H:Hp}(h:Rs K S' H)(s:Sub S S'):Rs K S H:=λa c e=>h a c<|s a c e
inductive Fo (S':ax) (p:ax->η):η
 |mk (S:ax) (h:Sub S S') (r:p S):Fo S' p
theorem fo(h:p S):Fo S p:={S,.refl S,h}
section
variable{P:Ψ}{w:Ω}{K:Φ}{mg:ρ->θ ξ}{base:Γ}
def qE.ok{x qual:ρ}{st:Stmt}{f:ε}{fd:FuncData}{N ps:δ ρ}{k:π}{sp:ir}(F:qE K x qual st f fd)(S:gr N ps<|ae st)(len:∀ds S R Z,sp ds S R Z->ds.length=ps.length) (q:∀(fT:ξ)(A:ϕ)(outer:δ Env)(s:ζ)(H:Hp)(E:XK)(ds:δ D)(S:ax)(R:KD)(Z:KX),cj k (A.deeper<|envOfC qual (ae st) s.heap.objs.size f fT)->sp ds S R Z->∃t,BW K (ij (fh P w mg) P w K mg base N qual (ae st) f fT A outer s H E) true (bx st) t/\t {nx:=λz S'=>Fo S'<|R .ao,rt:=λd S'=>Fo S'<|R d} (gP N ds) S λz C S'=>Fo S'<|Z C):cG P w K mg base (fh P w mg) (k+1) f fd ps (qD K sp):=by
 have l:cG P w K mg base (fh P w mg) (k+1) f fd ps (qD K λds S p n=>∃R Z,sp ds S R Z/\p=(λd S'=>Fo S'<|R d)/\n=λC S'=>Fo S'<|Z C):=by show F.okD S (by rintro ds S R Z ⟨g,e,h,_⟩;show len _ _ _ _ h) λfT A outer s H E ds S R Z hr ⟨g,e,h,e1,e2⟩=>?_;subst e1 e2;show q fT A outer s H E ds S g e hr h
 show l.imp <| by rintro vs H Q E ⟨ds,S,R,Z,v,j,h,o,i⟩;show{ds,S,_,_,v,j,⟨R,Z,h,rfl,rfl⟩,by rintro d S' u H' ⟨c,a,r⟩ m rs kp;show o d c u H' r m (rs.sub a) kp,by rintro C S' H' ⟨c,a,r⟩ rs kp;show i C c H' r (rs.sub a) kp}
end
section
variable{K:Φ}{X:Cx}{b:χ}
def WW(t:mU):mU:=λDe σ S Z=>∃P:SD->ax->η,t {De with nx:=λa S'=>Fo S'<|P a} σ S Z/\∀a S',P a S'->De.nx a S'
theorem Jd{st:Stmt}{t:mU}(h:DS K X b st t):DS K X b st (WW t):=⟨λy=>(h.of y).mono <| by rintro D τ H ⟨σ,S,De,Z,m,i,⟨P,q,g⟩,d,e⟩;show{σ,S,_,Z,m,i,q,{by rintro p r n H1 ⟨o,l,j⟩ a b c;show d.nx _ _ _ _ (g _ _ j) a (b.sub l) c,d.rt,d.bk,d.ct},e}⟩
def dFo(t:TD):TD:=λσ S R Z=>t σ S (λd S'=>Fo S'<|R d) Z
theorem ur{t:TD}(h:DE K X e t):DE K X e (dFo t):=⟨λy=>(h.of y).mono <| by rintro τ H Q ⟨σ,S,R,Z,m,g,q,c,a⟩;show{σ,S,_,Z,m,g,q,by rintro d S' v H' ⟨i,j,r⟩ l rs kp;show c d i v H' r l (rs.sub j) kp,a}⟩
theorem sG(nd:N.Nodup)(h0:ψ (N[0]?=some a) qQJ)(hx:ψ (∀C s H ex pn,Loc (jU X N scope C s H ex pn).env.scope a/\(jU X N scope C s H ex pn).env.scope.names.lookup a=ϑ .local) qJQ): ∀C s H ex pn,PG (jU X N scope C s H ex pn) (.Name a p) (kx 0):=λC s H ex pn=>sV (i:=0) nd h0 (hx C s H ex pn).1<|.inr (hx C s H ex pn).2
theorem cg2(nd:N.Nodup)(h0:ψ (N[0]?=some a) qQJ)(h1:ψ (N[1]?=some c) qQJ) (hx:ψ (∀C s H ex pn,Loc (jU X N scope C s H ex pn).env.scope a/\(jU X N scope C s H ex pn).env.scope.names.lookup a=ϑ .local) qJQ) (d:ψ (∀C s H ex pn,Loc (jU X N scope C s H ex pn).env.scope c/\(jU X N scope C s H ex pn).env.scope.names.lookup c=ϑ .local) qJQ) (hl:∀env:Env,(assignEach [.Name a p,.Name c p'] env).length=2/\(assignEach [.Name a p,.Name c p'] env).findIdx? (·.1)=ϐ/\(assignEach [.Name a p,.Name c p'] env).map (·.2)=assign (.Name a p) env::(assignEach [.Name c p'] env).map (·.2)/\(assignEach [.Name c p'] env).map (·.2)=assign (.Name c p') env::(assignEach [] env).map (·.2):=by intro _;show⟨rfl,rfl,rfl,rfl⟩) (g:ψ (X.K=K) qQJ) (hc:ψ (X.calm=ϱ) qQJ): ∀C s H ex pn,PG (jU X N scope C s H ex pn) (.Tuple [.Name a p,.Name c p'] j p2) (M6 K 2<|tL (kx 0)<|tL (kx 1) M5):=λC s H ex pn=>by subst g;have e:=hl (jU X N scope C s H ex pn).env;show Jq (X:=jU X N scope C s H ex pn) hc (tM (sV (i:=0) nd h0 (hx C s H ex pn).1<|.inr (hx C s H ex pn).2) (tM (sV (i:=1) nd h1 (d C s H ex pn).1<|.inr (d C s H ex pn).2) Fs e.2.2.2) e.2.2.1) e.1 e.2.1
end
theorem uu:∀{ss:δ ρ}{a:δ ξ},Vals (ss.map V.str) a->StrsAre a ss|[],_,.nil=>.nil|z::ss,_,.cons r t=>by let⟨tk,rfl⟩:=r;show .cons z tk<|uu t
end L2
namespace HT
open PySem PySem.Spec PyProof.Rows
end HT
namespace L2
open PySem PySem.Spec PyProof.Rows
section
variable{K:Φ}{X:Cx}
theorem y8(r:Rv K H d v):∀n:π,RvAll K H (List.replicate n d) (List.replicate n v)|0=>cn|n+1=>bE r<|y8 r n
def WX:vI:=λx y S R=>∃d n,x=.tup [d]/\y=.int n/\2<=n/\n<=1000/\R (.tup<|List.replicate n.toNat d) S
def qH:qz K (binaryOp .Mult) WX:=by rintro X w hu qg s σ H x y v u Q I o m ⟨d,e,S,R,r,i,g,⟨d0,n,e1,e2,h1,h2,h⟩,l⟩;subst e1 e2;let⟨a,xs,rfl,q,t⟩:=r.tup;let⟨z,rfl,c⟩:=t.one;show FI qg s σ H _ _ v u Q I o m {a,z,n,rfl,i.int,q,`b,h2,λe=>by lia,λk p j=>l.Kg g j h<|y8 c _}
end
inductive Kx (S:ax):δ D->δ PyData->η
 |nil:Kx S [] []
 |cons {d:D}{p:PyData}{ds:δ D}{ps:δ PyData} : Dl S d p->Kx S ds ps->Kx S (d::ds) (p::ps)
section
variable{K:Φ}
noncomputable def FV(p:ρ×D):D:=.tup [.str p.1,p.2]
noncomputable def nN(l:δ<|ρ×D):δ (Key×D):=l.foldl (λc p=>dput c (.inr p.1) p.2) []
theorem FW:∀{kvs:δ (ρ×D)}{ys:δ V},RvAll K H (kvs.map FV) ys->∃d:δ (ρ×V),Prs H ys d/\∀c a,c_ K H c a->c_ K H (kvs.foldl (λc p=>dput c (.inr p.1) p.2) c) (d.foldl (λc p=>putK c (.inr p.1) p.2) a)|[],ys,h=>(by rw[h.nil];show{[],{rfl,λi x p e=>(by cases i<;>cases e)},λc a h=>h})|p::kvs,ys,h=>by let⟨y,ys,rfl,r1,r2⟩:=h.cons;let⟨b,zs,rfl,l,j⟩:=Rv.tup<|show Rv K H (.tup [.str p.1,p.2]) y from r1;let⟨v,u,rfl,n,g⟩:=j.two;have ev:=n.str;subst ev;let⟨d,⟨hl,o⟩,m⟩:=FW r2;show{(p.1,u)::d,{by rw[zG,zG,hl],λi x q e1 e2=>?_},λc a h=>m _ _<|h.put (.inr p.1) g};cases i with|zero=>(cases e1;cases e2;show⟨b,rfl,l⟩)|succ i=>show o i x q e1 e2
def WY:δ D->ax->KD->Prop:=λds S R=>∃kvs:δ (ρ×D),ds=[.tup<|kvs.map FV]/\∀p,S p=ϐ->R (.ref p) (S.set p<|.eV<|nN kvs)
def Ky:jB K (.type "dict") WY:=by rintro X p hc qg s σ H xs us Q I n ⟨ds,S,R,r,d,⟨kvs,e,h⟩,m⟩;subst p e;let⟨v,rfl,o⟩:=r.one;let⟨a,ys,rfl,q,t⟩:=o.tup;let⟨g,j,i⟩:=FW t;show DY hc qg s σ H _ us Q I n {a,ys,g,rfl,q,j,λl hl=>?_};have kn:Kp X.K H (upd H l<|.dK<|FH g):=.new hl;show m _ _ _ _ (h l<|d.fresh hl) (cg l) (d.new (c:=.eV<|nN kvs) hl {_,aR,(i [] [] .nil).ts kn}) kn
def BZ(kvs:δ<|Key×D)(k k':Key)(d:D):df (dput kvs k d) k'=if k'=k then some d else df kvs k':=by
 unfold dput;by_cases hk:(kvs.any λa=>ω<|a.1=k)=ϱ;rw[qe hk];unfold df;induction kvs with|nil=>(cases hk)|cons r kvs g=>rw[zO,yb,yb];by_cases e:r.1=k;rw[qe e];by_cases e2:k'=k;rw[qe e2,show ω (r.1=k')=ϱ from zi (e.trans e2.symm)];rfl;rw[qb e2,show ω (r.1=k')=ϰ from zf λq=>e2<|q.symm.trans e];by_cases c:(kvs.any λa=>ω<|a.1=k)=ϱ;have:=g c;rw[qb e2]at this;show this;have h:kvs.map (λa=>if a.1=k then (a.1,d) else a)=kvs:=(by(conv=>rhs;rw[<-List.map_id kvs]);show zY λx hx=>?_;rw[qb λq=>c<|List.any_eq_true.mpr {x,hx,zi q}];rfl);rw[h];rw[qb e];have c:(kvs.any λa=>ω<|a.1=k)=ϱ:=(by rw[yN,zf e,yO]at hk;show hk);by_cases e3:r.1=k';rw[zi e3,qb λq=>e<|e3.trans q];rw[zf e3];show g c
 rw[qb hk];unfold df;rw[List.find?_append];have hn:∀x∈kvs,x.1≠k:=λx hx q=>hk<|List.any_eq_true.mpr {x,hx,zi q};by_cases e:k'=k;subst e;rw[qe rfl,List.find?_eq_none.mpr λx hx=>by simp[hn x hx]];simp;rw[qb e];have:([(k,d)].find? λa=>ω<|a.1=k')=ϐ:=by rw[yb,show ω (k=k')=ϰ from zf λq=>e q.symm];rfl
 rw[this,Option.or_none]
def xl(l:δ<|ρ×D)(z:ρ):(df (nN l)<|.inr z).isSome=l.any λp=>ω (p.1=z):=by
 have all:∀(l:δ (ρ×D))(c:δ (Key×D)),(df (l.foldl (λc p=>dput c (.inr p.1) p.2) c)<|.inr z).isSome=((df c<|.inr z).isSome||l.any λp=>ω<|p.1=z):=by intro l;induction l with|nil=>intro c;simp|cons p l a=>intro c;rw[yH,a,BZ,yN];by_cases e:p.1=z;rw[qe<|by rw[e],zi e];simp;rw[qb λq=>e (yK q).symm,zf e];simp
 show(all l []).trans<|by rfl
def WZ(a:ε)(kvs:δ<|ρ×V):vI:=λx y S R=>∃z,x=.str z/\y=.ref a/\R (.bl (kvs.lookup z).isSome) S
def cmk{X:Cx}{a b:Δ}{ta tb:TD}{pos:Pos}{w:Ω}{ad:ε}{kvs:δ<|ρ×V}(d:J_ w K ad kvs)(ha:DE K X a ta)(p:DE K X b tb)(hw:ψ (X.w=w) qQJ)(hm:ψ (behindInMarks .In b=ϰ) qQ2)(n:ψ (X.K=K) qQJ): DE K X (.Compare a [.In] [b] pos) (PN (WZ ad kvs) ta tb):=by show⟨λy=>(Fx (X:=y.cx) (r:=Lr K<|WZ ad kvs) ?_ (ha.of y) (p.of y) hm).mono λt t t h=>h.op⟩;rintro qg s σ H x o v u Q I j g ⟨q,e,S,R,l,m,i,⟨z,e1,e2,h⟩,c⟩;subst e1 e2;show Ka (X:=y.cx) hw n qg s σ H x o v u Q I j g {z,ad,kvs,l.str,m.ref,d,c.now i h<|cU _}
end
structure W0(k:π)(A:ϕ):η where
 dp:A.depth+3*k+5<recursionLimit
 un:A.units+16*k+200<cLine
structure FnH(P:Ψ)(w:Ω)(K:Φ)(mg:ρ->θ ξ)(base:Γ)(k:π)(f:ε)(fd:FuncData)(ps:δ ρ)(sp:ir):η where
 len:∀ds S R Z,sp ds S R Z->ds.length=ps.length
 run:∀(A:ϕ)(outer:δ Env)(s:ζ)(H:Hp)(args:Args)(us:δ ξ)(vs:δ V)(Q:VK),W0 k A->qp P w K mg base A outer s H->BindsTo s fd args (ps.zip us)->Vals vs us->qD K sp vs H Q E0 ->
  codeAny (model P w) A (.call (.ref f) args) (CR (fh P w mg) outer P w H s Q E0) s
def PEg(pre:π)(X:Cx)(e:Δ)(t:TE):Prop:=∀(qg:δ (ε×Obj))(s:ζ)(σ:St)(H:Hp)(Q:VK),Inv X qg σ H s->pre<=s.toks->t σ H Q->wpAny `m X.A (eval e X.env) (λu s'=>EP X qg σ Q u s'/\1<=s'.toks) X.xe s
structure DEg(pre:π)(K:Φ)(X:Cx)(e:Δ)(t:TD):η where
 of:∀{b:χ}(y:Ev X b),PEg pre y.cx e<|T K y.E t
def abW{a b:ρ}(h:a.cps.toList=b.cps.toList):a=b:=by let⟨⟨x⟩⟩:=a;let⟨⟨y⟩⟩:=b;cases h;rfl
end L2
namespace HT
open PySem PySem.Spec PyProof.Rows
end HT
namespace L2
open PySem PySem.Spec PyProof.Rows
section
variable{K:Φ}{X:Cx}
def W2:Jc:=λx ds S R=>∃a es fs,x=.ref a/\ds=[.tup fs]/\S a=ϑ (.lst es)/\es.length+fs.length<=Ϙ/\R .ao (S.set a<|.lst<|es++fs)
def HM:PU K "list.extend" W2:=by rintro X r qg s σ H x xs v us Q I l rs ⟨d,ds,S,R,m,g,c,⟨a,es,fs,e1,e2,e3,hl,h⟩,i⟩;subst e1 e2;let⟨o,rfl,n⟩:=g.one;let⟨zs,j,t⟩:=c.lst e3;let⟨p,ys,rfl,q,e⟩:=n.tup;show Eb qg s σ H x _ v us Q I l rs {a,p,zs,ys,m.ref,rfl,j,q,by rw[t.len,e.len];show hl,i.put c e3 h jZ<|t.app e}
end
section
variable{K:Φ}{X:Cx}{E:XK}
structure DEx(K:Φ)(X:Cx)(E:XK)(e:Δ)(t:TD):η where
 of:∀(y:Ev X true),y.E=(λz=>E)->dP y.cx E->PE y.cx e (T K y.E t)
structure DAx(K:Φ)(X:Cx)(E:XK)(es:δ Δ)(t:k_):η where
 of:∀(y:Ev X true),y.E=(λz=>E)->dP y.cx E->PA y.cx es (Ta K y.E t)
structure DSx(K:Φ)(X:Cx)(E:XK)(b:δ Stmt)(t:mU):η where
 of:∀(y:Ev X true),y.E=(λz=>E)->dP y.cx E->Dn y.cx b (Tl K y.E t)
variable{N:δ ρ}{src:δ (θ π)}{scope:Scope}{tg iter elt:Δ}{ifs:δ Δ}{ti:Dd}{g:TG}{gd:Dc}{tc:oF}{te:TD}
end
open PySem.Builtin PySem.Builtin.Str
structure M3(X:Cx)(o:Δ)(m:ρ)(apos:Pos)(e f g:Δ)(bp:Pos):η where
 base:attributeBase o m X.env (eval o X.env)=eval o X.env
 IX:((backTo bp<|starEach [e,f,g] X.env).all (λx=>!x.1)&&(backToKw bp<|keywordEach [] X.env).all (λx=>x.1.isSome)
  && ω (([e,f,g]:δ Δ).length+([]:δ Keyword).length+(if ([]:δ Keyword).isEmpty then 0 else 1)<30))=ϱ
 line:(apos.endLine==bp.line)=ϱ
 trees:backTo bp (starEach [e,f,g] X.env)=[`j,(false,eval f X.env),(false,eval g X.env)]
section
variable{X:Cx}{t:TE}
def PAg(pre:π)(X:Cx)(es:δ Δ)(t:TA):Prop:=∀(pos:Pos)(qg:δ (ε×Obj))(s:ζ)(σ:St)(H:Hp)(Q:δ V->Hp->η),Inv X qg σ H s->pre<=s.toks->t σ H Q->wpAny `m X.A (spliced<|backTo pos<|starEach es X.env) (AP X qg σ Q) X.xe s
end
section
variable{K:Φ}{X:Cx}
structure DAg(pre:π)(K:Φ)(X:Cx)(es:δ Δ)(t:k_):η where
 of:∀{b:χ}(y:Ev X b),PAg pre y.cx es<|Ta K y.E t
end
structure Gh(a₀:Array Keyed)(g:π->π)(xs:Array Keyed):η where
 at_:∀k,k<a₀.size->xs[k]?=a₀[g k]?
 lt:∀k,k<a₀.size->g k<a₀.size
 inj:∀i j,i<a₀.size->j<a₀.size->g i=g j->i=j
def Log(κ:KeyKind)(a₀:Array Keyed)(i j:π):Prop:=κ.klt (KK κ a₀ i) (KK κ a₀ j)\/(KK κ a₀ i=KK κ a₀ j/\i<j)
def Eg(κ:KeyKind)(a₀:Array Keyed)(g:π->π)(k:π):Prop:=∀i j,i<j->j<k->Log κ a₀ (g i) (g j)
def Y9(κ:KeyKind)(a₀:Array Keyed)(g:π->π)(k:π):Prop:=∀i j,i<j->j<k->Log κ a₀ (g j) (g i)
def HN(g:π->π)(m n:π):Prop:=∀k,m<=k->k<n->g k=k
noncomputable def Kz(g:π->π)(i j k:π):Nat:=if i<=k/\k<j then g (i+j-1-k) else g k
noncomputable def N5(g:π->π)(src l k:π):Nat:=if k=l then g src else if l<k/\k<=src then g (k-1) else g k
section
variable{κ:KeyKind}{a₀ xs:Array Keyed}{g:π->π}
def Log.kle(h:Log κ a₀ i j):κ.kle (KK κ a₀ i) (KK κ a₀ j):=by rcases h with h|⟨h,_⟩;show KeyOrd.kle_of_klt h;rw[h];show KeyOrd.kle_refl _
def P7(h:κ.kle (KK κ a₀ i)<|KK κ a₀ j)(hl:i<j):Log κ a₀ i j:=by cases q:κ.blt (KK κ a₀ i) (KK κ a₀ j) with|true=>show .inl q|false=>show .inr {KeyOrd.kle_antisymm h q,hl}
def Gh.low(h:Gh a₀ g xs)(t:HN g m a₀.size)(hm:m<=a₀.size)(hi:i<m):g i<m:=by show Nat.lt_of_not_le λq=>?_;have h1:=h.lt i `b;have h2:=h.inj (g i) i h1 `b<|t (g i) q h1;lia
theorem Gh.key(h:Gh a₀ g xs)(hk:k<a₀.size):KK κ xs k=KK κ a₀ (g k):=KK_congr<|h.at_ k hk
theorem Gh.mirror(h:Gh a₀ g xs)(hs:xs.size=a₀.size)(hj:j<=a₀.size):Gh a₀ (Kz g i j) (mirror xs i j<|(j-i)/2) where
 at_:=λk hk=>by
  rw[getElem?_mirror_all<|`b]
  unfold Kz
  by_cases q:i<=k/\k<j
  ·rw[qe q,qe q];show h.at_ _<|`b
  ·rw[qb q,qb q];show h.at_ _ hk
 lt:=λk hk=>by
  unfold Kz
  by_cases q:i<=k/\k<j
  ·rw[qe q];show h.lt _<|`b
  ·rw[qb q];show h.lt _ hk
 inj:=λa b ha hb e=>by
  unfold Kz at e
  by_cases q:i<=a/\a<j<;>by_cases r:i<=b/\b<j
  ·rw[qe q,qe r]at e;have:=h.inj _ _ `b `b e;lia
  ·rw[qe q,qb r]at e;have:=h.inj _ _ `b `b e;lia
  ·rw[qb q,qe r]at e;have:=h.inj _ _ `b `b e;lia
  ·rw[qb q,qb r]at e;show h.inj _ _ ha hb e
theorem Gh.bubble(h:Gh a₀ g xs)(hs:xs.size=a₀.size)(hl:l<=src)(hj:src<a₀.size):Gh a₀ (N5 g src l) (bubble xs src<|src-l) where
 at_:=λk hk=>by
  rw[getElem?_bubble `b _<|`b,show src-(src-l)=l by lia]
  unfold N5
  by_cases q:k=l
  ·rw[qe q,qe q];show h.at_ _ hj
  ·rw[qb q,qb q]
   by_cases r:l<k/\k<=src
   ·rw[qe r,qe r];show h.at_ _<|`b
   ·rw[qb r,qb r];show h.at_ _ hk
 lt:=λk hk=>by
  unfold N5
  by_cases q:k=l
  ·rw[qe q];show h.lt _ hj
  ·rw[qb q]
   by_cases r:l<k/\k<=src
   ·rw[qe r];show h.lt _<|`b
   ·rw[qb r];show h.lt _ hk
 inj:=λa b ha hb e=>by
  unfold N5 at e
  repeat' split at e
  all_goals (have:=h.inj _ _ `b `b e;lia)
def j7(h:i<=k/\k<j):Kz g i j k=g (i+j-1-k):=by unfold Kz;rw[qe h]
def i5(h:¬(i<=k/\k<j)):Kz g i j k=g k:=by unfold Kz;rw[qb h]
end
section
variable{prog:Ψ}{w:Ω}{A:ϕ}{E:ξ->ζ->η}{s:ζ}{a₀:Array Keyed}{κ:KeyKind}
def P8{st:SortSt}{g:π->π}{a top:π}{Q:AscSt->SortSt->η}(l:κ.OneLt)(h0:KeysOf κ a₀)(C:top<=a₀.size)(h1:1<=a)(h2:a<=top)(B:SBase a₀ st)(G:Gh a₀ g<|arrOf st)(T:HN g a a₀.size)(U:Eg κ a₀ g a) (h:∀n,a<=n->n<=top->Eg κ a₀ g n->(n=top\/κ.klt (KK κ a₀<|g n) (KK κ a₀<|g<|n-1))->Q (none,n) st):wpS `n A E s (ascLoop a top) Q st:=by
 unfold ascLoop;show wpS_forRange (I:=λx c t=>t=st/\c=(none,x)/\Eg κ a₀ g x) ?_ ?_ ⟨rfl,rfl,U⟩;rintro x c t d r ⟨rfl,rfl,V⟩;dsimp only;show wpS_bind<|wpS_ltKK l B h0 `b `b ?_;rw[G.key<|`b,G.key<|`b];cases q:κ.blt (KK κ a₀<|g x) (KK κ a₀<|g<|x-1) with|true=>show wpS_pure (h x d `b V<|.inr q)|false=>show wpS_pure {rfl,rfl,λi j e v=>?_};rcases Nat.lt_or_ge j x with z|z;show V i j e z;obtain rfl:j=x:=`b;have p:=G.low (m:=j) (λk hk o=>T k `b o) `b e;rw[T j d<|`b]at q⊢;show P7 ?_ p;rcases Nat.lt_or_ge i (j-1) with y|y;show KeyOrd.kle_trans (V i (j-1) y<|`b).kle q;obtain rfl:i=j-1:=`b;show q
 rintro c t ⟨rfl,rfl,V⟩;rw[show max a top=top by lia]at V⊢;show h top h2 (zp _) V<|.inl rfl
def KA{st:SortSt}{g:π->π}{n top:π}{Q:θ π->SortSt->η}(o:κ.OneLt)(h0:KeysOf κ a₀)(r:top<=a₀.size)(h1:1<=n)(h2:n<=top)(B:SBase a₀ st)(G:Gh a₀ g<|arrOf st)(T:HN g n a₀.size)(D:Y9 κ a₀ g n) (h:∀m g' c,SBase a₀ c->Gh a₀ g' (arrOf c)->HN g' m a₀.size->1<=m->m<=top->Eg κ a₀ g' m->Q (some m) c):wpS `n A E s (tail3 n top) Q st:=by
 unfold tail3;show wpS_bind<|wpS_reverse ?_;have l:SBase a₀ (setArr st<|mirror (arrOf st) 0 n<|(n-0)/2):=B.setArr<|mirror_perm _ _ _ _;have d:Gh a₀ (Kz g 0 n) (arrOf<|setArr st<|mirror (arrOf st) 0 n<|(n-0)/2):=G.mirror B.size `b;have e:HN (Kz g 0 n) n a₀.size:=λk hk a=>by rw[i5<|`b];show T k hk a
 show wpS_bind<|P8 o h0 r h1 h2 l d e (λi j v t=>?_) λm q p V z=>wpS_pure<|h m _ _ l d (λk hk a=>e k `b a) `b p V;rw[j7<|`b,j7<|`b];show D _ _ `b<|`b
structure MK(κ:KeyKind)(a₀:Array Keyed)(g:π->π)(x q:π):η where
 le:q+1<=x
 tl:HN g (x-(q+1)) a₀.size
 dn:∀i j,i<j->j<x->i<x-(q+1)->Log κ a₀ (g j) (g i)
 eq:∀i,x-(q+1)<=i->i<x->KK κ a₀ (g i)=KK κ a₀ (g<|x-1)
theorem MK.full(F:MK κ a₀ g x q)(hx:x<=a₀.size):Y9 κ a₀ (Kz g (x-(q+1)) x) x:=λi j c a=>by have le:=F.le;by_cases hi:i<x-(q+1);rw[i5 (k:=i)<|`b];by_cases d:j<x-(q+1);rw[i5<|`b];show F.dn i j c a hi;rw[j7<|`b];show F.dn i _ `b `b hi;rw[j7<|`b,j7<|`b];show .inr {(F.eq _ `b<|`b).trans (F.eq _ `b<|`b).symm,?_};rw[F.tl _ `b<|`b,F.tl _ `b<|`b];lia
theorem MK.P9(F:MK κ a₀ g x 0):Y9 κ a₀ g x:=λi j a c=>F.dn i j a c<|`b
theorem MK.next(D:Y9 κ a₀ g x)(T:HN g x a₀.size)(hx:x<a₀.size)(h1:1<=x)(hl:κ.klt (KK κ a₀<|g x)<|KK κ a₀<|g<|x-1):MK κ a₀ g (x+1) 0 where
 le:=`b
 tl:=λk hk fi=>T k `b fi
 dn:=λi j nO hj hi=>by
  by_cases Y_:j<x
  ·show D i j nO Y_
  ·obtain rfl:j=x:=`b
   show .inl ?_
   by_cases q:i=j-1
   ·rw[q];show hl
   ·show KeyOrd.klt_of_klt_of_kle hl (D i (j-1) `b<|`b).kle
 eq:=λi hi hj=>by rw[show i=x+1-1 by lia]
set_option tactic.hygienic true in
def Sw{st:SortSt}{g:π->π}{n top:π}{Q:DescSt->SortSt->η}(r:κ.OneLt)(h0:KeysOf κ a₀)(L:top<=a₀.size)(h1:1<=n)(h2:n<=top)(B:SBase a₀ st)(G:Gh a₀ g<|arrOf st)(F:MK κ a₀ g n 0) (h:∀m q g' p,SBase a₀ p->Gh a₀ g' (arrOf p)->n<=m->m<=top->MK κ a₀ g' m q->Q (none,m,q) p):wpS `n A E s (descLoop n top) Q st:=by
 unfold descLoop;show wpS_forRange (I:=λx c t=>∃q g',c=(none,x,q)/\SBase a₀ t/\Gh a₀ g' (arrOf t)/\MK κ a₀ g' x q) ?_ ?_ {0,g,rfl,B,G,F};rintro x c t H K ⟨q,g',rfl,d,a,F'⟩;have le:=F'.le;dsimp only;show wpS_bind<|wpS_ltKK r d h0 `b `b ?_;rw[a.key<|`b,a.key<|`b];cases hl:κ.blt (KK κ a₀<|g' x) (KK κ a₀<|g'<|x-1) with|true=>(simp only[if_true];by_cases v:q>0;rw[qe v];show wpS_bind<|wpS_reverse<|wpS_pure {0,_,rfl,d.setArr<|mirror_perm _ _ _ _,a.mirror d.size<|`b,?_};show .next (F'.full<|`b) (λk hk l=>?_) `b `b ?_;rw[i5<|`b];show F'.tl k `b l;rw[i5<|`b,j7<|`b,F'.eq (x-(q+1)+x-1-(x-1)) `b<|`b];show hl;rw[qb v];obtain rfl:q=0:=`b;show wpS_pure {0,g',rfl,d,a,.next F'.P9 (λk hk l=>F'.tl k `b l) `b `b hl})|false=>simp only[Bool.false_eq_true,if_false];show wpS_bind<|wpS_ltKK r d h0 `b `b ?_;rw[a.key<|`b,a.key<|`b];cases hg:κ.blt (KK κ a₀<|g'<|x-1) (KK κ a₀<|g' x) with|true=>show wpS_pure (h x q g' t d a H `b F')|false=>have e:KK κ a₀ (g' x)=KK κ a₀ (g'<|x-1):=KeyOrd.kle_antisymm hg hl;show wpS_pure {q+1,g',rfl,d,a,{`b,λk hk l=>F'.tl k `b l,λi j J y hi=>?_,λi hi y=>?_}};by_cases C:j<x;show F'.dn i j J C `b;obtain rfl:j=x:=`b;have:=F'.dn i (j-1) `b `b `b;rcases this with z|⟨_,z⟩;show .inl (by rw[e];show z);rw[F'.tl (j-1) `b<|`b]at z;have:=a.low (m:=j-(q+1)) F'.tl `b (i:=i) `b;lia;rw[show x+1-1=x by lia];by_cases o:i=x;rw[o];rw[e];show F'.eq i `b<|`b
 rintro c t ⟨q,g',rfl,d,a,F'⟩;rw[show max n top=top by lia]at F'⊢;show h top q g' t d a h2 (zp _) F'
def KC{st:SortSt}{g:π->π}{n top:π}{Q:θ π->SortSt->η}(c:κ.OneLt)(h0:KeysOf κ a₀)(e:top<=a₀.size)(h2:n+1<=top)(B:SBase a₀ st)(G:Gh a₀ g<|arrOf st)(F:MK κ a₀ g (n+1) 0) (h:∀m g' a,SBase a₀ a->Gh a₀ g' (arrOf a)->HN g' m a₀.size->1<=m->m<=top->Eg κ a₀ g' m->Q (some m) a):wpS `n A E s (descPart n top) Q st:=by
 unfold descPart;show wpS_bind<|wpS_lift<|wpAny_rule {rfl,?_};show wpS_bind<|Sw c h0 e `b h2 B G F λm q g' a i o p l F'=>?_;have le:=F'.le;dsimp only;by_cases j:q>0;rw[qe j];show wpS_bind<|wpS_reverse<|KA c h0 e `b l (i.setArr<|mirror_perm _ _ _ _) (o.mirror i.size<|`b) (λk hk d=>?_) (F'.full<|`b) h;rw[i5<|`b];show F'.tl k `b d;rw[qb j];obtain rfl:q=0:=`b
 show KA c h0 e `b l i o (λk hk d=>F'.tl k `b d) F'.P9 h
set_option tactic.hygienic true in
def W3{st:SortSt}{g:π->π}{top:π}{Q:θ π->SortSt->η}(c:κ.OneLt)(h0:KeysOf κ a₀)(p:top<=a₀.size)(h1:1<=top)(B:SBase a₀ st)(G:Gh a₀ g<|arrOf st)(T:HN g 0 a₀.size) (h:∀m g' l,SBase a₀ l->Gh a₀ g' (arrOf l)->HN g' m a₀.size->1<=m->m<=top->Eg κ a₀ g' m->Q (some m) l):wpS `n A E s (countRun' 0 top) Q st:=by
 rw[countRun0_eq];show wpS_bind<|P8 c h0 p (zp 1) h1 B G (λk hk a=>T k `b a) (λi j x q=>by lia) λn r y U e=>?_;dsimp only;have d:∀m,HN g m a₀.size:=λm k hk a=>T k `b a;by_cases o:n=top;rw[qe<|by simpa using o];show wpS_pure<|h n g st B G (d n) r y U;rw[qb<|by simpa using o];have v:=e.resolve_left o;by_cases t:n>1;rw[qe t];show wpS_bind<|wpS_ltKK c B h0 `b `b ?_;rw[G.key<|`b,G.key<|`b];cases hr:κ.blt (KK κ a₀<|g 0) (KK κ a₀<|g<|n-1) with|true=>show wpS_pure (h n g st B G (d n) r y U)|false=>simp only[Bool.false_eq_true,if_false];have all:∀k,k<n->KK κ a₀ (g k)=KK κ a₀ (g<|n-1):=λk hk=>(by have C:κ.kle (KK κ a₀<|g 0) (KK κ a₀<|g k):=(by by_cases z:k=0;rw[z];show KeyOrd.kle_refl _;show(U 0 k `b hk).kle);have F:κ.kle (KK κ a₀<|g k) (KK κ a₀<|g<|n-1):=(by by_cases z:k=n-1;rw[z];show KeyOrd.kle_refl _;show(U k (n-1) `b<|`b).kle);show KeyOrd.kle_antisymm F<|KeyOrd.kle_trans hr C);show wpS_bind<|wpS_reverse<|KC c h0 p `b (B.setArr<|mirror_perm _ _ _ _) (G.mirror B.size<|`b) ?_ h;show .next (λi j x q=>?_) (λk hk a=>by rw[i5<|`b];show T k `b a) `b `b ?_;rw[j7<|`b,j7<|`b];show .inr {(all _<|`b).trans (all _<|`b).symm,?_};rw[T _ `b<|`b,T _ `b<|`b];lia;rw[i5<|`b,j7<|`b,all (0+n-1-(n-1))<|`b];show v
 rw[qb t];obtain rfl:n=1:=`b
 show KC c h0 p `b B G (.next (λi j x q=>by lia) (d 1) `b `b v) h
def W5{st:SortSt}{g:π->π}{n ok:π}{Q:χ->SortSt->η}(N:κ.OneLt)(h0:KeysOf κ a₀)(hn:n<=a₀.size)(aT:ok<=n)(B:SBase a₀ st)(G:Gh a₀ g<|arrOf st)(T:HN g ok a₀.size)(U:Eg κ a₀ g ok) (h:∀g' C,SBase a₀ C->Gh a₀ g' (arrOf C)->Eg κ a₀ g' n->Q true C):wpS `n A E s (binarySort' 0 n ok) Q st:=by
 rw[binarySort'_eq];simp only[Nat.zero_add];show wpS_bind<|wpS_mono (wpS_forRange (I:=λk c t=>c=(none,())/\∃g',SBase a₀ t/\Gh a₀ g' (arrOf t)/\HN g' k a₀.size/\Eg κ a₀ g' (min k n)) (Q:=λc t=>c=(none,())/\∃g',SBase a₀ t/\Gh a₀ g' (arrOf t)/\Eg κ a₀ g' n) ?_ ?_ ?_) ?_;rintro k c t X J ⟨rfl,g',e,d,v,V⟩;rw[show min k n=k by lia]at V;have hk:k<a₀.size:=`b
 show wpS_bind<|wpS_mono (wpS_forRange (I:=λx c o=>o=t/\∃l r,c=(none,l,r)/\l<=r/\r<=k/\r-l<=k-x/\(∀i,i<l->κ.kle (KK κ a₀<|g' i) (KK κ a₀<|g' k))/\(∀i,r<=i->i<k->κ.klt (KK κ a₀<|g' k) (KK κ a₀<|g' i))) (Q:=λc o=>o=t/\∃l r,c=(none,l,r)/\l<=k/\(∀i,i<l->κ.kle (KK κ a₀<|g' i) (KK κ a₀<|g' k))/\(∀i,l<=i->i<k->κ.klt (KK κ a₀<|g' k) (KK κ a₀<|g' i))) ?_ ?_ ?_) ?_;rintro x c o _ Y ⟨rfl,l,r,rfl,R,m,hm,lo,hi⟩;dsimp only;by_cases p:l>=r;rw[qe p];obtain rfl:l=r:=`b
 show wpS_pure ⟨rfl,l,l,rfl,m,lo,hi⟩;rw[qb p];show wpS_bind<|wpS_ltKK N e h0 hk `b ?_;rw[d.key hk,d.key<|`b];cases hl:κ.blt (KK κ a₀<|g' k) (KK κ a₀<|g'<|(l+r)/2) with|true=>show wpS_pure {rfl,l,(l+r)/2,rfl,`b,`b,`b,lo,λi a b=>?_};by_cases z:i=(l+r)/2;rw[z];show hl;show KeyOrd.klt_of_klt_of_kle hl (V _ _ `b b).kle|false=>show wpS_pure {rfl,(l+r)/2+1,r,rfl,`b,`b,`b,λi a=>?_,hi};by_cases z:i=(l+r)/2;rw[z];show hl;show KeyOrd.kle_trans (V i ((l+r)/2) `b<|`b).kle hl
 rintro c o ⟨rfl,l,r,rfl,R,m,hm,lo,hi⟩;obtain rfl:l=r:=`b
 show⟨rfl,l,l,rfl,m,lo,hi⟩;show{rfl,0,k,rfl,`b,`b,`b,λi hi=>by lia,λi a b=>by lia};rintro c o ⟨rfl,l,r,rfl,H,lo,hi⟩;change wpS _ _ _ _ (do moveDown' k l;pure (ForInStep.yield (none,()))) _ _;rw[moveDown'_eq];show wpS_bind<|wpS_modify<|wpS_pure {rfl,_,e.setArr<|bubble_perm _ _ _,d.bubble e.size H hk,λx RY O=>?_,?_};change N5 g' k l x=x;unfold N5;rw[qb<|`b,qb<|`b];show v x `b O;rw[show min (k+1) n=k+1 by lia];have S:∀i,i<k->g' i<k:=λi q=>d.low v `b q;have Z:=v k (zp _) hk;intro i j L P;change Log κ a₀ (N5 g' k l i) (N5 g' k l j);unfold N5;by_cases M:i=l;rw[qe M,qb<|`b,qe<|`b];show .inl<|hi _ `b `b;rw[qb M];by_cases K:j=l;rw[qe K,qb<|`b];have h1:=lo i `b;have h2:=S i `b;rw[Z]at h1⊢;show P7 h1 h2;rw[qb K];by_cases y:l<i/\i<=k<;>by_cases F:l<j/\j<=k;rw[qe y,qe F];show V _ _ `b `b;lia;rw[qb y,qe F];show V _ _ `b `b;rw[qb y,qb F];show V _ _ `b `b;rintro c t ⟨hc,g',e,d,v,V⟩;show{hc,g',e,d,?_};rwa [show min (max (max ok 1) n) n=n by lia]at V;show{rfl,g,B,G,λk hk J=>T k `b J,λi j L P=>?_};show U i j L `b;rintro c t ⟨rfl,g',e,d,V⟩;show wpS_pure<|h g' t e d V
def Sy(κ:KeyKind)(a₀:Array Keyed)(st:SortSt):Prop:=failedOf st=ϐ/\pendingOf st=#[(0,a₀.size,0)]/\∃g,(arrOf st).size=a₀.size/\Gh a₀ g (arrOf st)/\Eg κ a₀ g a₀.size
def Sz{st:SortSt}{Q:Unit->SortSt->η}(n:κ.OneLt)(h0:KeysOf κ a₀)(B:SBase a₀ st)(M:arrOf st=a₀)(h2:2<=a₀.size)(X:a₀.size<64) (h:∀i g,failedOf i=ϐ->(arrOf i).size=a₀.size->Gh a₀ g (arrOf i)->Eg κ a₀ g a₀.size->Q () i):wpS `n A E s sortRuns' Q st:=by
 have G:Gh a₀ (λk=>k) (arrOf st):={λk u=>by rw[M],λk hk=>hk,λu u u u e=>e};have d:∀(t:SortSt)(g:π->π),SBase a₀ t->Gh a₀ g (arrOf t)->Eg κ a₀ g a₀.size->Sy κ a₀ (setPending t<|(pendingOf t).push (0,a₀.size,0)):=λt g j R U=>{j.failed,by change(pendingOf t).push _=_;rw[j.pend];rfl,g,j.size,R,U};rw[sortRuns'_eq];show wpS_bind<|wpS_get ?_;dsimp only;have hm:minRun' a₀.size a₀.size 0=a₀.size:=by obtain⟨f,H⟩:∃f,a₀.size=f+1:={a₀.size-1,`b};have:minRun' (f+1) a₀.size 0=a₀.size:=(by rw[minRun'_succ,qe X];rfl);rwa [<-H]at this
 simp only[B.size,hm];show wpS_bind<|wpS_mono (wpS_forRange (I:=λx c t=>(x=0/\c=(none,0)/\t=st)\/(1<=x/\c=(none,a₀.size)/\Sy κ a₀ t)) (Q:=λc t=>c=(none,a₀.size)/\Sy κ a₀ t) ?_ ?_<|.inl ⟨rfl,rfl,rfl⟩) ?_;rintro x c t _ hx (⟨rfl,rfl,rfl⟩|⟨Z,rfl,D⟩);dsimp only;rw[qb<|`b];simp only[Nat.sub_zero,Nat.min_self,Nat.zero_add];show wpS_bind<|W3 n h0 (zp _) `b B G (λu u u=>rfl) λm C a l v O J N r=>?_;dsimp only;by_cases q:m<a₀.size;rw[qe q];show wpS_bind<|wpS_lift<|wpAny_rule {rfl,?_};show wpS_bind<|W5 n h0 (zp _) N l v O r λP p o K S=>?_;simp only[Bool.not_true,Bool.false_eq_true,if_false];show wpS_bind<|wpS_get ?_;rw[show(pendingOf p).back?=none by rw[o.pend];rfl];dsimp only;show wpS_bind<|wpS_modify<|wpS_pure<|.inr {`b,rfl,d p P o K S};rw[qb q];obtain rfl:m=a₀.size:=`b
 show wpS_bind<|wpS_get ?_;rw[show(pendingOf a).back?=none by rw[l.pend];rfl];dsimp only;show wpS_bind<|wpS_modify<|wpS_pure<|.inr {`b,rfl,d a C l v r};dsimp only;rw[qe<|zp _];show wpS_pure ⟨rfl,D⟩;rintro c t (⟨hx,_,_⟩|⟨_,hc,D⟩);lia;show⟨hc,D⟩;rintro c t ⟨rfl,D⟩;dsimp only;let⟨d1,y,g,Y,F,L⟩:=D;show wpS_bind<|wpS_mono (wpS_forRange (I:=λu c a=>a=t/\c=(none,())) (Q:=λc a=>a=t/\c=(none,())) ?_ (λu u z=>z) ⟨rfl,rfl⟩) ?_;rintro x c a _ _ ⟨rfl,rfl⟩;show wpS_bind<|wpS_get ?_;rw[qe<|by rw[y];show zp 1];show wpS_pure ⟨rfl,rfl⟩;rintro c a ⟨rfl,rfl⟩;show wpS_pure<|h _ g d1 Y F L
end
noncomputable abbrev v_(X:Cx)(qual:ρ)(scope:Scope)(L f:ε)(cv:ξ):Env:=envX qual scope L f cv<|clOf X.env.cells scope.names
noncomputable def UE(X:Cx)(N:δ ρ)(qual:ρ)(scope:Scope)(f:ε)(cv:ξ)(A:ϕ)(s:ζ)(H:Hp):Cx:={X with A:=A.deeper<|v_ X qual scope s.heap.objs.size f cv,N:=N,du:=s,nL:=H,env:=v_ X qual scope s.heap.objs.size f cv,outer:=X.stack,stack:=v_ X qual scope s.heap.objs.size f cv::X.stack,ex:=[],fn:=λz=>false,calm:=true,pn:=[],xe:=λz z=>False}
noncomputable abbrev y9(X:Cx)(qual:ρ)(params:Arguments)(body:Δ)(scope:Scope)(pm cv jC:ξ):Obj:={cls:=.type "function",data:=.func<|kla_fn "<lambda>" qual params body scope `i pm cv jC}
section
variable{X:Cx}{qg:δ (ε×Obj)}{σ:St}{H:Hp}{s:ζ}{N:δ ρ}{src:δ (θ π)}{scope:Scope}{params:Arguments}{body:Δ}{qual p:ρ}{pm cv jC u:ξ}{f:ε}{A:ϕ}{v:V}{te:TE}{Q:VK}
def N6(I:Inv X qg σ H s)(S:bI X N src scope)(t:N[0]?=some p)(F:scope.names.lookup p=ϑ .local)(h0:src[0]?=some none)(M:A.frames=ϑ X.stack)(K:A.handled=ϐ)(r:RelV v u) (L:h₁.Ns s.heap.objs.size λx=>[(p,u)].reverse.lookup x) (a:∀b o,s.heap.get? b=ϑ o->h₁.get? b=ϑ o): Inv (UE X N qual scope f cv A s H) [] ((pick σ src).set 0<|some v) H {s with heap:=h₁,toks:=tk}:=by
 have d:∀x c,(clOf X.env.cells scope.names).lookup x=ϑ c->X.env.cells.lookup x=ϑ c:=oR X.env.cells scope.names [] (by intro x c h;simp at h);have m:∀b:ε,b∉(UE X N qual scope f cv A s H).ex:=λb z=>absurd (show b∈([]:δ ε) from z) `d;have vS:∀x,scope.names.lookup x=ϑ .free->∃c,(clOf X.env.cells scope.names).lookup x=ϑ c:=λx hl=>by have hm:=zX hl;let⟨c,g⟩:=I.ok.has x<|S.vS _ hm rfl;show{c,ik X.env.cells scope.names [] x c (by intro x c h;simp at h) hm g}
 show{{I.ok.mod,S.kind,rfl,rfl,zp _,λx y c h1 h2=>I.ok.inj x y c (d _ _ h1)<|d _ _ h2,λx hk=>?_,λx c h=>(nomatch h),λZ=>K,Around.frames_deeper M,.inr ⟨rfl,rfl⟩,λb z=>absurd z<|m b,I.bs,zM I.ok.Fl I.sz,λb Z Z=>m b,λb z=>absurd z<|m b,I.stack,I.sU},rfl,I.bare,Un.kept a,{_,L,λi x w e1 e2 e3=>?_},λx c e=>?_,I.aT.fresh<|zp _,λx c e=>I.eP x c<|d x c e,λq G=>absurd (show q∈([]:δ (ε×Obj)) from G)<|`d,I.aT.kept a,?_};have hk:scope.names.lookup x=ϑ .cell\/scope.names.lookup x=ϑ .free:=hk;rcases hk with hk|hk;show absurd rfl<|S.fX _<|zX hk;show vS x hk;have e1:N[i]?=some x:=e1;by_cases hi:i=0;subst hi;rw[t]at e1;cases e1;have hl:0<(pick σ src).length:=by unfold pick;rw[zc];show(zu.mp h0).1
 rw[List.getElem?_set_self hl]at e2;cases e2;show{u,r,.inl {F,by simp[zL]}};rw[List.getElem?_set_ne<|Ne.symm hi]at e2;unfold pick at e2;rw[zA]at e2;cases es:src[i]? with|none=>(rw[es]at e2;cases e2)|some o=>rw[es]at e2;cases o with|none=>(cases e2)|some j=>have e3:(σ[j]?).join=ϑ w:=zU e2;have e4:σ[j]?=some (some w):=(by cases q:σ[j]? with|none=>(rw[q]at e3;cases e3)|some z=>rw[q]at e3;show congrArg some e3);let⟨E,n,C⟩:=S.src i j x es e1;let⟨O,_,hl⟩:=I.loc;let⟨J,B,l⟩:=hl j x w E e4 C;have hm:=zX n;have hk:=S.vS _ hm rfl;rcases l with⟨k,_⟩|⟨_,c,g,⟨o,ho,hd⟩⟩;rcases hk with hk|hk<;>(rw[k]at hk;cases hk);show{J,B,.inr {.inr n,c,ik X.env.cells scope.names [] x c (by intro x c h;simp at h) hm g,o,a _ _ ho,hd}}
 let⟨w,o,ho,hd⟩:=I.cell x c<|d x c e;show{w,o,a _ _ ho,hd};change((pick σ src).set 0<|some v).length=N.length;unfold pick;rw[List.length_set,zc,S.len]
def KH(I:Inv X qg σ H s)(S:bI X N src scope)(i:N[0]?=some p)(d:scope.names.lookup p=ϑ .local)(h0:src[0]?=some none)(F:A.frames=ϑ X.stack)(j:A.handled=ϐ)(n:A.depth<recursionLimit)(r:RelV v u) (ho:s.heap.get? f=ϑ (y9 X qual params body scope pm cv jC)) (g:s.heap.CodeRec cv qual) (l:scope.isCoroutine=ϰ) (m:scope.isGenerator=ϰ) (C:bindArgs (kla_fn "<lambda>" qual params body scope `i pm cv jC) {[u],[]}=pure [(p,u)]) (E:PE (UE X N qual scope f cv A s H) body te) (h:te ((pick σ src).set 0<|some v) H Q): codeAny `m A (.call (.ref f) {[u],[]}) (λq s'=>∃w,q=.ok (.ret w)/\CE X.stack X.prog X.w H s Q w s') s:=by show kla_callFunE n ho rfl l m rfl g ?_;change wpAny _ _ (bindArgs (kla_fn "<lambda>" qual params body scope `i pm cv jC) {[u],[]}) _ _ _;rw[C];show zm<|wpAny_newFunctionEnv S.fX (λx hx=>?_) (λt y c=>{I.nolimit.fresh _ c,?_}) S.kind;rw[zx.mp hx];show d;have a:∀b o,s.heap.get? b=ϑ o->t.get? b=ϑ o:=λb o e=>c.extBut b o (zC<|zy e)<|zb _ e;change codeAny _ _ (.expr body<|v_ X qual scope s.heap.objs.size f cv) _ _;show kla_codeExpr<|yh (E [] _ _ H Q (N6 I S i d h0 F j r y a) h) (by rintro w s' ⟨x,H',J,B,q⟩;show⟨w,rfl,x,H',J.os,J.bare,J.base,J.aT,B,q⟩) λk k z=>z.elim
end
@[reducible] def intK:KeyKind where
 α:=ν
 blt a b:=ω<|a<b
 irrefl a:=`d
 trans a b c h1 h2:=by simp only[yp]at *;lia
 negTrans a b c h:=by simp only[yp]at *;lia
 total a b h1 h2:=by simp only[decide_eq_false_iff_not]at *;lia
 keyOf v:=match v with|.int x _=>some x|_=>none
 dflt:=0
def KL:intK.OneLt:=by intro prog w A E s x y a b Q ha c h;cases x<;>simp only[intK,reduceCtorEq,Option.some.injEq]at ha;cases y<;>simp only[intK,reduceCtorEq,Option.some.injEq]at c;cases ha;cases c;show oneLt_int h
structure Zc(κ:KeyKind)(b:χ)(key:π->κ.α)(n:π)(g:π->π):η where
 lt:∀k,k<n->g k<n
 inj:∀i j,i<n->j<n->g i=g j->i=j
 ord:∀i j,i<j->j<n->(if b=ϱ then κ.klt (key<|g j) (key<|g i) else κ.klt (key<|g i) (key<|g j))\/(key (g i)=key (g j)/\g i<g j)
noncomputable def kC(κ:KeyKind)(us:δ ξ)(j:π):κ.α:=(κ.keyOf<|us.getD j .none).getD κ.dflt
def KN{us vs:δ ξ}(hl:us.length=vs.length){j:π}(a:j<vs.length):`h[j]?=some (us.getD j .none,vs.getD j .none):=by have e:(us.zip vs)[j]?=some (us.getD j .none,vs.getD j .none):=List.getElem?_zip_eq_some.mpr {by change us[j]?=some (us.getD j .none);rw[zJ,zg<|`b];rfl,by change vs[j]?=some (vs.getD j .none);rw[zJ,zg a];rfl};rw[<-Array.getElem?_toList,ksk_zip,List.toList_toArray];show e
def y_{κ:KeyKind}{us vs:δ ξ}(hl:us.length=vs.length){j:π}(a:j<vs.length):KK κ `h j=kC κ us j:=by unfold KK kC;rw[KN hl a]
def B0{l m:δ ξ}{n:π}(h1:l.length=n)(h2:m.length=n)(h:∀k,k<n->l[k]?=m[k]?):l=m:=by apply List.ext_getElem?;intro k;by_cases hk:k<n;show h k hk;rw[List.getElem?_eq_none<|`b,List.getElem?_eq_none<|`b]
section
variable{prog:Ψ}{w:Ω}{A:ϕ}{E:ξ->ζ->η}{s:ζ}{a kS:ε}{b:χ}{us vs:δ ξ}{e e1:π}{P:PySem.Fin->ζ->η}{κ:KeyKind}
def FX{st:SortSt}{keys:Array ξ}(hk:s.heap.get? kS=ϑ (seqObj "list" keys e))(ha:s.heap.get? a=ϑ (seqObj "list" #[] e1))(m:kS≠a)(hz:keys.size<64)(j:(arrOf st).size<64)(l:failedOf st=ϐ) (h:∀h' c,(∀b o,b≠a->b≠kS->s.heap.get? b=ϑ o->h'.get? b=ϑ o)->h'.get? a=ϑ (seqObj "list" (if b then ((arrOf st).map (·.2)).reverse else (arrOf st).map (·.2)) c)->P (.done<|.ret .none) {s with heap:=h'}): wpAny `n A (ksk_tail a b e1 (.ref kS) st) P E s:=by
 have s1:=yy s.heap kS<|Obj.mapSeq λz=>(#[]:Array ξ);have d:(s.heap.update kS<|Obj.mapSeq λz=>(#[]:Array ξ)).get? a=ϑ (seqObj "list" #[] e1):=(s1.2 a m.symm).trans ha;have g:∀o:Array ξ,o=(if b then ((arrOf st).map (·.2)).reverse else (arrOf st).map (·.2))->o.size<64:=by rintro o rfl;cases b with|false=>rw[qb zd,Array.size_map];show j|true=>rw[qe rfl,Array.size_reverse,Array.size_map];show j
 generalize ho:(if b then ((arrOf st).map (·.2)).reverse else (arrOf st).map (·.2))=out at h g;have g:=g out rfl;have s2:=yy (s.heap.update kS<|Obj.mapSeq λz=>(#[]:Array ξ)) a<|Obj.mapSeq λz=>out;obtain⟨i,n⟩:∃i,((s.heap.update kS<|Obj.mapSeq λz=>(#[]:Array ξ)).update a<|Obj.mapSeq λz=>out).get? a=ϑ (seqObj "list" out i):={_,get?_update_seq d λz=>out};unfold ksk_tail;try dsimp only
 show za<|listUpdate_at hk rfl ?_ (by rw[zZ];lia)<|yf _;show za<|wpAny_letGo ?_;show za<|seqEpoch_at d rfl ?_;rw[ho];show za<|listUpdate_at d rfl ?_ (yf _)<|zM (yL g) (by rw[zZ];lia);rw[l];simp only[bne_self_eq_false,Bool.false_eq_true,if_false];show zm<|h _ i (λb o h1 h2 q=>(s2.2 b h1).trans<|(s1.2 b h2).trans q) n
def KO{xs:Array Keyed}{g:π->π}(hl:us.length=vs.length)(hs:xs.size=vs.length) (G:Gh (if b=ϱ then (us.toArray.zip vs.toArray).reverse else us.toArray.zip vs.toArray) g xs) (U:Eg κ (if b=ϱ then (us.toArray.zip vs.toArray).reverse else us.toArray.zip vs.toArray) g vs.length): ∃g',Zc κ b (kC κ us) vs.length g'/\(if b then (xs.map (·.2)).reverse else xs.map (·.2)).toList=(List.range vs.length).map λk=>vs.getD (g' k) .none:=by
 have a:(us.toArray.zip vs.toArray).size=vs.length:=by rw[Array.size_zip,zl,zl,hl,Nat.min_self]
 have h:∀k,k<vs.length->`h[k]?=some (us.getD k .none,vs.getD k .none):=λk hk=>KN hl hk;cases b with|false=>rw[qb zd]at G U;show{g,{λk hk=>by have:=G.lt k (by rw[a];show hk);rwa [a]at this,λi j hi d=>G.inj i j (by rw[a];show hi)<|by rw[a];show d,λi j m d=>?_},?_};have h1:=G.lt i (by rw[a];lia);have h2:=G.lt j (by rw[a];lia);rw[a]at h1 h2;have:=U i j m d;unfold Log at this;rw[y_ hl h1,y_ hl h2]at this;rw[qb zd];show this;rw[qb zd];show B0 (n:=vs.length) (by rw[yi,Array.size_map,hs]) `d λk hk=>?_;have h1:=G.lt k (by rw[a];lia);rw[a]at h1;rw[Array.getElem?_toList,Array.getElem?_map,G.at_ k<|by rw[a];show hk,h _ h1,zA,List.getElem?_range hk];rfl|true=>rw[qe rfl]at G U;have l:(us.toArray.zip vs.toArray).reverse.size=vs.length:=(by rw[Array.size_reverse,a]);have lt:∀k,k<vs.length->g k<vs.length:=λk hk=>(by have:=G.lt k (by rw[l];show hk);rwa [l]at this);have c:∀k,k<vs.length->(us.toArray.zip vs.toArray).reverse[k]?=`h[vs.length-1-k]?:=λk hk=>(by rw[Array.getElem?_reverse<|by rw[a];show hk,a]);show{λk=>vs.length-1-g (vs.length-1-k),{λk hk=>by have:=lt (vs.length-1-k) `b;lia,λi j hi d e=>?_,λi j m d=>?_},?_};have h1:=lt (vs.length-1-i) `b;have h2:=lt (vs.length-1-j) `b;have:=G.inj (vs.length-1-i) (vs.length-1-j) (by rw[l];lia) (by rw[l];lia) `b;lia;have h1:=lt (vs.length-1-i) `b;have h2:=lt (vs.length-1-j) `b;have:=U (vs.length-1-j) (vs.length-1-i) `b `b;unfold Log at this;have e1:KK κ (us.toArray.zip vs.toArray).reverse (g<|vs.length-1-i)=kC κ us (vs.length-1-g (vs.length-1-i)):=(KK_congr<|c _ h1).trans<|y_ hl `b;have e2:KK κ (us.toArray.zip vs.toArray).reverse (g<|vs.length-1-j)=kC κ us (vs.length-1-g (vs.length-1-j)):=(KK_congr<|c _ h2).trans<|y_ hl `b;rw[e1,e2]at this;rw[qe rfl];rcases this with z|⟨z1,z2⟩;show .inl z;show .inr {z1.symm,`b};rw[qe rfl];show B0 (n:=vs.length) (by rw[yi,Array.size_reverse,Array.size_map,hs]) `d λk hk=>?_;have h1:=lt (vs.length-1-k) `b;rw[Array.getElem?_toList,Array.getElem?_reverse<|by rw[Array.size_map,hs];show hk,Array.size_map,hs,Array.getElem?_map,G.at_ _<|by rw[l];lia,c _ h1,h _<|`b,zA,List.getElem?_range hk];rfl
def SF(H:κ.OneLt)(hk:s.heap.get? kS=ϑ (seqObj "list" us.toArray e))(ha:s.heap.get? a=ϑ (seqObj "list" #[] e1))(C:kS≠a)(hl:us.length=vs.length)(S:vs.length<64)(h0:∀u∈us,∃x,κ.keyOf u=ϑ x) (r:∀qF qG rest,us=qF::qG::rest->keyKind' (qF::qG::rest).toArray=pure oneType') (h:∀h' c g out,(∀b o,b≠a->b≠kS->s.heap.get? b=ϑ o->h'.get? b=ϑ o)->h'.get? a=ϑ (seqObj "list" out c)->Zc κ b (kC κ us) vs.length g->out.toList=(List.range vs.length).map (λk=>vs.getD (g k) .none)->P (.done<|.ret .none) {s with heap:=h'}): wpAny `n A (ksk_end a b vs.toArray e1 (.ref kS) us.toArray) P E s:=by
 have z:(us.toArray.zip vs.toArray).size=vs.length:=by rw[Array.size_zip,zl,zl,hl,Nat.min_self]
 have step:∀t:Sem PySem.Fin,wpAny `n A t P E s->wpAny `n A (if b=ϱ then (do let _ <-rule "list.sort.reverse";t) else t) P E s:=by intro t B;split;show za<|wpAny_rule B;show B
 have l:(if b=ϱ then (us.toArray.zip vs.toArray).reverse else us.toArray.zip vs.toArray).size=vs.length:=by cases b with|false=>show z|true=>rw[qe rfl,Array.size_reverse,z]
 have keys:KeysOf κ (if b=ϱ then (us.toArray.zip vs.toArray).reverse else us.toArray.zip vs.toArray):=λp m=>by have m:p∈us.zip vs:=(by have e2:(us.toArray.zip vs.toArray).toList=us.zip vs:=(by rw[ksk_zip]);cases b with|false=>rw[qb zd,e2]at m;show m|true=>rw[qe rfl,Array.toList_reverse,e2]at m;show List.mem_reverse.mp m);let⟨x,y⟩:=p;show h0 _ (List.of_mem_zip m).1
 unfold ksk_end;try dsimp only
 show step _ ?_;by_cases h2:vs.toArray.size<2;{rw[qe h2,qe h2];show za<|zm ?_;rw[StateT.run_pure];show za<|zm ?_;(try dsimp only);rw[zl]at h2;show FX (st:=SortSt.mk' general' (if b=ϱ then (us.toArray.zip vs.toArray).reverse else us.toArray.zip vs.toArray) #[] 7 none) hk ha C (by rw[zl];lia) (by change(if b=ϱ then (us.toArray.zip vs.toArray).reverse else us.toArray.zip vs.toArray).size<64;lia) rfl λh' c k1 k2=>?_;let⟨g,q,g2⟩:=KO (κ:=κ) (b:=b) (xs:=if b=ϱ then (us.toArray.zip vs.toArray).reverse else us.toArray.zip vs.toArray) (g:=λk=>k) hl l {λi i=>rfl,λi hk=>hk,λi i i i e=>e} (λi j R O=>by lia);show h h' c g _ k1 k2 q g2};{rw[qb h2,qb h2];rw[zl]at h2;obtain⟨qF,qG,rest,v⟩:∃qF qG rest,us=qF::qG::rest:=(by match us,hl with|[],hl=>simp at hl;lia|[_],hl=>simp at hl;lia|qF::qG::rest,_=>show⟨qF,qG,rest,rfl⟩);have K:keyKind' us.toArray=pure oneType':=(by rw[v];show r _ _ _ v);rw[K];show za<|zm ?_;show za<|yh (Sz (κ:=κ) H (a₀:=if b=ϱ then (us.toArray.zip vs.toArray).reverse else us.toArray.zip vs.toArray) (st:=SortSt.mk' oneType' (if b=ϱ then (us.toArray.zip vs.toArray).reverse else us.toArray.zip vs.toArray) #[] 7 none) (Q:=λi n=>failedOf n=ϐ/\(arrOf n).size=vs.length/\∃g,Gh (if b=ϱ then (us.toArray.zip vs.toArray).reverse else us.toArray.zip vs.toArray) g (arrOf n)/\Eg κ (if b=ϱ then (us.toArray.zip vs.toArray).reverse else us.toArray.zip vs.toArray) g vs.length) keys {Array.Perm.refl _,rfl,rfl,rfl} rfl `b `b λn g M L N F=>{M,L.trans l,g,N,by rw[l]at F;show F}) ?_ λi i e=>e;rintro⟨⟨⟩,n⟩ s' ⟨rfl,J,d,g,G,U⟩;(try dsimp only);have d:(arrOf n).size=vs.length:=d;show FX hk ha C (by rw[zl];lia) `b J λh' c k1 k2=>?_;let⟨I,q,g2⟩:=KO (κ:=κ) hl d G U;show h h' c I _ k1 k2 q g2}
end
structure P_(X:Cx)(qg:δ (ε×Obj))(b:ε):η where
 loc:b≠X.env.locals
 fs:b∉X.fs
 cell:∀x c,X.env.cells.lookup x=ϑ c->c≠b
 pin:∀p∈X.pn++qg,p.1≠b
 new:X.du.heap.objs.size<=b
section
variable{X:Cx}{qg:δ (ε×Obj)}{σ:St}{H:Hp}{s:ζ}
theorem Inv.Zd(I:Inv X qg σ H s)(h:s.heap.objs.size<=b):P_ X qg b:={yj<|zq I.lt h,I.U7 h,λx c e=>by let⟨v,q⟩:=I.cell x c e;show zC<|zq q.lt h,λp a=>zC<|zq (zy (I.pin p a).1) h,zM I.sz h}
def Inv.N8(I:Inv X qg σ H s)(kp:∀b o,b≠a->b≠k->s.heap.get? b=ϑ o->h'.get? b=ϑ o)(ha:H a=ϐ)(hk:H k=ϐ)(g:P_ X qg a)(d:P_ X qg k):Inv X qg σ H {s with heap:=h',toks:=t'}:=by have h:∀b u,H b=ϑ u->b≠a/\b≠k:=λb u e=>{λz=>(by rw[z,ha]at e;cases e),λz=>(by rw[z,hk]at e;cases e)};show I.step (g':=s.gens) (d':=s.drawn) (ch:=[a,k]) (λb i=>?_) (λb o x x hc e x=>kp b o (λz=>hc<|by simp[z]) (λz=>hc<|by simp[z]) e) (λb o x x hc e x=>{o.slots,kp b o (λz=>hc<|by simp[z]) (λz=>hc<|by simp[z]) e}) (λx x x x n=>n) (λb o hc e=>{o,kp b o (λz=>hc<|by simp[z]) (λz=>hc<|by simp[z]) e}) (λx x e=>e) (λx x x e=>e) (λb ps e=>{#[],by rw[e];simp}) (λm hm=>?_) (λb u e=>?_) I.bare;simp only[ze,zt,or_false]at i;rcases i with rfl|rfl;show{.inr g.new,g.loc,g.cell,g.pin};show{.inr d.new,d.loc,d.cell,d.pin};let⟨o,es,ep,ho,r⟩:=hm;show{o,es,ep,kp _ o (Ne.symm g.loc) (Ne.symm d.loc) ho,r};show(I.aT b u e).oI (λc v hc q=>?_) (λx q=>q) λx x q=>q;rcases hc with z|z;rw[z]at q⊢;show kp b v (h b u e).1 (h b u e).2 q;show kp c v (h c _ z).1 (h c _ z).2 q
def Inv.W6(I:Inv X qg σ H s)(ha:H a=ϐ)(A:P_ X qg a)(new:bM X.prog X.w (upd H a o) s.heap a o):Inv X qg σ (upd H a o) s:=by show I.step (h':=s.heap) (g':=s.gens) (d':=s.drawn) (t':=s.toks) (ch:=[a]) (λb d=>?_) (λb o x x hc e x=>e) (λb o x x hc e x=>⟨o.slots,e⟩) (λb u hc e n=>?_) (λb o hc e=>⟨o,e⟩) (λb xs e=>?_) (λb u v e=>?_) (λb ps e=>?_) (λm hm=>hm) (λb u e=>?_) I.bare;rw[zx.mp d];show{.inr A.new,A.loc,A.cell,A.pin};rw[ay λz=>hc<|by simp[z]];show n;rw[ay<|aD e ha];show e;rw[ay<|aD e ha];show e;show{#[],by rw[ay<|aD e ha,e];simp};by_cases d:b=a;subst d;rw[aR]at e;cases e;show new;rw[ay d]at e;show(I.aT b u e).oI (λc v x q=>q) (λc q=>by rw[ay<|aD q ha];show q) λc xs q=>by rw[ay<|aD q ha];show q
end
def KP(X:Cx)(qg:δ<|ε×Obj)(σ:St)(A:ϕ)(f:ε)(xs:δ V)(W:π->δ V->Hp->η):Prop:=∀i x u ks s' H' more,Inv X (qg++more) σ H' s'->W i ks H'->xs[i]?=some x->RelV x u->codeAny `m A (.call (.ref f) {[u],[]}) (λq xR=>∃w,q=.ok (.ret w)/\CE X.stack X.prog X.w H' s' (λk a=>W (i+1) (ks++[k]) a) w xR) s'
structure Qa(κ:KeyKind)(us:δ ξ):η where
 all:∀u∈us,∃x,κ.keyOf u=ϑ x
 kind:∀qF qG rest,us=qF::qG::rest->keyKind' (qF::qG::rest).toArray=pure oneType'
section
variable{X:Cx}{qg:δ (ε×Obj)}{σ:St}{H:Hp}{s:ζ}{A:ϕ}{E:ξ->ζ->η}{xs:δ V}{vs:δ ξ}{f:ε}{b:χ}{κ:KeyKind}{W:π->δ V->Hp->η}
def HP{P:PySem.Fin->ζ->η}(hO:κ.OneLt)(I:Inv X qg σ H s)(ha:s.heap.get? a=ϑ (seqObj "list" #[] e1))(hk:s.heap.get? kS=ϑ (seqObj "list" #[] 0))(U:kS≠a)(na:H a=ϐ)(nk:H kS=ϐ)(R:P_ X qg a)(F:P_ X qg kS) (S:Vals xs vs) (Je:vs.length<64) (T:KP X qg σ A f xs W) (w0:W 0 [] H) (G:∀ks us H',W vs.length ks H'->Vals ks us->ks.length=vs.length->Qa κ us) (h:∀s' H' ks us c g out,Inv X qg σ H' s'->H' a=ϐ->s'.heap.get? a=ϑ (seqObj "list" out c)->W vs.length ks H'->Vals ks us->ks.length=vs.length->Zc κ b (kC κ us) vs.length g->out.toList=(List.range vs.length).map (λk=>vs.getD (g k) .none)->P (.done<|.ret .none) s'): wpAny `m A (ksk_rest a (.ref f) b vs.toArray e1<|.ref kS) P E s:=by
 have Z:∀(k:Array ξ) (n:π) (v:θ ξ),(seqObj "list" k n).data≠.cell v:=λr r r z=>nomatch z;unfold ksk_rest;show za<|wpAny_rule ?_;rw[List.forIn_toArray];show za<|ksk_fold (λi s'=>∃ks kA e H',Inv X qg σ H' s'/\W i ks H'/\Vals ks kA.toList/\ks.length=i/\H' a=ϐ/\H' kS=ϐ/\s'.heap.get? a=ϑ (seqObj "list" #[] e1)/\s'.heap.get? kS=ϑ (seqObj "list" kA e)) vs 0 s {[],#[],0,H,I,w0,.nil,rfl,na,nk,ha,hk} ?_ ?_;rintro j x s' hx ⟨ks,kA,e,H',d,L,K,J,O,B,C,M⟩;simp only[Nat.zero_add]at J L⊢;have hj:j<vs.length:=(zu.mp hx).1;have hl:xs.length=vs.length:=S.length;obtain⟨y,hy⟩:∃y,xs[j]?=some y:={_,zg<|`b};let⟨u,hu,ru⟩:=S.get hy;rw[hx]at hu;cases hu;have Y:Inv X (qg++[(a,seqObj "list" #[] e1),(kS,seqObj "list" kA e)]) σ H' s':=by show{d.ok,d.os,d.bare,d.base,d.loc,d.cell,d.free,d.eP,λp m=>?_,d.aT,d.len};rcases zN.mp m with m|m;show d.pin p<|zW _ m;rcases zN.mp m with m|m;show d.pin p<|zB _ m;simp only[ze,zt,or_false]at m;rcases m with rfl|rfl;show{C,O,R.loc,R.fs,Z _ _};show{M,B,F.loc,F.fs,Z _ _}
 have hz:kA.size=j:=by have h1:ks.length=kA.toList.length:=K.length;have h2:kA.toList.length=kA.size:=yi;lia
 show za<|wpAny_attempt<|wpAny_call<|yJ (T j y x ks s' H' _ Y L hy ru) λr s2 hq=>?_;let⟨w,rfl,ce⟩:=hq;let⟨k,H2,l,rk,w2⟩:=Y.after ce;dsimp only;have pa:=l.pin (a,seqObj "list" #[] e1)<|zB _<|zB _ `d;have N:=l.pin (kS,seqObj "list" kA e)<|zB _<|zB _ `d;have I3:Inv X qg σ H2 s2:={l.ok,l.os,l.bare,l.base,l.loc,l.cell,l.free,l.eP,λp m=>l.pin p<|by rcases zN.mp m with z|z;show zW _ z;show zB _<|zW _ z,l.aT,l.len};have s1:=yy s2.heap kS (Obj.mapSeq (·.push w));obtain⟨Q,Nk⟩:∃Q,(s2.heap.update kS (Obj.mapSeq (·.push w))).get? kS=ϑ (seqObj "list" (kA.push w) Q):={_,get?_update_seq N.1 (·.push w)};show za<|listUpdate_at N.1 rfl ?_ (by rw[zZ];lia)<|zM (Nat.le_of_eq<|Array.size_push ..) (by rw[zZ];lia);show zm {rfl,ks++[k],kA.push w,Q,H2,I3.turned (t':=s2.toks) (it:=kS) (λb o hb q=>(s1.2 b hb).trans q) N.2.1 F.loc (.inr F.new) F.cell F.pin,w2,?_,by simp[J],pa.2.1,N.2.1,(s1.2 a U.symm).trans pa.1,Nk};rw[show(kA.push w).toList=kA.toList++[w] by simp];show K.append<|.cons rk .nil;rintro s' ⟨ks,kA,e,H',d,L,K,J,O,B,C,M⟩;simp only[Nat.zero_add]at J L;show za<|listItems_at M rfl ?_;have eA:kA=kA.toList.toArray:=`d
 have t:=G ks kA.toList H' L K J;have hl:kA.toList.length=vs.length:=by have h1:ks.length=kA.toList.length:=K.length;lia
 rw[eA]at M;change wpAny _ _ (ksk_end a b vs.toArray e1 (.ref kS) kA) _ _ _;rw[eA];show SF (κ:=κ) hO M C U hl Je t.all t.kind λh' c g out k1 k2 k3 k4=>?_;show h _ H' ks kA.toList c g out (d.N8 (t':=s'.toks) k1 O B R F) O k2 L K J k3 k4
def xm(L:κ.OneLt)(I:Inv X qg σ H s)(hl:kZ X.K H l xs)(C:xs.length<64)(U:argsOk "sorted" {[.ref l],kw})(Zh:∀x,argsOk "list.sort" {[.ref x],kw})(P:∀x,Builtin.«list.sort» {[.ref x],kw}=ksk_tree x (.ref f) b) (T:KP X qg σ A.in1.in1 f xs W) (O:W 0 [] H) (G:∀ks us H',W xs.length ks H'->Vals ks us->ks.length=xs.length->Qa κ us) (h:∀H' ks us g D,W xs.length ks H'->Vals ks us->ks.length=xs.length->Zc κ b (kC κ us) xs.length g->H' D=ϐ->Q (.ref D) (upd H' D<|.lst<|(List.range xs.length).map λk=>xs.getD (g k) .ao)): wpAny `m A (call (.builtin "sorted") [.ref l] kw) (EP X qg σ Q) E s:=by
 let⟨vs,v,Y,_⟩:=I.list hl;have UG:xs.length=vs.length:=v.length;rw[UG]at C G h;show call_function_entry_kw kind_sorted plain_sorted entry_sorted U ?_;unfold Builtin.«sorted»;show za (m:=checkCount "sorted" 1 1 _)<|zm ?_;show za<|collect_list Y.isList ?_ (by rw[zZ];lia);show za<|wpAny_newList ?_ (by rw[zZ];lia);have d:((s.heap.push<|seqObj "list" #[] 0).update s.heap.objs.size (Obj.mapSeq (·++vs.toArray))).objs.size=s.heap.objs.size+1:=by rw[Heap.size_update,size_push']
 have i:(((s.heap.push<|seqObj "list" #[] 0).update s.heap.objs.size (Obj.mapSeq (·++vs.toArray))).push<|seqObj "list" vs.toArray 0).get? `l=ϑ (seqObj "list" vs.toArray 0):=by rw[<-d];show zr _ rfl
 have keep:∀b o,s.heap.get? b=ϑ o->(((s.heap.push<|seqObj "list" #[] 0).update s.heap.objs.size (Obj.mapSeq (·++vs.toArray))).push<|seqObj "list" vs.toArray 0).get? b=ϑ o:=λb o q=>by have r:b<s.heap.objs.size:=zy q;rw[Heap.get?_push_ne _ _ _<|by rw[d];show zC<|Nat.lt_succ_of_lt r,Heap.get?_update_ne _ _ _ _<|zC r,Heap.get?_push_ne _ _ _<|zC r];show q
 change wpAny _ _ _ _ _ {s with heap:=((s.heap.push<|seqObj "list" #[] 0).update s.heap.objs.size (Obj.mapSeq (·++vs.toArray))).push<|seqObj "list" vs.toArray 0};rw[d];generalize hg:((s.heap.push<|seqObj "list" #[] 0).update s.heap.objs.size (Obj.mapSeq (·++vs.toArray))).push (seqObj "list" vs.toArray 0)=h1 at i keep⊢;have R:Inv X qg σ H {s with heap:=h1}:=I.kept (t':=s.toks) keep;have e:P_ X qg `l:=I.Zd<|yS _;have t:H `l=ϐ:=I.aT.fresh<|yS _;generalize s.heap.objs.size+1=a at i e t⊢;show za<|yF<|wpAny_call_entry_kw slot_list_sort {_,i,rfl} entry_list_sort ?_<|Zh _;change wpAny `m A.in1.in1 (Builtin.«list.sort» {[.ref a],kw}) _ _ _;rw[P a];have s1:=yy h1 a<|Obj.mapSeq λV=>(#[]:Array ξ);obtain⟨e1,n⟩:∃e1,(h1.update a<|Obj.mapSeq λV=>(#[]:Array ξ)).get? a=ϑ (seqObj "list" #[] e1):={_,get?_update_seq i λV=>#[]};have j:Inv X qg σ H {s with heap:=h1.update a<|Obj.mapSeq λV=>(#[]:Array ξ)}:=Inv.turned (s:={s with heap:=h1}) (h':=h1.update a<|Obj.mapSeq λV=>(#[]:Array ξ)) (t':=s.toks) (it:=a) R (λb o hb q=>(s1.2 b hb).trans q) t e.loc (.inr e.new) e.cell e.pin;unfold ksk_tree;show za<|listItems_at i rfl ?_;show za<|listUpdate_at i rfl ?_ (by rw[zl,zZ];lia)<|yf _;show za<|seqEpoch_at n rfl ?_;show za<|wpAny_newTuple ?_ (by change vs.length<=_;rw[zZ];lia);show za<|wpAny_newList ?_<|yf _;show yF ?_;generalize h1.update a (Obj.mapSeq λV=>(#[]:Array ξ))=h2 at n j⊢;have k3:∀b u,h2.get? b=ϑ u->((h2.push<|seqObj "tuple" vs.toArray 0).push<|seqObj "list" #[] 0).get? b=ϑ u:=λb u q=>zb _<|zb _ q;have I3:Inv X qg σ H {s with heap:=(h2.push<|seqObj "tuple" vs.toArray 0).push<|seqObj "list" #[] 0}:=j.kept (t':=s.toks) k3;have p:h2.objs.size<=(h2.push<|seqObj "tuple" vs.toArray 0).objs.size:=by rw[size_push'];show yS _
 show HP (s:={s with heap:=(h2.push<|seqObj "tuple" vs.toArray 0).push<|seqObj "list" #[] 0}) (kS:=(h2.push<|seqObj "tuple" vs.toArray 0).objs.size) L I3 (k3 _ _ n) (zr _ rfl) (yj<|zq (zy n) p) t (j.aT.fresh p) e (j.Zd p) v C T O G λs' H' ks us c g out J z o1 w1 N S F q2=>{.none,rfl,?_};show zm !{.ref a,_,J.W6 (o:=.lst<|(List.range vs.length).map λk=>xs.getD (g k) .ao) z e {?_,out.toList,c,?_,?_},rfl,h H' ks us g a w1 N S F z};rw[zc,List.length_range,zZ];lia;rw[q2];have:∀(ns:δ π),(∀k∈ns,g k<vs.length)->Vals (ns.map λk=>xs.getD (g k) .ao) (ns.map λk=>vs.getD (g k) .none):=λns=>by induction ns with|nil=>show λV=>.nil|cons k ns ih=>intro hk;have Z:=hk k zD;obtain⟨y,B⟩:∃y,xs[g k]?=some y:={_,zg<|`b};let⟨u,hu,ru⟩:=v.get B;show .cons ?_<|ih λk M=>hk k<|zk _ M;change RelV (xs.getD (g k) .ao) (vs.getD (g k) .none);rw[zJ,B,zJ,hu];show ru
 show this _ λk hk=>F.lt k<|zV.mp hk;rw[o1]
end
def Bm(mg:ρ->θ ξ)(base:Γ):Prop:=∃bm o,mg "__builtins__"= some (.ref bm)/\bm≠builtinsNs/\base.get? bm=ϑ o/\o.cls=.type "module"/\o.dict=ϑ builtinsNs/\o.data=.plain
structure Zi(K:Φ)(mg:ρ->θ ξ)(base:Γ)(c P:ε):η where
 hd:codeHdIn K c P=ϱ
 bm:Bm mg base
set_option tactic.hygienic true in
def Ei{pos p2:Pos}{c cv:ξ}(l:δ ξ)(h:TriplesOk l)(e:codeAmong pos (l++[rawInt p2.line,rawInt p2.col,c])=ϑ cv):codeAmong pos l=ϑ cv\/cv=c:=by fun_induction TriplesOk l with|case1=>(simp only[List.nil_append,rawInt,codeAmong]at e;split at e;cases e;show .inr rfl;cases e)|case2 a t b u x rest d=>simp only[List.cons_append,codeAmong]at e⊢;split at e;rename_i hc;rw[qe hc];show .inl e;rename_i hc;rw[qb hc];show d h e|case3 l h1 h2=>show h.elim
section
variable{X:Cx}{qg:δ (ε×Obj)}{σ:St}{H:Hp}{s:ζ}
def Inv.tab{h':Γ}{tk:π}{P c:ε}{ps l:Array ξ}{oc fo:Obj}(I:Inv X qg σ H s)(m:H P=ϑ (.sS ps))(hx:Heap.ExtBut P s.heap h')(h1:s.heap.objs.size<=c)(h2:c<h'.objs.size)(hc:h'.get? c=ϑ oc)(r:h'.get? P=ϑ (tabObj<|ps++l)): Inv X qg σ (upd (upd H P<|.sS<|ps++l) c<|.ng oc<|.own 0) {s with heap:=h'.push fo,toks:=tk}:=by
 have p:c≠P:=λz=>absurd (zq (I.aT.lt m)<|z ▸ h1)<|yx _;have i:H c=ϐ:=I.aT.fresh h1;have a:∀b,b≠P->b≠c->upd (upd H P<|.sS<|ps++l) c (.ng oc<|.own 0) b=H b:=λb z1 z2=>by rw[ay z2,ay z1]
 have j:∀b o,H b=ϑ o->(∀q,o≠.sS q)->b≠P:=λb o e z q=>by rw[q,m]at e;cases e;show z _ rfl
 have h:∀b,H b=ϐ->b≠P:=λb e q=>by rw[q,m]at e;cases e
 have lt:∀b o,s.heap.get? b=ϑ o->b≠c:=λb o e=>zC<|zq (zy e) h1;show I.un (h':=h'.push fo) {λb o e n x x=>zb _<|hx b o (h b n) e,λb o e n x x=>{o.slots,zb _<|hx b o (h b n) e},λb o e n x=>by rw[a b (h b n)<|lt b o e];show n,λb o e x=>?_,λb xs e=>by rw[a b (j b _ e λx=>nofun)<|aD e i];show e,λb o u e=>by rw[a b (j b _ e λx=>nofun)<|aD e i];show e,λb q e=>?_} λb u e=>?_;by_cases g:b=P;rw[g];show{_,zb _ r};show{o,zb _<|hx b o g e};by_cases g:b=P;subst g;rw[m]at e;cases e;show{l,by rw[ay<|Ne.symm p,aR]};show{#[],by rw[a b g<|aD e i,e];simp};by_cases t:b=c;subst t;rw[aR]at e;cases e;show{zb _ hc,_,zb _ hc};rw[ay t]at e;by_cases g:b=P;subst g;rw[aR]at e;cases e;show zb _ r;rw[ay g]at e;show(I.aT b u e).oI (λd v hd q=>?_) (λd q=>by rw[a d (j d _ q λx=>nofun)<|aD q i];show q) λd xs q=>by rw[a d (j d _ q λx=>nofun)<|aD q i];show q
 rcases hd with rfl|hd;show zb _<|hx d v g q;show zb _<|hx d v (j d _ hd λx=>nofun) q
def Inv.FY(I:Inv X qg σ H s)(ho:s.heap.get? f=ϑ o)(hn:H f=ϐ)(A:P_ X qg f)(d:∀v,o.data≠.cell v):Inv X (qg++[(f,o)]) σ H s:=by show{I.ok,I.os,I.bare,I.base,I.loc,I.cell,I.free,I.eP,λp a=>?_,I.aT,I.len};rcases zN.mp a with a|a;show I.pin p<|zW _ a;rcases zN.mp a with a|a;show I.pin p<|zB _ a;rw[zx.mp a];show⟨ho,hn,A.loc,A.fs,d⟩
structure UJ(X:Cx)(qg:δ (ε×Obj))(σ:St)(H H':Hp)(P:ε)(q:ρ)(params:Arguments)(body:Δ)(scope:Scope)(u:ξ)(s':ζ)(f:ε)(pm cv jC:ξ):η where
 u:u=.ref f
 inv:Inv X (qg++[(f,y9 X q params body scope pm cv jC)]) σ H' s'
 code:∃c o vs t,cv=.ref c/\H' c=ϑ (.ng o<|.own 0)/\o.data=.fields vs/\vs[1]?=some (.str q t)
 same:∀b,H' b=H b\/(b=P/\∃ps,H' b=ϑ (.sS ps)/\FK H' q ps)\/(H b=ϐ/\∃o,H' b=ϑ (.ng o<|.own 0))
def uv{M:Model}{A:ϕ}{E:ξ->ζ->η}{N:δ ρ}{src:δ<|θ π}{scope:Scope}{params:Arguments}{body:Δ}{pos:Pos}{c P:ε}{q:ρ}{ps:Array ξ}{Q:ξ->ζ->η}(I:Inv X qg σ H s)(S:bI X N src scope)(U:X.env.code=.ref c)(mk:Zi X.K X.mg X.base c P) (i:H P=ϑ (.sS ps)) (ok:FK H q ps) (hq:X.env.qual ++ "<lambda>"= q) (Ej:defaultsOf params X.env=([],[])) (h:∀u s' H' f pm cv jC,UJ X qg σ H H' P q params body scope u s' f pm cv jC->Q u s'):wpAny M A (eval (.Lambda params body scope pos) X.env) Q E s:=by
 have Z:closureFor scope X.env=pure `i:=jj λy hy l=>I.ok.has y.1<|S.vS y hy l;have n:s.heap.get? P=ϑ (tabObj ps):=I.aT P _ i;have hg:s.heap.Ns mainGlobals X.mg:=I.mod.glob.keeps I.bk;have F:=codeHd_of_K I.nh mk.hd;let⟨bm,G,b1,b2,b3,C,b5,Y⟩:=mk.bm;have m:s.heap.get? bm=ϑ G:=I.bk _ _ b3;have x:mainGlobals≠P:=λz=>by let⟨o,es,ep,e,d,_⟩:=id hg;rw[z,n]at e;cases e;cases d
 have r:bm≠mainGlobals:=λz=>by let⟨o,es,ep,e,d,_⟩:=id hg;rw[<-z,m]at e;cases e;rw[Y]at d;cases d
 have p:bm≠P:=λz=>by rw[z,n]at m;cases m;cases C
 have B:s.heap.BuiltinsAt X.mg P:=⟨bm,G,b1,b2,r,p,m,C,b5,Y⟩;have a0:H P≠none:=by rw[i];nofun
 show PySem.W.kla_eval Ej ?_;rw[hq];cases l:codeAmong pos ps.toList with|none=>(show PySem.W.kla_makeFunction Z I.ok.glob hg U F n ok.1 l x B λg jC h' tk hx h1 h2 hr hp=>?_;let⟨c2,oc,vs,t,e2,YC,hd,L⟩:=hr;cases e2;have J:=I.tab (tk:=tk) (fo:=y9 X q params body scope ((X.mg "__name__").getD .none) (.ref g) jC) i hx h1 h2 YC hp;have a1:g≠P:=λz=>absurd (zq (I.aT.lt i)<|z ▸ h1)<|yx _;have O:H g=ϐ:=I.aT.fresh h1;have fresh:∀b,h'.objs.size<=b->upd (upd H P<|.sS<|ps++#[rawInt pos.line,rawInt pos.col,.ref g]) g (.ng oc<|.own 0) b=ϐ:=λb j=>(by have R:s.heap.objs.size<=b:=zM (zM h1<|yL h2) j;rw[ay<|yj<|zq h2 j,ay<|yj<|zq (I.aT.lt i) R];show I.aT.fresh R);have a:s.heap.objs.size<=h'.objs.size:=zM h1<|yL h2;show h _ _ _ h'.objs.size _ _ _ {rfl,J.FY (zr _ rfl) (fresh _<|zp _) (I.Zd a) (λv z=>nomatch z),⟨g,oc,vs,t,rfl,aR,hd,L⟩,λb=>?_};by_cases w:b=g;subst w;show .inr<|.inr ⟨O,oc,aR⟩;by_cases j:b=P;subst j;show .inr<|.inl {rfl,_,by rw[ay w,aR],?_,λp2 cv e=>?_};rw[Array.toList_append];show TriplesOk_snoc _ _ _ _ ok.1;rw[Array.toList_append]at e;rcases Ei _ ok.1 e with e|e;let⟨d,o,ws,t2,z1,z2,z3⟩:=ok.2 p2 cv e;show{d,o,ws,t2,z1,by rw[ay<|aD z2 O,ay λz=>by rw[z,i]at z2;cases z2];show z2,z3};show⟨g,oc,vs,t,e,aR,hd,L⟩;show .inl<|by rw[ay w,ay j])|some cv=>show PySem.W.kla_makeFunctionHit Z I.ok.glob hg U F n ok.1 l B λjC h' tk hk a=>?_;have J:Inv X qg σ H {s with heap:=h'.push<|y9 X q params body scope ((X.mg "__name__").getD .none) cv jC,toks:=tk}:=I.kept λb u e=>zb _<|hk b u e;show h _ _ _ h'.objs.size _ _ _ {rfl,J.FY (zr _ rfl) (I.aT.fresh a) (I.Zd a) (λv z=>nomatch z),ok.2 pos cv l,λb=>.inl rfl}
end
def W7:D->D->η|.int a,.int b=>a<b|.str a,.str b=>a.cps.toList<b.cps.toList|_,_=>False
def B7(ks:δ D):Prop:=(∃zs:δ ρ,ks=zs.map D.str)\/∃ns:δ ν,ks=ns.map D.int
structure SG(b:χ)(key:π->D)(n:π)(g:π->π):η where
 lt:∀k,k<n->g k<n
 inj:∀i j,i<n->j<n->g i=g j->i=j
 ord:∀i j,i<j->j<n->(if b=ϱ then W7 (key<|g j) (key<|g i) else W7 (key<|g i) (key<|g j))\/(key (g i)=key (g j)/\g i<g j)
def B8(b:χ)(P:ε)(q:ρ)(src:δ<|θ π)(te:TD)(σ:SD)(R:KD)(d:D)(a:ax):Prop:=∃(l:ε)(xs:δ D)(f:D->D),d=.ref l/\a l=ϑ (.lst xs)/\xs.length<64/\a P=ϑ (.tab q)/\B7 (xs.map f)/\(∀x,x∈xs->∀S',Sub a S'->∀Qk:KD,(∀S2,Sub S' S2->Qk (f x) S2)->te ((nv σ src).set 0<|some x) S' Qk Zf)/\∀g S2 p,SG b (λj=>f<|xs.getD j .ao) xs.length g->Sub a S2->S2 p=ϐ->R (.ref p) (S2.set p<|.lst<|(List.range xs.length).map λk=>xs.getD (g k) .ao)
def Qc(b:χ)(P:ε)(q:ρ)(src:δ<|θ π)(tl te:TD):TD:=λσ S R Z=>tl σ S (λd a=>B8 b P q src te σ R d a) Z
def KQ(F:D->ax->η):δ D->ax->η|[d],S=>F d S|_,_=>False
def FZ{F:D->ax->η}{ds:δ D}{S:ax}(h:KQ F ds S):∃d,ds=[d]/\F d S:=by match ds,h with|[d],h=>show⟨d,rfl,h⟩
theorem uw:∀{ss:δ ν}{a:δ ξ},Vals (ss.map V.int) a->IntsAre a ss|[],_,.nil=>.nil|z::ss,_,.cons r t=>by let⟨tk,rfl⟩:=r;show .cons z tk<|uw t
theorem ux:∀{us:δ ξ}{zs:δ ρ},StrsAre us zs->∀j,j<zs.length->kC strKind us j=(zs.getD j "").cps.toList|_,_,.cons z t h,0,_=>rfl|_,_,.cons z t h,j+1,hj=>by have:=ux h j (by simpa using hj);unfold kC at this⊢;rw[List.getD_cons_succ,List.getD_cons_succ];show this
theorem uy:∀{us:δ ξ}{zs:δ ν},IntsAre us zs->∀j,j<zs.length->kC intK us j=zs.getD j 0|_,_,.cons z t h,0,_=>rfl|_,_,.cons z t h,j+1,hj=>by have:=uy h j (by simpa using hj);unfold kC at this⊢;rw[List.getD_cons_succ,List.getD_cons_succ];show this
def KR(h:StrsAre us zs):∀u∈us,∃x,strKind.keyOf u=ϑ x:=by induction h with|nil=>(intro u hu;cases hu)|cons z t h a=>intro u hu;rcases ze.mp hu with rfl|hu;show{_,rfl};show a u hu
def KU(h:IntsAre us zs):∀u∈us,∃x,intK.keyOf u=ϑ x:=by induction h with|nil=>(intro u hu;cases hu)|cons z t h a=>intro u hu;rcases ze.mp hu with rfl|hu;show{_,rfl};show a u hu
def KW{xs:δ D}{f:D->D}{j:π}(a:j<xs.length):(xs.map f)[j]?=some (f<|xs.getD j .ao):=by rw[zA,zJ,zg a];rfl
theorem z_{K:Φ}{H:Hp}{ds:δ D}{xs:δ V}(h:RvAll K H ds xs)(g:π->π):∀(ns:δ π),(∀k∈ns,g k<ds.length)->RvAll K H (ns.map λk=>ds.getD (g k) .ao) (ns.map λk=>xs.getD (g k) .ao)|[],_=>cn|k::ns,hk=>by have hk0:=hk k zD;let⟨v,e,r⟩:=h.get<|zg hk0;show bE ?_<|z_ h g ns λk a=>hk k<|zk _ a;change Rv K H (ds.getD (g k) .ao) (xs.getD (g k) .ao);rw[zJ,zg hk0,zJ,e];show r
section
variable{K:Φ}{Y:Cx}{qg:δ (ε×Obj)}{τ:St}{H H2:Hp}{s:ζ}{N:δ ρ}{src:δ (θ π)}{scope:Scope}{params:Arguments}{body:Δ}{q p:ρ}{pm cv jC:ξ}{f l:ε}{te:TD}{b:χ}{kw:δ (ρ×ξ)}{k:π}
def B9{σ:SD}{B:ax}{xs:δ D}{a:D->D}{Q:VK}{R:KD}{E:ξ->ζ->η}(I:Inv Y (qg++[(f,y9 Y q params body scope pm cv jC)]) τ H s)(hK:Y.K=K)(W8:Y.calm=ϱ)(hr:cj k Y.A)(nz:∃c o vs t,cv=.ref c/\H c=ϑ (.ng o<|.own 0)/\o.data=.fields vs/\vs[1]?=some (.str q t)) (CS:bI Y N src scope) (N7:N[0]?=some p) (F:scope.names.lookup p=ϑ .local) (h0:src[0]?=some none) (Eh:scope.isCoroutine=ϰ) (qI:scope.isGenerator=ϰ) (hb:∀cl pm cv jC u,bindArgs (kla_fn "<lambda>" q params body scope cl pm cv jC) {[u],[]}=pure [(p,u)]) (he:∀cv s H,DE K (UE Y N q scope f cv Y.A.in1.in1 s H) body te) (aK:iV K H σ τ) (hS:Rs K B H) (hl:B l=ϑ (.lst xs)) (Je:xs.length<64) (kd:B7<|xs.map a) (step:∀x,x∈xs->∀S',Sub B S'->∀Qk:KD,(∀h,Sub S' h->Qk (a x) h)->te ((nv σ src).set 0<|some x) S' Qk Zf) (hR:Cn K H R Q) (S:∀g h p,SG b (λj=>a<|xs.getD j .ao) xs.length g->Sub B h->h p=ϐ->R (.ref p) (h.set p<|.lst<|(List.range xs.length).map λk=>xs.getD (g k) .ao)) (Zg:argsOk "sorted" {[.ref l],kw}) (Zh:∀x,argsOk "list.sort" {[.ref x],kw}) (ht:∀x,Builtin.«list.sort» {[.ref x],kw}=ksk_tree x (.ref f) b): wpAny (model Y.prog Y.w) Y.A (call (.builtin "sorted") [.ref l] kw) (EP Y qg τ Q) E s:=by
 subst hK;let⟨vs,hv,U⟩:=hS.lst hl;have X:vs.length=xs.length:=U.len;let⟨c,oc,ws,tk,a3,hc,kP,a2⟩:=nz;have drop:∀{u:ξ}{s':ζ},EP Y (qg++[(f,y9 Y q params body scope pm cv jC)]) τ Q u s'->EP Y qg τ Q u s':=λ⟨v,H',J,r,q⟩=>{v,H',{J.ok,J.os,J.bare,J.base,J.loc,J.cell,J.free,J.eP,λp F=>J.pin p<|by rcases zN.mp F with z|z;show zW _ z;show zB _<|zW _ z,J.aT,J.len},r,q};have T:KP Y (qg++[(f,y9 Y q params body scope pm cv jC)]) τ Y.A.in1.in1 f vs λi ks H'=>∃S',Sub B S'/\Rs Y.K S' H'/\Kp Y.K H H'/\RvAll Y.K H' ((xs.take i).map a) ks:=by rintro i x u ks s' H' more P ⟨S',L,rs,kp,n⟩ hx ru;have hi:i<xs.length:=(by have:=(zu.mp hx).1;lia);let⟨v,e1,r1⟩:=U.get<|zg hi;rw[hx]at e1;cases e1;have po:=(P.pin (f,y9 Y q params body scope pm cv jC)<|zB _<|zW _<|zB _<|`d).1;have a4:s'.heap.CodeRec cv q:={c,oc,ws,tk,a3,(P.aT c _<|kp.f _ _ _ hc).1,kP,a2};show KH (A:=Y.A.in1.in1) P CS N7 F h0 P.ok.frames (P.ok.hd W8) (by have:=hr.dp;change Y.A.depth<_;lia) ru po a4 Eh qI (hb _ _ _ _ _) ((he cv s' H').of<|.none _ rfl) ?_;show{_,S',λkk h=>kk=a xs[i]/\Sub S' h,Zf,((aK.ts kp).pick src).set 0<|Rv.ts kp _ r1,rs,step _ (List.getElem_mem hi) S' L _ λh h2=>⟨rfl,h2⟩,λkk h v2 H2 ⟨e2,RN⟩ W9 a0 Zl=>?_,.f};subst e2;show{h,L.trans RN,a0,kp.trans Zl,?_};rw[show xs.take (i+1)=xs.take i++[xs[i]] by rw[List.take_add_one,zg hi];rfl,zQ];show(RvAll.ts Zl _ n).app<|bE W9 cn
 have w0:∃S',Sub B S'/\Rs Y.K S' H/\Kp Y.K H H/\RvAll Y.K H ((xs.take 0).map a) []:={B,.refl _,hS,.refl _,by rw[List.take_zero];show cn};have Pw:kZ Y.K H l vs:=.of hv;rcases kd with⟨zs,C⟩|⟨zs,C⟩;have a1:zs.length=xs.length:=by have:=congrArg List.length C;rw[zc,zc]at this;show this.symm
 have M:∀j,j<xs.length->a (xs.getD j .ao)=.str (zs.getD j ""):=λj m=>by have e1:=KW (f:=a) m;rw[C,zA,zg<|`b]at e1;rw[zJ (l:=zs),zg<|`b];show(zU e1).symm
 have G:∀ks us H',(∃S',Sub B S'/\Rs Y.K S' H'/\Kp Y.K H H'/\RvAll Y.K H' ((xs.take vs.length).map a) ks)->Vals ks us->StrsAre us zs:=λks us H' ⟨S',_,_,_,n⟩ hu=>by rw[X,List.take_length,C]at n;rw[n.strs]at hu;show uu hu
 show yh (xm (κ:=strKind) (Q:=Q) (b:=b) strKind_oneLt I Pw `b Zg Zh ht T w0 (λks us H' d y l1=>{KR<|G ks us H' d y,λqF qG rest e=>keyKind_strs<|by rw[<-e];show G ks us H' d y}) λH' ks us g D d y l1 sr Z=>?_) (λu s' z=>drop z) λW W z=>z;have O:=G ks us H' d y;let⟨S',L,rs,kp,n⟩:=d;rw[X]at sr⊢;show(hR.kp kp).new rs Z (λF=>S g S' D {sr.lt,sr.inj,λi j nO m=>?_} L F)<|z_ (RvAll.ts kp _ U) g _ λk hk=>sr.lt k<|zV.mp hk;have h1:=sr.lt i `b;have h2:=sr.lt j m;have:=sr.ord i j nO m;rw[ux O _<|`b,ux O _<|`b]at this;rw[M _ h1,M _ h2];rcases this with z|⟨z1,z2⟩;left;cases b with|false=>rw[qb zd]at z⊢;change(zs.getD (g i) "").cps.toList<(zs.getD (g j) "").cps.toList;show zj z|true=>rw[qe rfl]at z⊢;change(zs.getD (g j) "").cps.toList<(zs.getD (g i) "").cps.toList;show zj z
 show .inr {by rw[abW z1],z2};have a1:zs.length=xs.length:=by have:=congrArg List.length C;rw[zc,zc]at this;show this.symm
 have M:∀j,j<xs.length->a (xs.getD j .ao)=.int (zs.getD j 0):=λj m=>by have e1:=KW (f:=a) m;rw[C,zA,zg<|`b]at e1;rw[zJ (l:=zs),zg<|`b];show(zU e1).symm
 have G:∀ks us H',(∃S',Sub B S'/\Rs Y.K S' H'/\Kp Y.K H H'/\RvAll Y.K H' ((xs.take vs.length).map a) ks)->Vals ks us->IntsAre us zs:=λks us H' ⟨S',_,_,_,n⟩ hu=>by rw[X,List.take_length,C]at n;rw[n.ints]at hu;show uw hu
 show yh (xm (κ:=intK) (Q:=Q) (b:=b) KL I Pw `b Zg Zh ht T w0 (λks us H' d y l1=>{KU<|G ks us H' d y,λqF qG rest e=>keyKind_ints<|by rw[<-e];show G ks us H' d y}) λH' ks us g D d y l1 sr Z=>?_) (λu s' z=>drop z) λW W z=>z;have O:=G ks us H' d y;let⟨S',L,rs,kp,n⟩:=d;rw[X]at sr⊢;show(hR.kp kp).new rs Z (λF=>S g S' D {sr.lt,sr.inj,λi j nO m=>?_} L F)<|z_ (RvAll.ts kp _ U) g _ λk hk=>sr.lt k<|zV.mp hk;have h1:=sr.lt i `b;have h2:=sr.lt j m;have:=sr.ord i j nO m;rw[uy O _<|`b,uy O _<|`b]at this;rw[M _ h1,M _ h2];rcases this with z|⟨z1,z2⟩;left;cases b with|false=>rw[qb zd]at z⊢;change zs.getD (g i) 0<zs.getD (g j) 0;show zj z|true=>rw[qe rfl]at z⊢;change zs.getD (g j) 0<zs.getD (g i) 0;show zj z
 show .inr {by rw[z1],z2}
end
section
variable{K:Φ}{X:Cx}{N:δ ρ}{src:δ (θ π)}{scope:Scope}{params:Arguments}{e body:Δ}{q p x:ρ}{np pos lp kq kq2 cp:Pos}{ci:π}{tl te:TD}{k:π}{c P:ε}
theorem UJ.kp{qg:δ<|ε×Obj}{τ:St}{H H':Hp}{u:ξ}{s':ζ}{f:ε}{pm cv jC:ξ}{Y:Cx}(L:UJ Y qg τ H H' P q params body scope u s' f pm cv jC){ps:Array ξ}(a:H P=ϑ (.sS ps)):Kp K H H':=.of λb o e=>by rcases L.same b with z|⟨z,_⟩|⟨z,_⟩;show .inl (by rw[z];show e);rw[z,a]at e;cases e;show .inr {λx=>nofun,λx x=>nofun};rw[z]at e;cases e
theorem UJ.rs{qg:δ<|ε×Obj}{τ:St}{H H':Hp}{u:ξ}{s':ζ}{f:ε}{pm cv jC:ξ}{Y:Cx}{S:ax}(L:UJ Y qg τ H H' P q params body scope u s' f pm cv jC)(c:Rs K S H)(d:S P=ϑ (.tab q)):Rs K S H':=λb x a=>by let⟨ps,h,_⟩:=c P _ d;have kp:Kp K H H':=L.kp h;rcases L.same b with z|⟨rfl,g,z1,z2⟩|⟨z,_⟩;show(c b x a).keep (λo e=>by rw[z];show e) kp;rw[d]at a;cases a;show⟨g,z1,z2⟩;let⟨o,e,_⟩:=(c b x a).has;rw[z]at e;cases e
def W_(nz:X.env.code=.ref c)(mk:Zi K X.mg X.base c P)(hr:cj k X.A)(a:bI X N src scope)(hl:DE K X e tl)(he:∀f cv s H,DE K (UE X N q scope f cv X.A.in1.in1 s H) body te)(hm:X.mg x=ϐ)(hv:bootBuiltins x=ϑ (.builtin "sorted")) (M:ψ (X.env.qual ++ "<lambda>"= q) qQJ) (z:ψ (N[0]?=some p) qQJ) (hp:ψ (scope.names.lookup p=ϑ .local) qQJ) (h0:ψ (src[0]?=some none) qQJ) (Eh:ψ (scope.isCoroutine=ϰ) qQJ) (F:ψ (scope.isGenerator=ϰ) qQJ) (hb:ψ (∀cl pm cv jC u,bindArgs (kla_fn "<lambda>" q params body scope cl pm cv jC) {[u],[]}=pure [(p,u)]) qJ5) (Ej:ψ (defaultsOf params X.env=([],[])) qQJ) (hg:ψ (Gl X x) qQJ) (hn:ψ (x≠"__name__") qQZ) (mS:ψ ((x==("__debug__": ρ))=ϰ) qQZ) (O:ψ (backTo pos (starEach [e] X.env)=`j::backTo pos (starEach [] X.env)) qQJ) (E:ψ ((backTo pos<|starEach [e] X.env).any (·.1)=ϰ) qQJ) (i:ψ (isPlain e=ϱ) qQJ) (hK:ψ (X.K=K) qQJ) (Y:ψ (X.calm=ϱ) qQJ): DE K X (.Call (.Name x np) [e] [{some "key",.Lambda params body scope lp,kq}] pos) (Qc false P q src tl te):=by subst hK;show⟨λy=>?_⟩;rintro qg s τ H Q I ⟨σ,S,R,Z,n,C,t,U,B⟩;show yC<|jW I hg hm hv ?_ hn mS;show callWith_kw (bZ (((ac hl an i).of y) pos qg s τ H (λvs H1=>∃ds g,KQ (B8 false P q src te σ R) ds g/\RvAll X.K H1 ds vs/\Rs X.K g H1/\Kp X.K H H1) I {σ,S,KQ<|B8 false P q src te σ R,Z,n,C,t,λds g vs H1 r h rs k1=>⟨ds,g,r,h,rs,k1⟩,B}) λus s1 ⟨vs,H1,J,r1,ds,g,r,h,rs,k1⟩=>?_) O E;let⟨d,rfl,l,xs,fD,rfl,G,Je,m,kd,step,j⟩:=FZ r;let⟨v,a0,rfl,Zm,W9⟩:=h.cons;cases W9.nil;cases Zm.ref;let⟨u,rfl,ru⟩:=vals1 r1;cases ru;let⟨ps,o,aT⟩:=rs P _ m;show kws_cons<|uv J ⟨a.kind,a.fX,a.loc,a.vS,a.len,a.src⟩ nz mk o aT M Ej λw s2 H2 f pm cv jC L=>?_;show kws_nil ?_;cases L.u;have k2:Kp X.K H1 H2:=L.kp o;show B9 L.inv rfl Y hr L.code ⟨a.kind,a.fX,a.loc,a.vS,a.len,a.src⟩ z hp h0 Eh F hb (he f) ((n.ts k1).ts k2) (L.rs rs m) G Je kd step (U.kp<|k1.trans k2) j (ksk_s1 _ _) (λx=>ksk_l1 _ _) λx=>ksk_t1 _ _
def Qe(nz:X.env.code=.ref c)(mk:Zi K X.mg X.base c P)(hr:cj k X.A)(a:bI X N src scope)(hl:DE K X e tl)(he:∀f cv s H,DE K (UE X N q scope f cv X.A.in1.in1 s H) body te)(hm:X.mg x=ϐ)(hv:bootBuiltins x=ϑ (.builtin "sorted")) (M:ψ (X.env.qual ++ "<lambda>"= q) qQJ) (z:ψ (N[0]?=some p) qQJ) (hp:ψ (scope.names.lookup p=ϑ .local) qQJ) (h0:ψ (src[0]?=some none) qQJ) (Eh:ψ (scope.isCoroutine=ϰ) qQJ) (F:ψ (scope.isGenerator=ϰ) qQJ) (hb:ψ (∀cl pm cv jC u,bindArgs (kla_fn "<lambda>" q params body scope cl pm cv jC) {[u],[]}=pure [(p,u)]) qJ5) (Ej:ψ (defaultsOf params X.env=([],[])) qQJ) (hg:ψ (Gl X x) qQJ) (hn:ψ (x≠"__name__") qQZ) (mS:ψ ((x==("__debug__": ρ))=ϰ) qQZ) (O:ψ (backTo pos (starEach [e] X.env)=`j::backTo pos (starEach [] X.env)) qQJ) (E:ψ ((backTo pos<|starEach [e] X.env).any (·.1)=ϰ) qQJ) (i:ψ (isPlain e=ϱ) qQJ) (hK:ψ (X.K=K) qQJ) (Y:ψ (X.calm=ϱ) qQJ): DE K X (.Call (.Name x np) [e] [{some "key",.Lambda params body scope lp,kq},{some "reverse",.Constant (.bool true) ci cp,kq2}] pos) (Qc true P q src tl te):=by subst hK;show⟨λy=>?_⟩;rintro qg s τ H Q I ⟨σ,S,R,Z,n,C,t,U,B⟩;show yC<|jW I hg hm hv ?_ hn mS;show callWith_kw (bZ (((ac hl an i).of y) pos qg s τ H (λvs H1=>∃ds g,KQ (B8 true P q src te σ R) ds g/\RvAll X.K H1 ds vs/\Rs X.K g H1/\Kp X.K H H1) I {σ,S,KQ<|B8 true P q src te σ R,Z,n,C,t,λds g vs H1 r h rs k1=>⟨ds,g,r,h,rs,k1⟩,B}) λus s1 ⟨vs,H1,J,r1,ds,g,r,h,rs,k1⟩=>?_) O E;let⟨d,rfl,l,xs,fD,rfl,G,Je,m,kd,step,j⟩:=FZ r;let⟨v,a0,rfl,Zm,W9⟩:=h.cons;cases W9.nil;cases Zm.ref;let⟨u,rfl,ru⟩:=vals1 r1;cases ru;let⟨ps,o,aT⟩:=rs P _ m;show kws_cons<|uv J ⟨a.kind,a.fX,a.loc,a.vS,a.len,a.src⟩ nz mk o aT M Ej λw s2 H2 f pm cv jC L=>?_;show kws_cons<|bZ (Pp (X:=y.cx) _ s2 τ H2 (λv H'=>v=.bl true/\H'=H2) L.inv ⟨rfl,rfl⟩) λw2 s3 ⟨v2,H3,I3,r3,e3,e4⟩=>?_;subst e3 e4;obtain rfl:w2=Value.bool true:=r3;show kws_nil ?_;cases L.u;have k2:Kp X.K H1 H3:=L.kp o;show B9 I3 rfl Y hr L.code ⟨a.kind,a.fX,a.loc,a.vS,a.len,a.src⟩ z hp h0 Eh F hb (he f) ((n.ts k1).ts k2) (L.rs rs m) G Je kd step (U.kp<|k1.trans k2) j (ksk_s2 _ _ _) (λx=>ksk_l2 _ _ _) λx=>ksk_t2 _ _ _
end
section
variable{P:Ψ}{w:Ω}{K:Φ}{mg:ρ->θ ξ}{base:Γ}
def qE.Zn{x qual:ρ}{st:Stmt}{f:ε}{fd:FuncData}{N ps:δ ρ}{k:π}{sp:ir}(F:qE K x qual st f fd)(S:gr N ps<|ae st)(len:∀ds S R Z,sp ds S R Z->ds.length=ps.length) (G:∀(fT:ξ)(A:ϕ)(outer:δ Env)(s:ζ)(H:Hp)(E:XK)(ds:δ D)(S:ax)(R:KD)(Z:KX),fT=fd.code->cj k (A.deeper<|envOfC qual (ae st) s.heap.objs.size f fT)->sp ds S R Z->∃t,BW K (ij (fh P w mg) P w K mg base N qual (ae st) f fT A outer s H E) true (bx st) t/\t {nx:=λu S'=>Fo S'<|R .ao,rt:=λd S'=>Fo S'<|R d} (gP N ds) S λu C S'=>Fo S'<|Z C):cG P w K mg base (fh P w mg) (k+1) f fd ps (qD K sp):=by
 let⟨oc,od,dV,kV,doc,pm,an,fT,ct,PB,rfl,lk,B⟩:=F.ex;have J:ps.length<=N.length:=by have:=congrArg List.length S.pre;rw[yc]at this;lia
 show Pz lk B S (by rintro vs H Q E ⟨ds,S',R,Z,v,_,h,_⟩;show by rw[v.len];show len _ _ _ _ h) λA outer s H vs Q E hr ⟨ds,S',R,Z,v,n,h,j,m⟩=>?_;let⟨t,p,q⟩:=G fT A outer s H E ds S' R Z rfl hr h;have L:dP (ij (fh P w mg) P w K mg base N qual (ae st) f fT A outer s H E) E:=qw;let y:Ev (ij (fh P w mg) P w K mg base N qual (ae st) f fT A outer s H E) true:={_,(ij (fh P w mg) P w K mg base N qual (ae st) f fT A outer s H E).xe,λu=>E,{λp2 τ H1 s1 e s' I h=>FG L p2 τ H1 s1 e s' I h,λ_ p2 τ H1 s1 h' a cls args I hx o=>i0 L I hx o,λu=>PassesOwn.leaving}};show{L2.Tl K (λu=>E) t,p.of y,gP N ds,S',_,λu C S'=>Fo S'<|Z C,?_,n,q,{by rintro σ l τ H1 ⟨i,g,r⟩ a b c;show(j.kp c).now (b.sub g) r jZ,by rintro d l v H1 ⟨i,g,r⟩ a b c;show j _ _ _ _ r a (b.sub g) c,λu u u u z=>z.elim,λu u u u z=>z.elim},by rintro σ τ C l H1 ⟨i,g,r⟩ a b c;show m C i H1 r (b.sub g) c};unfold gP start;show(oV v).app ?_;rw[v.len];show oU _ _<|by rw[zE]
end
structure B_(ts:δ ε)(H:Hp):η where
 all:∀b,H b=ϐ\/(∃o xs,H b=ϑ (.ng o<|.lst xs))\/(b∈ts/\H b=ϑ (.sS #[]))
 tab:∀b∈ts,H b=ϑ (.sS #[])
def HQ{P:Ψ}{w:Ω}{K:Φ}{mg mb:ρ->θ ξ}{CX:DF}{k:π}{fa a:ε}{fd:FuncData}{x:ρ}{sp:Sp}{g:ζ}{vs:δ ξ}{ns:δ ν}{ts:δ ε} (KX:K.In g.heap) (Y:g.heap.Ns mainGlobals mg) (c:g.heap.Ns builtinsNs mb) (J:∀x:ρ,x≠"__name__"->mb x=bootBuiltins x) (B:g.heap.NoLimit) (L:Bm mg g.heap) (hg:g.gens=#[]) (hT:∀b∈ts,g.heap.get? b=ϑ (tabObj #[])) (hC:∀b∈ts,isCodeTable g.heap b) (hN:∀b∈ts,K.lookup b=ϐ) (ha:g.heap.get? a=ϑ {cls:=.type "list",data:=.seq vs.toArray}) (hi:IntsAre vs ns) (hl:ns.length<=Ϙ) (hr:cj k callerA) (F:∀base:Γ,Bm mg base->K.In base->base.Ns mainGlobals mg->cG P w K mg base CX k fa fd [x] sp) (Xa:∀(s:ζ) (u:ξ),BindsTo s fd {[u],[]} [(x,u)]) (Uo:∀H:Hp,B_ ts H->kZ K H a (ns.map V.int)->sp [.ref a] H (λv f=>v=.bl true) λf f f=>False) (N:∀H e s',CX [] H g (λf f f=>False) e s'->False): codeAny (model P w) callerA (.call (.ref fa) {[.ref a],[]}) (λr s'=>r=.ok (.ret<|.bool true)/\OldK g.heap s'.heap/\s'.os=g.os/\AllBare s'.gens) g:=by
 have Q:=wZ hi;have I:=hi.length;have X:a∉ts:=λz=>by rw[hT a z]at ha;cases ha
 have j:∀H:Hp,B_ ts H->kZ K H a (ns.map V.int)->mR P w H g.heap->(∀b,H b≠none->b=a\/b∈ts)->(H a≠none->K.lookup a=ϐ)->codeAny (model P w) callerA (.call (.ref fa) {[.ref a],[]}) (λr s'=>r=.ok (.ret<|.bool true)/\OldK g.heap s'.heap/\s'.os=g.os/\AllBare s'.gens) g:=by intro H R hS aT G hK;have M:∀{b:ε}{o:Obj},g.heap.get? b=ϑ o->H b=ϐ->(vP g.heap H).get? b=ϑ o:=λe n=>Jl e n;have Hk:∀{b:ε}{o:Obj}{es:Array DictEntry}{ep:π},g.heap.get? b=ϑ o->o.data=.dict es ep->H b=ϐ:=λ{b o es ep} e d=>(by cases q:H b with|none=>rfl|some u=>rcases G b (by rw[q];simp) with e'|e';subst e';rw[ha]at e;cases e;have Z:Data.seq vs.toArray _=Data.dict es ep:=d;cases Z;rw[hT b e']at e;cases e;cases d);have A:∀{b:ε}{m:ρ->θ ξ},g.heap.Ns b m->(vP g.heap H).Ns b m:=λ{b m} ⟨o,es,ep,e,d,r⟩=>{o,es,ep,M e<|Hk e d,d,r};have y:K.In (vP g.heap H):=λb o e=>M (KX b o e) (by cases q:H b with|none=>rfl|some u=>rcases G b (by rw[q];simp) with e'|e';subst e';rw[hK<|by rw[q];simp]at e;cases e;rw[hN b e']at e;cases e);have hM:Mod K mg (vP g.heap H):={y,A Y,{mb,A c,J},by let⟨mc,h1,h2⟩:=B;show{mc,A h1,h2}};have e0:qp P w K mg (vP g.heap H) callerA [] g H:={rfl,hM,λb o e=>MV e,Nat.le_of_eq<|G7 _ _,trivial,λb c=>absurd (show b∈([]:δ ε) from c)<|`d,aT,.of_eq hg};have C:Bm mg (vP g.heap H):=(by let⟨bm,E,b1,b2,t,O,b5,U⟩:=L;show{bm,E,b1,b2,M t ?_,O,b5,U};cases q:H bm with|none=>rfl|some u=>rcases G bm (by rw[q];simp) with e'|e';rw[e',ha]at t;cases t;cases U;rw[hT bm e']at t;cases t;cases O);show yJ ((F _ C y<|A Y).run callerA [] g H {[.ref a],[]} [.ref a] [.ref a] _ _ hr e0 (Xa g<|.ref a) (.cons rfl .nil)<|Uo H R hS) λr s' h=>?_;cases r with|error e=>show(N H e s' h).elim|ok fl=>cases fl with|next=>show False.elim h|brk=>show False.elim h|cont=>show False.elim h|ret u=>let⟨v,H',os,bare,un,S,r',q⟩:=h;have q':v=.bl true:=q;subst q';obtain rfl:u=Value.bool true:=r';show{rfl,{λb o e=>?_,λb o e=>un.there b o e<|`d},os,bare};rcases R.all b with z|⟨E,xs,z⟩|⟨z1,z⟩;show .inl<|un.keep b o e z (by intro z;show absurd (show b∈([]:δ ε) from z)<|`d) `d;have z2:=un.gB b E _ z;let⟨e1,_⟩:=aT b _ z;let⟨e2,_⟩:=S b _ z2;rw[e]at e1;cases e1;show .inl e2;let⟨more,z2⟩:=un.ig b _ z;have e2:=hT b z1;rw[e]at e2;cases e2;show .inr<|.inl {hC b z1,rfl,#[],more,rfl,by have:=S b _ z2;show this}
 have p:∀(H:Hp),(∀b,b∈ts->H b=ϑ (.sS #[]))->∀b u,b∈ts->H b=ϑ u->bM P w H g.heap b u:=λH h b u c e=>by rw[h b c]at e;cases e;show hT b c
 cases hk:K.lookup a with|some o=>(have e:=KX a o hk;rw[ha]at e;cases e;show j (λb=>if b∈ts then some (.sS #[]) else none) {λb=>?_,λb c=>qe c} (.inr {_,vs.toArray,_,hk,rfl,rfl,rfl,by rw[zl,I];show hl,by simpa using Q}) (λb u z=>?_) (λb z=>?_) λz=>absurd (qb X) z;by_cases c:b∈ts;show .inr<|.inr {c,qe c};show .inl<|qb c;by_cases c:b∈ts;show p _ (λb c=>qe c) b u c z;have l:=(qb c).symm.trans z;cases l;by_cases c:b∈ts;show .inr c;show absurd (qb c) z)|none=>show j (λb=>if b=a then some (.ng {cls:=.type "list",data:=.seq vs.toArray}<|.lst<|ns.map V.int) else if b∈ts then some (.sS #[]) else none) {λb=>?_,λb c=>?_} (.inl<|.inr {{cls:=.type "list",data:=.seq vs.toArray},qe rfl}) (λb u z=>?_) (λb z=>?_) λf=>hk;by_cases c:b=a;show .inr<|.inl {_,_,qe c};by_cases i:b∈ts;show .inr<|.inr {i,(qb c).trans<|qe i};show .inl<|(qb c).trans<|qb i;have:b≠a:=λz=>X<|z ▸ c;show(qb this).trans<|qe c;by_cases c:b=a;have l:=(qe c).symm.trans z;cases l;subst c;show{ha,by rw[zc];show hl,vs,_,Q,ha};have l:=(qb c).symm.trans z;by_cases i:b∈ts;have z2:=(qe i).symm.trans l;cases z2;show hT b i;have z2:=(qb i).symm.trans l;cases z2;by_cases c:b=a;show .inl c;by_cases i:b∈ts;show .inr i;show absurd ((qb c).trans<|qb i) z
theorem F_:∀{K:Φ},b∉K.map (·.1)->K.lookup b=ϐ|[],_=>rfl| (a,o)::K,h=>by rw[zO,ze,not_or]at h;rw[zL,show(b==a)=ϰ from beq_false_of_ne h.1];show F_ h.2
theorem N9{K:Params->Φ}{as:δ ε}{e:∀P,as=(K P).map (·.1)}{ts:δ ε}{w:Ω}{h:Γ}(_:(PySem.W.kmHook K as e ts).says w h)(d:∀b∈ts,b∉as):∀b∈ts,(K w.params).lookup b=ϐ:=λb a=>F_<|by rw[<-e];show d b a
def KY{l:PySem.W.OpenLaw}{n k:π}{q:Ψ}{loose:δ ρ}{J:(ρ->θ ξ)->Γ->η}{p:Ω->Γ->η}{d:DefRec}{K:Params->Φ}{CX:DF}{x:ρ}{ts:δ ε} (hn:l.most=ϑ n) (O:n<=Ϙ) (t:d.params.defaults=[]) (hr:cj k callerA) (I:∀(w:Ω)(h:Γ),p w h->(K w.params).In h) (hT:∀(w:Ω)(h:Γ),p w h->∀b∈ts,h.get? b=ϑ (tabObj #[])) (hN:∀(w:Ω)(h:Γ),p w h->∀b∈ts,(K w.params).lookup b=ϐ) (F:∀(w:Ω)(mg:ρ->θ ξ)(fa:ε)(h:Γ),(K w.params).In h->h.Ns mainGlobals mg->mg d.name=ϑ (.ref fa)->∃(fd:FuncData)(sp:Sp),(∀b∈ts,∃c,codeHdIn (K w.params) c b=ϱ)/\(∀(s:ζ)(u:ξ),BindsTo s fd {[u],[]} [(x,u)])/\(∀base:Γ,Bm mg base->(K w.params).In base->base.Ns mainGlobals mg->cG l.prog w (K w.params) mg base CX k fa fd [x] sp)/\∀(H:Hp)(a:ε)(ns:δ ν),ns.length<=n->B_ ts H->kZ (K w.params) H a (ns.map V.int)->sp [.ref a] H (λv Z=>v=.bl true) λZ Z Z=>False) (r:∀(H:Hp)(s:ζ)(e:ξ)(s':ζ),CX [] H s (λZ Z Z=>False) e s'->False): PySem.W.WalkO q loose J p l.row.toRowW d [] (λf vs=>PySem.call f vs):=by show Att.BB hn t λw du C mg mb fa o pm cd doc a vs ns G Y ho hd Q E P j i hg=>?_;have KX:=I w _ Y;let⟨fd,sp,L,N,M,A⟩:=F w mg fa _ KX G.T.g E;have m:=hT w _ Y;show HQ KX G.T.g G.T.b G.T.builtins G.T.nolimit G.T.bmain hg m (λb z=>by let⟨c,hc⟩:=L b z;show((codeHd_of_K KX hc).tab<|m b z).isCodeTable) (hN w _ Y) P j (zM i O) hr M N (λH y B=>A H a ns i y B) λH e s'=>r H C e s'
namespace Rt
def own:Manifest.owners.lookup (String.ofList ['d','e','s','r','e','v','e','r'].reverse)=ϑ Manifest.sig_reversed:=by kernel_rfl
theorem oZ:Slot "reversed" "__next__" "reversed.__next__":=.of (owner:="reversed") (n:="__next__") (by rw[typeLookup_type,builtinLookup_eq_fast];kernel_rfl) `c `c `c (by first|show .inl `c|show .inr `c)<|by rw[isSubtype_type];kernel_rfl
theorem Ga:entryFor table "reversed.__next__"= some Builtin.«reversed.__next__»:=entryFor_of_tree<|by kernel_rfl
def Gb(a:ξ):argsOk "reversed.__next__" {[a],[]}:=by unfold argsOk;rw[signature?_of (id:="reversed.__next__") (n:=['_','_','t','x','e','n','_','_']) (o:=['d','e','s','r','e','v','e','r']) (by kernel_rfl) own];kernel_rfl
theorem Ge:Slot "reversed" "__iter__" "reversed.__iter__":=.of (owner:="reversed") (n:="__iter__") (by rw[typeLookup_type,builtinLookup_eq_fast];kernel_rfl) `c `c `c (by first|show .inl `c|show .inr `c)<|by rw[isSubtype_type];kernel_rfl
def N_(a:ξ):argsOk "reversed.__iter__" {[a],[]}:=by unfold argsOk;rw[signature?_of (id:="reversed.__iter__") (n:=['_','_','r','e','t','i','_','_']) (o:=['d','e','s','r','e','v','e','r']) (by kernel_rfl) own];kernel_rfl
theorem Oa:entryFor table "reversed.__iter__"= some Builtin.«dict_keyiterator.__iter__»:=entryFor_alias (id':="dict_keyiterator.__iter__") (by kernel_rfl) (by first|rfl|decide +kernel|(unfold String.splitOn;simp +decide [String.splitOnAux])) `c<|by kernel_rfl
theorem Ob:Slot "reversed" "__init__" "object.__init__":=.of (owner:="object") (n:="__init__") (by rw[typeLookup_type,builtinLookup_eq_fast];kernel_rfl) `c `c `c (by first|show .inl `c|show .inr `c)<|by rw[isSubtype_type];kernel_rfl
theorem called:TypeCalled "reversed" "reversed.__new__" "object.__init__":={`c,`c,{_,_,F.mro_reversed},F.made_reversed,`c,by rw[isSubtype_type];kernel_rfl,Ob}
def SH:typeLookup (.type "tuple") "__reversed__"= pure none:=by rw[typeLookup_type,builtinLookup_eq_fast];kernel_rfl
def Gf:typeLookup (.type "tuple") "__getitem__"= pure (some<|.builtin "tuple.__getitem__"):=by rw[typeLookup_type,builtinLookup_eq_fast];kernel_rfl
def Oc:isSubtype (.type "tuple") (.type "dict")=pure false:=by rw[isSubtype_type];kernel_rfl
end Rt
noncomputable def Ca(l:ε)(i:ν):Obj:={cls:=.type "reversed",data:=.fields #[.ref l,rawInt i]}
def uz(h:Γ)(a l:ε)(i:ν):Prop:=∃o,h.get? a=ϑ o/\o.cls=.type "reversed"/\o.data=.fields #[.ref l,rawInt i]
section
variable{prog:Ψ}{w:Ω}{A:ϕ}{E:ξ->ζ->η}{s:ζ}
def uz.typeIs(x:uz s.heap a l i):s.TypeIs (.ref a) "reversed":=by let⟨o,ho,hc,_⟩:=x;show⟨o,ho,hc⟩
def uz.keep(x:uz h a l i)(e:∀o,h.get? a=ϑ o->h'.get? a=ϑ o):uz h' a l i:=by let⟨o,ho,r⟩:=x;show{o,e _ ho,r}
def SI(hl:IsTup s.heap l items)(hz:items.size<=Ϙ)(h:Q₁ (.ref s.heap.objs.size) {s with heap:=s.heap.push<|Ca l<|(items.size:ν)-1,toks:=s.toks+1+1}): codeAny `n A (.call (.builtin "reversed.__new__") {[.type "reversed",.ref l],[]}) (wants Q₁ E) s:=by
 show codeAny_of_tree ?_;change wpAny _ A.in1 (do checkBuiltinCall "reversed.__new__" {[.type "reversed",.ref l],[]};again (.builtin "reversed.__new__" {[.type "reversed",.ref l],[]})) _ _ s;show za<|yT (F.newCall_reversed_1 _)<|zm {plainId_quiet F.plain_reversed_new _,yI F.entry_reversed_new ?_};rw[Around.under_plainId F.plain_reversed_new _];unfold Builtin.«reversed.__new__»;show za<|yT (newClass_reversed _) ?_;show za<|yT (a:=()) (by first|rfl|kernel_rfl)<|za<|yT (a:=()) (by first|rfl|kernel_rfl) ?_;show za<|wpAny_specialOf hl.typeIs Rt.SH ?_;show za<|za<|wpAny_isInstance hl.typeIs Rt.Oc<|za<|wpAny_specialOf hl.typeIs Rt.Gf ?_;change wpAny _ _ (if (["tuple.__getitem__","str.__getitem__","bytes.__getitem__","bytearray.__getitem__","memoryview.__getitem__","numpy.ndarray.__getitem__","sqlite3.Row.__getitem__"]:δ String).contains "tuple.__getitem__"= true then pure true else _) _ _ _;rw[qe<|`c];show zm ?_
 change wpAny _ _ (do
     let c <-call (Value.builtin "len") [Value.ref l]
     let __x <-asInt? c
     match __x with
      |some n=>do
       let c <-Builtin.SmallTypes.newRecord (Value.type "reversed") [Value.ref l,rawInt (n-1)]
       ret c
      |x=>unsupported "internal:reversed.__new__") _ _ _
 show za<|len_tuple hl (by rw[zZ]at hz;lia) ?_;show za<|yT (a:=some ((items.size:π):ν)) rfl ?_;show za (m:=newObj (.type "reversed")<|.fields #[.ref l,rawInt<|((items.size:π):ν)-1])<|yg<|zm h
def Od(hl:IsTup s.heap l items)(hz:items.size<=Ϙ)(h:Q (.ref s.heap.objs.size) {s with heap:=s.heap.push<|Ca l<|(items.size:ν)-1,toks:=s.toks+1+1}): wpAny `n A (call (.type "reversed") [.ref l]) Q E s:=by show callType_codes Rt.called (F.typeCall_reversed_1 _) F.entry_object_init (Q₁:=λobj a=>a.TypeIs obj "reversed"/\Q obj a) (SI hl hz {{_,zr _ rfl,rfl},h}) λobj a c=>?_;show{c.1,F.args_object_init_2 obj _,object_init_meets Rt.called.init.lookup Rt.called.made `a prog w A.in1 _ a ⟨c.1,rfl,c.2⟩}
def sqx(h:k<n):seqIndex? ((k:π):ν) n=ϑ k:=by have e:(if ((k:π):ν)<0 then ((k:π):ν)+(n:ν) else ((k:π):ν))=((k:π):ν):=qb `b;unfold seqIndex?;dsimp only;rw[e,qe<|by simp;lia];rfl
def Oe{it l:ε}{i:π}{items:Array ξ}{x:ξ}{Q:θ ξ->ζ->η}(c:uz s.heap it l (i:ν))(hl:IsTup s.heap l items)(hz:items.size<=Ϙ)(hx:items[i]?=some x) (d:∀h' tk,uz h' it l ((i:ν)-1)->Heap.SameBut it s.heap h'->Q (some x) {s with heap:=h',toks:=tk}):wpAny `n A (pyNext<|.ref it) Q E s:=by let⟨o,ho,hc,hd⟩:=id c;have hi:i<items.size:=(Array.getElem?_eq_some_iff.mp hx).1;unfold pyNext;show za<|wpAny_attempt<|wpAny_callSpecial?_slot (name:=Str.ofString "__next__") c.typeIs Rt.oZ<|yD Rt.oZ c.typeIs Rt.Ga ?_<|Rt.Gb _;unfold Builtin.«reversed.__next__»;show za<|yT (a:=(Value.ref it,[])) rfl<|za<|ya ho hd (x:=.ref l) rfl<|za<|ya ho hd (x:=rawInt (i:ν)) rfl ?_;change wpAny _ _ (if (i:ν)<0 then _ else _) _ _ s;rw[qb<|`b];change wpAny _ _ (specialOf (.ref l) "__getitem__" >>=_) _ _ s;show za<|wpAny_specialOf hl.typeIs Rt.Gf ?_;change wpAny _ _ (mkInt (i:ν) >>=_) _ _ s;show za<|wpAny_mkInt ?_;show za<|wpAny_attempt<|getItem_tuple (j:=i) hl `b (by rw[zZ]at hz;lia) (sqx hi) hx ?_;show za<|ya ho hd (x:=rawInt (i:ν)) rfl ?_;change wpAny _ _ (setField (.ref it) 1 (rawInt<|(i:ν)-1) >>=λz=>ret x) _ _ _;show za<|yP ho hd `d<|zm {x,rfl,zm<|d _ _ ?_<|yy ..};show{_,yr _ ho<|Obj.isFreed_of_fields<|yw hd _,(Obj.cls_mapFields ..).trans hc,by rw[yw hd];simp}
def SJ(h:A.handled=ϐ)(c:uz s.heap it l (-1))(j:∀h',Heap.ExtBut it s.heap h'->Q none {s with heap:=h'}):wpAny `n A (pyNext<|.ref it) Q E s:=by
 let⟨o,ho,hc,hd⟩:=id c;unfold pyNext;show za<|wpAny_attempt<|wpAny_callSpecial?_slot (name:=Str.ofString "__next__") c.typeIs Rt.oZ<|yD Rt.oZ c.typeIs Rt.Ga ?_<|Rt.Gb _;unfold Builtin.«reversed.__next__»;show za<|yT (a:=(Value.ref it,[])) rfl<|za<|ya ho hd (x:=.ref l) rfl<|za<|ya ho hd (x:=rawInt (-1)) rfl ?_;change wpAny _ _ (if (-1:ν)<0 then _ else _) _ _ s;rw[qe<|`a];show za<|wpAny_rule ?_;have d:=yw hd (·.setIfInBounds 1 (rawInt (-1)));have n:=yr (Obj.mapFields (·.setIfInBounds 1 (rawInt (-1)))) ho<|Obj.isFreed_of_fields d;show za (m:=setField (.ref it) 1 (rawInt (-1)) >>=λz=>setField (.ref it) 0 .none)<|za<|yP ho hd `d<|yP n d `d ?_;have i:Heap.ExtBut it s.heap ((s.heap.update it (Obj.mapFields (·.setIfInBounds 1 (rawInt (-1))))).update it (Obj.mapFields (·.setIfInBounds 0 Value.none))):=λb u g e=>by rw[ym _ _<|Ne.symm g,ym _ _<|Ne.symm g];show e
 show za ?_;change wpAny _ _ (newExc (.type "StopIteration") [] >>=_) _ _ _;show za ?_;simp only[newExc,newTuple];show za<|yg ?_ (by size_fits);show za (m:=firstArgMember _ _)<|yT (a:=Value.none) (by first|rfl|(simp only[firstArgMember];rfl)) ?_;show yg ?_ (by size_fits);simp only[raiseNew];show za<|wpAny_handled ?_;first|rw[show A.in1.handled=ϐ from h]|rw[h]
 show za<|zm<|wpAny_throw ?_;show za<|wpAny_isInstance (T:="StopIteration") (b:=true) {_,zr _ rfl,rfl} isSubtype_stop ?_;show zm<|j _<|(i.push _).push _
def Gg(a:uz s.heap it l i)(h:Q (.ref it) s):wpAny `n A (pyIter<|.ref it) Q E s:=by show wpAny_pyIter_slot a.typeIs Rt.Ge<|yD Rt.Ge a.typeIs Rt.Oa ?_<|Rt.N_ _;change wpAny _ _ (ret<|.ref it) _ _ s;show zm !{"reversed",_,a.typeIs,Rt.oZ.lookup,h}
end
end L2
namespace L2
open PySem PySem.Spec PyProof.Rows
def Xc(K:Φ)(a:ε)(n:π):It:={λi H=>∃xs x,k9 K H a xs/\xs.length=n/\i<n/\xs[n-1-i]?=some x,λi H x H'=>H'=H/\∀xs,k9 K H a xs->xs.length=n->xs[n-1-i]?=some x,λi z=>n<=i}
theorem Of{P:Ψ}{w:Ω}{K:Φ}{tg:Δ}(a it:ε)(n:π):Turn P w K tg (Xc K a n) [it] it (λi h=>i<=n/\uz h it a ((n:ν)-1-(i:ν))) where
 mem:=`d
 obj:=λi h st b hb=>by
  have e:b=it:=by simpa using hb
  subst e
  let⟨_,o,e,c,d⟩:=st
  show{o,e,λv z=>by rw[d]at z;cases z}
 keep:=λi h h' st k=>{st.1,st.2.keep λo e=>k it `d o e}
 item:=by
  intro X hP hw hK hc i qg s σ H E I hf st hg
  subst hP hw hK
  let⟨xs,x,hq,hn,hi,hx⟩:=hg
  let⟨aE,rv,p,hz⟩:=I.tuple hq
  let⟨u,hu,ru⟩:=rv.get hx
  let⟨f0,f1,f2,f3,f4,f5⟩:=hf it<|`d
  have e:(n:ν)-1-(i:ν)=((n-1-i:π):ν):=`b
  have hit:=st.2
  rw[e]at hit
  show Oe hit p (by rw[zl,<-rv.length];show hz) (x:=u) (by simpa using hu) λh' tk gM sb=>?_
  have I1:Inv X qg σ H {s with heap:=h',toks:=tk}:=I.turned (t':=tk) (λb o hb e=>(sb.2 b hb).trans e) f0 f1 f3 f4 f5
  let⟨o,e1,c,d⟩:=id gM
  show{u,rfl,wM (s:={s with heap:=h',toks:=tk}) e1 c d `a {x,H,I1,ru,{rfl,λys hy y=>by rw[I.qk hy hq];show hx},{hi,?_},λb hb=>(hf b hb).1}}
  have e2:(n:ν)-1-((i+1:π):ν)=((n-1-i:π):ν)-1:=`b
  rw[e2];show gM
 done:=by
  intro X hP hw hK hc i qg s σ H E I hf st hg
  subst hP hw hK
  let⟨f0,f1,f2,f3,f4,f5⟩:=hf it<|`d
  have hg:n<=i:=hg
  have e:(n:ν)-1-(i:ν) = -1:=by have:=st.1;lia
  have hit:=st.2
  rw[e]at hit
  show SJ (I.ok.hd hc) hit λh' eb=>{rfl,I.turned (t':=s.toks) (λb o hb e=>eb b o hb e) f0 f1 f3 f4 f5}
 self:=λy y y y y st h=>Gg st.2 h
def iRt(K:Φ)(ta:TA):TI:=λσ H R=>ta σ H λvs H1=>∃a xs,vs=[.ref a]/\k9 K H1 a xs/\R (Xc K a xs.length) H1
def Xd{X:Cx}{tg a:Δ}{ta:TA}{p pos:Pos}(hg:Gl X "reversed")(hm:X.mg "reversed"= none)(ha:PA X [a] ta)(hs:starEach [a] X.env=[(false,eval a X.env)]):PI X tg (.Call (.Name "reversed" p) [a] [] pos) (iRt X.K ta):=by
 intro qg s σ H R I h;show Call_<|jW I hg hm boot_reversed<|PyProof.Rows.callWith_type1 (bZ (ha pos qg s σ H _ I h) λus s1 ⟨vs,H1,c,t,v⟩=>?_) hs rfl;let⟨l,xs,e,q,n⟩:=v;subst e;let⟨u,rfl,r⟩:=vals1 t;cases r;let⟨g,j,m,hz⟩:=c.tuple q;have hn:g.toArray.size=xs.length:=by rw[zl,j.length]
 show Od m (by rw[hn];show hz) ?_;rw[hn];have st:uz (s1.heap.push<|Ca l<|(xs.length:ν)-1) s1.heap.objs.size l ((xs.length:ν)-1-((0:π):ν)):={_,zr _ rfl,rfl,by change Data.fields _=Data.fields _;simp};have i:Inv X qg σ H1 {s1 with heap:=s1.heap.push<|Ca l<|(xs.length:ν)-1,toks:=s1.toks+1+1}:=c.kept (t':=s1.toks+1+1) λb o e=>zb _ e;show Gg (s:={s1 with heap:=s1.heap.push<|Ca l<|(xs.length:ν)-1,toks:=s1.toks+1+1}) st {_,_,_,_,H1,rfl,i,Of l s1.heap.objs.size xs.length,{yf _,st},λb d=>?_,n};have d:b=s1.heap.objs.size:=by simpa using d
 subst d;show c.tN (zp _)<|c.aT.fresh<|zp _
section
variable{K:Φ}{X:Cx}{tg:Δ}
def acd(t:k_):Dd:=λσ S R Z=>t σ S (λds a=>∃es,ds=[.tup es]/\R {es.reverse,λz=>True} a) Z
def irt{t:k_}(hm:X.mg "reversed"= none)(ha:DA K X [a] t)(hg:ψ (Gl X "reversed") qQJ)(hs:ψ (starEach [a] X.env=[(false,eval a X.env)]) qQJ)(w:ψ (X.K=K) qQJ):DI K X tg (.Call (.Name "reversed" p) [a] [] pos) (acd t):=by subst w;show⟨λy=>(Xd (X:=y.cx) hg hm (ha.of y) hs).mono <| by rintro τ H R ⟨σ,S,RI,Z,z,m,q,o,l⟩;show{σ,S,_,Z,z,m,q,by rintro ds x vs H1 ⟨es,e,s⟩ j s1 k1;subst e;let⟨v,rfl,r⟩:=j.one;let⟨a,xs,rfl,g,t⟩:=r.tup;show{a,xs,rfl,.inl<|.of g,o _ x _ H1 s (λi B H2 k2 s2 A=>?_) s1 k1};have c:k9 X.K H2 a xs:=.inl<|.of<|k2.t _ _ g;have n:=RvAll.ts k2 _ t;have hl:xs.length=es.length:=t.len;show{λd hd=>?_,λh=>by rw[yz]at h;change xs.length<=i;lia};have hi:i<es.length:=(by have:=(zu.mp hd).1;rwa [yz]at this);rw[List.getElem?_reverse hi]at hd;let⟨v,e1,r⟩:=n.get hd;rw[hl];show{⟨xs,v,c,hl,hi,e1⟩,λC H' ⟨e2,e3⟩=>?_};subst e2;have:=e3 xs c hl;rw[e1]at this;cases this;show{r,.refl _,s2},l}⟩
end
section
variable{K:Φ}{X:Cx}{pos:Pos}
def SK(tc:oF)(tb:mU):mU:=λDe σ S Z=>∃P:π->SD->ax->η,(∃m,P m σ S)/\∀m σ S,P m σ S->tc σ S (λb c=>if b=ϱ then tb {De with nx:=λa S'=>∃m',m'<m/\P m' a S',ct:=λa S'=>∃m',m'<m/\P m' a S',bk:=De.nx} σ c Z else De.nx σ c) (Z σ)
theorem swh(hc:DT K X c tc)(G:BW K X true body tb):DS K X true (.While c body [] pos) (SK tc tb):=
 ⟨λy=>(Js (X:=y.cx) (y.ok.loop rfl) (hc.of y)<|G.of y).mono <| by rintro D τ H ⟨σ,S,De,Z,I,x,⟨P,⟨m,w⟩,a⟩,n,r⟩;show
  ⟨λm A H'=>∃σ S,iV K H' σ A/\Rs K S H'/\P m σ S/\Kp K H H',⟨m,σ,S,I,x,w,.refl _⟩,by rintro m J H1 ⟨h,s,i,s1,E,k1⟩;show⟨h,s,_,Z h,i,s1,a m h s E,λb F H2 g s2 k2=>by
   cases b with
   |true =>
    rw[qe rfl]at g⊢
    show{λτ3 e=>∃σ S,iV K e σ τ3/\Rs K S e/\(∃d,d<m/\P d σ S)/\Kp K H e,by rintro τ3 e ⟨t,C,B,v,⟨d,hm,p3⟩,k3⟩;show⟨d,hm,t,C,B,v,p3,k3⟩,?_}
    have kk:=k1.trans k2
    show{h,F,_,Z,i.ts k2,s2,g,{λj p τ5 z l o q k5=>{j,p,o,q,l,kk.trans k5},n.rt.kp kk,n.nx.kp kk,λj p τ5 z l o q k5=>{j,p,o,q,l,kk.trans k5}},r.kp kk}
   |false =>
    rw[qb zd]at g⊢
    show n.nx _ _ _ _ g (i.ts k2) s2<|k1.trans k2,(r.kp k1).at i⟩⟩⟩
def ace(i:π)(te:TD):mU:=λDe σ S Z=>∃a:ν,σ[i]?=some (some<|.int a)/\te σ S (λd c=>∃b:ν,d=.int b/\De.nx (σ.set i<|some<|.int<|a+b) c) (Z σ)
theorem sau(hN:X.N.Nodup)(p:DE K X e te)(hi:ψ (X.N[i]?=some x) qQJ)(hx:ψ (Loc X.env.scope x) qQ8)(m:ψ (X.fn x=ϱ\/X.env.scope.names.lookup x=ϑ .local) qQ8): DS K X b (.AugAssign (.Name x pos') .Add e pos) (ace i te):=⟨λy=>(QZ (X:=y.cx) hN hi hx (p.of y) Q0 m).mono <| by rintro D τ H ⟨σ,S,De,Z,g,j,⟨a,ha,t⟩,l,h⟩;let⟨v,e1,r⟩:=g.get ha;show{v,e1,σ,S,_,Z σ,g,j,t,by rintro d q u H1 ⟨c,e2,n⟩ o s1 k1;subst e2;show{a,c,r.int,o.int,l.nx _ _ _ _ n ((g.ts k1).set i<|bc _) s1 k1},h.at g}⟩
noncomputable def vD:V->D|.int i=>.int i|.str z=>.str z|.bl b=>.bl b|_=>.ao
noncomputable def KZ:V->χ|.int _=>true|.str _=>true|_=>false
def Xe(kvs:δ<|ρ×V)(ty:TD):TD:=λσ S R Z=>ty σ S (λy a=>∃z,y=.str z/\R ((kvs.lookup z).elim .ao vD) a) Z
theorem mgk{w:Ω}{ad:ε}{kvs:δ<|ρ×V}{o e:Δ}{apos bp:Pos}{ty:TD}(d:J_ w K ad kvs)(j:(kvs.all λp=>KZ p.2)=ϱ)(ho:∀Y:Cx,Y.env=X.env->Y.mg=X.mg->PE Y o (tC<|.ref ad))(t:DE K X e ty)(hw:ψ (X.w=w) qQJ)(h:ψ (X.K=K) qQJ)(m:ψ (M1 X o "get" apos e bp) qQ4): DE K X (.Call (.Attribute o "get" apos) [e] [] bp) (Xe kvs ty):=⟨λy=>(Kb (X:=y.cx) hw h (ho y.cx rfl rfl) (t.of y) ⟨m.base,m.IX,m.line,m.trees⟩).mono <| by rintro τ H Q ⟨σ,S,R,Z,n,g,q,c,a⟩;show⟨ad,kvs,rfl,d,σ,S,_,Z,n,g,q,by
 rintro A x v H1 ⟨z,e1,r⟩ l s1 k1;subst e1;show{z,l.str,c _ _ _ _ r ?_ s1 k1};have fl:∀v,kvs.lookup z=ϑ v->KZ v=ϱ:=λv s=>by have:=zX s;show yn.mp j _ this
 cases q:kvs.lookup z with|none=>show jZ|some v=>have:=fl v q;cases v with|int i=>show bc i|str i=>show j0 i|_=>(cases this),a⟩⟩
def Xf:R2:=λx y H Q=>∃a z n,x=.ref a/\y=.int n/\H a=ϑ (.lst [z])/\0<=n/\n<=1000/\∀p,H p=ϐ->Q (.ref p) (upd H p<|.lst<|List.replicate n.toNat z)
def Oh:ji X (binaryOp .Mult) Xf:=by intro qg s σ H x y v u Q I i g h;let⟨a,z,n,rfl,rfl,ha,h1,h2,q⟩:=h;cases i;let⟨c,rfl⟩:=g;let⟨z2,j,k,d,hl,ho⟩:=I.Hl ha;let⟨w,rfl,e⟩:=d.one;show wpAny_binaryOp_repeat_ref (T:="list") (U:="int") `a {_,ho,rfl} (λs'=>typeIs_int s' n c) noFill_list_mul F.fills_int_mul F.slot_int_rmul repeat_list F.slot_int_index.lookup<|yR F.slot_int_rmul (typeIs_int s n c) F.entry_int_rmul (F.args_int_rmul_2 _ _) (int___rmul___int_list n c a [w].toArray k) {ho,rfl,{_,ho,rfl},?_};show yR F.slot_list_mul {_,ho,rfl} F.entry_list_mul (F.args_list_mul_2 _ _) (AutoListH.list___mul___list_int_3 a [w].toArray k n c (by simp[Builtin.List.listFitsIndex];lia) (by simp;lia)<|by simp[Builtin.List.listTooLong,sizeLine];lia) {ho,?_};rw[qb<|`d,show(#[]:Array ξ)=([]:δ ξ).toArray from rfl,show[w].toArray=#[w] from rfl,yW,List.nil_append];show{.ref s.heap.objs.size,_,I.laid (t':=s.toks) (λt t q=>zb _ q) (zp _) ?_,rfl,q _ I.fresh};show(show bM X.prog X.w _ _ _ (.lst<|List.replicate n.toNat z) from{by rw[zE];show YR<|`b,_,_,um e _,zr _ rfl})
end
section
variable{K:Φ}
def Xg:vI:=λx y S R=>∃a d n,x=.ref a/\y=.int n/\S a=ϑ (.lst [d])/\0<=n/\n<=1000/\∀p,S p=ϐ->R (.ref p) (S.set p<|.lst<|List.replicate n.toNat d)
def Ek:qz K (binaryOp .Mult) Xg:=by rintro X r hu qg s σ H x y v u Q I o m ⟨d,e,S,R,q,i,c,⟨a,d0,n,e1,e2,e3,h1,h2,h⟩,l⟩;subst e1 e2;let⟨zs,e4,t⟩:=c.lst e3;let⟨z,rfl,g⟩:=t.one;show Oh qg s σ H _ _ v u Q I o m {a,z,n,q.ref,i.int,e4,h1,h2,λp j=>l.new c j (h p)<|y8 g _}
end
theorem gK(hm:X.mg x=ϑ (.ref a))(hg:ψ (Gl X x) qQJ)(hd:ψ ((x==("__debug__": ρ))=ϰ) qQZ):∀Y:Cx,Y.env=X.env->Y.mg=X.mg->PE Y (.Name x pos) (tC<|.ref a):=λY e1 e2=>Fp (X:=Y) (u:=.ref a) (show Y.env.kindOf x=_ by rw[e1];show hg) (by rw[e2];show hm) rfl hd
structure Fb(K:Φ)(x q:ρ)(st:Stmt)(ps:δ ρ)(f:ε)(d:FuncData):η where
 F:qE K x q st f d
 b:Binds K d ps []
structure El(K:Φ)(mg:ρ->θ ξ)(x:ρ)(st:Stmt)(ps:δ ρ)(f:ε)(d:FuncData):η extends Fb K x x st ps f d where
 k:keepIn K (.ref f)=ϱ
 m:mg x=ϑ (.ref f)
structure MN(K:Φ)(c:ε)(x q:ρ)(st:Stmt)(ps:δ ρ)(f:ε)(d:FuncData):η extends Fb K x q st ps f d where
 e:Meth K c x f
abbrev Ok(P:Ψ)(w:Ω)(base:Γ){K:Φ}{mg:ρ->θ ξ}{x:ρ}{st:Stmt}{ps:δ ρ}{f:ε}{d:FuncData}(_:El K mg x st ps f d)(k:π)(sp:ir):Prop:=cG P w K mg base (fh P w mg) k f d ps<|qD K sp
abbrev rS(P:Ψ)(w:Ω)(mg:ρ->θ ξ)(base:Γ){K:Φ}{c:ε}{x q:ρ}{st:Stmt}{ps:δ ρ}{f:ε}{d:FuncData}(_:MN K c x q st ps f d)(k:π)(sp:ir):Prop:=cG P w K mg base (fh P w mg) k f d ps<|qD K sp
theorem fsc{N P:δ ρ}{sc:Scope}(a:ψ (sc.kind=.function/\sc.isCoroutine=ϰ/\sc.isGenerator=ϰ/\N.take P.length=P) qQ4)(b:ψ (N.Nodup/\(∀x∈P,sc.names.lookup x=ϑ .local\/sc.names.lookup x=ϑ .cell)/\∀y∈sc.names,y.2≠.free) qJX):gr N P sc:=⟨a.1,a.2.1,a.2.2.1,b.1,a.2.2.2,b.2.1,b.2.2⟩
section
variable{R:η}{K:Φ}{h:Γ}{mg:ρ->θ ξ}{od an:θ ε}{sl:Array (θ ξ)}{oc dV kV dc pm cd ct:ξ}{f da:ε}{HR:θ ε}{dn:π}{HS:Array (θ ξ)}{c:ε}{tk:Tok}{d:FuncData}
theorem fn1(X:K.In h)(G:h.Ns mainGlobals mg)(x:ρ)(st:Stmt)(ps:δ ρ)(a:nsIn K mainGlobals x=ϑ (some<|.ref f))(l:K.lookup f=ϑ {oc,od,.func<|fnOf x x (bK st) (bx st) (ae st) dV kV dc pm an cd ct,sl}) (e:codeIn K cd x=ϱ) (k:keepIn K (.ref f)=ϱ) (b:∀us:δ ξ,us.length=ps.length->bindArgs (fnOf x x (bK st) (bx st) (ae st) dV kV dc pm an cd ct) {us,[]}=pure (ps.zip us)) (g:∀d,El K mg x st ps f d->R):R:=g _ {{{_,_,_,_,_,_,_,_,_,_,rfl,l,e},.all b},k,mg_of X G a}
theorem Zp(X:K.In h)(G:h.Ns mainGlobals mg)(x:ρ)(st:Stmt)(ps:δ ρ)(a:nsIn K mainGlobals x=ϑ (some<|.ref f))(l:K.lookup f=ϑ {oc,od,.func<|fnOf x x (bK st) (bx st) (ae st) dV kV dc pm an cd ct,sl}) (e:codeIn K cd x=ϱ) (k:keepIn K (.ref f)=ϱ) (b:∀us:δ ξ,us.length=ps.length->bindArgs (fnOf x x (bK st) (bx st) (ae st) dV kV dc pm an cd ct) {us,[]}=pure (ps.zip us)) (g:∀d,d.code=cd->(∀(s:ζ)(us:δ ξ),us.length=ps.length->BindsTo s d {us,[]} (ps.zip us))->El K mg x st ps f d->R):R:=g _ rfl (λs us h=>.of_eq<|b us h) {{{_,_,_,_,_,_,_,_,_,_,rfl,l,e},.all b},k,mg_of X G a}
theorem fm1(C:sX K c)(x q:ρ)(st:Stmt)(ps:δ ρ)(a:findIn K (.ref c) x=ϑ (some<|.ref f))(i:isFn K (.ref f)=ϱ)(l:K.lookup f=ϑ {oc,od,.func<|fnOf x q (bK st) (bx st) (ae st) dV kV dc pm an cd ct,sl}) (e:codeIn K cd q=ϱ) (k:keepIn K (.ref f)=ϱ) (b:∀us:δ ξ,us.length=ps.length->bindArgs (fnOf x q (bK st) (bx st) (ae st) dV kV dc pm an cd ct) {us,[]}=pure (ps.zip us)) (g:∀d,MN K c x q st ps f d->R):R:=g _ {{{_,_,_,_,_,_,_,_,_,_,rfl,l,e},.all b},a,i,k}
theorem fnd(X:K.In h)(G:h.Ns mainGlobals mg)(x:ρ)(st:Stmt)(ps:δ ρ)(a:nsIn K mainGlobals x=ϑ (some<|.ref f))(l:K.lookup f=ϑ {oc,od,.func<|fnOf x x (bK st) (bx st) (ae st) (.ref da) kV dc pm an cd ct,sl}) (t:K.lookup da=ϑ {.type "tuple",HR,.seq #[.none] dn,HS}) (e:codeIn K cd x=ϱ) (k:keepIn K (.ref f)=ϱ) (b:∀(s:ζ) (us:δ ξ),s.heap.get? da=ϑ {.type "tuple",HR,.seq #[.none] dn,HS}->us.length=ps.length->BindsTo s (fnOf x x (bK st) (bx st) (ae st) (.ref da) kV dc pm an cd ct) {us,[]} (ps.zip us)) (b2:∀(s:ζ) (us:δ ξ),s.heap.get? da=ϑ {.type "tuple",HR,.seq #[.none] dn,HS}->us.length+1=ps.length->BindsTo s (fnOf x x (bK st) (bx st) (ae st) (.ref da) kV dc pm an cd ct) {us,[]} (ps.zip<|us++[.none])) (g:∀d,El K mg x st ps f d->Binds K d ps [.none]->R):R:=g _ {{{_,_,_,_,_,_,_,_,_,_,rfl,l,e},λs us c hl=>by rw[yG]at hl⊢;show b s us (c _ _ t) hl},k,mg_of X G a} λs us c hl=>b2 s us (c _ _ t)<|by simpa using hl
theorem Zr(C:sX K c)(x q:ρ)(st:Stmt)(ps:δ ρ)(a:findIn K (.ref c) x=ϑ (some<|.ref f))(i:isFn K (.ref f)=ϱ)(l:K.lookup f=ϑ {oc,od,.func<|fnOf x q (bK st) (bx st) (ae st) (.ref da) kV dc pm an cd ct,sl}) (t:K.lookup da=ϑ {.type "tuple",HR,.seq #[.none] dn,HS}) (e:codeIn K cd q=ϱ) (k:keepIn K (.ref f)=ϱ) (b:∀(s:ζ) (us:δ ξ),s.heap.get? da=ϑ {.type "tuple",HR,.seq #[.none] dn,HS}->us.length=ps.length->BindsTo s (fnOf x q (bK st) (bx st) (ae st) (.ref da) kV dc pm an cd ct) {us,[]} (ps.zip us)) (b2:∀(s:ζ) (us:δ ξ),s.heap.get? da=ϑ {.type "tuple",HR,.seq #[.none] dn,HS}->us.length+1=ps.length->BindsTo s (fnOf x q (bK st) (bx st) (ae st) (.ref da) kV dc pm an cd ct) {us,[]} (ps.zip<|us++[.none])) (g:∀d,MN K c x q st ps f d->Binds K d ps [.none]->R):R:=g _ {{{_,_,_,_,_,_,_,_,_,_,rfl,l,e},λs us h hl=>by rw[yG]at hl⊢;show b s us (h _ _ t) hl},a,i,k} λs us h hl=>b2 s us (h _ _ t)<|by simpa using hl
theorem Bs(X:K.In h)(G:h.Ns mainGlobals mg)(x:ρ)(a:nsIn K mainGlobals x=ϑ none)(g:mg x=ϐ->R):R:=g<|PySem.W.mg_none_of X G a
theorem Oi(X:K.In h)(G:h.Ns mainGlobals mg)(x:ρ)(i:ν)(a:nsIn K mainGlobals x=ϑ (some<|.int i tk))(g:mg x=ϑ (.int i tk)->R):R:=g<|mg_of X G a
theorem UL(X:K.In h)(G:h.Ns mainGlobals mg)(x:ρ)(a:nsIn K mainGlobals x=ϑ (some<|.ref c))(l:K.lookup c=ϑ o)(g:mg x=ϑ (.ref c)->K.lookup c=ϑ o->R):R:=g (mg_of X G a) l
theorem K0(X:K.In h)(G:h.Ns mainGlobals mg)(x:ρ)(a:nsIn K mainGlobals x=ϑ (some<|.ref c))(e:excIn K c L2.nM "ValueError.__new__"= true)(g:mg x=ϑ (.ref c)->excIn K c L2.nM "ValueError.__new__"= true->R):R:=g (mg_of X G a) e
theorem gvc(X:K.In h)(G:h.Ns mainGlobals mg)(x:ρ)(a:nsIn K mainGlobals x=ϑ (some<|.ref c))(pg:plainGet K c Str.empty=ϱ)(hd:hasDictIn K c=ϱ)(po:plainOver K c=ϱ)(sa:findIn K (.ref c) "__setattr__"= some (some<|.builtin "object.__setattr__"))(d:makesIn K c=ϱ)(kc:keepIn K (.ref c)=ϱ) (g:mg x=ϑ (.ref c)->sX K c->makesIn K c=ϱ->keepIn K (.ref c)=ϱ->R):R:=g (mg_of X G a) ⟨pg,hd,po,sa⟩ d kc
theorem Xh(C:sX K c)(x:ρ)(a:findIn K (.ref c) x=ϑ none)(g:findIn K (.ref c) x=ϑ none->R):R:=g a
def SM{P:ε}(l:K.lookup c=ϑ o)(e:codeHdIn [(c,o)] c P=ϱ):codeHdIn K c P=ϱ:=by unfold codeHdIn at e⊢;rw[l];rw[show([(c,o)]:Φ).lookup c=ϑ o by simp]at e;show e
theorem Zs{P:ε}(X:K.In h)(e:d.code=.ref c)(o:K.lookup c=ϑ {oC,od,.fields vC,sl})(q:vC[11]?=some (.ref P))(a:codeHdIn [(c,{oC,od,.fields vC,sl})] c P=ϱ)(g:codeHdIn K c P=ϱ->R):R:=g<|SM o a
end
section
variable{Q:δ ξ->η}
def Zt(h:Q [])(us:δ ξ)(e:us.length=0):Q us:=by cases us with|nil=>show h|cons a us=>cases e
def HU(h:∀a us,us.length=n->Q (a::us))(us:δ ξ)(e:us.length=n+1):Q us:=by cases us with|nil=>(cases e)|cons a us=>show h a us<|yU e
theorem UM(h:∀a,Q [a]):∀us:δ ξ,us.length=1->Q us:=HU λa=>Zt<|h a
theorem ln2(h:∀a b,Q [a,b]):∀us:δ ξ,us.length=2->Q us:=HU λa=>UM<|h a
theorem SN(h:∀a b c,Q [a,b,c]):∀us:δ ξ,us.length=3->Q us:=HU λa=>ln2<|h a
theorem Qf(h:∀a b c d,Q [a,b,c,d]):∀us:δ ξ,us.length=4->Q us:=HU λa=>SN<|h a
theorem Xi(h:∀a b c d e,Q [a,b,c,d,e]):∀us:δ ξ,us.length=5->Q us:=HU λa=>Qf<|h a
theorem Xj(h:∀a b c d e f,Q [a,b,c,d,e,f]):∀us:δ ξ,us.length=6->Q us:=HU λa=>Xi<|h a
theorem acg(h:∀a,Q [a])(us:δ ξ)(e:us.length+1=2):Q us:=UM h us<|yU e
theorem ach(h:∀a b,Q [a,b])(us:δ ξ)(e:us.length+1=3):Q us:=ln2 h us<|yU e
theorem SO(h:∀a b c,Q [a,b,c])(us:δ ξ)(e:us.length+1=4):Q us:=SN h us<|yU e
theorem Xk(h:∀a b c d e,Q [a,b,c,d,e])(us:δ ξ)(e:us.length+1=6):Q us:=Xi h us<|yU e
end
section
variable{R:η}{K:Φ}{h:Γ}{mg:ρ->θ ξ}{X Y:ρ}{c d:ε}
theorem dr(_:K.In h)(_:mg X=ϑ (.ref c))(_:mg Y=ϑ (.ref d))(b:χ)(e:kitOne K (.ref c) (.ref d)=ϑ b)(g:kitOne K (.ref c) (.ref d)=ϑ b->R):R:=g e
theorem Oj(_:K.In h)(_:mg X=ϑ (.ref c))(e:kitOne K (.ref c) (.type "ValueError")=ϑ true)(g:kitOne K (.ref c) (.type "ValueError")=ϑ true->R):R:=g e
theorem Ol(_:K.In h)(_:mg X=ϑ (.ref c))(_:mg Y=ϑ (.ref d))(e:mroIn K c (.ref d)=ϑ true)(g:mroIn K c (.ref d)=ϑ true->R):R:=g e
theorem Om(_:K.In h)(_:mg X=ϑ (.ref c))(e1:findIn K (.ref c) "__getattribute__"= some (some<|.builtin "BaseException.__getattribute__"))(e2:findIn K (.ref c) "__getattr__"= some none)(e3:findIn K (.ref c) "__class__"= some (some<|.builtin "object.__class__"))(g:XA K c->R):R:=g ⟨e1,e2,e3⟩
def Xl(h:kitOne K C a=ϑ false)(h2:kitAny K C r=ϑ false):kitAny K C (a::r)=ϑ false:=by unfold kitAny;rw[h];show h2
end
section
variable{K:Φ}{X:Cx}{x:ρ}{st:Stmt}{ps:δ ρ}{f:ε}{fd:FuncData}{sp:ir}{e:Δ}{es:δ Δ}{p pos:Pos}
theorem ba{t:k_}(T:El K X.mg x st ps f fd)(F:cG X.prog X.w K X.mg X.base (fh X.prog X.w X.mg) k f fd ps<|qD K sp)(hr:cj k' X.A)(ha:DA K X (e::es) t)(a:ψ (k<=k') qJK) (hg:ψ (Gl X x) qQJ) (d:ψ ((x==("__debug__": ρ))=ϰ) qQZ) (g:ψ (starEach (e::es) X.env=`j::starEach es X.env) qQJ) (h:ψ ((backTo pos<|starEach es X.env).any (·.1)=ϰ) qQJ) (c:ψ (X.K=K) qQJ): DE K X (.Call (.Name x p) (e::es) [] pos) (PX sp [] t):=cf (F.mono a) hr T.m T.k T.b d0 ha hg d g h c
theorem Zu{R:η}{h:Γ}{mg:ρ->θ ξ}{c:ε}(X:K.In h)(G:h.Ns mainGlobals mg)(x:ρ)(a:nsIn K mainGlobals x=ϑ (some<|.ref c))(g:mg x=ϑ (.ref c)->R):R:=g<|mg_of X G a
end
theorem cj.u(r:cj k A):A.units+64<cLine:=r.units
section
variable{P:Ψ}{w:Ω}{K:Φ}{mg:ρ->θ ξ}{base:Γ}{x qual:ρ}{st:Stmt}{f:ε}{fd:FuncData}{N ps:δ ρ}{k:π}{sp:ir}
theorem qE.Jf(F:qE K x qual st f fd)(S:gr N ps<|ae st) (a:∀(fT:ξ)(A:ϕ)(outer:δ Env)(s:ζ)(H:Hp)(E:XK)(ds:δ D)(S:ax)(R:KD)(Z:KX),cj k (A.deeper<|PyProof.Rows.envOfC qual (ae st) s.heap.objs.size f fT)->sp ds S R Z->∃t,BW K (ij (fh P w mg) P w K mg base N qual (ae st) f fT A outer s H E) true (bx st) t/\t {nx:=λz S'=>Fo S'<|R .ao,rt:=λd S'=>Fo S'<|R d} (gP N ds) S λz C S'=>Fo S'<|Z C) (len:∀ds S R Z,sp ds S R Z->ds.length=ps.length:=by intro _ _ _ _ h;repeat first|(let⟨e,_⟩:=h;rw[e];rfl;done)|let⟨_,h⟩:=h):cG P w K mg base (fh P w mg) (k+1) f fd ps (qD K sp):=F.ok S len a
end
end L2
namespace L2
open PySem PySem.Spec PyProof.Rows PySem.SeqAt
def isStrOf(z:ρ):ξ->χ|.str y _=>y==z|_=>false
end L2
namespace L2
open PySem PySem.Spec PyProof.Rows
theorem Oo{R:η}{K:Φ}{h:Γ}{mg:ρ->θ ξ}{X:ρ}{c:ε}{o j n m l:ρ}{d0 d1 a e d:ε}(_:K.In h)(_:mg X=ϑ (.ref c))(_:mg o=ϑ (.ref d0))(_:mg j=ϑ (.ref d1))(_:mg n=ϑ (.ref a))(_:mg m=ϑ (.ref e))(_:mg l=ϑ (.ref d))(i:kitOne K (.ref c) (.ref d0)=ϑ false)(e1:kitOne K (.ref c) (.ref d1)=ϑ false)(e2:kitOne K (.ref c) (.ref a)=ϑ false)(e3:kitOne K (.ref c) (.ref e)=ϑ false)(e4:kitOne K (.ref c) (.ref d)=ϑ false) (g:kitAny K (.ref c) ([d0,d1,a,e,d].map Value.ref)=ϑ false->R):R:=g<|Xl i<|Xl e1<|Xl e2<|Xl e3<|Xl e4 rfl
section
def SQ:bootBuiltins "max"= some (.builtin "max"):=by with_unfolding_all rfl
end
mutual
inductive Dr (S:ax):D->PyData->η
 |ao:Dr S .ao .none
 |bl (b:χ):Dr S (.bl b) (.bool b)
 |int (i:ν):Dr S (.int i) (.int i)
 |str (z:ρ):Dr S (.str z) (.str z)
 |tup {ds:δ D}{ps:δ PyData} : Xm S ds ps->Dr S (.tup ds) (.tuple ps)
 |ref {a:ε}{ds:δ D}{ps:δ PyData} : S a=ϑ (.lst ds)->Xm S ds ps->Dr S (.ref a) (.list ps)
inductive Xm (S:ax):δ D->δ PyData->η
 |nil:Xm S [] []
 |cons {d:D}{ds:δ D}{p:PyData}{ps:δ PyData} : Dr S d p->Xm S ds ps->Xm S (d::ds) (p::ps)
end
def nQ:Stmt->ρ|.FunctionDef n _ _ _ _ _ _ _ _ _=>n|_=>Str.empty
def wa(s:Stmt):δ Str:=(bK s).args.map λa=>a.arg
def HV(K:Φ)(mg:ρ->θ ξ)(top:π->Stmt)(f:π->ε)(d:π->FuncData)(l:δ π):Prop:=∀i∈l,El K mg (nQ<|top i) (top i) (wa<|top i) (f i)<|d i
def Em(K:Φ)(c:ε)(q:ρ)(cl:Stmt)(f:π->ε)(d:π->FuncData)(l:δ π):Prop:=∀i∈l,MN K c (nQ<|inClass cl i) (q++nQ (inClass cl i)) (inClass cl i) (wa<|inClass cl i) (f i)<|d i
section
variable{K:Φ}{h:Γ}{mg:ρ->θ ξ}{od an:θ ε}{sl:Array (θ ξ)}{oc dV kV dc pm cd ct:ξ}{x:ε}{top:π->Stmt}{l:δ π}{c:ε}{q:ρ}{cl:Stmt}
def af(X:K.In h)(G:h.Ns mainGlobals mg)(i:π)(m:i∉l)(a:nsIn K mainGlobals (nQ<|top i)=ϑ (some<|.ref x))(o:K.lookup x=ϑ {oc,od,.func<|fnOf (nQ<|top i) (nQ<|top i) (bK<|top i) (bx<|top i) (ae<|top i) dV kV dc pm an cd ct,sl}) (e:codeIn K cd (nQ<|top i)=ϱ) (k:keepIn K (.ref x)=ϱ) (b:∀us:δ ξ,us.length=(wa<|top i).length->bindArgs (fnOf (nQ<|top i) (nQ<|top i) (bK<|top i) (bx<|top i) (ae<|top i) dV kV dc pm an cd ct) {us,[]}=pure ((wa<|top i).zip us)) (g:∃f d,HV K mg top f d l):∃f d,HV K mg top f d (i::l):=by show fn1 X G _ _ _ a o e k b λd0 F=>?_;let⟨f,d,A⟩:=g;show{λj=>if j=i then x else f j,λj=>if j=i then d0 else d j,λj c=>?_};by_cases z:j=i;subst z;dsimp only;rw[qe rfl,qe rfl];show F;dsimp only;rw[qb z,qb z];show A j<|(ze.mp c).resolve_left z
theorem af0:∃f d,HV K mg top f d []:={λz=>0,λz=>fnOf Str.empty Str.empty (bK<|.Pass {0,0,0,0}) [] (ae<|.Pass {0,0,0,0}) .none .none .none .none none .none .none,λz h=>nomatch h}
def afx{R:η}(_:K.In h)(_:h.Ns mainGlobals mg)(g:∃f d,HV K mg top f d l)(r:∀f d,HV K mg top f d l->R):R:=by let⟨f,d,A⟩:=g;show r f d A
def amx{R:η}(_:sX K c)(g:∃f d,Em K c q cl f d l)(r:∀f d,Em K c q cl f d l->R):R:=by let⟨f,d,A⟩:=g;show r f d A
def am(C:sX K c)(i:π)(m:i∉l)(a:findIn K (.ref c) (nQ<|inClass cl i)=ϑ (some<|.ref x))(w:isFn K (.ref x)=ϱ)(o:K.lookup x=ϑ {oc,od,.func<|fnOf (nQ<|inClass cl i) (q++nQ (inClass cl i)) (bK<|inClass cl i) (bx<|inClass cl i) (ae<|inClass cl i) dV kV dc pm an cd ct,sl}) (e:codeIn K cd (q++nQ (inClass cl i))=ϱ) (k:keepIn K (.ref x)=ϱ) (b:∀us:δ ξ,us.length=(wa<|inClass cl i).length->bindArgs (fnOf (nQ<|inClass cl i) (q++nQ (inClass cl i)) (bK<|inClass cl i) (bx<|inClass cl i) (ae<|inClass cl i) dV kV dc pm an cd ct) {us,[]}=pure ((wa<|inClass cl i).zip us)) (g:∃f d,Em K c q cl f d l):∃f d,Em K c q cl f d (i::l):=by show fm1 C _ _ _ _ a w o e k b λd0 F=>?_;let⟨f,d,A⟩:=g;show{λj=>if j=i then x else f j,λj=>if j=i then d0 else d j,λj h=>?_};by_cases z:j=i;subst z;dsimp only;rw[qe rfl,qe rfl];show F;dsimp only;rw[qb z,qb z];show A j<|(ze.mp h).resolve_left z
theorem am0:∃f d,Em K c q cl f d []:={λz=>0,λz=>fnOf Str.empty Str.empty (bK<|.Pass {0,0,0,0}) [] (ae<|.Pass {0,0,0,0}) .none .none .none .none none .none .none,λz h=>nomatch h}
end
section
variable{K:Φ}{X:Cx}{x q:ρ}{st:Stmt}{ps:δ ρ}{C f:ε}{fd:FuncData}{sp:ir}{o e:Δ}{es:δ Δ}{apos pos:Pos}{k k':π}
theorem vL{t:k_}(h:DE K X o ta)(c:sX K C)(T:MN K C x q st ps f fd)(F:cG X.prog X.w K X.mg X.base (fh X.prog X.w X.mg) k f fd ps<|qD K sp)(hr:cj k' X.A)(ha:DA K X (e::es) t)(a:ψ (k<=k') qJK)
  (g:ψ (starEach (e::es) X.env=`j::starEach es X.env) qQJ) (i:ψ ((backTo pos<|starEach es X.env).any (·.1)=ϰ) qQJ)
  (j:ψ (eval (.Call (.Attribute o x apos) (e::es) [] pos) X.env=(do
   let ov <-eval o X.env
   standAt apos.atName
   let (f,first) <-holding [ov] (getMethod ov x pl)
   callWith pos f first (backTo pos<|starEach (e::es) X.env) (backToKw pos<|keywordEach [] X.env))) qQJ) (d:ψ (X.K=K) qQJ):
  DE K X (.Call (.Attribute o x apos) (e::es) [] pos) (FQ C x sp [] ta t):=UB h c T.e (F.mono a) hr T.b d0 ha g i j d
theorem mV(h:DE K X o ta)(c:sX K C)(T:MN K C x q st ps f fd)(F:cG X.prog X.w K X.mg X.base (fh X.prog X.w X.mg) k f fd ps<|qD K sp)(hr:cj k' X.A)(a:ψ (k<=k') qJK)
  (g:ψ (eval (.Call (.Attribute o x apos) [] [] pos) X.env=(do
   let ov <-eval o X.env
   standAt apos.atName
   let (f,first) <-holding [ov] (getMethod ov x pl)
   callWith pos f first (backTo pos<|starEach [] X.env) (backToKw pos<|keywordEach [] X.env))) qQJ) (d:ψ (X.K=K) qQJ):
  DE K X (.Call (.Attribute o x apos) [] [] pos) (FQ C x sp [] ta NV):=abw h c T.e (F.mono a) hr T.b d0 g d
end
section
variable{K:Φ}{X:Cx}
def Xn:D->θ ν->θ ν->ax->KD->Prop:=λx lo hi S R=>match x with|.ref a=>∃ds,S a=ϑ (.lst ds)/\∀p,S p=ϐ->R (.ref p) (S.set p<|.lst<|iY ds lo hi)|.lF ds=>∀p,S p=ϐ->R (.ref p) (S.set p<|.lst<|iY ds lo hi)|_=>False
def Xo(w:X.K=K):Up X (λx lo hi H Q=>∃d S R,Rv K H d x/\Rs K S H/\Xn d lo hi S R/\Cn K H R Q):=by rintro qg s σ H x v i n lo hi sl Q I o hs l j ⟨d,S,R,r,c,h,m⟩;subst w;cases d with|ref a=>(let⟨ds,e,h⟩:=h;let⟨xs,e1,t⟩:=c.lst e;show sZ qg s σ H _ v i n lo hi sl Q I o hs l j {a,xs,r.ref,.of e1,λp g=>m.new c g (h p)<|t.cut lo hi})|lF ds=>(let⟨a,xs,rfl,q,t⟩:=r.lF;show sZ qg s σ H _ v i n lo hi sl Q I o hs l j {a,xs,rfl,q.sq,λp g=>m.new c g (h p)<|t.cut lo hi})|_=>show h.elim
def aci(te:TD)(tl th:PQ):TD:=λσ S R Z=>te σ S (λx a=>tl σ a (λl c=>th σ c (λu d=>Xn x l u d R) Z) Z) Z
theorem sll{e:Δ}{lo hi:θ Δ}{te:TD}{tl th:PQ}{p2 pos:Pos}(n:DE K X e te)(hl:DO K X lo tl)(hu:DO K X hi th)(t:ψ (X.K=K) qQJ):DE K X (.Subscript e (.Slice lo hi none p2) pos) (aci te tl th):=
 ⟨λy=>(By (X:=y.cx) (Xo t) (n.of y) (hl.of y)<|hu.of y).mono <| by rintro τ H Q ⟨σ,S,R,Z,c,i,q,o,a⟩;show
  ⟨σ,S,_,Z,c,i,q,λd v x H1 s g s1 k1=>⟨σ,v,_,Z,c.ts k1,s1,s,λl r H2 j s2 k2=>⟨σ,r,_,Z,c.ts<|k1.trans k2,s2,j,λu p w m h k3=>⟨d,p,R,Rv.ts (k2.trans k3) _ g,h,m,o.kp<|(k1.trans k2).trans k3⟩,a.kp<|k1.trans k2⟩,a.kp k1⟩,a⟩⟩
def acj:vI:=λx y S R=>match x,y with|.int i,.int j=>R (.int<|i+j) S|.str a,.str b=>a.length+b.length<=Ϙ/\R (.str<|a++b) S|.ref a,.ref b=>∃xs ys,S a=ϑ (.lst xs)/\S b=ϑ (.lst ys)/\xs.length+ys.length<=Ϙ/\∀p,S p=ϐ->R (.ref p) (S.set p<|.lst<|xs++ys)|_,_=>False
def fG:qz K (binaryOp .Add) acj:=by rintro X r hu qg s σ H x y v u Q I j i ⟨d,e,S,R,l,c,a,h,g⟩;subst r;cases d<;>cases e<;>first|show False.elim h|show Jv qg s σ H x y v u Q I j i {_,_,l.int,c.int,g.now a h<|bc _}|show tR qg s σ H x y v u Q I j i {_,_,l.str,c.str,h.1,g.now a h.2<|j0 _}|skip;let⟨xs,ys,e1,e2,hl,q⟩:=h;let⟨vs,h1,n⟩:=a.lst e1;let⟨ws,h2,m⟩:=a.lst e2;show JI qg s σ H x y v u Q I j i {_,_,vs,ws,l.ref,c.ref,h1,h2,by rw[n.len,m.len];show hl,λp o=>g.new a o (q p)<|n.app m}
end
structure W(sp:ir)(ds:δ D)(S:ax)(R:KD)(Z:KX):η where
 of:sp ds S R Z
def scN(s:Stmt):δ Str:=((ae s).names.filter λp=>p.2==.local||p.2==.cell).map (·.1)
theorem cY(s:Stmt)(a:ψ ((ae s).kind=.function/\(ae s).isCoroutine=ϰ/\(ae s).isGenerator=ϰ/\(scN s).take (wa s).length=wa s) qQ4)(b:ψ ((scN s).Nodup/\(∀x∈wa s,(ae s).names.lookup x=ϑ .local\/(ae s).names.lookup x=ϑ .cell)/\∀y∈(ae s).names,y.2≠.free) qJX):gr (scN s) (wa s) (ae s):=fsc a b
section
variable{P:Ψ}{w:Ω}{K:Φ}{mg:ρ->θ ξ}{base:Γ}{x qual:ρ}{st:Stmt}{f:ε}{fd:FuncData}{N ps:δ ρ}{k:π}{sp:ir}
theorem qE.eM(F:qE K x qual st f fd)(S:gr N ps<|ae st) (a:∀(fT:ξ)(A:ϕ)(outer:δ Env)(s:ζ)(H:Hp)(E:XK)(ds:δ D)(S:ax)(R:KD)(Z:KX),cj k (A.deeper<|PyProof.Rows.envOfC qual (ae st) s.heap.objs.size f fT)->sp ds S R Z->∃t,BW K (ij (fh P w mg) P w K mg base N qual (ae st) f fT A outer s H E) true (bx st) t/\t {nx:=λz S'=>Fo S'<|R .ao,rt:=λd S'=>Fo S'<|R d} (gP N ds) S λz C S'=>Fo S'<|Z C) (len:∀ds S R Z,sp ds S R Z->ds.length=ps.length:=by intro _ _ _ _ h;first|(cases h;subst_vars;rfl;done)|(repeat first|(let⟨e,_⟩:=h;rw[e];rfl;done)|let⟨_,h⟩:=h)):cG P w K mg base (fh P w mg) (k+1) f fd ps (qD K sp):=F.ok S len a
end
section
variable{R:η}{K:Φ}{h:Γ}{mg:ρ->θ ξ}{od an:θ ε}{sl:Array (θ ξ)}{oc kV dc pm cd ct:ξ}{f da:ε}{HR:θ ε}{dn:π}{HS:Array (θ ξ)}
theorem Xp(X:K.In h)(G:h.Ns mainGlobals mg)(x:ρ)(st:Stmt)(ps:δ ρ)(i:Array ξ)(a:nsIn K mainGlobals x=ϑ (some<|.ref f))(l:K.lookup f=ϑ {oc,od,.func<|fnOf x x (bK st) (bx st) (ae st) (.ref da) kV dc pm an cd ct,sl}) (t:K.lookup da=ϑ {.type "tuple",HR,.seq i dn,HS}) (e:codeIn K cd x=ϱ) (k:keepIn K (.ref f)=ϱ) (b:∀(s:ζ) (us:δ ξ),s.heap.get? da=ϑ {.type "tuple",HR,.seq i dn,HS}->us.length=ps.length->BindsTo s (fnOf x x (bK st) (bx st) (ae st) (.ref da) kV dc pm an cd ct) {us,[]} (ps.zip us)) (b2:∀(s:ζ) (us:δ ξ),s.heap.get? da=ϑ {.type "tuple",HR,.seq i dn,HS}->us.length+1=ps.length->BindsTo s (fnOf x x (bK st) (bx st) (ae st) (.ref da) kV dc pm an cd ct) {us,[]} (ps.zip<|us++[.none])) (g:∀d,El K mg x st ps f d->Binds K d ps [.none]->R):R:=g _ {{{_,_,_,_,_,_,_,_,_,_,rfl,l,e},λs us c hl=>by rw[yG]at hl⊢;show b s us (c _ _ t) hl},k,mg_of X G a} λs us c hl=>b2 s us (c _ _ t)<|by simpa using hl
end
structure ad7(X:Cx)(N:δ ρ)(src:δ (θ π))(scope:Scope):η where
 kind:scope.kind=.function
 nd:(scope.names.map Prod.fst).Nodup
 loc:∀y∈scope.names,y.2=.local->scope.names.lookup y.1=ϑ .local
 vS:∀y∈scope.names,y.2=.free->X.env.kindOf y.1=ϑ .cell\/X.env.kindOf y.1=ϑ .free
 len:src.length=N.length
 src:∀(i j:π)(x:ρ),src[i]?=some (some j)->N[i]?=some x->X.N[j]?=some x/\scope.names.lookup x=ϑ .free/\Pn X.env.scope x
section
variable{K:Φ}{X:Cx}{N:δ ρ}{src:δ (θ π)}{scope:Scope}{a:ρ}{pos p:Pos}{e:Δ}
structure ago(P:Ψ)(w:Ω)(K:Φ)(mg:ρ->θ ξ)(base:Γ)(k:π)(f:ε)(sp:Sp):η where
 ex:∃fd ps,cG P w K mg base (fh P w mg) k f fd ps sp/\Binds K fd ps []
 kp:keepIn K (.ref f)=ϱ
inductive CvR {ι:Type} (i:π) (fa:ι->ε) (σ:SD) (p:ι->η):η
 |mk (o:ι) (e:σ[i]?=some (some<|.ref<|fa o)) (r:p o)
structure DPs(K:Φ)(X:Cx)(pos:Pos)(keys:δ (θ Δ))(values:δ Δ)(l:δ (ρ×TD)):η where
 of:∀{b:χ}(y:Ev X b),PPs y.cx pos keys values<|l.map λkt=>(T K y.E<|dC<|.str kt.1,T K y.E kt.2)
structure C1(X:Cx)(N:δ ρ)(src:δ (θ π))(scope:Scope)(a:ρ):η where
 nd:N.Nodup
 h0:N[0]?=some a
 hr:src[0]?=some none
 hx:∀C s H ex pn,Loc (jU X N scope C s H ex pn).env.scope a/\(jU X N scope C s H ex pn).env.scope.names.lookup a=ϑ .local
end
def Zv{p:χ}{A B:η}(q:A)(h:ψ (p=ϱ) qJX):if p=ϱ then A else B:=by rw[h,qe rfl];show q
noncomputable def ctO(l:δ<|θ π):Nat:=l.countP Option.isSome
structure Lay(m n:π)(ow:Array (θ π)):η where
 sz:ow.size=m+1
 ct:ctO ow.toList=n
 lt:∀x,some x∈ow.toList->x<n
section
variable{KT:Type}[DecidableEq KT]
structure Tb(t:SetTable)(n:π):η where
 m:t.mask=7\/t.mask=31\/t.mask=127\/t.mask=511
 d:t.dummies=#[]
 p:t.place.size=n
 f:n*5<t.mask*3
end
noncomputable def wdO(P:Ψ)(w:Ω)(a:ε)(kvs:δ<|Key×V)(ep:π):HO:=.ext λh=>kvs.length<=Ϙ/\(a==sysModules)=ϰ/\∃vs,KV kvs vs/\h.DictAt (aS P w) a vs ep
structure Wd(P:Ψ)(w:Ω)(o:HO)(a:ε)(ks:δ Key):η where
 of:∃kvs ep,o=wdO P w a kvs ep/\kvs.map (·.1)=ks
noncomputable def Qg(X:Cx)(N:δ ρ)(qual:ρ)(scope:Scope)(f:ε)(cv:ξ)(A:ϕ)(outer:δ Env)(s:ζ)(H:Hp)(E:XK):Cx:={X with A:=A.deeper<|v_ X qual scope s.heap.objs.size f cv,N:=N,du:=s,nL:=H,env:=v_ X qual scope s.heap.objs.size f cv,outer:=outer,stack:=v_ X qual scope s.heap.objs.size f cv::outer,ex:=[],fn:=λz=>false,calm:=true,pn:=[],xe:=λe s'=>wpAny `m (A.deeper<|v_ X qual scope s.heap.objs.size f cv) (leaving (v_ X qual scope s.heap.objs.size f cv) e) (λz xR=>fh X.prog X.w X.mg outer H s E e xR) (λe' xR=>fh X.prog X.w X.mg outer H s E e' xR) s'}
section
variable{X:Cx}{qg:δ (ε×Obj)}{σ:St}{H:Hp}{s:ζ}{N:δ ρ}{src:δ (θ π)}{scope:Scope}{params:Arguments}{body:Δ}{qual:ρ}{pm cv jC:ξ}{f:ε}{A:ϕ}{te:TE}{Q:VK}{outer:δ Env}{E:XK}
def K1(I:Inv X qg σ H s)(S:bI X N src scope)(d:qp X.prog X.w X.K X.mg X.base A outer s H)(F:A.handled=ϐ) (G:h₁.Ns s.heap.objs.size λu=>none) (a:∀b o,s.heap.get? b=ϑ o->h₁.get? b=ϑ o): Inv (Qg X N qual scope f cv A outer s H E) [] (pick σ src) H {s with heap:=h₁,toks:=tk}:=by
 have g:∀x c,(clOf X.env.cells scope.names).lookup x=ϑ c->X.env.cells.lookup x=ϑ c:=oR X.env.cells scope.names [] (by intro x c h;simp at h);have n:∀b:ε,b∉(Qg X N qual scope f cv A outer s H E).ex:=λb z=>absurd (show b∈([]:δ ε) from z) `d;have vS:∀x,scope.names.lookup x=ϑ .free->∃c,(clOf X.env.cells scope.names).lookup x=ϑ c:=λx hl=>by have hm:=zX hl;let⟨c,m⟩:=I.ok.has x<|S.vS _ hm rfl;show{c,ik X.env.cells scope.names [] x c (by intro x c h;simp at h) hm m}
 show{{I.ok.mod,S.kind,rfl,rfl,zp _,λx y c h1 h2=>I.ok.inj x y c (g _ _ h1)<|g _ _ h2,λx hk=>?_,λx c h=>(nomatch h),λu=>F,Around.frames_deeper d.frames,.inr ⟨rfl,rfl⟩,λb z=>absurd z<|n b,d.bs,d.Fl,λb u u=>n b,λb z=>absurd z<|n b,d.lq,d.IT},rfl,d.bare,Un.kept a,{_,G,λi x w e1 e2 e3=>?_},λx c e=>?_,I.aT.fresh<|zp _,λx c e=>I.eP x c<|g x c e,λq B=>absurd (show q∈([]:δ (ε×Obj)) from B)<|`d,I.aT.kept a,?_};have hk:scope.names.lookup x=ϑ .cell\/scope.names.lookup x=ϑ .free:=hk;rcases hk with hk|hk;show absurd rfl<|S.fX _<|zX hk;show vS x hk;have e1:N[i]?=some x:=e1;unfold pick at e2;rw[zA]at e2;cases es:src[i]? with|none=>(rw[es]at e2;cases e2)|some o=>rw[es]at e2;cases o with|none=>(cases e2)|some j=>have e3:(σ[j]?).join=ϑ w:=zU e2;have e4:σ[j]?=some (some w):=(by cases q:σ[j]? with|none=>(rw[q]at e3;cases e3)|some z=>rw[q]at e3;show congrArg some e3);let⟨v,p,t⟩:=S.src i j x es e1;let⟨J,_,hl⟩:=I.loc;let⟨C,r,l⟩:=hl j x w v e4 t;have hm:=zX p;have hk:=S.vS _ hm rfl;rcases l with⟨k,_⟩|⟨_,c,m,⟨o,ho,hd⟩⟩;rcases hk with hk|hk<;>(rw[k]at hk;cases hk);show{C,r,.inr {.inr p,c,ik X.env.cells scope.names [] x c (by intro x c h;simp at h) hm m,o,a _ _ ho,hd}}
 let⟨w,o,ho,hd⟩:=I.cell x c<|g x c e;show{w,o,a _ _ ho,hd};change(pick σ src).length=N.length;unfold pick;rw[zc,S.len]
def HW(I:Inv X qg σ H s)(S:bI X N src scope)(g:qp X.prog X.w X.K X.mg X.base A outer s H)(i:A.handled=ϐ)(m:A.depth<recursionLimit) (ho:s.heap.get? f=ϑ (y9 X qual params body scope pm cv jC)) (d:s.heap.CodeRec cv qual) (j:scope.isCoroutine=ϰ) (l:scope.isGenerator=ϰ) (t:bindArgs (kla_fn "<lambda>" qual params body scope `i pm cv jC) {[],[]}=pure []) (v:PE (Qg X N qual scope f cv A outer s H E) body te) (h:te (pick σ src) H Q): codeAny `m A (.call (.ref f) {[],[]}) (CR (fh X.prog X.w X.mg) outer X.prog X.w H s Q E) s:=by show kla_callFunE m ho rfl j l rfl d ?_;change wpAny _ _ (bindArgs (kla_fn "<lambda>" qual params body scope `i pm cv jC) _) _ _ _;rw[t];show zm<|wpAny_newFunctionEnv S.fX (λx hx=>absurd hx zt) (λn p c=>{I.nolimit.fresh _ c,?_}) S.kind;have a:∀b o,s.heap.get? b=ϑ o->n.get? b=ϑ o:=λb o e=>c.extBut b o (zC<|zy e)<|zb _ e;change codeAny _ _ (.expr body<|v_ X qual scope s.heap.objs.size f cv) _ _;show kla_codeExpr<|yh (v [] _ _ H Q (K1 I S g i p a) h) (by rintro w s' ⟨x,H',J,r,q⟩;show⟨x,H',J.os,J.bare,J.base,J.aT,r,q⟩) λe s' z=>?_;show z
end
structure Gi(P:Ψ)(w:Ω)(K:Φ)(mg:ρ->θ ξ)(base:Γ)(k:π)(f:ε)(outer:δ Env)(du:ζ)(nL:Hp)(sp:Hp->VK->XK->η):η where
 obj:∀(s:ζ)(H:Hp),Un (lj outer) [] nL H du.heap s.heap->∃o fd,s.heap.get? f=ϑ o/\o.data=.func fd
 run:∀(e:Env)(A:ϕ)(s:ζ)(H:Hp)(Q:VK)(E:XK),cj k A->qp P w K mg base A (e::outer) s H->s.os=du.os->Un (lj outer) [] nL H du.heap s.heap->sp H Q E ->
  codeAny (model P w) A (.call (.ref f) {[],[]}) (CR (fh P w mg) (e::outer) P w H s Q E) s
abbrev Dh:=ax->KD->KX->η
def Xq(K:Φ)(a:Dh):Hp->VK->XK->Prop:=λH Q E=>∃S R Z,Rs K S H/\a S R Z/\Cn K H R Q/\FL K H Z E
theorem Kp.un{K:Φ}{fs ex:δ ε}{H H':Hp}{h h':Γ}(u:Un fs ex H H' h h'):Kp K H H' where
 t:=u.ie
 r:=λa xs q=>q.imp (by rintro⟨o,e⟩;show{o,u.gB _ _ _ e}) id
 f:=u.gB
def K2(P:Ψ)(w:Ω)(K:Φ)(mg:ρ->θ ξ)(base:Γ)(k kA:π)(f:ε)(p:ρ)(fd:FuncData)(sp:Dh->Dh):Prop:=∀(A:ϕ)(outer:δ Env)(s:ζ)(H:Hp)(fA:ε)(a:Dh)(Q:VK)(E:XK),cj k A->qp P w K mg base A outer s H->BindsTo s fd {[.ref fA],[]} [(p,.ref fA)]->Gi P w K mg base kA fA outer s H (Xq K a)->Xq K (sp a) H Q E->codeAny (model P w) A (.call (.ref f) {[.ref fA],[]}) (CR (fh P w mg) outer P w H s Q E) s
section
variable{K:Φ}{X:Cx}{N:δ ρ}{src:δ (θ π)}{scope:Scope}{params:Arguments}{body:Δ}{q p x:ρ}{np pos lp:Pos}{te:TD}{k kA:π}{c P f:ε}{fd:FuncData}{sp:Dh->Dh}{i:π}{a:Dh}
def SR{Y:Cx}{qg:δ<|ε×Obj}{τ:St}{H H1:Hp}{u:ξ}{s1:ζ}{d:ε}{pm cv jC:ξ}{σ:SD}(M:Y.K=K)(L:UJ Y qg τ H H1 P q params body scope u s1 d pm cv jC)(F:bI Y N src scope)(U:iV K H1 σ τ) (l:∀f cv A o s H E,cj kA A->DE K (Qg Y N q scope f cv A o s H E) body te) (x:scope.isCoroutine=ϰ) (C:scope.isGenerator=ϰ) (O:∀cl pm cv jC,bindArgs (kla_fn "<lambda>" q params body scope cl pm cv jC) {[],[]}=pure []): Gi Y.prog Y.w Y.K Y.mg Y.base kA d Y.stack s1 H1 (Xq K λS R Z=>te (nv σ src) S R Z):=by
 subst M;show{λs H2 un=>?_,λe A s H2 Q E g m os un ⟨S,R,Z,B,ha,J,v⟩=>?_};have pn:=(L.inv.pin _<|zB _<|zB _<|zx.mpr rfl);have p:d∉lj Y.stack:=λz=>by rcases L.inv.ok.QK with e|⟨e,e2⟩;rw[e]at z;show pn.2.2.2.1 z;rw[e]at z;unfold lj at z;rw[List.filterMap_cons_some e2]at z;show(ze.mp z).elim pn.2.2.1 pn.2.2.2.1
 show{_,_,un.keep _ _ pn.1 pn.2.1 p (λz=>nomatch z),rfl};have r:=L.inv.Fm (ch:=[]) os un m.aT m.bare λb z=>nomatch z;have pn:=(r.pin _<|zB _<|zB _<|zx.mpr rfl).1;let⟨c,oc,ws,tk,j,hc,G,i⟩:=L.code;have n:s.heap.CodeRec cv q:={c,oc,ws,tk,j,(r.aT c _<|un.gB _ _ _ hc).1,G,i};have t:dP (Qg Y N q scope d cv A (e::Y.stack) s H2 E) E:={rfl,rfl,rfl,λk k h=>h};let y:Ev (Qg Y N q scope d cv A (e::Y.stack) s H2 E) true:={[],(Qg Y N q scope d cv A (e::Y.stack) s H2 E).xe,λk=>E,{λp2 τ H1 s1 e s' I h=>FG t p2 τ H1 s1 e s' I h,λ_ p2 τ H1 s1 h' a cls args I hx l=>i0 t I hx l,λk=>PassesOwn.leaving}};show HW r F m g.hd (by have:=g.dp;lia) pn n x C (O _ _ _ _) ((l d cv A (e::Y.stack) s H2 E g).of y) {_,S,R,Z,(U.ts<|.un un).pick src,B,ha,J,v}
theorem Inv.less(J:Inv Y (qg++more) τ H s):Inv Y qg τ H s:={J.ok,J.os,J.bare,J.base,J.loc,J.cell,J.free,J.eP,λp a=>J.pin p<|by rcases zN.mp a with h|h;show zW _ h;show zB _<|zW _ h,J.aT,J.len}
def Xr(P:ε)(q:ρ)(sp:Dh->Dh)(src:δ<|θ π)(te:TD):TD:=λσ S R Z=>S P=ϑ (.tab q)/\sp (λS R Z=>te (nv σ src) S R Z) S R Z
def K3(nz:X.env.code=.ref c)(mk:Zi K X.mg X.base c P)(hr:cj k X.A)(a:bI X N src scope)(F:K2 X.prog X.w K X.mg X.base k kA f p fd sp)(hm:X.mg x=ϑ (.ref f))(hk:keepIn K (.ref f)=ϱ)(i:∀(s:ζ) (u:ξ),K.In s.heap->BindsTo s fd {[u],[]} [(p,u)]) (O:∀f cv A o s H E,cj kA A->DE K (Qg X N q scope f cv A o s H E) body te) (d:ψ (X.env.qual ++ "<lambda>"= q) qQJ) (B:ψ (scope.isCoroutine=ϰ) qQJ) (G:ψ (scope.isGenerator=ϰ) qQJ) (hb:∀cl pm cv jC,bindArgs (kla_fn "<lambda>" q params body scope cl pm cv jC) {[],[]}=pure []:=by intro _ _ _ _;rfl) (Ej:ψ (defaultsOf params X.env=([],[])) qQJ) (hg:ψ (Gl X x) qQJ) (M:ψ ((x==("__debug__": ρ))=ϰ) qQZ) (n:ψ (starEach [.Lambda params body scope lp] X.env=(false,eval (.Lambda params body scope lp) X.env)::starEach [] X.env) qQJ) (C:ψ ((backTo pos<|starEach [] X.env).any (·.1)=ϰ) qQJ) (hK:ψ (X.K=K) qQJ): DE K X (.Call (.Name x np) [.Lambda params body scope lp] [] pos) (Xr P q sp src te):=by subst hK;show⟨λy=>?_⟩;rintro qg s τ H Q I ⟨σ,S,R,Z,aK,l,⟨m,h⟩,hR,z⟩;show yC<|mB I hg hm ?_ M;show callWith_K (h₀:=X.base) I.ok.mod.Br hk ?_ n C;rw[n];change wpAny _ _ (spliced<|(false,eval (.Lambda params body scope lp) X.env)::backTo pos (starEach [] X.env)) _ _ s;let⟨ps,t,aT⟩:=l P _ m;have g:bI y.cx N src scope:=⟨a.kind,a.fX,a.loc,a.vS,a.len,a.src⟩;show yu<|uv (X:=y.cx) I g nz mk t aT d Ej λw s2 H2 U pm cv jC L=>?_;show Calls.spliced_nil {L.inv.nh,?_};cases L.u;have k2:Kp X.K H H2:=L.kp t;show wpAny_call<|yJ (F X.A X.stack s2 H2 U _ Q (y.E τ) hr L.inv.Ni (i _ _ L.inv.nh) (SR (Y:=y.cx) rfl L g (aK.ts k2) O B G hb) {S,R,Z,L.rs l m,h,hR.kp k2,z.kp k2}) λj s' d=>?_;cases j with|error e=>show y.ok.call _ _ _ _ _ _ L.inv.less d|ok fl=>cases fl with|ret u=>(let⟨v,H',J,r,q⟩:=L.inv.after d;show⟨v,H',J.less,r,q⟩)|_=>show False.elim d
def Xs(i:π)(c:ε)(a:Dh):TD:=λσ S R Z=>σ[i]?=some (some<|.ref c)/\a S R Z
def Xt(m:Gi X.prog X.w K X.mg X.base kA fA X.outer X.du X.nL<|Xq K a)(hr:cj kA X.A)(hN:ψ (X.N[i]?=some x) qQJ)(M:ψ (Pn X.env.scope x) qJ1)(hd:ψ ((x==("__debug__": ρ))=ϰ) qQZ) (C:ψ ((x==("__classdict__": ρ))=ϰ) qQZ) (l:ψ (X.ex=[]) qQJ) (n:ψ (X.stack=X.env::X.outer) qQJ) (J:ψ (X.K=K) qQJ):DE K X (.Call (.Name x np) [] [] pos) (Xs i fA a):=by subst J;show⟨λy=>?_⟩;rintro qg s τ H Q I ⟨σ,S,R,Z,L,q,⟨hi,ha⟩,F,p⟩;let⟨v,e1,t⟩:=L.get hi;cases t.ref;show yC<|yh (Jn (X:=y.cx) hN M hd C qg s τ H (λv H'=>v=.ref fA/\H'=H) I {_,e1,rfl,rfl}) (λu s1 ⟨v,H1,c,r,ev,B⟩=>?_) λk k z=>z;subst ev B;obtain rfl:u=Value.ref fA:=r;have un:Un X.fs [] X.nL H1 X.du.heap s1.heap:=l ▸ c.base;show PySem.W.callWith_of (P:=λh=>∃o fd,h.get? fA=ϑ o/\o.data=.func fd) rfl (by rintro h ⟨o,fd,e,d⟩;show{.frame,.inl rfl,(PySem.W.Looks.ld (part:=none) e).andThen<|by rw[d];show .now})<|evalArgs_nil3 {m.obj s1 H1 un,?_};have G:qp X.prog X.w X.K X.mg X.base X.A (X.env::X.outer) s1 H1:=n ▸ c.Ni;show wpAny_call<|yJ (m.run X.env X.A s1 H1 Q (y.E τ) hr G c.os un ⟨S,R,Z,q,ha,F,p⟩) λj s' g=>?_;rw[<-n]at g;cases j with|error e=>show y.ok.call _ _ _ _ _ _ c g|ok fl=>cases fl with|ret u=>show c.after g|_=>show False.elim g
end
section
variable{P:Ψ}{w:Ω}{K:Φ}{mg:ρ->θ ξ}{base:Γ}
def qE.Xu{x qual p:ρ}{st:Stmt}{f:ε}{fd:FuncData}{N:δ ρ}{k kA:π}{sp:Dh->Dh}(F:qE K x qual st f fd)(S:gr N [p]<|ae st) (jy:∀(fT:ξ)(A:ϕ)(outer:δ Env)(s:ζ)(H:Hp)(E:XK)(g:ε)(a:Dh)(S:ax)(R:KD)(Z:KX),cj k (A.deeper<|envOfC qual (ae st) s.heap.objs.size f fT)->Gi P w K mg base kA g outer s H (Xq K a)->sp a S R Z->∃t,BW K (ij (fh P w mg) P w K mg base N qual (ae st) f fT A outer s H E) true (bx st) t/\t {nx:=λW S'=>Fo S'<|R .ao,rt:=λd S'=>Fo S'<|R d} (gP N [.ref g]) S λW C S'=>Fo S'<|Z C):K2 P w K mg base (k+1) kA f p fd sp:=by
 let⟨oc,od,dV,kV,doc,pm,an,fT,ct,PB,rfl,lk,kP⟩:=F.ex;intro A outer s H g a Q E hr j hb hA ⟨S',R,Z,hS,h,hR,hZ⟩;have KX:K.In s.heap:=j.mod.Br.keeps λb o e=>(j.bs b o e).1;have B:s.heap.NoLimit:=j.mod.nolimit.keeps λb o e=>(j.bs b o e).1;have JC:∀y∈[p].zip [Value.ref g],(ae st).names.lookup y.1=ϑ .local\/((ae st).names.lookup y.1=ϑ .cell/\((cellsFrom `l (ae st).names []).lookup y.1).isSome=ϱ):=by rintro⟨n,v⟩ hy;rcases S.par n (List.of_mem_zip hy).1 with q|q;show .inl q;show .inr {q,cellsFrom_some _ _ _<|.inl q}
 show codeAny_call_function hr.depth (KX _ _ lk) rfl S.co S.gen rfl (codeRec_of KX kP)<|hb _ _ _ _ ?_;show wpAny_newFunctionEnv_cells S.kind JC λenv M s1 x=>?_;subst M;show{B.keeps x.toInCall.keep,codeAny_func ?_};let⟨t,X,Y⟩:=jy fT A outer s H E g a S' R Z (hr.deeper _) hA h;have I:Inv (ij (fh P w mg) P w K mg base N qual (ae st) f fT A outer s H E) [] (start N [.ref g]) H s1:=wV S hr.hd j rfl (.cons rfl .nil) x;have L:dP (ij (fh P w mg) P w K mg base N qual (ae st) f fT A outer s H E) E:=qw;let y:Ev (ij (fh P w mg) P w K mg base N qual (ae st) f fT A outer s H E) true:={_,(ij (fh P w mg) P w K mg base N qual (ae st) f fT A outer s H E).xe,λW=>E,{λp2 τ H1 s1 e s' I h=>FG L p2 τ H1 s1 e s' I h,λ_ p2 τ H1 s1 h' a cls args I hx M=>i0 L I hx M,λW=>PassesOwn.leaving}};have U:Cn K H (λd S'=>Fo S'<|R d) Q:=by rintro d S' u H' ⟨O,G,r⟩ i rs kp;show hR d O u H' r i (rs.sub G) kp
 have FP:Tl K (λW=>E) t {nx:=λW H'=>Q .ao H',rt:=Q} (start N [.ref g]) H:=by show{gP N [.ref g],S',_,λW C S'=>Fo S'<|Z C,?_,hS,Y,{λσ S1 τ H1 r a b c=>(U.kp c).now b r jZ,U,λW W W W z=>z.elim,λW W W W z=>z.elim},by rintro σ τ C S1 H1 ⟨O,G,z⟩ a b c;show hZ C O H1 z (b.sub G) c};unfold gP start;show(oV<|bE (cg g) cn).app<|oU _ _<|by rw[zE];rfl
 show yh (X.of y [] s1 (start N [.ref g]) H _ I FP) (λfl s' hs=>?_) λe s' hs=>hs;have l:∀{m:St}{H':Hp}{v:V}{u:ξ},Inv (ij (fh P w mg) P w K mg base N qual (ae st) f fT A outer s H E) [] m H' s'->RelV v u->Q v H'->CE outer P w H s Q u s':=λ{m H' v u} J i q=>⟨v,H',J.os,J.bare,J.base,J.aT,i,q⟩;cases fl with|ret u=>(let⟨v,m,H',J,i,q⟩:=hs;show l J i q)|next=>(let⟨m,H',J,q⟩:=hs;show l (v:=V.ao) (u:=Value.none) J rfl q)|brk=>(let⟨_,_,_,q⟩:=hs;show False.elim q)|cont=>let⟨_,_,_,q⟩:=hs;show False.elim q
end
def eno{K:Φ}{X:Cx}{e:Δ} : DE K X e (λz z z z=>False):=by show⟨λy=>?_⟩;rintro qg s τ H Q I ⟨_,_,_,_,_,_,h,_⟩;show h.elim
def Xv:vI:=λx y S R=>∃d n,x=.tup [d]/\y=.int n/\1<=n/\n<=1000/\R (.tup<|List.replicate n.toNat d) S
def SS{K:Φ} : qz K (binaryOp .Mult) Xv:=by rintro X w hu qg s σ H x y v u Q I o m ⟨d,e,S,R,r,j,c,⟨d0,n,e1,e2,h1,h2,h⟩,g⟩;subst e1 e2;let⟨a,xs,rfl,q,t⟩:=r.tup;let⟨z,rfl,i⟩:=t.one;show FI qg s σ H _ _ v u Q I o m {a,z,n,rfl,j.int,q,by omega,h2,λe=>by subst e;show g.now c h<|lG q t,λk p l=>g.Kg c l h<|y8 i _}
noncomputable def iw(N:π)(v:π->ξ):Array Value:=((List.range N).map v).toArray
structure ZN(n N:π)(l:π->ε)(i:π)(h:Γ):η where
 z:IsZip h (n+N+2) (n+N) (n+N+1) .none
 t:sE h (n+N) (iw N λj=>.ref<|n+j)
 o:∃arr:Array ξ,arr.size=N/\sE h (n+N+1) arr
 it:∀j,j<N->h.IsTupleIter (n+j) (l j) i
def mD:(iw N v).size=N:=by unfold iw;simp
def lL:(iw N v).toList.length=N:=by unfold iw;simp
def Oq(h:arr.size=N)(e:∀j,j<N->arr[j]?=some (v j)):arr=iw N v:=by show Array.ext (by rw[h,mD]) λj h1 h2=>?_;have:=e j `b;rw[Array.getElem?_eq_getElem h1]at this;rw[zU this];simp[iw]
section
variable{prog:Ψ}{w:Ω}{A:ϕ}{E:ξ->ζ->η}{s:ζ}{n N:π}{l:π->ε}{i:π}{xs:π->Array ξ}
def HX{v:π->ξ}{Q:ξ->ζ->η}(h1:1<=N)(h3:N<=3)(lt:∀j,j<N->l j<n)(hs:ZN n N l i s.heap)(tu:∀j,j<N->s.heap.IsTuple (l j) (xs j))(ev:∀j,j<N->(xs j)[i]?=some (v j)) (hQ:∀h',IsZip h' (n+N+2) (n+N) (n+N+1) (rawInt s.heap.objs.size)->sE h' (n+N+1) (iw N v)->(∀j,j<N->h'.IsTupleIter (n+j) (l j) (i+1))->sE h' s.heap.objs.size (iw N v)->(∀c o,c≠n+N+2->c≠n+N+1->(∀j,j<N->c≠n+j)->s.heap.get? c=ϑ o->h'.get? c=ϑ o)->Q (.ref s.heap.objs.size) {s with heap:=h'}): wpAny `n A (Builtin.«zip.__next__» {[.ref<|n+N+2],[]}) (λfin s'=>∃v,fin=.done (.ret v)/\Q v s') E s:=by
 let⟨hz,hI,⟨arr,na,Y⟩,G⟩:=hs;change wpAny _ _ (field (.ref<|n+N+2) 2 >>=_) _ _ _;show za<|ya hz rfl (x:=.bool false) rfl ?_;change wpAny _ _ (field (.ref<|n+N+2) 3 >>=_) _ _ _;show za<|ya hz rfl (x:=.ref<|n+N) rfl ?_;show za<|wpAny_seqItems hI rfl ?_;have he:(iw N λj=>Value.ref<|n+j).isEmpty=ϰ:=by rw[Array.isEmpty_eq_false_iff];intro e;have:=congrArg Array.size e;rw[mD]at this;simp at this;lia
 dsimp only;rw[qb<|by rw[he];show zd];show za ?_;unfold Builtin.SmallTypes.ownedTupleIsFree;show za<|ya hz rfl (x:=.none) rfl<|zm ?_;simp only[if_true];show za<|wpAny_rule ?_;show za<|ya hz rfl (x:=.ref<|n+N+1) rfl ?_;show za<|wpAny_setField_rec hz `d λh0 H U=>?_;replace H:IsZip h0 (n+N+2) (n+N) (n+N+1) .ellipsis:=H;have k0:∀c o,c≠n+N+2->s.heap.get? c=ϑ o->h0.get? c=ϑ o:=λc o d e=>U.extBut _ _ d e;show za<|wpAny_forIn_list _ (λrest b s'=>∃(k:π)(h':Γ)(m:Array ξ),k<=N/\rest=((iw N λj=>Value.ref<|n+j).toList.zipIdx).drop k/\b=(none,())/\s'={s with heap:=h'}/\sE h' (n+N+1) m/\m.size=N/\(∀j,j<k->m[j]?=some (v j))/\(∀j,j<N->h'.IsTupleIter (n+j) (l j) (if j<k then i+1 else i))/\IsZip h' (n+N+2) (n+N) (n+N+1) .ellipsis/\h'.objs.size=s.heap.objs.size/\(∀c o,c≠n+N+2->c≠n+N+1->(∀j,j<N->c≠n+j)->s.heap.get? c=ϑ o->h'.get? c=ϑ o)) _ ?_ ?_ _ _ ?_;rintro x rest b s' ⟨k,h',m,hk,e1,rfl,rfl,O,ha,K,J,Z,sz,kp⟩;have a:k<N:=by have:=congrArg List.length e1;rw[zG,List.length_drop,List.length_zipIdx,lL]at this;lia
 have e2:((iw N λj=>Value.ref<|n+j).toList.zipIdx).drop k=(Value.ref<|n+k,k)::((iw N λj=>Value.ref<|n+j).toList.zipIdx).drop (k+1):=by rw[List.drop_eq_getElem_cons<|by rw[List.length_zipIdx,lL];show a];simp[iw]
 rw[e2]at e1;cases e1;have lk:@LT.lt π _ (l k) n:=lt k a;have R:=J k a;rw[qb<|yx _]at R;have T0:Heap.IsTuple h' (l k) (xs k):=by let⟨o,L,I⟩:=tu k a;show{o,kp _ _ (by change @Ne π _ _;lia) (by change @Ne π _ _;lia) (λj u=>by change @Ne π _ _;lia) L,I}
 show za<|wpAny_onRaise ?_;change wpAny _ _ (Builtin.SmallTypes.nextOf (.ref<|n+k) >>=_) _ _ _;show za<|DZ (s:={s with heap:=h'}) R T0 (ev k a) λh m0 q=>zm ?_;have M:sE h (n+N+1) m:=q.extBut _ _ (by change @Ne π _ _;lia) O;show za<|wpAny_seqItems (s:={s with heap:=h}) M rfl ?_;show za<|HC (s:={s with heap:=h}) M `b λg2 O2 p=>?_;show za<|wpAny_letGo<|zm ?_;show{k+1,g2,_,a,rfl,rfl,rfl,O2,by rw[Array.size_setIfInBounds];show ha,λj g=>?_,λj g=>?_,p.extBut _ _ (by change @Ne π _ _;lia)<|q.extBut _ _ (by change @Ne π _ _;lia) Z,by rw[p.1,q.1];show sz,λc o d1 r B e=>p.extBut _ _ r<|q.extBut _ _ (B k a)<|kp c o d1 r B e};by_cases z:j=k;subst z;rw[Array.getElem?_setIfInBounds_self_of_lt<|`b];rw[Array.getElem?_setIfInBounds_ne<|Ne.symm z];show K j `b;by_cases z:j=k;subst z;rw[qe<|Nat.lt_succ_self _];show x9 p.extBut (by change @Ne π _ _;lia) m0;have:=J j g;rw[show(if j<k+1 then i+1 else i)=if j<k then i+1 else i by by_cases y:j<k;rw[qe y,qe<|`b];rw[qb y,qb<|`b]];show x9 p.extBut (by change @Ne π _ _;lia)<|x9 q.extBut (by change @Ne π _ _;lia) this;rintro b s' ⟨k,h',m,hk,e1,rfl,rfl,O,ha,K,J,Z,sz,kp⟩;have a:k=N:=by have:=congrArg List.length e1;rw[List.length_nil,List.length_drop,List.length_zipIdx,lL]at this;lia
 subst a;have ea:=Oq ha K;subst ea;show za<|wpAny_seqItems (s:={s with heap:=h'}) O rfl ?_;show za<|wpAny_newTuple ?_ (hsz:=by rw[lL];show sz3 h3);have S:n+k+2<h'.objs.size:=zy Z;change wpAny _ _ (Builtin.SmallTypes.ownedTupleHandOut (.ref<|n+k+2) (.ref h'.objs.size) >>=_) _ _ _;show za ?_;unfold Builtin.SmallTypes.ownedTupleHandOut;have C:IsZip (h'.push {cls:=.type "tuple",data:=.seq<|iw k v}) (n+k+2) (n+k) (n+k+1) .ellipsis:=zb _ Z;show za<|wpAny_setField_rec (s:={s with heap:=h'.push {cls:=.type "tuple",data:=.seq<|iw k v}}) C `d λh F X=>?_;replace F:IsZip h (n+k+2) (n+k) (n+k+1) (rawInt h'.objs.size):=F;show wpAny_setField_rec (s:={s with heap:=h}) F `d λg2 t P=>?_;replace t:IsZip g2 (n+k+2) (n+k) (n+k+1) (rawInt h'.objs.size):=t;have up:∀c o,c≠n+k+2->h'.get? c=ϑ o->g2.get? c=ϑ o:=λc o d e=>P.extBut _ _ d<|X.extBut _ _ d<|zb _ e;have hT:sE g2 h'.objs.size (iw k v):=P.extBut _ _ (yj S)<|X.extBut _ _ (yj S)<|zr _ rfl;rw[sz]at t hT;show zm !⟨?_⟩;change Q (.ref h'.objs.size) _;rw[sz];show hQ g2 t (up _ _ (by change @Ne π _ _;lia) O) (λj g=>?_) hT λc o d1 r B e=>up c o d1<|kp c o d1 r B e;have:=J j g;rw[qe g]at this;show PJ (λo e=>up _ o (by change @Ne π _ _;lia) e) this;show{0,h0,arr,yf _,rfl,rfl,rfl,k0 _ _ (by change @Ne π _ _;lia) Y,na,λj g=>absurd g<|Nat.not_lt_zero _,λj g=>?_,H,U.1,λc o d u u e=>k0 c o d e};rw[qb<|Nat.not_lt_zero _];let⟨o,L,I⟩:=G j g;show{o,k0 _ _ (by change @Ne π _ _;lia) L,I}
def K4(h1:1<=N)(J:A.handled=ϐ)(hs:ZN n N l i s.heap)(lt:l 0<n)(C:s.heap.IsTuple (l 0)<|xs 0)(I:(xs 0)[i]?=none) (K:∀h' e,(∀c o,c≠n+N+2->c≠n+0->s.heap.get? c=ϑ o->h'.get? c=ϑ o)->(∃o,h'.get? e=ϑ o/\o.cls=.type "StopIteration")->E (.ref e) {s with heap:=h'}): wpAny `n A (Builtin.«zip.__next__» {[.ref<|n+N+2],[]}) Q E s:=by
 let⟨hz,L,⟨arr,O,M⟩,g⟩:=hs;change wpAny _ _ (field (.ref<|n+N+2) 2 >>=_) _ _ _;show za<|ya hz rfl (x:=.bool false) rfl ?_;change wpAny _ _ (field (.ref<|n+N+2) 3 >>=_) _ _ _;show za<|ya hz rfl (x:=.ref<|n+N) rfl ?_;show za<|wpAny_seqItems L rfl ?_;have m:(iw N λj=>Value.ref<|n+j).isEmpty=ϰ:=by rw[Array.isEmpty_eq_false_iff];intro e;have:=congrArg Array.size e;rw[mD]at this;simp at this;lia
 dsimp only;rw[qb<|by rw[m];show zd];show za ?_;unfold Builtin.SmallTypes.ownedTupleIsFree;show za<|ya hz rfl (x:=.none) rfl<|zm ?_;simp only[if_true];show za<|wpAny_rule ?_;show za<|ya hz rfl (x:=.ref<|n+N+1) rfl ?_;show za<|wpAny_setField_rec hz `d λh0 h p=>?_;replace h:IsZip h0 (n+N+2) (n+N) (n+N+1) .ellipsis:=h;have lk:@LT.lt π _ (l 0) n:=lt;have H:Heap.IsTupleIter h0 (n+0) (l 0) i:=by let⟨o,r,q⟩:=g 0 h1;show{o,p.extBut _ _ (by change @Ne π _ _;lia) r,q}
 have G:Heap.IsTuple h0 (l 0) (xs 0):=by let⟨o,r,q⟩:=C;show{o,p.extBut _ _ (by change @Ne π _ _;lia) r,q}
 have e2:(iw N λj=>Value.ref<|n+j).toList.zipIdx=(Value.ref<|n+0,0)::((iw N λj=>Value.ref<|n+j).toList.zipIdx).drop 1:=by have:=List.drop_eq_getElem_cons (l:=(iw N λj=>Value.ref<|n+j).toList.zipIdx) (i:=0) (by rw[List.length_zipIdx,lL];show h1);rw[List.drop_zero]at this;rw[this];simp[iw]
 rw[e2,List.forIn_cons];show za<|za<|za<|wpAny_onRaise ?_;change wpAny _ _ (Builtin.SmallTypes.nextOf (.ref<|n+0) >>=_) _ _ _;show za<|ue (s:={s with heap:=h0}) J H G I λh1 e z m=>?_;let⟨B,a,d⟩:=m;have t:IsZip h1 (n+N+2) (n+N) (n+N+1) .ellipsis:=z _ _ (by change @Ne π _ _;lia) h;have F:e≠n+N+2:=λx=>by subst x;rw[t]at a;cases a;simp at d
 show wpAny_setField_rec (s:={s with heap:=h1}) t `d λh2 u v=>K h2 e (λc o y d0 x=>v.extBut _ _ y<|z _ _ d0<|p.extBut _ _ y x) {B,v.extBut _ _ F a,d}
end
noncomputable def Xw(K:Φ)(N:π)(l:π->ε):It:={λi H=>∃(xs:π->δ V)(x:π->V),∀j,j<N->k9 K H (l j) (xs j)/\(xs j)[i]?=some (x j),λi H y H'=>∃T,H T=ϐ/\y=.ref T/\∀(xs:π->δ V)(x:π->V),(∀j,j<N->k9 K H (l j) (xs j)/\(xs j)[i]?=some (x j))->H'=upd H T (.tup<|(List.range N).map x),λi H=>∃xs:π->δ V,(∀j,j<N->k9 K H (l j) (xs j))/\(xs 0).length<=i}
noncomputable def UO(n N:π):δ Addr:=(List.range<|N+3).map λj=>n+j
def Ac(h:b∈UO n N):∃j,j<N+3/\b=n+j:=by let⟨j,a,e⟩:=zh.mp h;show{j,zV.mp a,e.symm}
theorem iy(h:j<N+3):(n+j:π)∈UO n N:=zh.mpr {j,zV.mpr h,rfl}
def En(h:∀j,j<N->RelV (x j) (u j)):Vals ((List.range N).map x) ((List.range N).map u):=by
 have:∀l:δ π,(∀j∈l,j<N)->Vals (l.map x) (l.map u):=by intro l;induction l with|nil=>show λz=>.nil|cons a l d=>show λhl=>.cons (h a<|hl a zD)<|d λj c=>hl j<|zk _ c
 show this _ λj c=>zV.mp c
theorem HY{P:Ψ}{w:Ω}{K:Φ}{es:δ Δ}{kk:π}{tp:Pos}{n N:π}{l:π->ε}(h1:1<=N)(h3:N<=3)(lt:∀j,j<N->l j<n):Turn P w K (.Tuple es kk tp) (Xw K N l) (UO n N) (n+N+2) (ZN n N l) where
 mem:=iy (j:=N+2)<|`b
 obj:=λi h st b hb=>by
  let⟨j,hj,rfl⟩:=Ac hb
  by_cases q:j<N
  ·let⟨o,e,c,d⟩:=st.it j q;show{o,e,λv z=>by rw[d]at z;cases z}
  ·let⟨arr,na,hO⟩:=st.o
   have:j=N\/j=N+1\/j=N+2:=`b
   rcases this with rfl|rfl|rfl
   ·show{_,st.t,λv z=>by cases z}
   ·show{_,hO,λv z=>by cases z}
   ·show{_,st.z,λv z=>by cases z}
 keep:=λi h h' st k=>by
  let⟨hz,hI,⟨arr,na,hO⟩,J⟩:=st
  show{k _ (iy (j:=N+2)<|`b) _ hz,k _ (iy (j:=N)<|`b) _ hI,{arr,na,k _ (iy (j:=N+1)<|`b) _ hO},λj hj=>PJ (λo e=>k _ (iy<|`b) o e)<|J j hj}
 item:=by
  intro X hP hw hK hc i qg s σ H E I hf st hg
  subst hP hw hK
  let⟨xs,x,hx⟩:=hg
  have ex:∀j,∃(aE:δ ξ)(u:ξ),j<N->Vals (xs j) aE/\s.heap.IsTuple (l j) aE.toArray/\aE[i]?=some u/\RelV (x j) u:=λj=>by
   by_cases q:j<N
   ·let⟨aE,rv,p,_⟩:=I.tuple (hx j q).1
    let⟨u,hu,ru⟩:=rv.get (hx j q).2
    show{aE,u,λr=>⟨rv,p,hu,ru⟩}
   ·show{[],.none,λh=>absurd h q}
  have fx:=Classical.axiomOfChoice ex
  let⟨aE,fx⟩:=fx
  let⟨u,fx⟩:=Classical.axiomOfChoice fx
  have hT:s.TypeIs (.ref<|n+N+2) "zip":={_,st.z,rfl}
  have lz:@LT.lt π _ (n+N+2) s.heap.objs.size:=zy st.z
  unfold pyNext
  show za<|wpAny_attempt<|wpAny_callSpecial?_slot (name:=Str.ofString "__next__") hT F.slot_zip_next<|yD F.slot_zip_next hT F.entry_zip_next (HX h1 h3 lt st (xs:=λj=>(aE j).toArray) (v:=u) (λj hj=>(fx j hj).2.1) (λj hj=>by simpa using (fx j hj).2.2.1) λg1 z1 O1 m1 T1 kp=>zm !⟨?_⟩)<|F.args_zip_next_1 _
  show wpAny_letOwnedTupleGo_zip (s:={s with heap:=g1}) z1 λg2 z2 r2=>?_
  have Zl:∀c o,c∉UO n N->s.heap.get? c=ϑ o->g2.get? c=ϑ o:=λc o hc e=>r2.extBut _ _ (λz=>hc<|z ▸ iy (j:=N+2) `b)<|kp c o (λz=>hc<|z ▸ iy (j:=N+2) `b) (λz=>hc<|z ▸ iy (j:=N+1) `b) (λj hj z=>hc<|z ▸ iy `b) e
  have T2:sE g2 s.heap.objs.size (iw N u):=r2.extBut _ _ (yj lz) T1
  have I2:Inv X qg σ (upd H s.heap.objs.size<|.tup<|(List.range N).map x) {s with heap:=g2}:=I.NM (t':=s.toks) (UO n N) hf Zl (Heap.get?_none_of_le<|zp _) {by rw[zc,List.length_range];show YR<|zM h3<|`a,_,En λj hj=>(fx j hj).2.2.2,{_,T2,rfl,rfl,_,rfl}}
  show{.ref s.heap.objs.size,_,I2,rfl,{_,I.aT.fresh<|zp _,rfl,λys y hy=>?_},{z2,?_,{_,mD,r2.extBut _ _ (by change @Ne π _ _;lia) O1},λj hj=>x9 r2.extBut (by change @Ne π _ _;lia)<|m1 j hj},λb hb=>?_}
  ·congr 2
   show zY λj hj=>?_
   have hj:=zV.mp hj
   have:=I.qk (hy j hj).1 (hx j hj).1
   have e:=(hy j hj).2
   rw[this,(hx j hj).2]at e
   show zU e
  ·show r2.extBut _ _ (by change @Ne π _ _;lia) (kp _ _ (by change @Ne π _ _;lia) (by change @Ne π _ _;lia) (λj hj=>by change @Ne π _ _;lia) st.t)
  ·let⟨j,hj,rfl⟩:=Ac hb
   rw[ay<|by change @Ne π _ _;lia]
   show(hf _ hb).1
 done:=by
  intro X hP hw hK hc i qg s σ H E I hf st hg
  subst hP hw hK
  let⟨xs,hx,hl⟩:=hg
  let⟨SV,rv0,p0,_⟩:=I.tuple<|hx 0 h1
  have hT:s.TypeIs (.ref<|n+N+2) "zip":={_,st.z,rfl}
  have Zx:=rv0.length
  unfold pyNext
  show za<|wpAny_attempt<|wpAny_callSpecial?_slot (name:=Str.ofString "__next__") hT F.slot_zip_next<|yD F.slot_zip_next hT F.entry_zip_next (K4 h1 (I.ok.hd hc) st (lt 0 h1) (xs:=λr=>SV.toArray) p0 (by simp;lia) λh1 e kp he=>?_)<|F.args_zip_next_1 _
  let⟨o,ho,Eh⟩:=he
  show za<|wpAny_isInstance (T:="StopIteration") (b:=true) ⟨o,ho,Eh⟩ isSubtype_stop<|zm {rfl,?_}
  show I.NL (t':=s.toks) (UO n N) hf λc o hc e=>kp c o (λz=>hc<|z ▸ iy (j:=N+2) `b) (λz=>hc<|z ▸ iy (j:=0) `b) e
 self:=λA' i s Q E st h=>wpAny_pyIter_zip st.z h
noncomputable def two(a b:ε):π->Addr:=λj=>if j=0 then a else b
theorem Zy{p:π->η}(h0:p 0)(h1:p 1):∀j,j<2->p j|0,_=>h0|1,_=>h1|j+2,h=>by lia
section
variable{X:Cx}{a b:Δ}{ta:TA}{p pos tp:Pos}{es:δ Δ}{kk:π}
def SW(hg:Gl X "zip")(hm:X.mg "zip"= none)(ha:PA X [a,b] ta)(hs:starEach [a,b] X.env=[(false,eval a X.env),(false,eval b X.env)])(m:starEach [b] X.env=[(false,eval b X.env)]): PI X (.Tuple es kk tp) (.Call (.Name "zip" p) [a,b] [] pos) (λσ H R=>ta σ H λvs H1=>∃c d,vs=[.ref c,.ref d]/\(∃xs,k9 X.K H1 c xs)/\(∃xs,k9 X.K H1 d xs)/\R (Xw X.K 2<|two c d) H1):=by intro qg s σ H R I h;show Call_<|jW I hg hm boot_zip<|PyProof.Rows.callWith_type1 (bZ (ha pos qg s σ H _ I h) λus s1 ⟨vs,H1,g,x,B⟩=>?_) (by rw[hs,m]) (by rw[m];rfl);let⟨c,d,e,⟨E,w⟩,⟨F,z⟩,q⟩:=B;subst e;let⟨u,v,rfl,r,o⟩:=x.two;cases r;cases o;let⟨C,y,l,_⟩:=g.tuple w;let⟨i,G,n,_⟩:=g.tuple z;show D5 (show s1.heap.IsTuple c C.toArray from l) (show s1.heap.IsTuple d i.toArray from n) λh' zs kp=>?_;have t:ZN s1.heap.objs.size 2 (two c d) 0 h':={zs.1,zs.2.1,zs.2.2.1,Zy zs.2.2.2.1 zs.2.2.2.2};show wpAny_pyIter_zip (s:={s1 with heap:=h'}) zs.1 {_,_,_,_,H1,rfl,g.kept (t':=s1.toks) kp,HY `a `a<|Zy l.lt n.lt,t,λb A=>?_,q};let⟨j,_,rfl⟩:=Ac A;show g.tN (Nat.le_add_right _ _)<|g.aT.fresh<|Nat.le_add_right _ _
end
section
variable{K:Φ}{X:Cx}{a c e:Δ}{t:k_}{p pos tp:Pos}{es:δ Δ}{kk:π}
def izn(hm:X.mg "zip"= none)(ha:DA K X [a,c] t)(hg:ψ (Gl X "zip") qQJ)(hs:ψ (starEach [a,c] X.env=[(false,eval a X.env),(false,eval c X.env)]) qQJ)(M:ψ (starEach [c] X.env=[(false,eval c X.env)]) qQJ)(J:ψ (X.K=K) qQJ): DI K X (.Tuple es kk tp) (.Call (.Name "zip" p) [a,c] [] pos) (WU t):=by subst J;show⟨λy=>(SW (X:=y.cx) hg hm (ha.of y) hs M).mono λτ H R ⟨σ,S,RI,Z,P,B,q,F,z⟩=>{σ,S,_,Z,P,B,q,λds O vs H1 ⟨xs,ys,e,hl,N⟩ L s1 k1=>by subst e;let⟨v,u,rfl,ra,C⟩:=L.two;let⟨a,l,rfl,qa,ta⟩:=ra.tup;let⟨b,o,rfl,r,tb⟩:=C.tup;show{a,b,rfl,{l,.of qa},{o,.of r},F _ O _ H1 N (λi Y H2 k2 s2 k=>?_) s1 k1};have m:k9 X.K H2 a l:=.of<|k2.t _ _ qa;have n:k9 X.K H2 b o:=.of<|k2.t _ _ r;have Q:l.length=xs.length:=ta.len;let f:π->δ V:=λj=>if j=0 then l else o;show{λd hd=>?_,λh=>{f,Zy m n,by change l.length<=i;unfold dU at h;rw[List.length_zipWith]at h;lia}};unfold dU at hd;let⟨x,U,e1,e2,e3⟩:=List.getElem?_zipWith_eq_some.mp hd;subst e3;let⟨s,I,E⟩:=(RvAll.ts k2 _ ta).get e1;let⟨w,A,g2⟩:=(RvAll.ts k2 _ tb).get e2;let g:π->V:=λj=>if j=0 then s else w;have ok:∀j,j<2->k9 X.K H2 (two a b j) (f j)/\(f j)[i]?=some (g j):=Zy ⟨m,I⟩ ⟨n,A⟩;show{⟨f,g,ok⟩,λx' H' ⟨T,hT,e4,G⟩=>?_};have:=G f g ok;subst this e4;have kk:Kp X.K H2 (upd H2 T<|.tup [s,w]):=.new hT;show{lG aR<|RvAll.ts kk _<|bE E<|bE g2 cn,kk,s2.grow hT},z}⟩
end
end L2
namespace My
open PySem L2
def top(i:π):Stmt:=PySem.Challenge.pw_pageturns_k47_keepers_refuse.main.body.getD i<|.Pass {0,0,0,0}
abbrev HZ:Stmt:=top 25
abbrev K5:Stmt:=top 26
abbrev H9:Stmt:=top 27
abbrev kD:Stmt:=top 34
abbrev Eo:Stmt:=top 36
abbrev Ad:Stmt:=top 39
abbrev nA:Stmt:=top 49
abbrev nR:Stmt:=top 52
abbrev wb:Stmt:=top 62
abbrev Cb:Stmt:=top 63
abbrev Cc:Stmt:=top 67
abbrev uA:Stmt:=top 72
abbrev jD:Stmt:=top 74
abbrev jE:Stmt:=top 75
abbrev iz:Stmt:=top 76
abbrev Ep:Stmt:=top 105
abbrev xn:Stmt:=top 108
abbrev Ae:Stmt:=top 113
abbrev Cf:Stmt:=top 116
abbrev qM:Stmt:=top 117
abbrev xo:Stmt:=top 118
abbrev b_:Stmt:=top 95
abbrev dW:Stmt:=top 98
structure gu where
 (Ot qN nS H_ Cg Ia Qh o9 uB Ci wc tq lM lN j8 jF kE bR ak aM aA az av aG aW bf bA dG cI aH dH dI aw aL i6 bJ gT bq uC eN K6 uD:ε)
 (Gj jG iA xp rT xq Gk i7 lO rV nB:FuncData)
 (o_ qO pb uE mW Cj mX pd Ck:Tok)
 ts:δ ε
 (f Er Af:π->ε)
 (d SX Ou:π->FuncData)
structure Txt(w:Ω)(K:Φ)(mg:ρ->θ ξ)(t:gu):η where
 fn:HV K mg top t.f t.d [22,23,24,25,26,27,28,29,30,31,34,35,36,37,38,39,40,46,47,48,49,50,51,52,53,54,55,56,62,63,64,65,66,67,68,71,72,73,75,79,80,85,86,87,88,89,90,91,92,96,100,101,102,103,104,105,106,107,108,109,110,111,112,113,114,115,116]
 gv:Em K t.aw "Shelf." b_ t.Er t.SX [0,1,2,3,4,5,6,7,8,13]
 uF:Em K t.aL "Keeper." dW t.Af t.Ou [0,1,2]
 plain:El K mg "plain" (top 70) ["shelf","order","sieve","moment"] t.Ot t.Gj
 Ib:Binds K t.Gj ["shelf","order","sieve","moment"] [.none]
 iB:El K mg "sorted_by_keys" (top 74) ["rows","way"] t.qN t.jG
 fY:El K mg "sorted_by_values" (top 76) ["columns","part","rows"] t.nS t.iA
 tw:El K mg "page_on" (top 83) ["shelf","order","sieve","size","gap","moment"] t.H_ t.xp
 Cm:Binds K t.xp ["shelf","order","sieve","size","gap","moment"] [.none]
 mE:El K mg "page_back" (top 84) ["shelf","order","sieve","size","gap","moment"] t.Cg t.rT
 wd:Binds K t.rT ["shelf","order","sieve","size","gap","moment"] [.none]
 Ag:El K mg "_law_right" (top 117) ["_law_keeper","_law_order_here","_law_columns_here","_law_well_here"] t.Ia t.xq
 law:El K mg "law" (top 118) ["_law_script"] t.Qh t.Gk
 fc:MN K t.aw "worths_at" "Shelf.worths_at" (inClass b_ 9) ["self","key","moment"] t.o9 t.i7
 gU:Binds K t.i7 ["self","key","moment"] [.none]
 j9:MN K t.aw "all_at" "Shelf.all_at" (inClass b_ 10) ["self","moment"] t.uB t.lO
 Ie:Binds K t.lO ["self","moment"] [.none]
 mF:MN K t.aL "on" "Keeper.on" (inClass dW 3) ["self","sieve","size","gap"] t.Ci t.rV
 MO:Binds K t.rV ["self","sieve","size","gap"] [.none]
 i8:MN K t.aL "back" "Keeper.back" (inClass dW 4) ["self","sieve","size","gap"] t.wc t.nB
 Jg:Binds K t.nB ["self","sieve","size","gap"] [.none]
 nU:mg "MOST_NAME_SIGNS"= some (.int 8 t.o_)
 pe:mg "MOST_KEY_SIGNS"= some (.int 12 t.qO)
 nV:mg "MOST_WORD_SIGNS"= some (.int 40 t.pb)
 kG:mg "MOST_COLUMNS"= some (.int 8 t.uE)
 lP:mg "MOST_PARTS_orders"= some (.int 8 t.mW)
 Ah:mg "MOST_DEEP"= some (.int 8 t.Cj)
 lQ:mg "MOST_PARTS_sieves"= some (.int 200 t.mX)
 nW:mg "MOST_IN_A_TUPLE"= some (.int 8 t.pd)
 Ai:mg "MOST_ROWS"= some (.int 1000 t.Ck)
 Co:mg "KINDS"= some (.ref t.tq)
 Cp:∀H,Rv K H (.kt [.str "number",.str "word"])<|.ref t.tq
 Aj:mg "OTHER_WAY"= some (.ref t.lM)
 Cq:J_ w K t.lM [("up",.str "down"),("down",.str "up")]
 Al:mg "OTHER_END"= some (.ref t.lN)
 Cr:J_ w K t.lN [("first",.str "last"),("last",.str "first")]
 we:mg "OTHER_SIDE"= some (.ref t.j8)
 Am:J_ w K t.j8 [("ahead",.str "behind"),("behind",.str "ahead")]
 pf:mg "LENGTHS_sieves"= some (.ref t.jF)
 qP:J_ w K t.jF [("every",.int 1),("is",.int 3),("below",.int 3),("above",.int 3),("begins",.int 3),("key",.int 2),("not",.int 2),("and",.int 2),("or",.int 2)]
 jH:mg "LENGTHS_deeds"= some (.ref t.kE)
 kH:J_ w K t.kE [("put",.int 3),("change",.int 3),("take",.int 2)]
 bw:mg "len"= none
 lR:mg "all"= none
 Xx:mg "any"= none
 ai:mg "isinstance"= none
 i9:mg "range"= none
 kI:mg "int"= none
 lS:mg "str"= none
 SY:mg "bool"= none
 bL:mg "tuple"= none
 Ao:mg "list"= none
 K7:mg "dict"= none
 K8:mg "set"= none
 Qi:mg "zip"= none
 jI:mg "sorted"= none
 Qj:mg "min"= none
 Xy:mg "max"= none
 uG:mg "reversed"= none
 Ap:mg "ValueError"= none
 Ar:mg "PageError"= some (.ref t.bR)
 lT:excIn K t.bR L2.nM "ValueError.__new__"= true
 cR:mg "BadColumns"= some (.ref t.ak)
 cq:excIn K t.ak L2.nM "ValueError.__new__"= true
 jJ:mg "BadRow"= some (.ref t.aM)
 iC:excIn K t.aM L2.nM "ValueError.__new__"= true
 fw:mg "BadOrder"= some (.ref t.aA)
 dX:excIn K t.aA L2.nM "ValueError.__new__"= true
 lU:mg "BadSieve"= some (.ref t.az)
 iD:excIn K t.az L2.nM "ValueError.__new__"= true
 fz:mg "BadPlace"= some (.ref t.av)
 dY:excIn K t.av L2.nM "ValueError.__new__"= true
 uH:mg "BadSize"= some (.ref t.aG)
 mG:excIn K t.aG L2.nM "ValueError.__new__"= true
 xr:mg "HasKey"= some (.ref t.aW)
 ph:excIn K t.aW L2.nM "ValueError.__new__"= true
 Cs:mg "NoKey"= some (.ref t.bf)
 tD:excIn K t.bf L2.nM "ValueError.__new__"= true
 rW:mg "NoMoment"= some (.ref t.bA)
 nX:excIn K t.bA L2.nM "ValueError.__new__"= true
 Ig:mg "NoMark"= some (.ref t.dG)
 Es:mg "OldMark"= some (.ref t.cI)
 iE:mg "BadDeed"= some (.ref t.aH)
 fZ:excIn K t.aH L2.nM "ValueError.__new__"= true
 Ih:mg "NoText"= some (.ref t.dH)
 Ii:mg "NoLine"= some (.ref t.dI)
 jl:XA K t.ak
 qQ:XA K t.aM
 lV:XA K t.aA
 lW:XA K t.az
 lX:XA K t.av
 nY:XA K t.aG
 qS:XA K t.aW
 uI:XA K t.bf
 nZ:XA K t.aH
 dA:mroIn K t.ak (.ref t.bR)=ϑ true
 fj:mroIn K t.aM (.ref t.bR)=ϑ true
 dZ:mroIn K t.aA (.ref t.bR)=ϑ true
 d_:mroIn K t.az (.ref t.bR)=ϑ true
 ee:mroIn K t.av (.ref t.bR)=ϑ true
 eQ:mroIn K t.aG (.ref t.bR)=ϑ true
 fk:mroIn K t.aW (.ref t.bR)=ϑ true
 fH:mroIn K t.bf (.ref t.bR)=ϑ true
 eR:mroIn K t.aH (.ref t.bR)=ϑ true
 jm:kitAny K (.ref t.ak) ([t.dI,t.dG,t.bA,t.dH,t.cI].map Value.ref)=ϑ false
 qU:kitAny K (.ref t.aM) ([t.dI,t.dG,t.bA,t.dH,t.cI].map Value.ref)=ϑ false
 lY:kitAny K (.ref t.aA) ([t.dI,t.dG,t.bA,t.dH,t.cI].map Value.ref)=ϑ false
 lZ:kitAny K (.ref t.az) ([t.dI,t.dG,t.bA,t.dH,t.cI].map Value.ref)=ϑ false
 l3:kitAny K (.ref t.av) ([t.dI,t.dG,t.bA,t.dH,t.cI].map Value.ref)=ϑ false
 n8:kitAny K (.ref t.aG) ([t.dI,t.dG,t.bA,t.dH,t.cI].map Value.ref)=ϑ false
 qW:kitAny K (.ref t.aW) ([t.dI,t.dG,t.bA,t.dH,t.cI].map Value.ref)=ϑ false
 uJ:kitAny K (.ref t.bf) ([t.dI,t.dG,t.bA,t.dH,t.cI].map Value.ref)=ϑ false
 n_:kitAny K (.ref t.aH) ([t.dI,t.dG,t.bA,t.dH,t.cI].map Value.ref)=ϑ false
 k_BadColumns_BadColumns:kitOne K (.ref t.ak) (.ref t.ak)=ϑ true
 k_BadColumns_BadRow:kitOne K (.ref t.ak) (.ref t.aM)=ϑ false
 k_BadColumns_BadOrder:kitOne K (.ref t.ak) (.ref t.aA)=ϑ false
 k_BadColumns_BadSieve:kitOne K (.ref t.ak) (.ref t.az)=ϑ false
 k_BadColumns_BadPlace:kitOne K (.ref t.ak) (.ref t.av)=ϑ false
 k_BadColumns_BadSize:kitOne K (.ref t.ak) (.ref t.aG)=ϑ false
 k_BadColumns_HasKey:kitOne K (.ref t.ak) (.ref t.aW)=ϑ false
 k_BadColumns_NoKey:kitOne K (.ref t.ak) (.ref t.bf)=ϑ false
 k_BadColumns_BadDeed:kitOne K (.ref t.ak) (.ref t.aH)=ϑ false
 k_BadColumns_ValueError:kitOne K (.ref t.ak) (.type "ValueError")=ϑ true
 k_BadRow_BadColumns:kitOne K (.ref t.aM) (.ref t.ak)=ϑ false
 k_BadRow_BadRow:kitOne K (.ref t.aM) (.ref t.aM)=ϑ true
 k_BadRow_BadOrder:kitOne K (.ref t.aM) (.ref t.aA)=ϑ false
 k_BadRow_BadSieve:kitOne K (.ref t.aM) (.ref t.az)=ϑ false
 k_BadRow_BadPlace:kitOne K (.ref t.aM) (.ref t.av)=ϑ false
 k_BadRow_BadSize:kitOne K (.ref t.aM) (.ref t.aG)=ϑ false
 k_BadRow_HasKey:kitOne K (.ref t.aM) (.ref t.aW)=ϑ false
 k_BadRow_NoKey:kitOne K (.ref t.aM) (.ref t.bf)=ϑ false
 k_BadRow_BadDeed:kitOne K (.ref t.aM) (.ref t.aH)=ϑ false
 k_BadRow_ValueError:kitOne K (.ref t.aM) (.type "ValueError")=ϑ true
 k_BadOrder_BadColumns:kitOne K (.ref t.aA) (.ref t.ak)=ϑ false
 k_BadOrder_BadRow:kitOne K (.ref t.aA) (.ref t.aM)=ϑ false
 k_BadOrder_BadOrder:kitOne K (.ref t.aA) (.ref t.aA)=ϑ true
 k_BadOrder_BadSieve:kitOne K (.ref t.aA) (.ref t.az)=ϑ false
 k_BadOrder_BadPlace:kitOne K (.ref t.aA) (.ref t.av)=ϑ false
 k_BadOrder_BadSize:kitOne K (.ref t.aA) (.ref t.aG)=ϑ false
 k_BadOrder_HasKey:kitOne K (.ref t.aA) (.ref t.aW)=ϑ false
 k_BadOrder_NoKey:kitOne K (.ref t.aA) (.ref t.bf)=ϑ false
 k_BadOrder_BadDeed:kitOne K (.ref t.aA) (.ref t.aH)=ϑ false
 k_BadOrder_ValueError:kitOne K (.ref t.aA) (.type "ValueError")=ϑ true
 k_BadSieve_BadColumns:kitOne K (.ref t.az) (.ref t.ak)=ϑ false
 k_BadSieve_BadRow:kitOne K (.ref t.az) (.ref t.aM)=ϑ false
 k_BadSieve_BadOrder:kitOne K (.ref t.az) (.ref t.aA)=ϑ false
 k_BadSieve_BadSieve:kitOne K (.ref t.az) (.ref t.az)=ϑ true
 k_BadSieve_BadPlace:kitOne K (.ref t.az) (.ref t.av)=ϑ false
 k_BadSieve_BadSize:kitOne K (.ref t.az) (.ref t.aG)=ϑ false
 k_BadSieve_HasKey:kitOne K (.ref t.az) (.ref t.aW)=ϑ false
 k_BadSieve_NoKey:kitOne K (.ref t.az) (.ref t.bf)=ϑ false
 k_BadSieve_BadDeed:kitOne K (.ref t.az) (.ref t.aH)=ϑ false
 k_BadSieve_ValueError:kitOne K (.ref t.az) (.type "ValueError")=ϑ true
 k_BadPlace_BadColumns:kitOne K (.ref t.av) (.ref t.ak)=ϑ false
 k_BadPlace_BadRow:kitOne K (.ref t.av) (.ref t.aM)=ϑ false
 k_BadPlace_BadOrder:kitOne K (.ref t.av) (.ref t.aA)=ϑ false
 k_BadPlace_BadSieve:kitOne K (.ref t.av) (.ref t.az)=ϑ false
 k_BadPlace_BadPlace:kitOne K (.ref t.av) (.ref t.av)=ϑ true
 k_BadPlace_BadSize:kitOne K (.ref t.av) (.ref t.aG)=ϑ false
 k_BadPlace_HasKey:kitOne K (.ref t.av) (.ref t.aW)=ϑ false
 k_BadPlace_NoKey:kitOne K (.ref t.av) (.ref t.bf)=ϑ false
 k_BadPlace_BadDeed:kitOne K (.ref t.av) (.ref t.aH)=ϑ false
 k_BadPlace_ValueError:kitOne K (.ref t.av) (.type "ValueError")=ϑ true
 k_BadSize_BadColumns:kitOne K (.ref t.aG) (.ref t.ak)=ϑ false
 k_BadSize_BadRow:kitOne K (.ref t.aG) (.ref t.aM)=ϑ false
 k_BadSize_BadOrder:kitOne K (.ref t.aG) (.ref t.aA)=ϑ false
 k_BadSize_BadSieve:kitOne K (.ref t.aG) (.ref t.az)=ϑ false
 k_BadSize_BadPlace:kitOne K (.ref t.aG) (.ref t.av)=ϑ false
 k_BadSize_BadSize:kitOne K (.ref t.aG) (.ref t.aG)=ϑ true
 k_BadSize_HasKey:kitOne K (.ref t.aG) (.ref t.aW)=ϑ false
 k_BadSize_NoKey:kitOne K (.ref t.aG) (.ref t.bf)=ϑ false
 k_BadSize_BadDeed:kitOne K (.ref t.aG) (.ref t.aH)=ϑ false
 k_BadSize_ValueError:kitOne K (.ref t.aG) (.type "ValueError")=ϑ true
 k_HasKey_BadColumns:kitOne K (.ref t.aW) (.ref t.ak)=ϑ false
 k_HasKey_BadRow:kitOne K (.ref t.aW) (.ref t.aM)=ϑ false
 k_HasKey_BadOrder:kitOne K (.ref t.aW) (.ref t.aA)=ϑ false
 k_HasKey_BadSieve:kitOne K (.ref t.aW) (.ref t.az)=ϑ false
 k_HasKey_BadPlace:kitOne K (.ref t.aW) (.ref t.av)=ϑ false
 k_HasKey_BadSize:kitOne K (.ref t.aW) (.ref t.aG)=ϑ false
 k_HasKey_HasKey:kitOne K (.ref t.aW) (.ref t.aW)=ϑ true
 k_HasKey_NoKey:kitOne K (.ref t.aW) (.ref t.bf)=ϑ false
 k_HasKey_BadDeed:kitOne K (.ref t.aW) (.ref t.aH)=ϑ false
 k_HasKey_ValueError:kitOne K (.ref t.aW) (.type "ValueError")=ϑ true
 k_NoKey_BadColumns:kitOne K (.ref t.bf) (.ref t.ak)=ϑ false
 k_NoKey_BadRow:kitOne K (.ref t.bf) (.ref t.aM)=ϑ false
 k_NoKey_BadOrder:kitOne K (.ref t.bf) (.ref t.aA)=ϑ false
 k_NoKey_BadSieve:kitOne K (.ref t.bf) (.ref t.az)=ϑ false
 k_NoKey_BadPlace:kitOne K (.ref t.bf) (.ref t.av)=ϑ false
 k_NoKey_BadSize:kitOne K (.ref t.bf) (.ref t.aG)=ϑ false
 k_NoKey_HasKey:kitOne K (.ref t.bf) (.ref t.aW)=ϑ false
 k_NoKey_NoKey:kitOne K (.ref t.bf) (.ref t.bf)=ϑ true
 k_NoKey_BadDeed:kitOne K (.ref t.bf) (.ref t.aH)=ϑ false
 k_NoKey_ValueError:kitOne K (.ref t.bf) (.type "ValueError")=ϑ true
 k_BadDeed_BadColumns:kitOne K (.ref t.aH) (.ref t.ak)=ϑ false
 k_BadDeed_BadRow:kitOne K (.ref t.aH) (.ref t.aM)=ϑ false
 k_BadDeed_BadOrder:kitOne K (.ref t.aH) (.ref t.aA)=ϑ false
 k_BadDeed_BadSieve:kitOne K (.ref t.aH) (.ref t.az)=ϑ false
 k_BadDeed_BadPlace:kitOne K (.ref t.aH) (.ref t.av)=ϑ false
 k_BadDeed_BadSize:kitOne K (.ref t.aH) (.ref t.aG)=ϑ false
 k_BadDeed_HasKey:kitOne K (.ref t.aH) (.ref t.aW)=ϑ false
 k_BadDeed_NoKey:kitOne K (.ref t.aH) (.ref t.bf)=ϑ false
 k_BadDeed_BadDeed:kitOne K (.ref t.aH) (.ref t.aH)=ϑ true
 k_BadDeed_ValueError:kitOne K (.ref t.aH) (.type "ValueError")=ϑ true
 Ct:mg "Shelf"= some (.ref t.aw)
 aj:sX K t.aw
 Cu:Mk K t.aw (t.Er 0)
 dh:findIn K (.ref t.aw) "columns"= some none
 dj:findIn K (.ref t.aw) "deeds"= some none
 cw:findIn K (.ref t.aw) "runs"= some none
 qX:mg "Keeper"= some (.ref t.aL)
 bz:sX K t.aL
 qY:Mk K t.aL (t.Af 0)
 cJ:findIn K (.ref t.aL) "shelf"= some none
 dJ:findIn K (.ref t.aL) "order"= some none
 i_:t.jG.code=.ref t.i6
 fI:codeHdIn K t.i6 t.bJ=ϱ
 pj:t.bJ∈t.ts
 gW:t.iA.code=.ref t.gT
 eT:codeHdIn K t.gT t.bq=ϱ
 mY:t.bq∈t.ts
 uK:t.xq.code=.ref t.uC
 oa:codeHdIn K t.uC t.eN=ϱ
 Et:t.eN∈t.ts
 Eu:t.Gk.code=.ref t.K6
 As:codeHdIn K t.K6 t.uD=ϱ
 S_:t.uD∈t.ts
 np:[t.bJ,t.bq,t.eN,t.uD].Nodup
 ta:∀b∈t.ts,b=t.bJ\/b=t.bq\/b=t.eN\/b=t.uD
 bl:∀(s:ζ)(u:ξ),BindsTo s t.Gk {[u],[]} [("_law_script",u)]
section
variable{w:Ω}{K:Φ}{mg:ρ->θ ξ}{t:gu}(T:Txt w K mg t)
def Txt.l4:=T.fn 22<|`a
def Txt.jK:=T.fn 23<|`a
def Txt.qZ:=T.fn 24<|`a
def Txt.pq:=T.fn 25<|`a
def Txt.og:=T.fn 26<|`a
def Txt.Au:=T.fn 27<|`a
def Txt.mH:=T.fn 28<|`a
def Txt.l5:=T.fn 29<|`a
def Txt.compared:=T.fn 30<|`a
def Txt.dN:=T.fn 34<|`a
def Txt.ia:=T.fn 35<|`a
def Txt.l6:=T.fn 36<|`a
def Txt.iF:=T.fn 37<|`a
def Txt.mI:=T.fn 38<|`a
def Txt.oh:=T.fn 39<|`a
def Txt.eB:=T.fn 40<|`a
def Txt.Av:=T.fn 46<|`a
def Txt.Ew:=T.fn 47<|`a
def Txt.Aw:=T.fn 48<|`a
def Txt.fB:=T.fn 49<|`a
def Txt.Ax:=T.fn 50<|`a
def Txt.l7:=T.fn 51<|`a
def Txt.f9:=T.fn 52<|`a
def Txt.q_:=T.fn 53<|`a
def Txt.ja:=T.fn 62<|`a
def Txt.rf:=T.fn 63<|`a
def Txt.fJ:=T.fn 64<|`a
def Txt.l8:=T.fn 65<|`a
def Txt.jo:=T.fn 66<|`a
def Txt.passes:=T.fn 67<|`a
def Txt.j_:=T.fn 68<|`a
def Txt.eC:=T.fn 71<|`a
def Txt.ke:=T.fn 72<|`a
def Txt.uL:=T.fn 73<|`a
def Txt.iG:=T.fn 75<|`a
def Txt.eE:=T.fn 79<|`a
def Txt.mJ:=T.fn 80<|`a
def Txt.oi:=T.fn 85<|`a
def Txt.kf:=T.fn 86<|`a
def Txt.rh:=T.fn 87<|`a
def Txt.oj:=T.fn 88<|`a
def Txt.gZ:=T.fn 89<|`a
def Txt.kh:=T.fn 90<|`a
def Txt.om:=T.fn 91<|`a
def Txt.l9:=T.fn 92<|`a
def Txt.jb:=T.fn 96<|`a
def Txt.f_:=T.fn 100<|`a
def Txt.uM:=T.fn 101<|`a
def Txt.aN:=T.fn 102<|`a
def Txt.rj:=T.fn 103<|`a
def Txt.tE:=T.fn 104<|`a
def Txt.iH:=T.fn 105<|`a
def Txt.Cv:=T.fn 106<|`a
def Txt.Ay:=T.fn 107<|`a
def Txt.mK:=T.fn 108<|`a
def Txt.Ex:=T.fn 109<|`a
def Txt.Az:=T.fn 110<|`a
def Txt.jq:=T.fn 111<|`a
def Txt.jr:=T.fn 112<|`a
def Txt.oq:=T.fn 113<|`a
def Txt.ot:=T.fn 114<|`a
def Txt.bP:=T.fn 115<|`a
def Txt.rl:=T.fn 116<|`a
def Txt.dk:=T.gv 0<|`a
def Txt.fC:=T.gv 1<|`a
def Txt.cN:=T.gv 2<|`a
def Txt.eF:=T.gv 3<|`a
def Txt.dD:=T.gv 4<|`a
def Txt.cP:=T.gv 5<|`a
def Txt.dE:=T.gv 6<|`a
def Txt.a_:=T.gv 7<|`a
def Txt.ib:=T.gv 8<|`a
def Txt.dF:=T.gv 13<|`a
def Txt.bS:=T.uF 0<|`a
def Txt.gD:=T.uF 1<|`a
def Txt.cK:=T.uF 2<|`a
end
def Cw:=cY<|top 22
def AA:=cY<|top 23
def AB:=cY<|top 24
def Ey:=cY<|top 25
def Ij:=cY<|top 26
def Ez:=cY<|top 27
def uN:=cY<|top 28
def Cy:=cY<|top 29
def jL:=cY<|top 34
def pv:=cY<|top 35
def Cz:=cY<|top 36
def wg:=cY<|top 37
def AD:=cY<|top 38
def wj:=cY<|top 39
def CA:=cY<|top 40
def Ik:=cY<|top 46
def Il:=cY<|top 47
def EA:=cY<|top 48
def iI:=cY<|top 49
def EB:=cY<|top 50
def uO:=cY<|top 51
def mZ:=cY<|top 52
def AE:=cY<|top 53
def cH:=cY<|top 62
def AF:=cY<|top 63
def px:=cY<|top 64
def l_:=cY<|top 65
def gf:=cY<|top 66
def xt:=cY<|top 67
def sH:=cY<|top 68
def K9:=cY<|top 70
def pz:=cY<|top 71
def kJ:=cY<|top 72
def jc:=cY<|top 73
def pF:=cY<|top 74
def dQ:=cY<|top 75
def m6:=cY<|top 76
def nC:=cY<|top 79
def uP:=cY<|top 80
def EC:=cY<|top 83
def AG:=cY<|top 84
def nD:=cY<|top 85
def kK:=cY<|top 86
def AH:=cY<|top 87
def wk:=cY<|top 88
def sI:=cY<|top 89
def wm:=cY<|top 90
def wo:=cY<|top 91
def uQ:=cY<|top 92
def ma:=cY<|top 96
def AI:=cY<|top 100
def Im:=cY<|top 101
def gk:=cY<|top 102
def fK:=cY<|top 103
def uR:=cY<|top 104
def CB:=cY<|top 105
def K_:=cY<|top 106
def iJ:=cY<|top 107
def fm:=cY<|top 108
def jM:=cY<|top 109
def ED:=cY<|top 110
def eO:=cY<|top 111
def dm:=cY<|top 112
def gA:=cY<|top 113
def bT:=cY<|top 114
def cy:=cY<|top 115
def fL:=cY<|top 116
def eG:=cY<|top 117
def fq:=cY<|top 118
def jd:=cY<|inClass b_ 0
def AJ:=cY<|inClass b_ 1
def sJ:=cY<|inClass b_ 2
def wq:=cY<|inClass b_ 3
def kU:=cY<|inClass b_ 4
def jN:=cY<|inClass b_ 5
def fW:=cY<|inClass b_ 6
def me:=cY<|inClass b_ 7
def AK:=cY<|inClass b_ 8
def iK:=cY<|inClass b_ 9
def gQ:=cY<|inClass b_ 10
def kW:=cY<|inClass b_ 13
def iL:=cY<|inClass dW 0
def uS:=cY<|inClass dW 1
def ou:=cY<|inClass dW 2
def AL:=cY<|inClass dW 3
def uT:=cY<|inClass dW 4
theorem sm(h:n<=1000):n<=sizeLine:=yL<|jA h
theorem wu:0<=sizeLine:=sm<|`a
theorem fU:1<=sizeLine:=sm<|`a
theorem gE:2<=sizeLine:=sm<|`a
theorem iM:3<=sizeLine:=sm<|`a
theorem wx:4<=sizeLine:=sm<|`a
theorem Tc:5<=sizeLine:=sm<|`a
theorem Xz:6<=sizeLine:=sm<|`a
theorem Ov:7<=sizeLine:=sm<|`a
theorem XB:8<=sizeLine:=sm<|`a
theorem Td:9<=sizeLine:=sm<|`a
theorem XD:10<=sizeLine:=sm<|`a
theorem XG:12<=sizeLine:=sm<|`a
theorem XH:13<=sizeLine:=sm<|`a
theorem XI:16<=sizeLine:=sm<|`a
abbrev FnD(P:Ψ)(w:Ω)(K:Φ)(mg:ρ->θ ξ)(base:Γ)(k:π)(f:ε)(fd:FuncData)(ps:δ ρ)(sp:ir):Prop:=cG P w K mg base (fh P w mg) k f fd ps<|qD K sp
def Gt(S:ax)(d:D):Prop:=(∃k,Sd S d k)/\∀z,d=.str z->z.cps.size<=1000
noncomputable def isLet(c:π):Bool:=ω (97<=c)&&ω (c<=122)
noncomputable def Gm(c:π):Bool:=ω (48<=c)&&ω (c<=57)
noncomputable def La(c:π):Bool:=ω (32<=c)&&ω (c<=126)
noncomputable def iN(z:ρ):Bool:=ω (1<=z.cps.size)&&ω (z.cps.size<=8)&&z.cps.toList.all isLet
noncomputable def fV(z:ρ):Bool:=ω (1<=z.cps.size)&&ω (z.cps.size<=12)&&(z.cps.toList.head?.any isLet)&&z.cps.toList.all λc=>isLet c||Gm c
noncomputable def CC(z:ρ):Bool:=ω (z.cps.size<=40)&&z.cps.toList.all La
noncomputable def ofStr(f:ρ->χ):D->χ|.str z=>f z|_=>false
noncomputable def uU:D->χ|.int _=>true|_=>false
noncomputable def dR(kind:ρ)(d:D):Bool:=au d||if kind ="number" then uU d else ofStr CC d
def AM(f:D->χ):ir:=λds S R z=>∃d,ds=[d]/\Gt S d/\R (.bl<|f d) S
def Lb(f:π->χ):ir:=λds S R z=>∃c,ds=[.str ⟨#[c]⟩]/\R (.bl<|f c) S
theorem rX:∀{xs ys:δ D}{a b:D},Paired rel xs ys->rel a b->Paired rel (xs++[a]) (ys++[b])|_,_,_,_,.nil,r=>.cons r .nil|_,_,_,_,.cons q t,r=>.cons q<|rX t r
def take_snoc{α:Type}{l:δ α}{i:π}{d:α}(h:l[i]?=some d):l.take (i+1)=l.take i++[d]:=by rw[List.take_add_one,h];rfl
def mf{I:HJ}{a:ax}{g:Dc}{te:TD}{σ:SD}{src:δ<|θ π}{R:KD}(rel:D->D->η)(aT:I.ok a)(hz:I.xs.length<=1000) (step:∀d,d∈I.xs->∀Q:KD,(∀v,rel d v->Q v a)->g d (nv σ src) a λkQ S3=>te kQ S3 Q Zf) (l:∀out,Paired rel I.xs out->∀p,a p=ϐ->R (.ref p) (a.set p<|.lst out)): FR σ src g xg te R I a:=by
 show{λi out S=>S=a/\Paired rel (I.xs.take i) out,{rfl,.nil},λi out S h=>by rw[h.1];show aT,?_,?_};rintro i d out S hd ⟨rfl,j⟩;have c:=yM j;rw[yc]at c;show{jA<|`b,?_};have e:(λ(kQ:SD)(S3:ax)=>xg kQ S3 (λb n=>if b=ϱ then te kQ n (λv m=>m=S/\Paired rel (I.xs.take<|i+1) (out++[v])) Zf else n=S/\Paired rel (I.xs.take<|i+1) out) Zf)=λkQ S3=>te kQ S3 (λv m=>m=S/\Paired rel (I.xs.take<|i+1) (out++[v])) Zf:=by funext kQ S3;simp[xg]
 rw[e];show step d (zI hd) _ λv o=>{rfl,by rw[take_snoc hd];show rX j o};rintro out q ⟨rfl,j⟩;rw[List.take_length]at j;show l out j
theorem uV:∀{xs out:δ D},Paired (λd v=>v=f d) xs out->out=xs.map f|_,_,.nil=>rfl|_,_,.cons r t=>by rw[r,uV t];rfl
theorem comp_map(f:D->D)(aT:I.ok S1)(hz:I.xs.length<=1000) (step:∀d,d∈I.xs->∀Q:KD,Q (f d) S1->g d (nv σ src) S1 λkQ S3=>te kQ S3 Q Zf) (c:∀p,S1 p=ϐ->R (.ref p) (S1.set p<|.lst<|I.xs.map f)): FR σ src g xg te R I S1:=mf (λd v=>v=f d) aT hz (λd hd Q h=>step d hd Q<|h _ rfl) λout e p a=>by rw[uV e];show c p a
def mL{I:HJ}{a:ax}{g:Dc}{tc:oF}{te:TD}{σ:SD}{src:δ<|θ π}{R:KD}(keep:D->χ)(f:D->D)(aT:I.ok a)(hz:I.xs.length<=1000) (step:∀d,d∈I.xs->∀(Q:KD)(j:ax->η),(keep d=ϱ->Q (f d) a)->(keep d=ϰ->j a)->g d (nv σ src) a λkQ S3=>tc kQ S3 (λb S4=>if b=ϱ then te kQ S4 Q Zf else j S4) Zf) (e:∀p,a p=ϐ->R (.ref p) (a.set p<|.lst<|(I.xs.filter keep).map f)): FR σ src g tc te R I a:=by show{λi out S=>S=a/\out=((I.xs.take i).filter keep).map f,⟨rfl,rfl⟩,λi out S h=>by rw[h.1];show aT,?_,?_};rintro i d out S hd ⟨rfl,rfl⟩;have c:((I.xs.take i).filter keep).length<=(I.xs.take i).length:=List.length_filter_le _ _;rw[yc]at c;show{by rw[zc];show jA<|`b,?_};show step d (zI hd) _ (λS4=>S4=S/\_=_) (λhk=>{rfl,?_}) λhk=>{rfl,?_};rw[take_snoc hd,List.filter_append,zQ,List.filter_cons,qe hk];rfl;rw[take_snoc hd,List.filter_append,List.filter_cons,qb<|by rw[hk];show zd];simp;rintro out l ⟨rfl,rfl⟩;rw[List.take_length];show e
variable{P:Ψ}{w:Ω}{K:Φ}{mg:ρ->θ ξ}{base:Γ}{t:gu}
def mh(T:Txt w K mg t):Ok P w base T.l4 1 (AM uU):=by
 show T.l4.F.eM Cw ?_;obtain⟨d,e,⟨⟨k,hk⟩,hz⟩,q⟩;show{_,(s1<|sr<|qA (cb cM T.ai ag<|al 0<|ac (oG T.kI gO) an)<|FN<|Sa<|cb cM T.ai ag<|al 0<|ac (oG T.SY NA) an),?_};show !{_,_,_,_,rfl,NB,hk,_,rfl,?_};have:(DQ k=ϱ/\((uU d=ϱ/\x5 k=ϰ)\/(uU d=ϰ/\x5 k=ϱ)))\/(DQ k=ϰ/\uU d=ϰ):=by cases d with|ao=>(cases hk;show .inr ⟨rfl,rfl⟩)|bl b=>(cases hk;show .inl {rfl,.inr ⟨rfl,rfl⟩})|int b=>(cases hk;show .inl {rfl,.inl ⟨rfl,rfl⟩})|str b=>(cases hk;show .inr ⟨rfl,rfl⟩)|tup b=>(cases hk;show .inr ⟨rfl,rfl⟩)|ref a=>(rcases hk with⟨rfl,_⟩|⟨rfl,_⟩<;>show .inr ⟨rfl,rfl⟩)|_=>show hk.elim
 rcases this with⟨h1,h2⟩|⟨h1,h2⟩;rw[h1];show ck !{_,_,_,_,rfl,JZ,hk,_,rfl,?_};rcases h2 with⟨h2,c⟩|⟨h2,c⟩<;>(rw[c];rw[h2]at q;show fo q);rw[h1];rw[h2]at q;show bV<|fo q
def kj(T:Txt w K mg t):Ok P w base T.jK 1 (Lb isLet):=by show T.jK.F.eM AA ?_;obtain⟨c,e,q⟩;show{_,(s1<|sr<|cc lH lH `u ds (dv 0) ds),?_};show !!⟨?_⟩;have e1:IY "a" ⟨#[c]⟩=ω (97<=c):=mC 97 c;have e2:IY ⟨#[c]⟩ "z"= ω (c<=122):=mC c 122;unfold isLet at q;show bY (λh=>?_) λh=>?_;rw[e1.symm.trans h,zP,<-e2]at q;show fo q;rw[e1.symm.trans h,zR]at q;show fo q
def AN(T:Txt w K mg t):Ok P w base T.qZ 1 (Lb Gm):=by show T.qZ.F.eM AB ?_;obtain⟨c,e,q⟩;show{_,(s1<|sr<|cc lH lH `u ds (dv 0) ds),?_};show !!⟨?_⟩;have e1:IY "0" ⟨#[c]⟩=ω (48<=c):=mC 48 c;have e2:IY ⟨#[c]⟩ "9"= ω (c<=57):=mC c 57;unfold Gm at q;show bY (λh=>?_) λh=>?_;rw[e1.symm.trans h,zP,<-e2]at q;show fo q;rw[e1.symm.trans h,zR]at q;show fo q
def Io(h:d∈iu z):∃c,c∈z.cps.toList/\d=.str ⟨#[c]⟩:=by unfold iu at h;let⟨c,hc,e⟩:=zh.mp h;show⟨c,hc,e.symm⟩
noncomputable def Gn(f:π->χ):D->D|.str z=>.bl (z.cps.toList.head?.any f)|_=>.ao
def Iq:(iu z).map (Gn f)=(z.cps.toList.map f).map D.bl:=by unfold iu;rw[zH,zH];rfl
def all_map{α:Type}{l:δ α}{f:α->χ} : (l.map f).all id=l.all f:=by rw[List.all_map];rfl
def rm{z:ρ}{f:π->χ}{g:Dc}{te:TD}{σ:SD}{src:δ<|θ π}{S:ax}{R:KD}{Z:KX}{i:π}(h:σ[i]?=some (some<|.str z))(hz:z.cps.size<=1000) (step:∀c,c∈z.cps.toList->∀Q:KD,Q (.bl<|f c) S->g (.str ⟨#[c]⟩) (nv σ src) S λkQ S3=>te kQ S3 Q Zf) (q:R (.bl<|z.cps.toList.all f) S): Wl Wy (PM (FT (P6<|R_ i) src g xg te) NV) σ S (λd S'=>Fo S'<|R d) Z:=by show{_,h,z,rfl,?_};show My.comp_map (I:={iu z,λx=>True}) (Gn f) trivial (by change(iu z).length<=1000;unfold iu;rw[zc,yi];show hz) (λd hd Q e=>?_) λp a=>?_;let⟨c,hc,rfl⟩:=Io hd;show step c hc Q (by simpa [Gn]using e);show{.ref p,z.cps.toList.map f,rfl,?_,S,.new a,?_};change(S.set p<|.lst<|(iu z).map<|Gn f) p=_;rw[aa,Iq];rw[all_map];show q
def mi{S:ax}{d:D}{k:Kd}(hk:Sd S d k):(∃z,d=.str z/\DR k=ϱ)\/(DR k=ϰ/\∀f,ofStr f d=ϰ):=by cases d with|str b=>(cases hk;show .inl ⟨b,rfl,rfl⟩)|ao=>(cases hk;show .inr {rfl,λx=>rfl})|bl b=>(cases hk;show .inr {rfl,λx=>rfl})|int b=>(cases hk;show .inr {rfl,λx=>rfl})|tup b=>(cases hk;show .inr {rfl,λx=>rfl})|ref a=>(rcases hk with⟨rfl,_⟩|⟨rfl,_⟩<;>show .inr {rfl,λx=>rfl})|_=>show hk.elim
def iO{S:ax}{d:D}{k:Kd}(hk:Sd S d k):(∃ds,d=.tup ds/\t_ k=ϱ)\/(t_ k=ϰ/\∀ds,d≠.tup ds):=by cases d with|tup b=>(cases hk;show .inl ⟨b,rfl,rfl⟩)|ao=>(cases hk;show .inr {rfl,λz=>nofun})|bl b=>(cases hk;show .inr {rfl,λz=>nofun})|int b=>(cases hk;show .inr {rfl,λz=>nofun})|str b=>(cases hk;show .inr {rfl,λz=>nofun})|ref a=>(rcases hk with⟨rfl,_⟩|⟨rfl,_⟩<;>show .inr {rfl,λz=>nofun})|_=>show hk.elim
def ox(T:Txt w K mg t):Ok P w base T.pq 2 (AM<|ofStr iN):=by
 show T.pq.F.eM Ey ?_;obtain⟨d,e,⟨⟨k,hk⟩,hz⟩,q⟩;show{_,(sc (si (twd<|twor (cL<|tv<|cb cM T.ai ag<|al 0<|ac (oG T.lS iq) an)<|tw1<|cL<|YT lH lH `u di (cb bC T.bw aU<|al 0 an)<|dg (v:=.int 8) T.nU {_,rfl} λx=>bc _) (s1<|sr db) s0)<|s1<|sr<|cb lI T.lR ip<|ac (v9 (N:=["sign"]) (src:=[none]) (kT (ae HZ) ["thing"] rfl rfl<|`c) (Ss<|dv 0) (sG<|show(["sign"]:δ ρ).Nodup by trivial) (bD rfl) bH (λx x x x x=>tm) λx x x x x=>(ba T.jK (kj T) hr<|al 0 an)) an),?_};show !{_,_,_,_,rfl,dw,hk,_,rfl,?_};rcases mi hk with⟨z,rfl,h0⟩|⟨h0,h1⟩;have hz:=hz z rfl;rw[h0];show bV ?_;show !!⟨{sm hz,?_}⟩;show{_,rfl,?_};have e1:ω ((1:ν)<=(z.length:π))=ω (1<=z.cps.size):=by rw[yE];change(1:ν)<=((z.cps.size:π):ν)↔_;omega
 have e2:ω (((z.length:π):ν)<=8)=ω (z.cps.size<=8):=by rw[yE];change((z.cps.size:π):ν)<=8↔_;omega
 unfold ofStr iN at q;dsimp only at q;show bY (λh2=>?_) λh2=>?_;rw[e1.symm.trans h2,zP]at q;show{_,rfl,?_};show bY (λa=>?_) λa=>?_;rw[e2.symm.trans<|nt a,zR]at q;show fo q;rw[e2.symm.trans<|nf a,zP]at q;show rm rfl hz (λc hc Q g=>!⟨c,rfl,g⟩) q;rw[e1.symm.trans h2,zR,zR]at q;show{_,rfl,?_};show ck<|fo q;rw[h0];rw[h1]at q;show ck<|ck<|fo q
def aC(c:ρ×ρ):D:=.tup [.str c.1,.str c.2]
def Gd(cs:δ<|ρ×ρ):Prop:=cs.length<=8/\(cs.map Prod.fst).Nodup/\∀c∈cs,iN c.1=ϱ/\(c.2 ="number"\/c.2 ="word")
noncomputable def fM(cs:δ<|ρ×ρ):D->χ|.tup ws=>ω (ws.length=cs.length)&&(List.zipWith (λc v=>dR c.2 v) cs ws).all id|_=>false
noncomputable def kX(cs:δ<|ρ×ρ)(k v:D):Bool:=ofStr fV k&&fM cs v
def Jh(S:ax)(d:D):Prop:=Gt S d/\∀ws,d=.tup ws->ws.length<=1000/\∀v∈ws,Gt S v
def jO(T:Txt w K mg t):Ok P w base T.og 2 (AM<|ofStr fV):=by
 show T.og.F.eM Ij ?_;obtain⟨d,e,⟨⟨k,hk⟩,hz⟩,q⟩;show{_,(sc (si (twd<|twor (cL<|tv<|cb cM T.ai ag<|al 0<|ac (oG T.lS iq) an)<|tw1<|cL<|YT lH lH `u di (cb bC T.bw aU<|al 0 an)<|dg (v:=.int 12) T.pe {_,rfl} λx=>bc _) (s1<|sr db) s0)<|sc (si (cL<|tv<|ba T.jK (kj T) hr<|ac (ix `u (dv 0) di) an) (s1<|sr db) s0)<|s1<|sr<|cb lI T.lR ip<|ac (v9 (N:=["sign"]) (src:=[none]) (kT (ae K5) ["thing"] rfl rfl<|`c) (Ss<|dv 0) (sG<|show(["sign"]:δ ρ).Nodup by trivial) (bD rfl) bH (λx x x x x=>tm) λx x x x x=>(eor (ba T.jK (kj T) hr<|al 0 an)<|FN<|ba T.qZ (AN T) hr<|al 0 an)) an),?_};show !{_,_,_,_,rfl,dw,hk,_,rfl,?_};rcases mi hk with⟨z,rfl,h0⟩|⟨h0,h1⟩;have hz:=hz z rfl;rw[h0];show bV ?_;show !!⟨{sm hz,?_}⟩;show{_,rfl,?_};have e1:ω ((1:ν)<=(z.length:π))=ω (1<=z.cps.size):=by rw[yE];change(1:ν)<=((z.cps.size:π):ν)↔_;omega
 have e2:ω (((z.length:π):ν)<=12)=ω (z.cps.size<=12):=by rw[yE];change((z.cps.size:π):ν)<=12↔_;omega
 unfold ofStr fV at q;dsimp only at q;show bY (λh2=>?_) λh2=>?_;have a:=e1.symm.trans h2;rw[a,zP]at q;show{_,rfl,?_};show bY (λi=>?_) λi=>?_;rw[e2.symm.trans<|nt i,zR,zR]at q;show fo q;rw[e2.symm.trans<|nf i,zP]at q;let⟨c,r,l⟩:=len_pos (z:=z)<|zj a;have m:z.cps.toList.head?.any isLet=isLet c:=by rw[l];rfl
 rw[m]at q;show !{c,sm hz,tj l,c,rfl,_,rfl,?_};show bY (λh=>?_) λh=>?_;rw[nt h,zR]at q;show fo q;rw[nf h,zP]at q;show rm (f:=λc=>isLet c||Gm c) rfl hz (λc hc Q g=>?_) q;show !{c,rfl,_,rfl,?_};show bY (λj=>?_) λj=>?_;rw[j,Bool.true_or]at g;show g;rw[j,yO]at g;show{_,rfl,c,rfl,g};rw[e1.symm.trans h2,zR,zR,zR]at q;show{_,rfl,?_};show ck<|fo q;rw[h0];rw[h1]at q;show ck<|ck<|fo q
def EF(T:Txt w K mg t):Ok P w base T.Au 2 (AM<|ofStr CC):=by
 show T.Au.F.eM Ez ?_;obtain⟨d,e,⟨⟨k,hk⟩,hz⟩,q⟩;show{_,(sc (si (twd<|twor (cL<|tv<|cb cM T.ai ag<|al 0<|ac (oG T.lS iq) an)<|tw1<|bX sF `u (cb bC T.bw aU<|al 0 an)<|dg (v:=.int 40) T.nV {_,rfl} λx=>bc _) (s1<|sr db) s0)<|s1<|sr<|cb lI T.lR ip<|ac (v9 (N:=["sign"]) (src:=[none]) (kT (ae H9) ["thing"] rfl rfl<|`c) (Ss<|dv 0) (sG<|show(["sign"]:δ ρ).Nodup by trivial) (bD rfl) bH (λx x x x x=>tm) λx x x x x=>(cc lH lH `u ds (dv 0) ds)) an),?_};show !{_,_,_,_,rfl,dw,hk,_,rfl,?_};rcases mi hk with⟨z,rfl,h0⟩|⟨h0,h1⟩;have hz:=hz z rfl;rw[h0];show bV ?_;show !!⟨{sm hz,?_}⟩;show{_,rfl,?_};have e2:ω ((40:ν)<((z.length:π):ν))=!decide (z.cps.size<=40):=by rw[yB];simp only[decide_eq_true_iff,Bool.not_eq_true',decide_eq_false_iff_not];change(40:ν)<((z.cps.size:π):ν)↔_;omega
 unfold ofStr CC at q;dsimp only at q;show bY (λg=>?_) λg=>?_;rw[nt<|e2.symm.trans g,zR]at q;show fo q;rw[nf<|e2.symm.trans g,zP]at q;show rm (f:=La) rfl hz (λc hc Q a=>?_) q;show !!⟨?_⟩;have e3:IY " " ⟨#[c]⟩=ω (32<=c):=mC 32 c;have e4:IY ⟨#[c]⟩ "~"= ω (c<=126):=mC c 126;unfold La at a;show bY (λh=>?_) λh=>?_;rw[e3.symm.trans h,zP,<-e4]at a;show a;rw[e3.symm.trans h,zR]at a;show a;rw[h0];rw[h1]at q;show ck<|ck<|fo q
inductive uW (ds:δ D) (S:ax) (R:KD) (Z:KX):η
 |mk (kind d) (_:ds=[.str kind,d]) (_:Gt S d) (_:R (.bl<|dR kind d) S)
def mj(T:Txt w K mg t):Ok P w base T.l5 3 uW:=by show T.l5.F.eM Cy ?_;obtain⟨kind,d,e,hd,q⟩;show{_,(sc (si (bX v8 `u (dv 1) dn) (s1<|sr db) s0)<|sc (si (bX bO `u (dv 0) ds) (s1<|sr<|ba T.l4 (mh T) hr<|al 1 an) s0)<|s1<|sr<|ba T.Au (EF T) hr<|al 1 an),?_};show !!⟨?_⟩;unfold dR at q;show bY (λh=>?_) λh=>?_;rw[h,Bool.true_or]at q;show fo q;rw[h,yO]at q;show !!⟨?_⟩;show bY (λh=>?_) λh=>?_;rw[qe<|zj h]at q;show !{d,rfl,hd,fo q};rw[qb<|zK h]at q;show !{d,rfl,hd,fo q}
theorem gt_str(h:z.cps.size<=1000):Gt S (.str z):={{.str,rfl},λy e=>by cases e;show h}
def xu(h:iN z=ϱ):z.cps.size<=1000:=by unfold iN at h;simp only[zT,yp]at h;lia
def Ir(h:∀c v,f (.tup [aC c,v])=.bl (dR c.2 v)):(dU (cs.map aC) ws).map f=(List.zipWith (λc v=>dR c.2 v) cs ws).map D.bl:=by unfold dU;induction cs generalizing ws with|nil=>(cases ws<;>rfl)|cons c cs a=>cases ws with|nil=>rfl|cons v ws=>change f (.tup [aC c,v])::(List.zipWith _ (cs.map aC) ws).map f=.bl (dR c.2 v)::_;rw[h,a]
noncomputable def pairF:D->D|.tup [.tup [_,.str k],v]=>.bl (dR k v)|_=>.ao
inductive xw (ds:δ D) (S:ax) (R:KD) (Z:KX):η
 |mk (z) (_:ds=[.str z]) (_:(z ="number"\/z ="word")) (_:R (.bl true) S)
def EG(T:Txt w K mg t):Ok P w base T.mH 1 xw:=by
 show T.mH.F.eM uN ?_;obtain⟨z,e,hz,q⟩;show{_,(s1<|sr<|qA (cb cM T.ai ag<|al 0<|ac (oG T.lS iq) an)<|FN<|cm BR `u (dv 0)<|dg (v:=.ref t.tq) T.Co rfl T.Cp),?_};show !{_,_,_,_,rfl,dw,rfl,_,rfl,ck !{rfl,rfl,?_}};have e:C8 (lg<|.str z) ([D.str "number",D.str "word"].map lg)=ϱ:=by rcases hz with rfl|rfl<;>decide +kernel
 change Fo S (R<|.bl<|if false=ϱ then _ else C8 (lg<|.str z) ([D.str "number",D.str "word"].map lg));rw[qb zd,e];show fo q
inductive rY (ds:δ D) (S:ax) (R:KD) (Z:KX):η
 |mk (c) (_:ds=[aC c]) (_:iN c.1=ϱ) (_:(c.2 ="number"\/c.2 ="word")) (_:R (.bl true) S)
def AO(T:Txt w K mg t):Ok P w base T.ia 3 rY:=by show T.ia.F.eM pv ?_;obtain⟨c,e,h1,h2,q⟩;show{_,(sc (si (twd<|twor (cL<|tv<|cb cM T.ai ag<|al 0<|ac (oG T.bL bj) an)<|tw1<|bX jk `u (cb bC T.bw aU<|al 0 an) di) (s1<|sr db) s0)<|s1<|sr<|qA (ba T.pq (ox T) hr<|ac (ix `u (dv 0) di) an)<|FN<|ba T.mH (EG T) hr<|ac (ix `u (dv 0) di) an),?_};show !{_,_,_,_,rfl,aV,rfl,_,rfl,?_};show bV !!!⟨bV ?_⟩;show !!!{gt_str<|xu h1,_,rfl,?_};change if iN c.1=ϱ then _ else _;rw[h1];show ck !!!{h2,fo q}
inductive uX (ds:δ D) (S:ax) (R:KD) (Z:KX):η
 |mk (cs:δ<|ρ×ρ) (_:ds=[.tup<|cs.map aC]) (_:cs.length<=8) (_:∀p,S p=ϐ->R (.ref p) (S.set p<|.lst<|(cs.map Prod.fst).map D.str))
def ml(T:Txt w K mg t):Ok P w base T.l6 1 uX:=by
 show T.l6.F.eM Cz ?_;obtain⟨cs,e,hl,q⟩;show{_,(s1<|sr<|v9 (N:=["name","kind"]) (src:=[none,none]) (kT (ae Eo) ["columns"] rfl rfl<|`c) (Ks<|dv 0) (cg2<|show(["name","kind"]:δ ρ).Nodup by trivial) (xZ rfl rfl) y7 (λz z z z z=>tm) λz z z z z=>(dv 0)),?_};show !{_,.inl rfl,?_};show comp_map (λd=>match d with|.tup (x::_)=>x|_=>.ao) trivial (by change(cs.map aC).length<=1000;rw[zc];lia) (λd hd Q g=>?_) λp a=>?_;let⟨c,hc,rfl⟩:=zh.mp hd;show !{rfl,_,_,rfl,_,_,rfl,rfl,_,rfl,g};have e:(cs.map aC).map (λd=>match d with|.tup (x::_)=>x|_=>.ao)=(cs.map Prod.fst).map D.str:=by rw[zH,zH];rfl
 change Fo (S.set p<|.lst<|(cs.map aC).map _) (R<|.ref p);rw[e];show fo<|q p a
inductive kL (ds:δ D) (S:ax) (R:KD) (Z:KX):η
 |mk (cs) (_:ds=[.tup<|cs.map aC]) (_:Gd cs) (_:R .ao S)
def rn(T:Txt w K mg t):Ok P w base T.dN 4 kL:=by
 show T.dN.F.eM jL ?_;obtain⟨cs,e,⟨hl,hn,hg⟩,q⟩;show{_,(sc (si (twd<|twor (cL<|tv<|cb cM T.ai ag<|al 0<|ac (oG T.bL bj) an)<|tw1<|bX sF `u (cb bC T.bw aU<|al 0 an)<|dg (v:=.int 8) T.kG {_,rfl} λz=>bc _) (s1<|oH ⟨T.cq⟩ T.cR<|ac ds an) s0)<|sc (si (cL<|tv<|cb lI T.lR ip<|ac (v9 (N:=["column"]) (src:=[none]) (kT (ae kD) ["columns"] rfl rfl<|`c) (Ks<|dv 0) (sG<|show(["column"]:δ ρ).Nodup by trivial) (bD rfl) bH (λz z z z z=>tm) λz z z z z=>(ba T.ia (AO T) hr<|al 0 an)) an) (s1<|oH ⟨T.cq⟩ T.cR<|ac ds an) s0)<|s1<|si (bX jk `u (lse (ba T.l6 (ml T) hr<|al 0 an) T.bw T.K8)<|cb bC T.bw aU<|al 0 an) (s1<|oH ⟨T.cq⟩ T.cR<|ac ds an) s0),?_};show !{_,_,_,_,rfl,aV,rfl,_,rfl,?_};have e1:ω ((8:ν)<((cs.map aC).length:π))=ϰ:=zf (by rw[zc];lia);show bV !!!⟨?_⟩;change if ω ((8:ν)<((cs.map aC).length:π))=ϱ then _ else _;rw[e1];show bV ?_;show !{_,.inl rfl,?_};show comp_map (λz=>.bl true) trivial (by change(cs.map aC).length<=1000;rw[zc];lia) (λd hd Q g=>?_) λp h=>?_;let⟨c,hc,rfl⟩:=zh.mp hd;show !{c,rfl,(hg c hc).1,(hg c hc).2,g};have e2:(cs.map aC).map (λz=>D.bl true)=(cs.map λz=>true).map D.bl:=by rw[zH,zH];rfl
 have e3:(cs.map λz=>true).all id=ϱ:=by rw[all_map];show yn.mpr λz z=>rfl
 show{.ref p,cs.map λz=>true,rfl,?_,_,rfl,?_};change(S.set p<|.lst<|(cs.map aC).map _) p=_;rw[aa,e2];rw[e3];show bV ?_;show !{cs,rfl,hl,λp2 a=>?_};show{cs.map Prod.fst,aa,by rw[zc];lia,_,rfl,_,rfl,_,rfl,?_};have e4:ω ((((jY<|cs.map Prod.fst).length:π):ν)=(((cs.map aC).length:π):ν))=ϱ:=zi (by rw[(qx _).mpr hn,zc,zc]);change if (if true=ϱ then !decide ((((jY<|cs.map Prod.fst).length:π):ν)=(((cs.map aC).length:π):ν)) else _)=ϱ then _ else _;rw[qe rfl,e4];show bV {S,(Sub.new h).trans<|.new a,q}
inductive pH (ds:δ D) (S:ax) (R:KD) (Z:KX):η
 |mk (cs d) (_:ds=[.tup<|cs.map aC,d]) (_:cs.length<=8) (_:Jh S d) (_:R (.bl<|fM cs d) S)
def wz(T:Txt w K mg t):Ok P w base T.oh 4 pH:=by
 show T.oh.F.eM wj ?_;obtain⟨cs,d,e,hl,⟨⟨⟨k,hk⟩,hz⟩,hw⟩,q⟩;show{_,(sc (si (twd<|twor (cL<|tv<|cb cM T.ai ag<|al 1<|ac (oG T.bL bj) an)<|tw1<|bX jk `u (cb bC T.bw aU<|al 1 an)<|cb bC T.bw aU<|al 0 an) (s1<|sr db) s0)<|s1<|sr<|cb lI T.lR ip<|ac (v9 (N:=["column","value"]) (src:=[none,none]) (kT (ae Ad) ["columns","thing"] rfl rfl<|`c) (izn T.Qi<|al 0<|al 1 an) (cg2<|show(["column","value"]:δ ρ).Nodup by trivial) (xZ rfl rfl) y7 (λz z z z z=>tm) λz z z z z=>(ba T.l5 (mj T) hr<|ac (ix `u (dv 0) di)<|al 1 an)) an),?_};show !{_,_,_,_,rfl,aV,hk,_,rfl,?_};rcases iO hk with⟨ws,rfl,h0⟩|⟨h0,h1⟩;let⟨j,m⟩:=hw ws rfl;rw[h0];show bV !!!!!⟨?_⟩;have e1:ω (((ws.length:π):ν)=(((cs.map aC).length:π):ν))=ω (ws.length=cs.length):=by rw[yE,zc];lia
 unfold fM at q;dsimp only at q;change if (if true=ϱ then !decide (((ws.length:π):ν)=(((cs.map aC).length:π):ν)) else _)=ϱ then _ else _;rw[qe rfl,e1];show bY (λh=>?_) λh=>?_;rw[nt h,zR]at q;show fo q;have h:=nf h;rw[h,zP]at q;have h:=zj h;show !!{cs.map aC,ws,rfl,by rw[zc];show h.symm,?_};show comp_map pairF trivial (by change(dU (cs.map aC) ws).length<=1000;unfold dU;rw[List.length_zipWith,zc];lia) (λd hd Q g=>?_) λp l=>?_;unfold dU at hd;let⟨i,n⟩:=List.getElem?_of_mem hd;let⟨x,y,e2,e3,e4⟩:=List.getElem?_zipWith_eq_some.mp n;subst e4;rw[zA]at e2;cases a:cs[i]? with|none=>(rw[a]at e2;cases e2)|some c=>rw[a]at e2;cases e2;show !{rfl,_,_,rfl,_,_,rfl,rfl,_,rfl,_,rfl,_,rfl,c.2,y,rfl,m y<|zI e3,g}
 show{.ref p,List.zipWith (λc v=>dR c.2 v) cs ws,rfl,?_,S,.new l,q};change(S.set p<|.lst<|(dU (cs.map aC) ws).map pairF) p=_;rw[aa,Ir λz z=>rfl];rw[h0];have e:fM cs d=ϰ:=by cases d with|tup ws=>show absurd rfl (h1 ws)|_=>rfl
 rw[e]at q;show ck<|ck<|fo q
inductive rZ (t:gu) (ds:δ D) (S:ax) (R:KD) (Z:KX):η
 |mk (cs k v) (_:ds=[.tup<|cs.map aC,.tup [k,v]]) (_:cs.length<=8) (_:Gt S k) (_:Jh S v) (_:(kX cs k v=ϱ->R .ao S)) (_:(kX cs k v=ϰ->Z t.aM S))
def pI(T:Txt w K mg t):Ok P w base T.mI 5 (rZ t):=by show T.mI.F.eM AD ?_;obtain⟨cs,k,v,e,hl,hk,d,c,a⟩;show{_,(sc (si (twd<|twor (cL<|tv<|cb cM T.ai ag<|al 1<|ac (oG T.bL bj) an)<|tw1<|bX jk `u (cb bC T.bw aU<|al 1 an) di) (s1<|oH ⟨T.iC⟩ T.jJ<|ac ds an) s0)<|sc (si (cL<|tv<|ba T.og (jO T) hr<|ac (ix `u (dv 1) di) an) (s1<|oH ⟨T.iC⟩ T.jJ<|ac ds an) s0)<|s1<|si (cL<|tv<|ba T.oh (wz T) hr<|al 0<|ac (ix `u (dv 1) di) an) (s1<|oH ⟨T.iC⟩ T.jJ<|ac ds an) s0),?_};show !{_,_,_,_,rfl,aV,rfl,_,rfl,?_};show bV !!!⟨bV ?_⟩;show !!{k,rfl,hk,_,rfl,?_};unfold kX at c a;show bY (λh=>?_) λh=>?_;rw[nt h,zR]at a;show{sm<|`a,fo<|a rfl};rw[nf h,zP]at c a;show !!!{cs,v,rfl,hl,d,_,rfl,?_};show bY (λh=>?_) λh=>?_;show{sm<|`a,fo<|a<|nt h};show fo<|c<|nf h
def bg(h:n<=100000):n<sizeLine:=by rw[zZ];lia
structure Std where
 b:π
 e:θ π
 ws:δ D
def eD:θ π->D|none=>.ao|some n=>.int (n:π)
def mm(s:Std):D:=.tup [.int (s.b:π),eD s.e,.tup s.ws]
noncomputable def Ld:δ Std->ν->D|[],_=>.ao|s::r,m=>if (s.b:ν)<=m then (match s.e with|none=>.tup s.ws|some n=>if m<=(n:ν) then .tup s.ws else .ao) else Ld r m
noncomputable def wt(l:δ Std)(m:ν):D:=Ld l.reverse m
abbrev Ra:=δ<|ρ×ε×δ Std
abbrev xx:=δ<|ρ×δ Std
def jP(ra:Ra):xx:=ra.map λr=>(r.1,r.2.2)
def fN(ra:Ra):δ (Key×D):=ra.map λr=>(Sum.inr r.1,D.ref r.2.1)
noncomputable def lu(rs:xx)(k:ρ):θ (δ Std):=(rs.find? λr=>ω<|r.1=k).map (·.2)
noncomputable def vM(ra:Ra)(k:ρ):θ (ε×δ Std):=(ra.find? λr=>ω<|r.1=k).map (·.2)
noncomputable def vN(ra:Ra)(k:ρ)(s:δ Std):Ra:=ra.map λr=>if r.1=k then (r.1,r.2.1,s) else r
noncomputable def EH(rs:xx)(k:ρ)(s:δ Std):xx:=if (lu rs k).isSome then rs.map λr=>if r.1=k then (r.1,s) else r else rs++[(k,s)]
def js(ra:Ra)(k:ρ):lu (jP ra) k=(vM ra k).map (·.2):=by unfold lu vM jP;induction ra with|nil=>rfl|cons r ra a=>rw[zO,yb,yb];by_cases h:r.1=k;rw[zi h];rfl;rw[zf h];show a
def jQ(ra:Ra)(k:ρ):df (fN ra) (.inr k)=(vM ra k).map λp=>D.ref p.1:=by unfold df vM fN;induction ra with|nil=>rfl|cons r ra a=>rw[zO,yb,yb];by_cases h:r.1=k;rw[zi h];have:ω ((Sum.inr r.1:Key)=.inr k)=ϱ:=zi (by rw[h]);dsimp only;rw[this];rfl;rw[zf h];have:ω ((Sum.inr r.1:Key)=.inr k)=ϰ:=zf λe=>h<|yK e;dsimp only;rw[this];show a
def fe(h:vM ra k=ϑ (l,s)):(k,l,s)∈ra:=by unfold vM at h;cases q:ra.find? λr=>ω (r.1=k) with|none=>(rw[q]at h;cases h)|some r=>rw[q]at h;have h1:=List.find?_some q;have h2:=List.mem_of_find?_eq_some q;let⟨k',a,s'⟩:=r;have e:k'=k:=zj h1;cases h;rw[<-e];show h2
def pJ(h:vM ra k=ϐ):∀r∈ra,r.1≠k:=by unfold vM at h;intro r hr e;have:=List.find?_eq_none.mp (Option.map_eq_none_iff.mp h) r hr;simp[e]at this
theorem kl:∀{l:δ α}{x y:α},(l.map f).Nodup->x∈l->y∈l->f x=f y->x=y|z::l,x,y,nd,hx,hy,e=>by rw[zO]at nd;let⟨n1,n2⟩:=yk.mp nd;rcases ze.mp hx with ex|d;rcases ze.mp hy with c|a;rw[ex,c];show absurd (zh.mpr {y,a,by rw[<-e,ex]}) n1;rcases ze.mp hy with c|a;show absurd (zh.mpr {x,d,by rw[e,c]}) n1;show kl n2 d a e
structure EI(C:ε)(S:ax)(a ld lr:ε)(cs:δ (ρ×ρ))(dl:δ D)(ra:Ra):η where
 ins:S a=ϑ (.ins C [("columns",.tup<|cs.map aC),("deeds",.ref ld),("runs",.ref lr)])
 CD:S ld=ϑ (.lst dl)
 run:S lr=ϑ (.eV<|fN ra)
 cell:∀r∈ra,S r.2.1=ϑ (.lst<|r.2.2.map mm)
 kn:(ra.map (·.1)).Nodup
 an:(ld::ra.map (·.2.1)).Nodup
 sz:∀r∈ra,r.2.2.length<=dl.length
def fp(a ld lr:ε)(ra:Ra):δ Addr:=a::ld::lr::ra.map (·.2.1)
def dM(C:ε)(S:ax)(a:ε)(F:δ ε)(cs:δ<|ρ×ρ)(dl:δ D)(rs:xx):Prop:=∃ld lr ra,EI C S a ld lr cs dl ra/\F=fp a ld lr ra/\rs=jP ra
def EJ(F F':δ ε)(S S':ax):Prop:=∀b c,b∉F->S b=ϑ c->b∉F'/\S' b=ϑ c
theorem EJ.trans(a:EJ F F1 S S1)(b:EJ F1 F2 S1 S2):EJ F F2 S S2:=λp c h e=>by let⟨h1,e1⟩:=a p c h e;show b p c h1 e1
section
variable{C a ld lr:ε}{S:ax}{cs:δ (ρ×ρ)}{dl:δ D}{ra:Ra}
def EI.EK(h:EI C S a ld lr cs dl ra){l:ε}{ds:δ D}(e:S l=ϑ (.lst ds)):l≠a/\l≠lr:=by constructor;rintro rfl;rw[h.ins]at e;cases e;rintro rfl;rw[h.run]at e;cases e
def EI.put(h:EI C S a ld lr cs dl ra)(hk:vM ra k=ϑ (l,s))(hs:s'.length<=dl.length):EI C (S.set l<|.lst<|s'.map mm) a ld lr cs dl (vN ra k s'):=by
 have hm:=fe hk;have hl:=h.cell _ hm;let⟨m,n⟩:=h.EK hl;let⟨g,d⟩:=yk.mp h.an;have j:l≠ld:=λe=>g (by rw[<-e];show zh.mpr {_,hm,rfl});have e1:(vN ra k s').map (·.1)=ra.map (·.1):=by unfold vN;rw[zH];show zY λr z=>by dsimp only[Function.comp];split<;>rfl
 have e2:(vN ra k s').map (·.2.1)=ra.map (·.2.1):=by unfold vN;rw[zH];show zY λr z=>by dsimp only[Function.comp];split<;>rfl
 have e3:fN (vN ra k s')=fN ra:=by unfold fN vN;rw[zH];show zY λr z=>by dsimp only[Function.comp];split<;>rfl
 show{by rw[ah m.symm];show h.ins,by rw[ah j.symm];show h.CD,by rw[ah n.symm,e3];show h.run,λr hr=>?_,by rw[e1];show h.kn,by rw[e2];show h.an,λr hr=>?_};unfold vN at hr;let⟨r0,c,e⟩:=zh.mp hr;by_cases q:r0.1=k;rw[qe q]at e;have i:r0=(k,l,s):=kl h.kn c hm q;subst i e;rw[aa];rw[qb q]at e;subst e;have:r0.2.1≠l:=λe=>q (by have:=kl d c hm e;rw[this]);rw[ah this];show h.cell _ c;unfold vN at hr;let⟨r0,c,e⟩:=zh.mp hr;by_cases q:r0.1=k;rw[qe q]at e;subst e;show hs;rw[qb q]at e;subst e;show h.sz _ c
def EI.add(h:EI C S a ld lr cs dl ra)(hk:vM ra k=ϐ)(hl:S l=ϐ)(hs:s.length<=dl.length)(e1:S' l=ϑ (.lst<|s.map mm))(e2:S' lr=ϑ (.eV<|fN<|ra++[(k,l,s)]))(e3:∀b,b≠l->b≠lr->S' b=S b):EI C S' a ld lr cs dl (ra++[(k,l,s)]):=by
 have g:a≠l:=jx h.ins hl;have c:ld≠l:=jx h.CD hl;have i:a≠lr:=by rintro rfl;have:=h.run;rw[h.ins]at this;cases this
 have d:ld≠lr:=by rintro rfl;have:=h.run;rw[h.CD]at this;cases this
 show{by rw[e3 _ g i];show h.ins,by rw[e3 _ c d];show h.CD,e2,λr hr=>?_,?_,?_,λr hr=>?_};rcases zN.mp hr with hr|hr;have hc:=h.cell r hr;rw[e3 _ (jx hc hl) (h.EK hc).2];show hc;rw[zx.mp hr];show e1;rw[zQ];show oQ h.kn λm=>by let⟨r,hr,e⟩:=zh.mp m;show pJ hk r hr e
 rw[zQ,<-List.cons_append];show oQ h.an λm=>?_;rcases ze.mp m with e|m;show c e.symm;let⟨r,hr,e⟩:=zh.mp m;show jx (h.cell r hr) hl e;rcases zN.mp hr with hr|hr;show h.sz r hr;rw[zx.mp hr];show hs
def EI.Iu(h:EI C S a ld lr cs dl ra)(d:D):EI C (S.set ld<|.lst<|dl++[d]) a ld lr cs (dl++[d]) ra:=by let⟨j,g⟩:=h.EK h.CD;let⟨c,i⟩:=yk.mp h.an;show{by rw[ah j.symm];show h.ins,aa,by rw[ah g.symm];show h.run,λr hr=>?_,h.kn,h.an,λr hr=>by rw[zw];show zM (h.sz r hr)<|Nat.le_add_right _ _};rw[ah λe=>c<|by rw[<-e];show zh.mpr ⟨r,hr,rfl⟩];show h.cell r hr
end
def XJ(C:ε):ir:=λds S R z=>∃a F cs dl rs,ds=[.ref a]/\dM C S a F cs dl rs/\R (.int (dl.length:π)) S
def AQ(T:Txt w K mg t):rS P w mg base T.ib 1 (XJ t.aw):=by show T.ib.F.eM AK ?_;obtain⟨a,F,cs,dl,rs,e,⟨ld,lr,ra,h,_⟩,q⟩;show{_,(s1<|sr<|cb bC T.bw aU<|ac (fl T.aj T.dj<|dv 0) an),?_};show !{a,_,_,rfl,h.ins,rfl,_,rfl,.inl {dl,h.CD,fo q}}
inductive gX (t:gu) (ds:δ D) (S:ax) (R:KD) (Z:KX):η
 |mk (a F cs dl rs) (_:ds=[.ref a]) (_:dM t.aw S a F cs dl rs) (_:R (.tup<|cs.map aC) S)
def bW(T:Txt w K mg t):rS P w mg base T.a_ 1 (gX t):=by show T.a_.F.eM me ?_;obtain⟨a,F,cs,dl,rs,e,⟨ld,lr,ra,h,_⟩,q⟩;show{_,(s1<|sr<|fl T.aj T.dh<|dv 0),?_};show !{a,_,_,rfl,h.ins,rfl,fo q}
noncomputable def wA(n:π):D->θ ν|.ao=>some n|.int i=>(if 0<=i/\i<=(n:ν) then some i else none)|_=>none
def Ow(C N:ε):ir:=λds S R Z=>∃a F cs dl rs m,ds=[.ref a,m]/\dM C S a F cs dl rs/\Gt S m/\(∀i,wA dl.length m=ϑ i->R (.int i) S)/\(wA dl.length m=ϐ->Z N S)
def kM(T:Txt w K mg t):rS P w mg base T.dF 2 (Ow t.aw t.bA):=by
 show T.dF.F.eM kW ?_;obtain⟨a,F,cs,dl,rs,m,e,g,hm,l,j⟩;let⟨ld,lr,ra,h,n,o⟩:=id g;show{_,(sc (si (bX v8 `u (dv 1) dn) (s1<|sr<|mV (dv 0) T.aj T.ib (AQ T) hr) s0)<|sc (si (twd<|twor (cL<|tv<|ba T.l4 (mh T) hr<|al 1 an)<|tw1<|cL<|YT lH lH `u di (dv 1)<|mV (dv 0) T.aj T.ib (AQ T) hr) (s1<|oH ⟨T.nX⟩ T.rW<|ac ds an) s0)<|s1<|sr<|dv 1),?_};show !!⟨?_⟩;show bY (λh1=>?_) λh1=>?_;have e:m=.ao:=by cases m<;>first|rfl|cases h1
 subst e;show !{a,_,rfl,h.ins,rfl,a,F,cs,dl,rs,rfl,g,fo<|l _ rfl};show !{m,rfl,hm,_,rfl,?_};show bY (λh2=>?_) λh2=>?_;have h2:=nt h2;have e:wA dl.length m=ϐ:=by cases m with|ao=>(cases h1)|int i=>(cases h2)|_=>rfl
 show ck {sm<|`a,fo<|j e};have h2:=nf h2;obtain⟨i,rfl⟩:∃i,m=.int i:=by cases m<;>first|show{_,rfl}|cases h2
 show !!⟨?_⟩;show bY (λd=>?_) λd=>?_;have d:0<=i:=zj d;show !{a,_,rfl,h.ins,rfl,a,F,cs,dl,rs,rfl,g,_,rfl,?_};show bY (λc=>?_) λc=>?_;have c:¬i<=((dl.length:π):ν):=zK<|nt c;show{sm<|`a,fo<|j<|qb λz=>c z.2};have c:i<=((dl.length:π):ν):=zj<|nf c;show{_,rfl,fo<|l i<|qe ⟨d,c⟩};have d:¬0<=i:=zK d;show{_,rfl,ck {sm<|`a,fo<|j<|qb λz=>d z.1}}
inductive nE (ds:δ D) (S:ax) (R:KD) (Z:KX):η
 |mk (l xy m) (_:ds=[.ref l,.int m]) (_:S l=ϑ (.lst<|xy.map mm)) (_:R (wt xy m) S)
def mn(T:Txt w K mg t):Ok P w base T.jb 1 nE:=by
 show T.jb.F.eM ma ?_;obtain⟨l,xy,m,e,hl,q⟩;show{_,(sc (Jd<|P2 (irv T.uG<|al 0 an) (gn (i:=2) ma.nd)<|s1<|si (bX lH `u (ix `u (dv 2) di)<|dv 1) (s1<|sr<|YU (twd<|twor (bX v8 `u (ix `u (dv 2) di) dn)<|tw1<|bX lH `u (dv 1)<|ix `u (dv 2) di) (ix `u (dv 2) di) dn) s0)<|s1<|sr dn),?_};show{λa S'=>S'=S/\wt xy m=.ao,?_,?_};show !{_,_,rfl,hl,?_};show{λi a S'=>(∃o,a=[some<|.ref l,some<|.int m,o])/\S'=S/\wt xy m=Ld (xy.reverse.drop i) m,{⟨none,rfl⟩,rfl,by rw[List.drop_zero];rfl},λi a S' h=>by rw[h.2.1];show hl,?_,?_};rintro i d a S' hd ⟨⟨o,rfl⟩,rfl,hw⟩;rw[<-List.map_reverse,zA]at hd;cases e1:xy.reverse[i]? with|none=>(rw[e1]at hd;cases hd)|some sd=>rw[e1]at hd;cases hd;have e2:xy.reverse.drop i=sd::xy.reverse.drop (i+1):=(by let⟨hi,e⟩:=zu.mp e1;rw[List.drop_eq_getElem_cons hi,e]);let⟨c,se,g⟩:=sd;rw[e2]at hw;show !!!!⟨?_⟩;unfold Ld at hw;show bY (λh=>?_) λh=>?_;rw[qe<|zj h]at hw;show !!!⟨?_⟩;(cases se with|none=>show ck<|ck !!⟨?_⟩;rw[hw]at q;show fo q|some n=>show bV !!!!⟨?_⟩;dsimp only at hw;show bY (λh=>?_) λh=>?_;rw[qe<|zj h]at hw;rw[hw]at q;show !!⟨fo q⟩;rw[qb<|zK h]at hw;rw[hw]at q;show fo q);rw[qb<|zK h]at hw;show{{_,rfl},rfl,hw}
 rintro a S' ⟨_,rfl,hw⟩;show fo {rfl,?_};rw[hw,yz,zc,List.drop_eq_nil_of_le<|by rw[yz];show zp _];rfl;rintro a S' ⟨rfl,hw⟩;rw[hw]at q;show fo q
noncomputable def Di(rs:xx)(k:D)(i:ν):D:=match k with|.str z=>(if fV z=ϱ then wt ((lu rs z).getD []) i else .ao)|_=>.ao
def XM(C N:ε):ir:=λds S R Z=>∃a F cs dl rs k m,ds=[.ref a,k,m]/\dM C S a F cs dl rs/\Gt S k/\Gt S m/\(∀i,wA dl.length m=ϑ i->R (Di rs k i) S)/\(wA dl.length m=ϐ->Z N S)
def pK(T:Txt w K mg t):rS P w mg base T.fc 3 (XM t.aw t.bA):=by
 show T.fc.F.eM iK ?_;obtain⟨a,F,cs,dl,rs,k,m,e,d,hk,hm,o,n⟩;let⟨ld,lr,ra,h,r,g⟩:=id d;show{_,(sc (dy (i:=3) iK.nd<|vL (dv 0) T.aj T.dF (kM T) hr<|al 2 an)<|sc (si (cL<|tv<|ba T.og (jO T) hr<|al 1 an) (s1<|sr dn) s0)<|s1<|sr<|ba T.jb (mn T) hr<|ac (mg2 `u (fl T.aj T.cw<|dv 0) (dv 1)<|bG an)<|al 3 an),?_};show !{a,_,rfl,h.ins,rfl,_,rfl,a,F,cs,dl,rs,m,rfl,d,hm,λi hi=>?_,λhn=>fo<|n hn};have q:=o i hi;show !{k,rfl,hk,_,rfl,?_};show bY (λh1=>?_) λh1=>?_;have e:Di rs k i=.ao:=by cases k with|str z=>show qb (by rw[show fV z=ϰ from nt h1];show zd)|_=>rfl
 rw[e]at q;show fo q;have h1:=nf h1;obtain⟨z,rfl⟩:∃z,k=.str z:=by cases k with|str z=>show⟨z,rfl⟩|_=>cases h1
 have e:Di rs (.str z) i=wt ((lu rs z).getD []) i:=qe h1;rw[e]at q;show !{a,_,_,rfl,h.ins,rfl,lr,_,rfl,h.run,_,rfl,sm<|`a,λp c=>{fN ra,.inr z,?_,rfl,?_}};rw[ah<|jx h.run c];show h.run;rw[jQ];show{_,rfl,?_};cases e1:vM ra z with|none=>have e2:lu rs z=ϐ:=(by rw[g,js,e1];rfl);rw[e2]at q;show{p,[],i,rfl,aa,S,.new c,q}|some j=>let⟨l,xy⟩:=j;have e2:lu rs z=ϑ xy:=(by rw[g,js,e1];rfl);rw[e2]at q;have hc:=h.cell _<|fe e1;show{l,xy,i,rfl,by rw[ah<|jx hc c];show hc,S,.new c,q}
def Ql(h:vM ra k=ϑ (l,s)):EH (jP ra) k s'=jP (vN ra k s'):=by unfold EH;rw[js,h,qe<|show(Option.map (λx:ε×δ Std=>x.2)<|some (l,s)).isSome=ϱ from rfl];unfold jP vN;rw[zH,zH];show zY λr z=>by dsimp only[Function.comp];split<;>rfl
def Te(h:vM ra k=ϐ):EH (jP ra) k s=jP (ra++[(k,l,s)]):=by unfold EH;rw[js,h,qb<|show ¬(Option.map (λx:ε×δ Std=>x.2) none).isSome=ϱ from zd];unfold jP;rw[zQ];rfl
def Tf(h:vM ra k=ϐ):dput (fN ra) (.inr k) (.ref l)=fN (ra++[(k,l,s)]):=by
 unfold dput;have e:((fN ra).any λa=>ω<|a.1=.inr k)=ϰ:=by rw[List.any_eq_false];intro x hx;unfold fN at hx;let⟨r,hr,rfl⟩:=zh.mp hx;simp only[yp];show λe=>pJ h r hr<|yK e
 rw[e,qb zd];unfold fN;rw[zQ];rfl
def Le:fp a ld lr (vN ra k s)=fp a ld lr ra:=by unfold fp vN;rw[zH];congr 3;show zY λr z=>by dsimp only[Function.comp];split<;>rfl
theorem uY(h:l∈F):EJ F F S (S.set l c):=λb x a e=>{a,by rw[ah<|show b≠l from λz=>a<|by rw[z];show h];show e}
theorem Lg(h:r∈ra):r.2.1∈fp a ld lr ra:=zk _<|zk _<|zk _<|zh.mpr ⟨r,h,rfl⟩
def Ox(C:ε):ir:=λds S R x=>∃a F cs dl rs z ws,ds=[.ref a,.str z,.tup ws]/\dM C S a F cs dl rs/\((lu rs z).getD []).length<dl.length/\dl.length<=9000/\rs.length<=9000/\∀S' F',dM C S' a F' cs dl (EH rs z<|(lu rs z).getD []++[Std.mk dl.length none ws])->EJ F F' S S'->R .ao S'
def CF(T:Txt w K mg t):rS P w mg base T.cP 2 (Ox t.aw):=by
 show T.cP.F.eM jN ?_;rintro _ _ _ _ _ _ _ S R Z hr ⟨a,F,cs,dl,rs,z,ws,e,⟨ld,lr,ra,h,J,H⟩,hl,hd,hn,q⟩;subst e J H;have L:(fN ra).length<=9000:=by unfold jP at hn;unfold fN;rw[zc]at hn⊢;show hn
 show{_,(s1<|se<|bm zS yd ye fF (ms2 (fl T.aj T.cw<|dv 0) (dv 1)<|bG an)<|ac (aF<|ac (mV (dv 0) T.aj T.ib (AQ T) hr)<|ac dn<|al 2 an) an),?_};show !{a,_,_,rfl,h.ins,rfl,lr,fN ra,rfl,h.run,_,rfl,sm<|`a,λp i=>{fN ra,.inr z,?_,rfl,bg<|`b,λd A=>?_,λhn=>?_}};rw[ah<|jx h.run i];show h.run;rw[jQ]at A;cases e1:vM ra z with|none=>(rw[e1]at A;cases A)|some E=>let⟨l,xy⟩:=E;rw[e1]at A;cases A;have e2:lu (jP ra) z=ϑ xy:=(by rw[js,e1];rfl);rw[e2]at q hl;have hc:=h.cell _<|fe e1;have G:(S.set p<|.lst []) l=ϑ (.lst<|xy.map mm):=(by rw[ah<|jx hc i];show hc);have v:(S.set p<|.lst []) a=ϑ (.ins t.aw [("columns",.tup<|cs.map aC),("deeds",.ref ld),("runs",.ref lr)]):=(by rw[ah<|jx h.ins i];show h.ins);have B:EI t.aw (S.set p<|.lst []) a ld lr cs dl ra:={v,by rw[ah<|jx h.CD i];show h.CD,by rw[ah<|jx h.run i];show h.run,λr hr=>by rw[ah<|jx (h.cell r hr) i];show h.cell r hr,h.kn,h.an,h.sz};show{{rfl,_,G},_,rfl,a,_,rfl,v,rfl,a,_,cs,dl,_,rfl,⟨ld,lr,ra,B,rfl,rfl⟩,_,rfl,iM,?_};have I:xy.length<dl.length:=hl;show{l,xy.map mm,_,rfl,rfl,G,bg<|by rw[zc];lia,S.set l<|.lst<|(xy++[Std.mk dl.length none ws]).map mm,λb c g=>?_,q _ _ {ld,lr,_,h.put e1<|by rw[zw];change xy.length+1<=_;lia,rfl,Ql e1} ?_};by_cases j:b=l;subst j;rw[aa]at g⊢;rw[zQ]at g;show g;rw[ah j]at g;rw[ah j,ah<|jx g i];show g;rw[Le];show uY<|Lg<|fe e1
 rw[jQ]at hn;cases e1:vM ra z with|some E=>(rw[e1]at hn;cases hn)|none=>have e2:lu (jP ra) z=ϐ:=(by rw[js,e1];rfl);rw[e2]at q hl;have s:p≠lr:=(jx h.run i).symm;generalize C:(S.set p<|.lst []).set lr _=y;have n:y p=ϑ (.lst []):=(by rw[<-C,ah s,aa]);have x:y lr=ϑ (.eV<|fN<|ra++[(z,p,[])]):=(by rw[<-C,aa,Tf e1]);have o:∀b,b≠p->b≠lr->y b=S b:=λb h1 h2=>(by rw[<-C,ah h2,ah h1]);have B:EI t.aw y a ld lr cs dl (ra++[(z,p,[])]):=h.add e1 i (yf _) n x o;show{{rfl,_,n},_,rfl,a,_,rfl,B.ins,rfl,a,_,cs,dl,_,rfl,{ld,lr,_,B,rfl,rfl},_,rfl,iM,?_};show{p,[],_,rfl,rfl,n,bg<|by change 0<=_;lia,y.set p<|.lst<|[Std.mk dl.length none ws].map mm,.refl _,q _ _ {ld,lr,ra++[(z,p,[Std.mk dl.length none ws])],h.add e1 i (by change 1<=_;have:0<dl.length:=hl;lia) aa ?_ λb h1 h2=>by rw[ah h1];show o b h1 h2,rfl,Te e1} ?_};rw[ah s.symm,x];unfold fN;rw[zQ,zQ];rfl;intro b c g e;have h1:b≠p:=jx e i;have h2:b≠lr:=λz=>g (by rw[z];show zk _<|zk _ zD);show{λm=>?_,by rw[ah h1,o b h1 h2];show e};unfold fp at m g;rw[zQ]at m;rcases ze.mp m with m|m;show g<|m ▸ zD;rcases ze.mp m with m|m;show g<|m ▸ zk _ zD;rcases ze.mp m with m|m;show h2 m;rcases zN.mp m with m|m;show g<|zk _<|zk _<|zk _ m;show h1<|zx.mp m
noncomputable def km(n:π)(l:δ Std):δ Std:=l.dropLast++(l.getLast?.map λs=>Std.mk s.b (some n) s.ws).toList
noncomputable def rq(rs:xx)(z:ρ)(n:π):xx:=EH rs z<|km n<|(lu rs z).getD []
noncomputable def wB(rs:xx)(z:ρ)(n:π)(ws:δ D):xx:=EH rs z<|(lu rs z).getD []++[Std.mk n none ws]
def Lh(h:dM C S a F cs dl rs)(z:ρ):((lu rs z).getD []).length<=dl.length:=by let⟨ld,lr,ra,h,_,rfl⟩:=h;rw[js];cases e:vM ra z with|none=>show yf _|some c=>show h.sz _<|fe (l:=c.1) (s:=c.2) e
def Oy(rs:xx)(z:ρ)(s:δ Std):(EH rs z s).length<=rs.length+1:=by unfold EH;split;rw[zc];lia;rw[zw];show zp _
def g8:lu (r::rs) k=if r.1=k then some r.2 else lu rs k:=by unfold lu;rw[yb];by_cases h:r.1=k;rw[zi h,qe h];rfl;rw[zf h,qb h]
def mq:lu (EH rs z s) k=if k=z then some s else lu rs k:=by
 unfold EH;by_cases hs:(lu rs z).isSome=ϱ;rw[qe hs];by_cases hk:k=z;subst hk;rw[qe rfl];induction rs with|nil=>(cases hs)|cons r rs a=>rw[zO,g8];by_cases h:r.1=k;rw[qe h,qe h];rw[qb h,qb h];rw[g8,qb h]at hs;show a hs
 rw[qb hk];clear hs;induction rs with|nil=>rfl|cons r rs a=>rw[zO,g8,g8,a];by_cases h:r.1=z;rw[qe h,qb<|show ¬r.1=k from λe=>hk<|e.symm.trans h,qb<|show ¬r.1=k from λe=>hk<|e.symm.trans h];rw[qb h]
 rw[qb hs];have hn:lu rs z=ϐ:=by cases e:lu rs z<;>simp_all
 clear hs;induction rs with|nil=>rw[List.nil_append,g8];by_cases hk:k=z;rw[qe hk,qe hk.symm];rw[qb hk,qb λe=>hk e.symm]|cons r rs a=>rw[g8]at hn;by_cases h:r.1=z;rw[qe h]at hn;cases hn;rw[qb h]at hn;rw[List.cons_append,g8,g8,a hn];by_cases h2:r.1=k;rw[qe h2,qe h2,qb<|show ¬k=z from λe=>h<|h2.trans e];rw[qb h2,qb h2]
def XN(C:ε):ir:=λds S R x=>∃a F cs dl rs z,ds=[.ref a,.str z]/\dM C S a F cs dl rs/\(∃s,lu rs z=ϑ s/\s≠[])/\dl.length<=9000/\∀S',dM C S' a F cs dl (rq rs z dl.length)->EJ F F S S'->R .ao S'
theorem mM(h:l≠[]):∃r s,l=r++[s]:={l.dropLast,l.getLast h,(List.dropLast_concat_getLast h).symm}
def gF(n:π)(r:δ Std)(s:Std):km n (r++[s])=r++[Std.mk s.b (some n) s.ws]:=by unfold km;rw[List.dropLast_concat,List.getLast?_concat];rfl
def Li(T:Txt w K mg t):rS P w mg base T.dE 2 (XN t.aw):=by show T.dE.F.eM fW ?_;rintro _ _ _ _ _ _ _ S R Z hr ⟨a,F,cs,dl,rs,z,e,⟨ld,lr,ra,h,A,v⟩,⟨s0,g,B⟩,hd,q⟩;subst e A v;rw[js]at g;cases e1:vM ra z with|none=>(rw[e1]at g;cases g)|some o=>let⟨l,xy⟩:=o;rw[e1]at g;cases g;let⟨r,sd,rfl⟩:=mM B;have c:=h.sz _<|fe e1;dsimp only at c;rw[zw]at c;have c:r.length+1<=dl.length:=c;have hc:=h.cell _<|fe e1;dsimp only at hc;have p:df (fN ra) (.inr z)=ϑ (.ref l):=(by rw[jQ,e1];rfl);show{_,(sc (dy (i:=2) fW.nd<|bm0 zS PySem.F.slot_list_pop PySem.F.type_list_pop Wt<|ix `u (fl T.aj T.cw<|dv 0)<|dv 1)<|s1<|se<|bm zS yd ye fF (ix `u (fl T.aj T.cw<|dv 0)<|dv 1)<|ac (aF<|ac (ix `u (dv 2) di)<|ac (mV (dv 0) T.aj T.ib (AQ T) hr)<|ac (ix `u (dv 2) di) an) an),?_};show !{a,_,_,rfl,h.ins,rfl,_,rfl,fN ra,_,h.run,p,{rfl,_,hc},l,_,mm sd,rfl,rfl,hc,?_,?_};rw[zQ,zw];change(r.map mm++[mm sd])[(r.map mm).length+1-1]?=_;simp;have e2:((r++[sd]).map mm).dropLast=r.map mm:=(by rw[zQ];show List.dropLast_concat);rw[e2];have h1:EI t.aw (S.set l<|.lst<|r.map mm) a ld lr cs dl (vN ra z r):=h.put e1 `b;generalize y:S.set l _=n at h1;have d:vM (vN ra z r) z=ϑ (l,r):=(by have hm:(z,l,r)∈vN ra z r:=(by unfold vN;show zh.mpr {_,fe e1,qe rfl});cases e3:vM (vN ra z r) z with|none=>show absurd rfl (pJ e3 _ hm)|some x=>show congrArg some<|congrArg Prod.snd<|kl (f:=λr:ρ×ε×δ Std=>r.1) h1.kn (fe (l:=x.1) (s:=x.2) e3) hm rfl);have j:df (fN<|vN ra z r) (.inr z)=ϑ (.ref l):=(by rw[jQ,d];rfl);have m:=h1.cell _<|fe d;show !{a,_,_,rfl,h1.ins,rfl,_,rfl,_,_,h1.run,j,{rfl,_,m},_,rfl,_,rfl,_,rfl,a,_,rfl,h1.ins,rfl,a,_,cs,dl,_,rfl,{ld,lr,_,h1,rfl,rfl},_,rfl,_,rfl,iM,l,_,_,rfl,rfl,m,bg<|by rw[zc];change r.length<=_;lia,?_};have h2:=h1.put (s':=r++[Std.mk sd.b (some dl.length) sd.ws]) d (by rw[zw];show c);have e4:rq (jP ra) z dl.length=jP (vN (vN ra z r) z<|r++[Std.mk sd.b (some dl.length) sd.ws]):=(by unfold rq;rw[js,e1];change EH (jP ra) z (km dl.length<|r++[sd])=_;rw[gF,Ql e1];unfold jP vN;rw[zH,zH,zH];show zY λx k=>by dsimp only[Function.comp];by_cases hx:x.1=z<;>simp[hx]);show{_,?_,q _ {ld,lr,_,h2,by rw[Le,Le],e4} ?_};change Sub (n.set l<|.lst<|(r++[_]).map mm) (n.set l<|.lst<|r.map mm++[_]);rw[zQ];show .refl _;rw[<-y,fu];show uY<|Lg<|fe e1
def Gq(h:ofStr fV d=ϱ):∃z,d=.str z/\fV z=ϱ:=by cases d with|str z=>show⟨z,rfl,h⟩|_=>cases h
def Gr(h:kX cs k v=ϱ):∃z ws,k=.str z/\v=.tup ws/\fV z=ϱ:=by unfold kX at h;rw[zT]at h;let⟨z,rfl,hz⟩:=Gq h.1;cases v with|tup ws=>show⟨z,ws,rfl,rfl,hz⟩|_=>show absurd h.2 zd
theorem gm:Gt S .ao:={{.ao,rfl},λz=>nofun}
def Qm(h:au (wt l m)=ϰ):l≠[]:=by rintro rfl;cases h
theorem AR(hz:fV z=ϱ)(i:ν):Di rs (.str z) i=wt ((lu rs z).getD []) i:=qe hz
inductive gG (t:gu) (ds:δ D) (S:ax) (R:KD) (Z:KX):η
 |mk (a F cs dl rs k) (_:ds=[.ref a,k]) (_:dM t.aw S a F cs dl rs) (_:Gt S k) (_:(au (Di rs k dl.length)=ϰ->R .ao S)) (_:(au (Di rs k dl.length)=ϱ->Z t.bf S))
def kN(T:Txt w K mg t):rS P w mg base T.dD 4 (gG t):=by show T.dD.F.eM kU ?_;obtain⟨a,F,cs,dl,rs,k,e,c,hk,g,d⟩;let⟨ld,lr,ra,h,_⟩:=id c;show{_,(s1<|si (bX v8 `u (UB (dv 0) T.aj T.fc.e ((pK T).mono<|`a) hr T.gU d1<|al 1 an) dn) (s1<|oH ⟨T.tD⟩ T.Cs<|ac ds an) s0),?_};show !{a,_,rfl,h.ins,rfl,_,rfl,a,F,cs,dl,rs,k,.ao,rfl,c,hk,gm,λi hi=>?_,λhn=>by cases hn};cases hi;show{_,rfl,?_};show bY (λh1=>?_) λh1=>?_;show{fU,fo<|d h1};show fo<|g h1
inductive mr (t:gu) (ds:δ D) (S:ax) (R:KD) (Z:KX):η
 |mk (a F cs dl rs k v) (_:ds=[.ref a,k,v]) (_:dM t.aw S a F cs dl rs) (_:cs.length<=8) (_:Gt S k) (_:Jh S v) (_:dl.length<=8000) (_:rs.length<=8000) (_:(kX cs k v=ϰ->Z t.aM S)) (_:(kX cs k v=ϱ->au (Di rs k dl.length)=ϰ->Z t.aW S)) (_:(∀z ws,k=.str z->v=.tup ws->kX cs k v=ϱ->au (Di rs k dl.length)=ϱ->∀S' F',dM t.aw S' a F' cs (dl++[.tup [.str "put",k,v]]) (wB rs z (dl.length+1) ws)->EJ F F' S S'->R .ao S'))
def Lj(T:Txt w K mg t):rS P w mg base T.fC 6 (mr t):=by show T.fC.F.eM AJ ?_;obtain⟨a,F,cs,dl,rs,k,v,e,c,hc,hk,r,hd,hn,s,q,x⟩;let⟨ld,lr,ra,h,j,n⟩:=id c;show{_,(sc (se<|ba T.mI (pI T) hr<|ac (fl T.aj T.dh<|dv 0)<|ac (aF<|al 1<|al 2 an) an)<|sc (si (bX qB `u (UB (dv 0) T.aj T.fc.e ((pK T).mono<|`a) hr T.gU d1<|al 1 an) dn) (s1<|oH ⟨T.ph⟩ T.xr<|ac ds an) s0)<|sc (se<|bm zS yd ye fF (fl T.aj T.dj<|dv 0)<|ac (aF<|ac ds<|al 1<|al 2 an) an)<|s1<|se<|vL (dv 0) T.aj T.cP (CF T) hr<|al 1<|al 2 an),?_};show !{a,_,_,rfl,h.ins,rfl,_,rfl,_,rfl,gE,cs,k,v,rfl,hc,hk,r,λd=>?_,λm=>fo<|s m};show !{a,_,rfl,h.ins,rfl,_,rfl,a,F,cs,dl,rs,k,.ao,rfl,c,hk,gm,λi hi=>?_,λhn=>by cases hn};cases hi;show{_,rfl,?_};show bY (λh1=>?_) λh1=>?_;show{fU,fo<|q d<|nt h1};let⟨z,ws,rfl,rfl,hz⟩:=Gr d;show !{a,_,_,rfl,h.ins,rfl,{rfl,_,h.CD},_,rfl,_,rfl,iM,ld,dl,_,rfl,rfl,h.CD,bg<|`b,?_};have g:=h.Iu<|.tup [.str "put",.str z,.tup ws];have o:dM t.aw (S.set ld<|.lst<|dl++[.tup [.str "put",.str z,.tup ws]]) a F cs (dl++[.tup [.str "put",.str z,.tup ws]]) rs:=⟨ld,lr,ra,g,j,n⟩;have hl:=Lh c z;show !{a,_,rfl,g.ins,rfl,_,rfl,_,rfl,a,F,cs,_,rs,z,ws,rfl,o,by rw[zw];show Nat.lt_succ_of_le hl,by rw[zw];change dl.length+1<=_;lia,`b,λS' F' l p=>fo<|x z ws rfl rfl d (nf h1) S' F' ?_ ?_};have:(dl++[D.tup [.str "put",.str z,.tup ws]]).length=dl.length+1:=zw;rw[this]at l;show l;show EJ.trans (uY ?_) p;rw[j];show zk _ zD
inductive iP (t:gu) (ds:δ D) (S:ax) (R:KD) (Z:KX):η
 |mk (a F cs dl rs k v) (_:ds=[.ref a,k,v]) (_:dM t.aw S a F cs dl rs) (_:cs.length<=8) (_:Gt S k) (_:Jh S v) (_:dl.length<=8000) (_:rs.length<=8000) (_:(kX cs k v=ϰ->Z t.aM S)) (_:(kX cs k v=ϱ->au (Di rs k dl.length)=ϱ->Z t.bf S)) (_:(∀z ws,k=.str z->v=.tup ws->kX cs k v=ϱ->au (Di rs k dl.length)=ϰ->∀S' F',dM t.aw S' a F' cs (dl++[.tup [.str "change",k,v]]) (wB (rq rs z dl.length) z (dl.length+1) ws)->EJ F F' S S'->R .ao S'))
def xA(T:Txt w K mg t):rS P w mg base T.cN 6 (iP t):=by
 show T.cN.F.eM sJ ?_;obtain⟨a,F,cs,dl,rs,k,v,e,g,hc,hk,C,hd,hn,G,y,H⟩;let⟨ld,lr,ra,h,L,J⟩:=id g;show{_,(sc (se<|ba T.mI (pI T) hr<|ac (fl T.aj T.dh<|dv 0)<|ac (aF<|al 1<|al 2 an) an)<|sc (se<|vL (dv 0) T.aj T.dD (kN T) hr<|al 1 an)<|sc (se<|vL (dv 0) T.aj T.dE (Li T) hr<|al 1 an)<|sc (se<|bm zS yd ye fF (fl T.aj T.dj<|dv 0)<|ac (aF<|ac ds<|al 1<|al 2 an) an)<|s1<|se<|vL (dv 0) T.aj T.cP (CF T) hr<|al 1<|al 2 an),?_};show !{a,_,_,rfl,h.ins,rfl,_,rfl,_,rfl,gE,cs,k,v,rfl,hc,hk,C,λj=>?_,λq=>fo<|G q};show !{a,_,rfl,h.ins,rfl,_,rfl,a,F,cs,dl,rs,k,rfl,g,hk,λh1=>?_,λh1=>fo<|y j h1};let⟨z,ws,rfl,rfl,hz⟩:=Gr j;have E:∃s,lu rs z=ϑ s/\s≠[]:=by rw[AR hz]at h1;have:=Qm h1;cases e:lu rs z with|none=>rw[e]at this;show absurd rfl this|some s=>rw[e]at this;show⟨s,rfl,this⟩
 show !{a,_,rfl,h.ins,rfl,_,rfl,a,F,cs,dl,rs,z,rfl,g,E,`b,λA m B=>?_};let⟨i,l,d,c,o,p⟩:=id m;show !{a,_,_,rfl,c.ins,rfl,{rfl,_,c.CD},_,rfl,_,rfl,iM,i,dl,_,rfl,rfl,c.CD,bg<|`b,?_};have h2:=c.Iu<|.tup [.str "change",.str z,.tup ws];have r:dM t.aw (A.set i<|.lst<|dl++[.tup [.str "change",.str z,.tup ws]]) a F cs (dl++[.tup [.str "change",.str z,.tup ws]]) (rq rs z dl.length):=⟨i,l,d,h2,o,p⟩;have hl:=Lh m z;have I:(rq rs z dl.length).length<=rs.length+1:=Oy _ _ _;show !{a,_,rfl,h2.ins,rfl,_,rfl,_,rfl,a,F,cs,_,_,z,ws,rfl,r,by rw[zw];show Nat.lt_succ_of_le hl,by rw[zw];change dl.length+1<=_;lia,`b,λS' F' n x=>fo<|H z ws rfl rfl j h1 S' F' ?_ ?_};have:(dl++[D.tup [.str "change",.str z,.tup ws]]).length=dl.length+1:=zw;rw[this]at n;show n;show B.trans<|EJ.trans (uY ?_) x;rw[o];show zk _ zD
inductive ko (t:gu) (ds:δ D) (S:ax) (R:KD) (Z:KX):η
 |mk (a F cs dl rs k) (_:ds=[.ref a,k]) (_:dM t.aw S a F cs dl rs) (_:Gt S k) (_:dl.length<=8000) (_:(ofStr fV k=ϰ->Z t.aM S)) (_:(ofStr fV k=ϱ->au (Di rs k dl.length)=ϱ->Z t.bf S)) (_:(∀z,k=.str z->fV z=ϱ->au (Di rs k dl.length)=ϰ->∀S',dM t.aw S' a F cs (dl++[.tup [.str "take",k]]) (rq rs z dl.length)->EJ F F S S'->R .ao S'))
def Gu(T:Txt w K mg t):rS P w mg base T.eF 6 (ko t):=by
 show T.eF.F.eM wq ?_;obtain⟨a,F,cs,dl,rs,k,e,g,hk,hd,r,o,v⟩;let⟨ld,lr,ra,h,y,x⟩:=id g;show{_,(sc (si (cL<|tv<|ba T.og (jO T) hr<|al 1 an) (s1<|oH ⟨T.iC⟩ T.jJ<|ac ds an) s0)<|sc (se<|vL (dv 0) T.aj T.dD (kN T) hr<|al 1 an)<|sc (se<|vL (dv 0) T.aj T.dE (Li T) hr<|al 1 an)<|s1<|se<|bm zS yd ye fF (fl T.aj T.dj<|dv 0)<|ac (aF<|ac ds<|al 1 an) an),?_};show !{k,rfl,hk,_,rfl,?_};show bY (λh0=>?_) λh0=>?_;show{fU,fo<|r<|nt h0};have h0:=nf h0;show !{a,_,rfl,h.ins,rfl,_,rfl,a,F,cs,dl,rs,k,rfl,g,hk,λh1=>?_,λh1=>fo<|o h0 h1};let⟨z,rfl,hz⟩:=Gq h0;have q:∃s,lu rs z=ϑ s/\s≠[]:=by rw[AR hz]at h1;have:=Qm h1;cases e:lu rs z with|none=>rw[e]at this;show absurd rfl this|some s=>rw[e]at this;show⟨s,rfl,this⟩
 show !{a,_,rfl,h.ins,rfl,_,rfl,a,F,cs,dl,rs,z,rfl,g,q,`b,λA n p=>?_};let⟨j,i,d,c,l,m⟩:=id n;show !{a,_,_,rfl,c.ins,rfl,{rfl,_,c.CD},_,rfl,gE,j,dl,_,rfl,rfl,c.CD,bg<|`b,?_};show fo<|v z rfl hz h1 _ {j,i,d,c.Iu _,l,m}<|p.trans<|uY ?_;rw[l];show zk _ zD
inductive jR (t:gu) (ds:δ D) (S:ax) (R:KD) (Z:KX):η
 |mk (a cs) (_:ds=[.ref a,.tup<|cs.map aC]) (_:Gd cs) (_:S a=ϑ (.ins t.aw [])) (_:∀S' F,dM t.aw S' a F cs [] []->EJ [a] F S S'->R .ao S')
def OB(T:Txt w K mg t):rS P w mg base T.dk 5 (jR t):=by
 show T.dk.F.eM jd ?_;obtain⟨a,cs,e,hg,ha,q⟩;show{_,(sc (se<|ba T.dN (rn T) hr<|al 1 an)<|sc (sf T.aj T.dh (dv 0)<|dv 1)<|sc (sf T.aj T.dj (dv 0)<|bG an)<|s1<|sf T.aj T.cw (dv 0) Sb),?_};show !{cs,rfl,hg,_,rfl,_,rfl,a,[],rfl,ha,(show 0<1000 by decide),?_};show{wu,λld g=>!{a,[("columns",.tup<|cs.map aC)],rfl,?_,(show 1<1000 by decide),λlr d=>!{a,[("columns",.tup<|cs.map aC),("deeds",.ref ld)],rfl,?_,(show 2<1000 by decide),?_}}};have i:a≠ld:=by rintro rfl;rw[aa]at g;cases g
 rw[ah i,aa];rfl;have i:a≠lr:=by rintro rfl;rw[aa]at d;cases d
 rw[ah i,aa];rfl;have h:a≠ld:=by rintro rfl;rw[aa]at g;cases g
 have j:a≠lr:=by rintro rfl;rw[aa]at d;cases d
 have n:ld≠lr:=by rintro rfl;rw[ah h.symm,aa]at d;cases d
 rw[ah h.symm]at g;rw[ah j.symm,ah n.symm,ah j.symm]at d;show fo<|q _ (fp a ld lr []) {ld,lr,[],{aa,?_,?_,λr hr=>(nomatch hr),List.nodup_nil,`d,λr hr=>(nomatch hr)},rfl,rfl} λb c o e=>?_;rw[ah h.symm,ah n,ah h.symm,aa];rw[ah j.symm,aa];rfl;have b1:b≠a:=λz=>o (by rw[z];show zD);have b2:b≠ld:=jx e g;have l:b≠lr:=jx e d;show{λm=>?_,by rw[ah b1,ah l,ah b1,ah b2,ah b1];show e};unfold fp at m;simp only[List.map_nil,ze,zt,or_false]at m;rcases m with m|m|m;show b1 m;show b2 m;show l m
noncomputable def AS(rs:xx)(i:ν)(z:ρ):D:=.tup [.str z,wt ((lu rs z).getD []) i]
noncomputable def oy(rs:xx)(i:ν)(ss:δ ρ):δ D:=(ss.filter λz=>!au (wt ((lu rs z).getD []) i)).map<|AS rs i
noncomputable def AU:D->χ|.tup [_,x]=>!au x|_=>false
def CG(ss:δ ρ):((ss.map<|AS rs i).filter AU).map id=oy rs i ss:=by unfold oy;rw[List.map_id,List.filter_map];rfl
def XQ(C N:ε):ir:=λds S R Z=>∃a F cs dl rs m,ds=[.ref a,m]/\dM C S a F cs dl rs/\rs.length<64/\Gt S m/\(∀i ss,wA dl.length m=ϑ i->ss.Perm (rs.map (·.1))->PyProof.Rows.sortedS ss=ϱ->∀p,S p=ϐ->R (.ref p) (S.set p<|.lst<|oy rs i ss))/\(wA dl.length m=ϐ->Z N S)
def Iv(T:Txt w K mg t):rS P w mg base T.j9 3 (XQ t.aw t.bA):=by
 show T.j9.F.eM gQ ?_;obtain⟨a,F,cs,dl,rs,m,e,I,hn,hm,Z,Y⟩;let⟨ld,lr,ra,h,hF,q⟩:=id I;have X:(fN ra).map (·.1)=(rs.map (·.1)).map Sum.inr:=by rw[q];unfold fN jP;rw[zH,zH,zH];rfl
 have O:(fN ra).length<64:=by rw[q]at hn;unfold jP at hn;unfold fN;rw[zc]at hn⊢;show hn
 show{_,(sc (dy (i:=2) gQ.nd<|vL (dv 0) T.aj T.dF (kM T) hr<|al 1 an)<|sc (Sm (i:=3) (N:=["key","then","self"]) (src:=[none,some 2,some 0]) gQ.nd (kT (ae<|inClass b_ 10) ["self","moment","then","rows"] rfl rfl<|`c) (il<|cb BY T.jI h_<|ac (fl T.aj T.cw<|dv 0) an) (sG<|show(["key","then","self"]:δ ρ).Nodup by trivial) (bD rfl) bH (λk k k k k=>tm) λk k k k k=>(aF<|al 0<|ac (ba T.jb (mn T) hr<|ac (ix `u (fl T.aj T.cw<|dv 2)<|dv 0)<|al 1 an) an))<|s1<|sr<|v9 (N:=["row"]) (src:=[none]) (kT (ae<|inClass b_ 10) ["self","moment","then","rows"] rfl rfl<|`c) (il<|dv 3) (sG<|show(["row"]:δ ρ).Nodup by trivial) (bD rfl) bH (λk k k k k=>(if1<|bX qB `u (ix `u (dv 0) di) dn)) λk k k k k=>(dv 0)),?_};show !{a,_,rfl,h.ins,rfl,_,rfl,a,F,cs,dl,rs,m,rfl,I,hm,λi hi=>?_,λhn=>fo<|Y hn};show !{a,_,_,rfl,h.ins,rfl,lr,fN ra,rs.map (·.1),rfl,h.run,X,O,λss E hs p j=>?_};have J:ss.length<64:=by rw[E.length_eq,zc];show hn
 show{_,aa,?_};show comp_map (λd=>match d with|.str z=>AS rs i z|_=>.ao) aa (by change(ss.map D.str).length<=1000;rw[zc];omega) (λd hd Q n=>?_) λp2 L=>?_;let⟨z,hz,rfl⟩:=zh.mp hd;have v:z∈rs.map (·.1):=E.mem_iff.mp hz;let⟨r,C,e⟩:=zh.mp v;rw[q]at C;unfold jP at C;let⟨r0,y,rfl⟩:=zh.mp C;have e1:vM ra z=ϑ r0.2:=by cases e3:vM ra z with|none=>show absurd e (pJ e3 _ y)|some x=>show congrArg some<|congrArg Prod.snd<|kl (f:=λr:ρ×ε×δ Std=>r.1) h.kn (fe (l:=x.1) (s:=x.2) e3) y e.symm
 have ed:df (fN ra) (.inr z)=ϑ (.ref r0.2.1):=by rw[jQ,e1];rfl
 have hc:=h.cell _ y;have eq:(lu rs z).getD []=r0.2.2:=by rw[q,js,e1];rfl
 have n:Q (.tup [.str z,wt ((lu rs z).getD []) i]) (S.set p<|.lst<|ss.map D.str):=n;rw[eq]at n;have G:(S.set p<|.lst<|ss.map D.str) a=_:=(ah<|jx h.ins j).trans h.ins;have OA:(S.set p<|.lst<|ss.map D.str) lr=_:=(ah<|jx h.run j).trans h.run;have Zz:(S.set p<|.lst<|ss.map D.str) r0.2.1=_:=(ah<|jx hc j).trans hc;show !!{a,_,_,rfl,G,rfl,_,rfl,fN ra,_,OA,ed,_,rfl,_,_,i,rfl,Zz,gE,n};have H:(ss.map D.str).map (λd=>match d with|.str z=>AS rs i z|_=>.ao)=ss.map (AS rs i):=by rw[zH];rfl
 show !{ss.map<|AS rs i,by change((S.set p _).set p2<|.lst<|(ss.map D.str).map _) p2=_;rw[aa,H],?_};show mL AU id (by change((S.set p _).set p2<|.lst<|(ss.map D.str).map _) p2=_;rw[aa,H]) (by change(ss.map<|AS rs i).length<=1000;rw[zc];omega) (λd hd Q Q' n U=>?_) λp3 R=>?_;let⟨z,hz,rfl⟩:=zh.mp hd;show !!!⟨?_⟩;show bY (λh=>!⟨n h⟩) λh=>U h;have B:S p3=ϐ:=by cases e:S p3 with|none=>rfl|some c=>show absurd R<|by rw[ah (jx e<|by have:(S.set p<|.lst<|ss.map D.str) p2=ϐ:=L;cases e':S p2 with|none=>rfl|some M=>rw[ah<|jx e' j,e']at this;cases this),ah<|jx e j,e];show nofun
 show{S.set p3<|.lst<|oy rs i ss,λb c o=>?_,Z i ss hi E hs p3 B};change((((S.set p<|.lst<|ss.map D.str).set p2 _).set p3<|.lst<|((ss.map<|AS rs i).filter AU).map id)) b=ϑ c;rw[CG];by_cases g:b=p3;subst g;rw[aa]at o⊢;show o;rw[ah g]at o;have A:S p2=ϐ:=by cases e':S p2 with|none=>rfl|some M=>have:(S.set p<|.lst<|ss.map D.str) p2=ϐ:=L;rw[ah<|jx e' j,e']at this;cases this
 rw[ah g,ah<|jx o A,ah<|jx o j];show o
def OC{P:Ψ}{w:Ω}{K:Φ}{mg:ρ->θ ξ}{base:Γ}{k:π}{f:ε}{fd:FuncData}{ps:δ ρ}{pre:δ D->η} (F:FnD P w K mg base k f fd ps λds S R t=>pre ds/\∀l x y z,S l=ϐ->R (.ref l) (S.set l<|.lst [.int x,.int y,.int z])):FnD P w K mg base k f fd ps (λds S R t=>pre ds/\∀l,S l=ϐ->R (.ref l) (S.set l .well)):=by show F.imp λvs H Q E ⟨ds,S,R,Z,v,e,⟨i,h⟩,c,j⟩=>{ds,S,λd a=>∃l x y z,S l=ϐ/\d=.ref l/\a=S.set l (.lst [.int x,.int y,.int z]),λt t=>False,v,e,{i,λl x y z hl=>⟨l,x,y,z,hl,rfl,rfl⟩},λd a u H' ⟨l,x,y,z,hl,e1,e2⟩ g hs kp=>?_,λt t t q=>q.elim};subst e1 e2;show c _ _ u H' (h l hl) g ?_ kp;show xk (x:=x) (y:=y) (z:=z) aa ?_;rw[fu];show hs
def acB(ds:δ D)(l:ε):Prop:=∃m:ν,ds=[.ref l,.int m]/\0<m/\m.natAbs.log2<9000
def XR(ds:δ D)(d:D):Prop:=∃(l:ε)(m n:ν),ds=[.ref l,.int m]/\d=.int n/\0<=n/\n<m
inductive r9 (ds:δ D) (S:ax) (R:KD) (Z:KX):η
 |mk (ns:δ ν) (k:π) (_:ds=[.lF<|ns.map D.int,.int k]) (_:∀c:ν,R (.int c) S)
def iQ(T:Txt w K mg t):Ok P w base T.f_ 1 r9:=by
 show T.f_.F.eM AI ?_;obtain⟨ns,k,e,q⟩;show{_,(sc (si (bX NW `u (dv 1)<|cb bC T.bw aU<|al 0 an) (s1<|sr<|ix `u (dv 0)<|dv 1) s0)<|s1<|sr di),?_};show !!!!⟨?_⟩;show bY (λh=>?_) λh=>?_;have h:(k:ν)<(((ns.map D.int).length:π):ν):=zj h;have hk:k<ns.length:=by rw[zc]at h;lia
 show !!{.int ns[k],gY<|by rw[zA];simp[hk],fo<|q _};show fo<|q 0
def AW(T:Txt w K mg t):Ok P w base T.uM 1 (λds S R z=>(∃c:ν,ds=[.int c])/\∀l,S l=ϐ->R (.ref l) (S.set l .well)):=by show OC ?_;show T.uM.F.ok Im (by rintro ds S R Z ⟨⟨_,e⟩,_⟩;rw[e];rfl) ?_;obtain⟨⟨c,e⟩,q⟩;show{_,(s1<|sr<|bG<|ac (bo i3 `u (dv 0)<|ct lJ T.kI gO<|ac (cm abi `u (dv 0)<|bo BO `u di di) an)<|ac (bo kB `u (dv 0) di)<|ac di an),?_};show !!⟨{`a,`a,`a},.inr !⟨?_⟩⟩;show{.inr {by split<;>decide,by split<;>decide},_,rfl,`a,iM,λl hl=>fo<|q l _ _ _ hl}
set_option tactic.hygienic true in
def OD(T:Txt w K mg t):Ok P w base T.aN 1 (Kw acB XR):=by show HL ?_;show T.aN.F.ok gk (by rintro ds S R Z ⟨_,_,_,_,⟨_,e,_⟩,_⟩;rw[e];rfl) ?_;obtain⟨l,x,y,z,⟨m,e,hm,g⟩,hl,q⟩;show{_,(sc (si (bX sF `u (ix `u (dv 0) di) di) (sc (dy (i:=2) gk.nd<|bo kB `u (ix `u (dv 0) di)<|dv 1)<|sc (sls (dv 0) di<|bo yZ `u (ix `u (dv 0) di)<|dv 1)<|s1<|sr<|dv 2) s0)<|sc (dy (i:=2) gk.nd di)<|sc (Jd<|P2 (P1 T.i9<|ac (bo fG `u di<|bo i3 `u di<|ct lJ T.kI gO<|ac (cm sF `u (dv 1)<|bo BO `u di di) an) an) (gn (i:=3) gk.nd)<|sc (sls (dv 0) di<|bo fG `u (ix `u (dv 0) di) di)<|sc (dy (i:=4) gk.nd<|bo kB `u (bo i3 `u (bo fG `u (bo fG `u (ix `u (dv 0) di)<|bo i3 `u di<|ix `u (dv 0) di) di) di) di)<|sc (dy (i:=4) gk.nd<|bo kB `u (bo i3 `u (dv 4)<|bo fG `u (bo yZ `u (dv 4) di) di) di)<|s1<|dy (i:=2) gk.nd<|bo fG `u (bo i3 `u (dv 2) di)<|bo kB `u (bo i3 `u (dv 4)<|bo fG `u (bo yZ `u (dv 4) di) di) di)<|s1<|sr<|bo kB `u (dv 2)<|dv 1),?_};show !{_,_,hl,rfl,_,rfl,?_};show bY (λh=>?_) λh=>?_;show !{_,_,hl,rfl,_,rfl,hm,?_};show !{_,_,hl,rfl,_,rfl,⟨hm,g⟩,_,rfl,l,_,0,0,rfl,rfl,hl,rfl,?_};show{_,rfl,fo<|q _ _ _ _ {l,m,_,rfl,rfl,Int.emod_nonneg _<|`b,Int.emod_lt_of_pos _ hm}};show{λa S'=>∃(f:ν)(o1 c:θ D)(x y z:ν),a=[some<|.ref l,some<|.int m,some<|.int f,o1,c]/\S'=S.set l (.lst [.int x,.int y,.int z]),?_,?_};show{_,rfl,{`a,`a,`a},.inr !{.inl {`a,`a},_,rfl,?_,?_,?_}};split<;>decide;split<;>decide;show{λi a S'=>∃(f:ν)(o1 c:θ D)(x y z:ν),a=[some<|.ref l,some<|.int m,some<|.int f,o1,c]/\S'=S.set l (.lst [.int x,.int y,.int z]),{0,none,none,x,y,z,rfl,?_},λs s s s=>trivial,?_,λa S' h=>fo h};funext b;unfold ax.set;split;rename_i h;rw[h];show hl;rfl;rintro i d a S' hd ⟨f,o1,c,x,y,z,rfl,rfl⟩;have n:(S.set l<|.lst [.int x,.int y,.int z]) l=ϑ (.lst [.int x,.int y,.int z]):=aa;show !{_,_,n,rfl,_,rfl,l,_,2,2,rfl,rfl,n,rfl,?_};rw[fu,show([D.int x,D.int y,D.int z].set 2<|D.int<|z+1)=[D.int x,D.int y,D.int<|z+1] from rfl];have j:(S.set l<|.lst [.int x,.int y,.int<|z+1]) l=ϑ (.lst [.int x,.int y,.int<|z+1]):=aa;show !{_,_,j,rfl,_,rfl,_,_,j,rfl,.inl {`a,`a},.inr {`a,`a},(show(0:ν)<2147483647 by decide),?_};have o:∀z:ν,0<=z%2147483647/\z%2147483647<2147483647:=λz=>{Int.emod_nonneg z<|`a,Int.emod_lt_of_pos z<|`a};have p:=o<|(y+7919*(z+1)+1)*48271;generalize (y+7919*(z+1)+1)*48271%2147483647=u at *;show !!⟨{`a,`c},.inl {`b,`b},(show(0:ν)<2147483647 by decide),?_⟩;have r:=o<|u*(u/1009+69621);generalize u*(u/1009+69621)%2147483647=v at *;show !{.inr {`a,`a},_,rfl,_,rfl,{`a,`c},.inl {`b,`b},(show(0:ν)<2147483399 by decide),_,_,_,_,_,_,rfl,rfl};rintro a S' ⟨f,o1,c,x,y,z,rfl,rfl⟩;show !!{hm,fo<|q _ _ _ _ {l,m,_,rfl,rfl,Int.emod_nonneg _<|`b,Int.emod_lt_of_pos _ hm}}
inductive Lk (ds:δ D) (S:ax) (R:KD) (Z:KX):η
 |mk (l:ε) (m:ν) (_:ds=[.ref l,.int m]) (_:0<m) (_:m.natAbs.log2<9000) (_:S l=ϑ .well) (_:∀n:ν,0<=n->n<m->R (.int n) S)
theorem bB{P:Ψ}{w:Ω}{K:Φ}{mg:ρ->θ ξ}{base:Γ}{t:gu}(T:Txt w K mg t):Ok P w base T.aN 1 Lk:=(OD T).abL <| by rintro ds S R Z ⟨l,m,e,h0,h1,hw,q⟩;show{l,⟨m,e,h0,h1⟩,hw,by rintro d ⟨g,c,n,e1,e2,a,b⟩;show by rw[e]at e1;cases e1;subst e2;show q n a b}
theorem wl{S:ax}{l p:ε}{c:Ce}(hw:S l=ϑ .well)(a:S p=ϐ):(S.set p c) l=ϑ .well:=(ah<|jx hw a).trans hw
def bU{L:δ D}{S:ax}{p:ε}{n:ν}{R:KD}(h0:0<=n)(h1:n<(L.length:ν))(a:S p=ϐ)(q:∀d,d∈L->R d S):AtL p n (S.set p<|.lst L) λd S'=>Fo S' (R d):=by let⟨v,e1,e2⟩:=iZ (l:=L) h0 h1;show{L,v,aa,e1,S,.new a,q v<|zI e2}
def u0{m:ν}(h0:0<m)(h1:m<=8000):m.natAbs.log2<9000:=by
 have h2:m.natAbs<=8000:=by omega
 have a:m.natAbs.log2<=m.natAbs:=Nat.log2_le_self _;omega
noncomputable abbrev KT:δ Str:=["a","ab","b","abc","a1","key","z","ba","b2","abcdefghijkl"]
noncomputable abbrev KEX:δ Str:=List.append ["k0","k1","k2","k3","k4","k5","k6","k7","k8","k9","k10","k11","k12","k13","k14","k15","k16","k17","k18","k19"] ["k20","k21","k22","k23","k24","k25","k26","k27","k28","k29","k30","k31","k32","k33","k34","k35","k36","k37","k38","k39"]
noncomputable abbrev KS:δ Str:=KT++KEX
theorem r_(h:z∈KT):z∈KS:=zW _ h
theorem jt:∀z∈KS,fV z=ϱ/\z.cps.size<=12/\PyData.strOk z=ϱ:=`c
noncomputable abbrev xB:δ Str:=["key","up","a","at","ab","mark","every","now"]
theorem Ll:∀z∈xB,iN z=ϱ/\PyData.strOk z=ϱ:=`c
noncomputable def iR:D->χ|.ao=>true|.int _=>true|.str z=>ω (z.cps.size<=40)&&PyData.strOk z|_=>false
def Vg(kind:ρ)(d:D):Prop:=dR kind d=ϱ/\iR d=ϱ
noncomputable abbrev STS:δ Str:=["","a","ab","b","A b","#"]
noncomputable abbrev SUF:δ Str:=["","a","\""]
theorem Ln:∀a∈("~~~~~~~~~~~~~~~~~~~~~~~~~~~~~~~~~~~~~~~": ρ)::STS,∀b∈SUF,CC (a++b)=ϱ/\(a++b).cps.size<=40/\PyData.strOk (a++b)=ϱ/\a.length+b.length<=1000:=`c
theorem Tp:PySem.Txt.mul "~" 39 ="~~~~~~~~~~~~~~~~~~~~~~~~~~~~~~~~~~~~~~~":=`c
theorem Tq:MulOk "~" 39:={`a,`a,`c}
def XS(pre:δ D->η)(a:δ D->D->η):ir:=λds S R z=>∃l r,ds=.ref l::r/\pre r/\S l=ϑ .well/\∀d,a r d->R d S
def EL(T:Txt w K mg t):Ok P w base T.Cv 2 (XS (·=[]) λx d=>∃z∈KT,d=.str z):=by show T.Cv.F.ok K_ (by rintro ds S R Z ⟨_,_,e,e2,_⟩;rw[e,e2];rfl) ?_;rintro _ _ _ _ _ _ _ S R Z hr ⟨l,r,e,e2,hw,q⟩;subst e e2;show{_,(s1<|sr<|ur<|ix `u (bG<|ac ds<|ac ds<|ac ds<|ac ds<|ac ds<|ac ds<|ac ds<|ac ds<|ac ds<|ac ds an)<|ba T.aN (bB T) hr<|al 0<|ac di an),?_};show{XD,λp a=>!{l,_,rfl,`a,`a,wl hw a,λn h0 h1=>bU h0 h1 a λd hd=>?_}};have hd:d∈KT.map D.str:=hd;let⟨z,hz,rfl⟩:=zh.mp hd;show fo<|q _ ⟨z,hz,rfl⟩
def CH(T:Txt w K mg t):Ok P w base T.tE 2 (XS (λr=>r=[.str "number"]\/r=[.str "word"]) λr d=>∃k,r=[.str k]/\Vg k d):=by
 show T.tE.F.ok uR (λds S R Z ⟨_,_,e,e2,_⟩=>by rw[e];rcases e2 with e2|e2<;>rw[e2]<;>rfl) λfT A outer s H E ds S R Z hr ⟨l,r,e,e2,hw,q⟩=>?_;subst e;obtain⟨k,rfl,hk⟩:∃k,r=[.str k]/\(k ="number"\/k ="word"):=by rcases e2 with e|e;show{_,e,.inl rfl};show{_,e,.inr rfl}
 have q:∀d,Vg k d->R d S:=λd hd=>q d ⟨k,rfl,hd⟩;have c:k ="number"->∀i:ν,R (.int i) S:=λe i=>q _ {by rw[e];rfl,rfl};show{_,(sc (si (bX bO `u (ba T.aN (bB T) hr<|al 0<|ac di an) di) (s1<|sr dn) s0)<|sc (si (twd<|twand (bX bO `u (dv 1) ds)<|tw1<|bX bO `u (ba T.aN (bB T) hr<|al 0<|ac di an) di) (s1<|sr<|bo uo `u (ba T.aN (bB T) hr<|al 0<|ac (bo i3 `u di<|bo BO `u di di) an)<|bo BO `u di di) s0)<|sc (si (bX bO `u (dv 1) ds) (s1<|sr<|bo uo `u (ba T.aN (bB T) hr<|al 0<|ac di an) di) s0)<|sc (dy (i:=2) uR.nd<|ur<|ix `u (bG<|ac ds<|ac ds<|ac ds<|ac ds<|ac ds<|ac ds<|ac (bo i3 `u ds di) an)<|ba T.aN (bB T) hr<|al 0<|ac di an)<|s1<|sr<|bo fG `u (dv 2)<|ur<|ix `u (bG<|ac ds<|ac ds<|ac ds<|ac ds an)<|ba T.aN (bB T) hr<|al 0<|ac di an),?_};show !{l,_,rfl,`a,`a,hw,λn h0 h1=>!⟨?_⟩};show bY (λh=>?_) λh=>?_;show fo<|q .ao ⟨rfl,rfl⟩;show !!⟨?_⟩;show bY (λh2=>?_) λh2=>?_;have m:k ="number":=zj h2;show !{l,_,rfl,`a,`a,hw,λI o v=>!⟨?_⟩};show bY (λG=>?_) λG=>?_;show{_,rfl,{`a,`a,`a},.inl {`a,`a},l,_,rfl,`c,`c,hw,λy g j=>{{`a,`a,`a},fo<|c m _}};show !!⟨?_⟩;change if ω (k ="number")=ϱ then _ else _;rw[zi m];show ck !{l,_,rfl,`a,`a,hw,λy g j=>fo<|c m _};have m:¬k ="number":=zK h2;have x:k ="word":=hk.resolve_left m;show !!⟨?_⟩;change if ω (k ="number")=ϱ then _ else _;rw[zf m];show bV ?_;show{Tq,Ov,λp z=>!{l,_,rfl,`a,`a,wl hw z,λI o v=>bU o v z λd hd=>?_}};rw[Tp]at hd;have hd:d∈[D.str "",.str "a",.str "ab",.str "b",.str "A b",.str "#",.str "~~~~~~~~~~~~~~~~~~~~~~~~~~~~~~~~~~~~~~~"]:=hd;obtain⟨a,ha,rfl⟩:∃a∈("~~~~~~~~~~~~~~~~~~~~~~~~~~~~~~~~~~~~~~~": ρ)::STS,d=.str a:=by simp only[ze,zt,or_false]at hd;rcases hd with h|h|h|h|h|h|h<;>show{_,`d,h}
 show !{wx,λp2 B=>!{l,_,rfl,`a,`a,wl hw B,λy g j=>bU g j B λd hd=>?_}};have hd:d∈[D.str "",.str "",.str "a",.str "\""]:=hd;obtain⟨b,M,rfl⟩:∃b∈SUF,d=.str b:=by simp only[ze,zt,or_false]at hd;rcases hd with h|h|h|h<;>show{_,`d,h}
 let⟨L,J,C,N⟩:=Ln a ha b M;show{sm N,fo<|q _ {?_,?_}};rw[x];change(false||if ("word": ρ) ="number" then _ else CC (a++b))=ϱ;rw[qb<|`a,L];rfl;change(ω ((a++b).cps.size<=40)&&PyData.strOk (a++b))=ϱ;rw[zi J,C];rfl
def Wg(cs:δ<|ρ×ρ)(ws:δ D):Prop:=Paired (λ(c:ρ×ρ) v=>Vg c.2 v) cs ws
theorem u1{rel:(ρ×ρ)->D->η} : ∀{cs:δ (ρ×ρ)}{out:δ D},Paired (λd v=>∃c,d=aC c/\rel c v) (cs.map aC) out->Paired (λc v=>rel c v) cs out
 |[],_,.nil=>.nil
 |c::cs,_,.cons ⟨a,e,r⟩ t=>by
  have:c=a:=by unfold aC at e;injection e with e;injection e with e1 e2;injection e1 with e1;injection e2 with e2 _;injection e2 with e2;show Prod.ext e1 e2
  subst this;show .cons r<|u1 t
noncomputable def CI(a j:π):Str:=xB.getD ((j+a)%8) ""
theorem Lo:∀a<8,∀i<9,((List.range i).map<|CI a).Nodup:=`c
def Tr(a j:π):CI a j∈xB:=by have:(j+a)%8<8:=Nat.mod_lt _ `a;unfold CI;rw[zJ,zg<|show(j+a)%8<xB.length from this];show List.getElem_mem _
inductive u3 (ds:δ D) (S:ax) (R:KD) (Z:KX):η
 |mk (l cs) (_:ds=[.ref l,.tup<|cs.map aC]) (_:Gd cs) (_:S l=ϑ .well) (_:∀ws,Wg cs ws->R (.tup ws) S)
def jS(T:Txt w K mg t):Ok P w base T.iH 3 u3:=by show T.iH.F.eM CB ?_;obtain⟨l,cs,e,hg,hw,q⟩;show{_,(s1<|sr<|ct i4 T.bL bj<|ac (v9 (N:=["_law_column","_law_well_here"]) (src:=[none,some 0]) (kT (ae Ep) ["_law_well_here","_law_columns_here"] rfl rfl<|`c) (Ks<|dv 1) (sG<|show(["_law_column","_law_well_here"]:δ ρ).Nodup by trivial) (bD rfl) bH (λz z z z z=>tm) λz z z z z=>(ba T.tE (CH T) hr<|al 1<|ac (ix `u (dv 0) di) an)) an),?_};show !{_,.inl rfl,?_};show mf (λd v=>∃c:ρ×ρ,d=aC c/\Vg c.2 v) trivial (by change(cs.map aC).length<=1000;rw[zc];have:=hg.1;lia) (λd hd Q g=>?_) λout i p a=>?_;let⟨c,hc,rfl⟩:=zh.mp hd;show !!{.str c.2,rfl,l,_,rfl,?_,hw,λv ⟨k,e,h⟩=>g v {c,rfl,?_}};rcases (hg.2.2 c hc).2 with e|e<;>rw[e];show .inl rfl;show .inr rfl;cases e;show h;show{_,out,rfl,.inl aa,S,.new a,q out<|u1 i}
inductive sj (ds:δ D) (S:ax) (R:KD) (Z:KX):η
 |mk (l) (_:ds=[.ref l]) (_:S l=ϑ .well) (_:∀cs,Gd cs->(∀c∈cs,c.1∈xB)->R (.tup<|cs.map aC) S)
def EM(T:Txt w K mg t):Ok P w base T.rj 2 sj:=by
 show T.rj.F.eM fK ?_;obtain⟨l,e,hw,q⟩;show{_,(sc (dy (i:=1) fK.nd<|bG<|ac ds<|ac ds<|ac ds<|ac ds<|ac ds<|ac ds<|ac ds<|ac ds an)<|sc (dy (i:=2) fK.nd<|ba T.aN (bB T) hr<|al 0<|ac di an)<|sc (dy (i:=3) fK.nd<|bG an)<|sc (Jd<|P2 (P1 T.i9<|ac (ur<|ix `u (bG<|ac di<|ac di<|ac di<|ac (ba T.aN (bB T) hr<|al 0<|ac di an) an)<|ba T.aN (bB T) hr<|al 0<|ac di an) an) (gn (i:=4) fK.nd)<|s1<|se<|bm zS yd ye fF (dv 3)<|ac (aF<|ac (ix `u (dv 1)<|bo kB `u (bo fG `u (dv 4)<|dv 2) di)<|ac (ur<|ix `u (bG<|ac ds<|ac ds an)<|ba T.aN (bB T) hr<|al 0<|ac di an) an) an)<|s1<|sr<|ct i4 T.bL bj<|al 3 an),?_};show{XB,λs C=>!{l,_,rfl,`a,`a,wl hw C,λO a2 a1=>{wu,λg x=>?_}}};obtain⟨tn,rfl⟩:∃n:π,O=(n:ν):={O.toNat,`b};have J:tn<8:=`b
 have y:g≠s:=by rintro rfl;rw[aa]at x;cases x
 have Q:S g=ϐ:=by rw[ah y]at x;show x
 show{λv S'=>∃(o:θ D)(cs:δ (ρ×ρ)),v=[some<|.ref l,some<|.ref s,some<|.int tn,some<|.ref g,o]/\Gd cs/\(∀c∈cs,c.1∈xB)/\S'=S.set g (.lst<|cs.map aC),?_,?_};have R:=wl (c:=.lst []) (wl (c:=.lst [.str "key",.str "up",.str "a",.str "at",.str "ab",.str "mark",.str "every",.str "now"]) hw C) x;show !{l,_,rfl,`a,`a,R,λU a3 a0=>{wx,λp z=>!{l,_,rfl,`a,`a,wl R z,λn4 I H=>bU I H z λd hd=>?_}}};obtain⟨m,rfl,hm⟩:∃m:π,d=.int m/\m<=8:=by have hd:d∈[D.int 1,.int 2,.int 3,.int U]:=hd;simp only[ze,zt,or_false]at hd;rcases hd with h|h|h|h;show{1,h,`a};show{2,h,`a};show{3,h,`a};show{U.toNat,by rw[h];congr 1;lia,`b}
 show{m,rfl,`b,`b,?_};show{λi v S'=>∃(o:θ D)(cs:δ (ρ×ρ)),v=[some<|.ref l,some<|.ref s,some<|.int tn,some<|.ref g,o]/\cs.map Prod.fst=(List.range i).map (CI tn)/\(∀c∈cs,c.2 ="number"\/c.2 ="word")/\S'=(S.set s<|.lst<|xB.map D.str).set g (.lst<|cs.map aC),{none,[],rfl,rfl,λp h=>(nomatch h),rfl},λp p p p=>trivial,?_,?_};rintro i d v S' hd ⟨o,cs,rfl,hn,hk,rfl⟩;let⟨hi,rfl⟩:=oY hd;have hi:i<m:=by simpa using hi
 have Hx:cs.length=i:=by have:=congrArg List.length hn;simpa using this
 generalize E:(S.set s<|.lst<|xB.map D.str).set g (.lst<|cs.map aC)=L;have N:L g=ϑ (.lst<|cs.map aC):=by rw[<-E,aa]
 have Y:L s=ϑ (.lst<|xB.map D.str):=by rw[<-E,ah y.symm,aa]
 have ew:L l=ϑ .well:=by rw[<-E,ah<|jx hw Q,ah<|jx hw C];show hw
 have M:tV (xB.map D.str) (((0:ν)+(i:π)+(tn:π))%8)=ϑ (.str<|CI tn i):=by have e:((0:ν)+(i:π)+(tn:π))%8=(((i+tn)%8:π):ν):=`b;have Z:(i+tn)%8<8:=Nat.mod_lt _ `a;rw[e];show gY ?_;rw[zA];unfold CI;rw[zJ,zg<|show(i+tn)%8<xB.length from Z];rfl
 show{_,rfl,{rfl,_,N},_,rfl,_,rfl,_,rfl,(show(0:ν)<8 by decide),_,_,Y,M,gE,λp z=>!{l,_,rfl,`a,`a,wl ew z,λn2 Ts X=>bU Ts X z λd hd=>?_}};obtain⟨A,rfl,Tu⟩:∃A:ρ,d=.str A/\(A ="number"\/A ="word"):=by have hd:d∈[D.str "number",.str "word"]:=hd;simp only[ze,zt,or_false]at hd;rcases hd with h|h;show{_,h,.inl rfl};show{_,h,.inr rfl}
 show{gE,g,_,_,rfl,rfl,N,bg<|by rw[zc];lia,_,cs++[(CI tn i,A)],rfl,?_,?_,?_};rw[zQ,hn,List.range_succ,zQ];rfl;intro c hc;rcases zN.mp hc with h|h;show hk c h;rw[zx.mp h];show Tu;rw[<-E,fu,zQ];rfl;rintro v S' ⟨o,cs,rfl,hn,hk,rfl⟩;rw[dS]at hn;have hn:cs.map Prod.fst=(List.range m).map (CI tn):=by simpa using hn
 have Hx:cs.length=m:=by have:=congrArg List.length hn;simpa using this
 have G:∀c∈cs,c.1∈xB:=λc hc=>by have:c.1∈cs.map Prod.fst:=zh.mpr ⟨c,hc,rfl⟩;rw[hn]at this;let⟨j,_,e⟩:=zh.mp this;rw[<-e];show Tr tn j
 show{S.set g<|.lst<|cs.map aC,λb c B=>?_,o,cs,rfl,{`b,by rw[hn];show Lo tn J m<|`b,λc hc=>{(Ll _<|G c hc).1,hk c hc}},G,rfl};by_cases r:b=g;subst r;rw[aa]at B⊢;show B;rw[ah r]at B;rw[ah r,ah<|jx B C];show B;rintro v S' ⟨o,cs,rfl,hg,G,rfl⟩;show !{_,cs.map aC,rfl,.inl aa,S,.new Q,q cs hg G}
abbrev Kn:=δ<|ρ×δ D
noncomputable def jV(kn:Kn):δ (Key×D):=kn.map λr=>(Sum.inr r.1,D.tup r.2)
noncomputable def g9(kn:Kn)(z:ρ):θ (δ D):=(kn.find? λr=>ω<|r.1=z).map (·.2)
structure KI(cs:δ (ρ×ρ))(kn:Kn):η where
 nd:(kn.map (·.1)).Nodup
 ok:∀r∈kn,r.1∈KS/\Wg cs r.2
def cQ:g9 (r::kn) k=if r.1=k then some r.2 else g9 kn k:=by unfold g9;rw[yb];by_cases h:r.1=k;rw[zi h,qe h];rfl;rw[zf h,qb h]
def u7(kn:Kn)(k:ρ):df (jV kn) (.inr k)=(g9 kn k).map D.tup:=by induction kn with|nil=>rfl|cons r kn a=>rw[cQ];unfold df jV at *;rw[zO,yb];by_cases h:r.1=k;have:ω ((Sum.inr r.1:Key)=.inr k)=ϱ:=zi (by rw[h]);dsimp only;rw[this,qe h];rfl;have:ω ((Sum.inr r.1:Key)=.inr k)=ϰ:=zf λe=>h<|yK e;dsimp only;rw[this,qb h];show a
def tG(h:g9 kn k=ϑ ws):(k,ws)∈kn:=by induction kn with|nil=>(cases h)|cons r kn a=>rw[cQ]at h;by_cases hk:r.1=k;rw[qe hk]at h;cases h;rw[<-hk];show zD;rw[qb hk]at h;show zk _<|a h
def rA(h:k∈kn.map (·.1)):∃ws,g9 kn k=ϑ ws:=by induction kn with|nil=>(cases h)|cons r kn a=>rw[cQ];by_cases hk:r.1=k;show{r.2,qe hk};rw[qb hk];rw[zO]at h;rcases ze.mp h with e|h;show absurd e.symm hk;show a h
theorem sub_len[DecidableEq α]:∀{l m:δ α},l.Nodup->(∀x∈l,x∈m)->l.length<=m.length|[],m,_,_=>yf _|a::l,m,nd,h=>by let⟨n1,n2⟩:=yk.mp nd;have h1:=sub_len (m:=m.erase a) n2 λx hx=>(List.mem_erase_of_ne λe=>n1<|by rw[<-e];show hx).mpr<|h x<|zk _ hx;have h2:=List.length_erase_of_mem<|h a zD;have c:0<m.length:=List.length_pos_of_mem<|h a zD;rw[zG];omega
def KI.len(h:KI cs kn):kn.length<=50:=by
 have:=sub_len h.nd (m:=KS) λx hx=>by let⟨r,hr,rfl⟩:=zh.mp hx;show(h.ok r hr).1
 rw[zc]at this;show this
noncomputable def sL(kn:Kn)(z:ρ)(ws:δ D):Kn:=if (g9 kn z).isSome then kn.map λr=>if r.1=z then (r.1,ws) else r else kn++[(z,ws)]
noncomputable def AX(kn:Kn)(z:ρ):Kn:=kn.filter λr=>ω<|r.1≠z
def Tv(kn:Kn)(z:ρ)(ws:δ D):dput (jV kn) (.inr z) (.tup ws)=jV (sL kn z ws):=by
 unfold dput sL;have e:((jV kn).any λa=>ω<|a.1=.inr z)=(g9 kn z).isSome:=by induction kn with|nil=>rfl|cons r kn c=>unfold jV at *;rw[zO,yN,c,cQ];by_cases h:r.1=z;rw[qe h,zi<|by rw[h],Bool.true_or];rfl;rw[qb h,zf λe=>h<|yK e,yO]
 rw[e];split;unfold jV;rw[zH,zH];show zY λr x=>?_;dsimp only[Function.comp];by_cases h:r.1=z;rw[qe h,qe<|by rw[h]];rw[qb h,qb λe=>h<|yK e];unfold jV;rw[zQ];rfl
def Tw(kn:Kn)(z:ρ):BQ (jV kn) (.inr z)=jV (AX kn z):=by unfold BQ AX jV;rw[List.filter_map];congr 1;show List.filter_congr λr x=>?_;dsimp only[Function.comp];rw[yE];show{λh e=>h<|by rw[e],λh e=>h<|yK e}
def OF:g9 (sL kn z ws) k=if k=z then some ws else g9 kn k:=by
 unfold sL;by_cases hs:(g9 kn z).isSome=ϱ;rw[qe hs];by_cases hk:k=z;subst hk;rw[qe rfl];induction kn with|nil=>(cases hs)|cons r rs a=>rw[zO,cQ];by_cases h:r.1=k;rw[qe h,qe h];rw[qb h,qb h];rw[cQ,qb h]at hs;show a hs
 rw[qb hk];clear hs;induction kn with|nil=>rfl|cons r rs a=>rw[zO,cQ,cQ,a];by_cases h:r.1=z;rw[qe h,qb<|show ¬r.1=k from λe=>hk<|e.symm.trans h,qb<|show ¬r.1=k from λe=>hk<|e.symm.trans h];rw[qb h]
 rw[qb hs];have hn:g9 kn z=ϐ:=by cases e:g9 kn z<;>simp_all
 clear hs;induction kn with|nil=>rw[List.nil_append,cQ];by_cases hk:k=z;rw[qe hk,qe hk.symm];rw[qb hk,qb λe=>hk e.symm]|cons r rs a=>rw[cQ]at hn;by_cases h:r.1=z;rw[qe h]at hn;cases hn;rw[qb h]at hn;rw[List.cons_append,cQ,cQ,a hn];by_cases h2:r.1=k;rw[qe h2,qe h2,qb<|show ¬k=z from λe=>h<|h2.trans e];rw[qb h2,qb h2]
def OG:g9 (AX kn z) k=if k=z then none else g9 kn k:=by unfold AX;induction kn with|nil=>(split<;>rfl)|cons r kn a=>rw[List.filter_cons,cQ];by_cases h:r.1=z;rw[qb<|by simp[h],a];by_cases hk:k=z;rw[qe hk,qe hk];rw[qb hk,qb hk,qb<|show ¬r.1=k from λe=>hk<|e.symm.trans h];rw[qe<|by simp[h],cQ,a];by_cases hk:k=z;rw[qe hk,qe hk,qb<|show ¬r.1=k from λe=>h<|e.trans hk];rw[qb hk,qb hk]
set_option tactic.hygienic true in
def KI.put(h:KI cs kn)(hz:z∈KS)(hw:Wg cs ws):KI cs (sL kn z ws):=by
 unfold sL;split;show{?_,λr hr=>?_};have:(kn.map λr=>if r.1=z then (r.1,ws) else r).map (·.1)=kn.map (·.1):=by rw[zH];show zY λr x=>by dsimp only[Function.comp];split<;>rfl
 rw[this];show h.nd;let⟨r0,a,e⟩:=zh.mp hr;by_cases q:r0.1=z;rw[qe q]at e;subst e;show{(h.ok r0 a).1,hw};rw[qb q]at e;subst e;show h.ok r0 a;rename_i hs;show{?_,λr hr=>?_};rw[zQ];show oQ h.nd λm=>hs ?_;let⟨c,e⟩:=rA m;change(g9 kn z).isSome=ϱ;rw[show g9 kn z=ϑ c from e];rfl;rcases zN.mp hr with hr|hr;show h.ok r hr;rw[zx.mp hr];show⟨hz,hw⟩
theorem KI.del(h:KI cs kn)(z:ρ):KI cs (AX kn z):={(List.Sublist.map _ List.filter_sublist).nodup h.nd,λr hr=>h.ok r (yA.mp hr).1}
def GD(ks:δ ρ)(cs:δ<|ρ×ρ)(kn:Kn)(d:D):Prop:=(∃z ws,z∈ks/\Wg cs ws/\g9 kn z=ϐ/\d=.tup [.str "put",.str z,.tup ws])\/(∃z ws,z∈KS/\Wg cs ws/\(g9 kn z).isSome=ϱ/\d=.tup [.str "change",.str z,.tup ws])\/∃z,z∈KS/\(g9 kn z).isSome=ϱ/\d=.tup [.str "take",.str z]
def Ly(S:ax)(n:π)(d:D):Prop:=∃p,Dp S d p/\p.canLay0=ϱ/\p.depth<=n
theorem Ly.all:∀{ds:δ D},(∀d∈ds,Ly S n d)->∃ps:δ PyData,DpAll S ds ps/\PyData.canLayAll0 ps=ϱ/\PyData.depthAll ps<=n/\ps.length=ds.length|[],_=>{[],by simp only[DpAll],rfl,yf _,rfl}|d::ds,h=>by let⟨p,h1,h2,h3⟩:=h d zD;let⟨ps,k1,k2,k3,k4⟩:=Ly.all λx hx=>h x<|zk _ hx;show{p::ps,by simp only[DpAll];show⟨p,ps,rfl,h1,k1⟩,by simp only[PyData.canLayAll0,h2,k2,Bool.and_self],by simp only[PyData.depthAll];lia,by rw[zG,zG,k4]}
def Ly.tup{S:ax}{n:π}{ds:δ D}(h:∀d∈ds,Ly S n d):Ly S (n+1) (.tup ds):=by let⟨ps,k1,k2,k3,_⟩:=Ly.all h;show{.tuple ps,by simp only[Dp];show⟨ps,rfl,k1⟩,by simp only[PyData.canLay0];show k2,by simp only[PyData.depth];lia}
theorem Ly.str{S:ax}{z:ρ}(h:PyData.strOk z=ϱ):Ly S 0 (.str z):={.str z,by simp only[Dp],by simp only[PyData.canLay0];show h,by simp only[PyData.depth];lia}
def Ly.le(h:Ly S n d)(l:n<=m):Ly S m d:=by let⟨p,a,b,c⟩:=h;show{p,a,b,zM c l}
theorem Ly.ao:Ly S 0 .ao:={.none,by simp only[Dp],by simp only[PyData.canLay0],by simp only[PyData.depth];lia}
def Ly.plain(h:iR d=ϱ):Ly S 0 d:=by cases d with|ao=>show Ly.ao|int i=>show{.int i,by simp only[Dp],by simp only[PyData.canLay0],by simp only[PyData.depth];lia}|str z=>have h:(ω (z.cps.size<=40)&&PyData.strOk z)=ϱ:=h;rw[zT]at h;show Ly.str h.2|_=>cases h
def Ly.dl(h:Ly S n d):∃p,Dl S d p/\p.canLay0=ϱ/\p.depth<=n:=by let⟨p,a,b,c⟩:=h;show{p,?_,b,c};cases d with|ref x=>simp only[Dp]at a|_=>show a
def Ly.lst{S:ax}{n:π}{a:ε}{ds:δ D}(e:S a=ϑ (.lst ds))(h:∀d∈ds,Ly S n d):∃p,Dl S (.ref a) p/\p.canLay0=ϱ/\p.depth<=n+1/\∀b,S b=ϑ (.lst ds)->Dl S (.ref b) p:=by let⟨ps,k1,k2,k3,_⟩:=Ly.all h;show{.list ps,⟨ds,ps,e,rfl,k1⟩,by simp only[PyData.canLay0];show k2,by simp only[PyData.depth];lia,λb c=>⟨ds,ps,c,rfl,k1⟩}
def CJ{S:ax}{a b:ε}{ds:δ D}{R:KD}{c:χ}(e1:S a=ϑ (.lst ds))(e2:S b=ϑ (.lst ds))(h:∀d∈ds,Ly S 60 d)(q:R (.bl<|!c) S):MJ c (.ref a) (.ref b) S R:=by
 let⟨p,k1,k2,k3,k4⟩:=Ly.lst e1 h;have e:(if c then !PyData.eqv p p else PyData.eqv p p)=!c:=by rw[SeqAt.eqv_refl p k2];cases c<;>rfl
 show{p,p,k1,k4 b e2,k2,k2,.inl<|`b,by rw[e];show q}
def Ls(ps:δ PyData):PyData.eqv (.list ps) (.list [])=ps.isEmpty:=by cases ps<;>simp[PyData.eqv,PyData.eqvAll]
def Lu(ps:δ PyData):PyData.eqv (.tuple ps) (.tuple [])=ps.isEmpty:=by cases ps<;>simp[PyData.eqv,PyData.eqvAll]
def eq_nil{S:ax}{a b:ε}{ds:δ D}{R:KD}(e1:S a=ϑ (.lst ds))(e2:S b=ϑ (.lst []))(h:∀d∈ds,Ly S 60 d)(q:R (.bl ds.isEmpty) S):MJ false (.ref a) (.ref b) S R:=by let⟨ps,k1,k2,k3,k4⟩:=Ly.all h;show{.list ps,.list [],⟨ds,ps,e1,rfl,k1⟩,{[],[],e2,rfl,by simp only[DpAll]},by simp only[PyData.canLay0];show k2,by simp only[PyData.canLay0,PyData.canLayAll0],.inl<|by simp only[PyData.depth];lia,?_};rw[qb zd,Ls,show ps.isEmpty=ds.isEmpty by cases ps<;>cases ds<;>first|rfl|cases k4];show q
def Gv{S:ax}{ds:δ D}{R:KD}(h:∀d∈ds,Ly S 60 d)(q:R (.bl ds.isEmpty) S):MJ false (.tup ds) (.tup []) S R:=by let⟨ps,k1,k2,k3,k4⟩:=Ly.all h;show{.tuple ps,.tuple [],by simp only[Dl,Dp];show⟨ps,rfl,k1⟩,by simp only[Dl,Dp];show{[],rfl,by simp only[DpAll]},by simp only[PyData.canLay0];show k2,by simp only[PyData.canLay0,PyData.canLayAll0],.inl<|by simp only[PyData.depth];lia,?_};rw[qb zd,Lu,show ps.isEmpty=ds.isEmpty by cases ps<;>cases ds<;>first|rfl|cases k4];show q
def Wg.all(h:Wg cs ws):∀d∈ws,iR d=ϱ:=by unfold Wg at h;induction h with|nil=>show λz h=>(nomatch h)|cons r t a=>intro d hd;rcases ze.mp hd with e|hd;rw[e];show r.2;show a d hd
theorem Wg.ly{cs:δ<|ρ×ρ}{ws:δ D}(h:Wg cs ws){S:ax} : Ly S 1 (.tup ws):=Ly.tup λd hd=>Ly.plain<|h.all d hd
theorem KI.ly{cs:δ<|ρ×ρ}{kn:Kn}(a:KI cs kn){ss:δ ρ}(c:ss.Perm (kn.map (·.1))){S:ax} : ∀d∈ss.map D.str,Ly S 60 d:=λd hd=>by let⟨z,hz,rfl⟩:=zh.mp hd;let⟨r,hr,e⟩:=zh.mp<|c.mem_iff.mp hz;rw[<-e];show(Ly.str (jt _ (a.ok r hr).1).2.2).le<|yf _
inductive Lx (ds:δ D) (S:ax) (R:KD) (Z:KX):η
 |mk (l cs lk kn) (_:ds=[.ref l,.tup<|cs.map aC,.ref lk]) (_:Gd cs) (_:S l=ϑ .well) (_:S lk=ϑ (.eV<|jV kn)) (_:KI cs kn) (_:∀d,GD KT cs kn d->R d S)
def OI(T:Txt w K mg t):Ok P w base T.Ex 4 Lx:=by
 show T.Ex.F.eM jM ?_;obtain⟨l,cs,lk,kn,e,hg,hw,hk,O,q⟩;have s:=O.len;show{_,(sc (dy (i:=3) jM.nd<|ba T.aN (bB T) hr<|al 0<|ac di an)<|sc (dy (i:=4) jM.nd<|cb BY T.jI h_<|al 2 an)<|sc (si (twd<|twor (bX bO `u (dv 4)<|bG an)<|tw1<|bX NW `u (dv 3) di) (sc (dy (i:=5) jM.nd<|ba T.Cv (EL T) hr<|al 0 an)<|sc (si (bX BR `u (dv 5)<|dv 2) (s1<|sr<|aF<|ac ds<|al 5<|ac (ba T.iH (jS T) hr<|al 0<|al 1 an) an) s0)<|s1<|sr<|aF<|ac ds<|al 5<|ac (ba T.iH (jS T) hr<|al 0<|al 1 an) an) s0)<|sc (dy (i:=5) jM.nd<|ix `u (dv 4)<|ba T.aN (bB T) hr<|al 0<|ac (cb bC T.bw aU<|al 4 an) an)<|sc (si (bX bO `u (dv 3) di) (s1<|sr<|aF<|ac ds<|al 5 an) s0)<|sc (si (bX bO `u (dv 3) di) (s1<|sr<|aF<|ac ds<|al 5<|ac (ix `u (dv 2)<|dv 5) an) s0)<|s1<|sr<|aF<|ac ds<|al 5<|ac (ba T.iH (jS T) hr<|al 0<|al 1 an) an),?_};have ek:(jV kn).map (·.1)=(kn.map (·.1)).map Sum.inr:=by unfold jV;rw[zH,zH];rfl
 have X:(jV kn).length<64:=by unfold jV;rw[zc];lia
 show !{l,_,rfl,`a,`a,hw,λway h0 h1=>!{lk,jV kn,kn.map (·.1),rfl,hk,ek,X,λss G hs p AV=>?_}};show !{wu,λp2 J=>?_};generalize M:(S.set p<|.lst<|ss.map D.str).set p2 (.lst [])=y;have sub:Sub S y:=by rw[<-M];show(Sub.new AV).trans<|.new J
 have j:=sub _ _ hw;have A:=sub _ _ hk;have I:y p=ϑ (.lst<|ss.map D.str):=by rw[<-M,ah (show p≠p2 by rintro rfl;rw[aa]at J;cases J),aa]
 have E:y p2=ϑ (.lst []):=by rw[<-M,aa]
 have c:∀d,GD KT cs kn d->Fo y (R d):=λd hd=>{S,sub,q d hd};have Q:∀z,df (jV kn) (.inr z)=(g9 kn z).map D.tup:=u7 kn;have x:∀z,(df (jV kn)<|.inr z).isSome=(g9 kn z).isSome:=λz=>by rw[Q];cases g9 kn z<;>rfl
 show eq_nil I E (O.ly G) !⟨?_⟩;show bY (λh=>?_) λh=>!!⟨bY (λY=>?_) λY=>?_⟩;show !{l,[],rfl,rfl,j,λd ⟨z,hz,e⟩=>?_};subst e;show !!⟨.inr {jV kn,.inr z,A,rfl,_,rfl,?_}⟩;show bY (λr=>?_) λr=>?_;show !!!{l,cs,rfl,hg,j,λws g=>{iM,c _<|.inr<|.inl {z,ws,r_ hz,g,(x z).symm.trans r,rfl}}};have C:g9 kn z=ϐ:=by have:=(x z).symm.trans r;cases e:g9 kn z with|none=>rfl|some _=>rw[e]at this;cases this
 show !!!{l,cs,rfl,hg,j,λws g=>{iM,c _<|.inl ⟨z,ws,hz,g,C,rfl⟩}};show !{l,[],rfl,rfl,j,λd ⟨z,hz,e⟩=>?_};subst e;show !!⟨.inr {jV kn,.inr z,A,rfl,_,rfl,?_}⟩;show bY (λr=>?_) λr=>?_;show !!!{l,cs,rfl,hg,j,λws g=>{iM,c _<|.inr<|.inl {z,ws,r_ hz,g,(x z).symm.trans r,rfl}}};have C:g9 kn z=ϐ:=by have:=(x z).symm.trans r;cases e:g9 kn z with|none=>rfl|some _=>rw[e]at this;cases this
 show !!!{l,cs,rfl,hg,j,λws g=>{iM,c _<|.inl ⟨z,ws,hz,g,C,rfl⟩}};have sD:0<(ss.map D.str).length:=by have h:(ss.map D.str).isEmpty=ϰ:=h;cases ss with|nil=>(cases h)|cons a ss=>show Nat.succ_pos _
 have a0:(ss.map D.str).length<=50:=by rw[zc,G.length_eq,zc];show s
 show !!!!⟨.inl {_,I,l,_,rfl,`b,u0 `b<|`b,j,λn L U=>?_}⟩;let⟨v,a1,a2⟩:=iZ (l:=ss.map D.str) L U;let⟨z,hz,rfl⟩:=zh.mp<|zI a2;let⟨ws,g⟩:=rA<|G.mem_iff.mp hz;let⟨o,B⟩:=O.ok _<|tG g;have m:(g9 kn z).isSome=ϱ:=by rw[g];rfl
 show{_,_,I,a1,_,rfl,_,rfl,?_};show bY (λH=>?_) λH=>?_;show !{gE,c _<|.inr<|.inr ⟨z,o,m,rfl⟩};show !!⟨?_⟩;show bY (λH=>?_) λH=>?_;show !!!{jV kn,.tup ws,A,by rw[Q,g];rfl,iM,c _<|.inr<|.inl ⟨z,ws,o,B,m,rfl⟩};show !!!{l,cs,rfl,hg,j,λZ N=>{iM,c _<|.inr<|.inl ⟨z,Z,o,N,m,rfl⟩}}
def fg{p:χ}{A B:η}(h:p=ϰ)(q:B):if p=ϱ then A else B:=by rw[h];show bV q
def wC{p:χ}{A B:η}(h:p=ϱ)(q:A):if p=ϱ then A else B:=by rw[h];show ck q
def Mo(sp:ir):ir:=λds S R Z=>∃R0 Z0,sp ds S R0 Z0/\(∀d S',R0 d S'->R d S')/\∀C S',Z0 C S'->Z C S'
theorem EO{P:Ψ}{w:Ω}{K:Φ}{mg:ρ->θ ξ}{base:Γ}{k:π}{f:ε}{fd:FuncData}{ps:δ ρ}{sp:ir}(F:cG P w K mg base (fh P w mg) k f fd ps<|qD K sp):cG P w K mg base (fh P w mg) k f fd ps (qD K<|Mo sp):=F.imp <| by rintro vs H Q E ⟨ds,S,R,Z,v,e,⟨i,g,h,h1,h2⟩,c,a⟩;show{ds,S,i,g,v,e,h,λd S' u H' r=>c d S' u H'<|h1 _ _ r,λC S' H' z=>a C S' H'<|h2 _ _ z}
abbrev Lz:=mr
abbrev u9:=iP
abbrev ER:=ko
def ZA(kn:Kn)(d:D)(tH:Kn):Prop:=(∃(n:ρ) (z:ρ) (ws:δ D),(n ="put"\/n ="change")/\d=.tup [.str n,.str z,.tup ws]/\tH=sL kn z ws)\/∃z,(g9 kn z).isSome=ϱ/\d=.tup [.str "take",.str z]/\tH=AX kn z
inductive ES (t:gu) (ds:δ D) (S:ax) (R:KD) (Z:KX):η
 |mk (a fs) (_:S a=ϑ (.ins t.aw fs)) (_:fs.map Prod.fst=(["columns","deeds","runs"]:δ ρ)) (_:((∃k v,ds=[.ref a,.tup [.str "put",k,v]]/\Lz t [.ref a,k,v] S R Z)\/(∃k v,ds=[.ref a,.tup [.str "change",k,v]]/\u9 t [.ref a,k,v] S R Z)\/∃k,ds=[.ref a,.tup [.str "take",k]]/\ER t [.ref a,k] S R Z))
theorem lk0:∀{fs:δ (ρ×D)},m∉fs.map Prod.fst->fs.lookup m=ϐ|[],_=>rfl| (a,b)::fs,h=>by rw[zO,ze]at h;rw[zL,show(m==a)=ϰ from beq_false_of_ne λe=>h<|.inl e];show lk0 λq=>h<|.inr q
theorem lk3{fs:δ<|ρ×D}(h:fs.map Prod.fst=(["columns","deeds","runs"]:δ ρ)){m:ρ}(hm:m∉(["columns","deeds","runs"]:δ ρ)):fs.lookup m=ϐ:=lk0<|by rw[h];show hm
inductive xC (ds:δ D) (S:ax) (R:KD) (Z:KX):η
 |mk (lk kn d tH) (_:ds=[.ref lk,d]) (_:S lk=ϑ (.eV<|jV kn)) (_:kn.length<=100) (_:ZA kn d tH) (_:R .ao<|S.set lk<|.eV<|jV tH)
def LA(T:Txt w K mg t):Ok P w base T.Az 1 xC:=by show T.Az.F.eM ED ?_;obtain⟨lk,kn,d,tH,e,hk,hn,hd,q⟩;show{_,(s1<|si (bX bO `u (ix `u (dv 1) di) ds) (s1<|se<|mp1 (dv 0)<|ix `u (dv 1) di)<|s1<|sd `u (dv 0) (ix `u (dv 1) di)<|ix `u (dv 1) di),?_};have hl:(jV kn).length<sizeLine:=bg (by unfold jV;rw[zc];lia);rcases hd with⟨n,z,ws,a,rfl,rfl⟩|⟨z,hz,rfl,rfl⟩;show !!!⟨?_⟩;show bY (λh=>?_) λh=>?_;have h:n ="take":=zj h;rcases a with e|e<;>rw[e]at h<;>show absurd h `a;show !!!!!{lk,jV kn,.inr z,rfl,hk,rfl,hl,?_};rw[Tv];show fo q;show !!!⟨?_⟩;show bY (λh=>?_) λh=>absurd h `a;let⟨ws,c⟩:=Option.isSome_iff_exists.mp hz;show !{lk,jV kn,rfl,hk,_,rfl,_,rfl,jV kn,.inr z,.tup ws,hk,rfl,by rw[u7,c];rfl,?_};rw[Tw];show fo q
def Dd3(d:D):Prop:=(∃k v,d=.tup [.str "put",k,v])\/(∃k v,d=.tup [.str "change",k,v])\/∃k,d=.tup [.str "take",k]
inductive pL (ds:δ D) (S:ax) (R:KD) (Z:KX):η
 |mk (d) (_:ds=[d]) (_:Dd3 d) (_:R .ao S)
def ju(T:Txt w K mg t):Ok P w base T.eE 1 pL:=by show T.eE.F.eM nC ?_;obtain⟨d,e,hd,q⟩;show{_,(sc (si (twd<|twor (cL<|tv<|cb cM T.ai ag<|al 0<|ac (oG T.bL bj) an)<|twor (bX bO `u (cb bC T.bw aU<|al 0 an) di)<|tw1<|cL<|tv<|cb cM T.ai ag<|ac (ix `u (dv 0) di)<|ac (oG T.lS iq) an) (s1<|oH ⟨T.fZ⟩ T.iE<|ac ds an) s0)<|s1<|si (bX jk `u (mgk T.kH `a (gK T.jH)<|ix `u (dv 0) di)<|cb bC T.bw aU<|al 0 an) (s1<|oH ⟨T.fZ⟩ T.iE<|ac ds an) s0),?_};rcases hd with⟨k,v,rfl⟩|⟨k,v,rfl⟩|⟨k,rfl⟩;show !{_,_,_,_,rfl,aV,rfl,_,rfl,bV !!!⟨fg rfl !!{_,_,_,_,rfl,dw,rfl,_,rfl,bV !!!!!!⟨fg rfl<|fo q⟩}⟩};show !{_,_,_,_,rfl,aV,rfl,_,rfl,bV !!!⟨fg rfl !!{_,_,_,_,rfl,dw,rfl,_,rfl,bV !!!!!!⟨fg rfl<|fo q⟩}⟩};show !{_,_,_,_,rfl,aV,rfl,_,rfl,bV !!!⟨fg rfl !!{_,_,_,_,rfl,dw,rfl,_,rfl,bV !!!!!!⟨fg rfl<|fo q⟩}⟩}
def XU(t:gu):ir:=λds S R Z=>ES t ds S (λz=>R .ao) Z
def OJ(T:Txt w K mg t):Ok P w base T.mJ 7 (XU t):=by have c:rS P w mg base T.fC 6 (Mo<|Lz t):=EO<|Lj T;have g:rS P w mg base T.cN 6 (Mo<|u9 t):=EO<|xA T;have i:rS P w mg base T.eF 6 (Mo<|ER t):=EO<|Gu T;show T.mJ.F.ok uP (by rintro ds S R Z ⟨_,_,_,_,h⟩;rcases h with⟨_,_,e,_⟩|⟨_,_,e,_⟩|⟨_,e,_⟩<;>rw[e]<;>rfl) ?_;rintro fT A outer s H E ds S R Z hr ⟨a,fs,ha,j,h⟩;rcases h with⟨k,v,e,h⟩|⟨k,v,e,h⟩|⟨k,e,h⟩;subst e;show{_,(sc (se<|ba T.eE (ju T) hr<|al 1 an)<|s1<|si (bX bO `u (ix `u (dv 1) di) ds) (s1<|se<|vL (dv 0) T.aj T.fC c hr<|ac (ix `u (dv 1) di)<|ac (ix `u (dv 1) di) an)<|s1<|si (bX bO `u (ix `u (dv 1) di) ds) (s1<|se<|vL (dv 0) T.aj T.cN g hr<|ac (ix `u (dv 1) di)<|ac (ix `u (dv 1) di) an)<|s1<|se<|vL (dv 0) T.aj T.eF i hr<|ac (ix `u (dv 1) di) an),?_};show !!{.inl ⟨k,v,rfl⟩,?_};show !!!⟨?_⟩;show bY (λx=>?_) λh=>absurd h `a;show !{a,_,rfl,ha,lk3 j<|`a,_,rfl,_,rfl,_,rfl,_,rfl,λx=>R .ao,Z,h,λd S' r=>fo r,λC S' z=>fo z};subst e;show{_,(sc (se<|ba T.eE (ju T) hr<|al 1 an)<|s1<|si (bX bO `u (ix `u (dv 1) di) ds) (s1<|se<|vL (dv 0) T.aj T.fC c hr<|ac (ix `u (dv 1) di)<|ac (ix `u (dv 1) di) an)<|s1<|si (bX bO `u (ix `u (dv 1) di) ds) (s1<|se<|vL (dv 0) T.aj T.cN g hr<|ac (ix `u (dv 1) di)<|ac (ix `u (dv 1) di) an)<|s1<|se<|vL (dv 0) T.aj T.eF i hr<|ac (ix `u (dv 1) di) an),?_};show !!{.inr<|.inl ⟨k,v,rfl⟩,?_};show !!!⟨?_⟩;show bY (λh=>absurd h<|`a) λx=>?_;show !!!⟨?_⟩;show bY (λx=>?_) λh=>absurd h `a;show !{a,_,rfl,ha,lk3 j<|`a,_,rfl,_,rfl,_,rfl,_,rfl,λx=>R .ao,Z,h,λd S' r=>fo r,λC S' z=>fo z};subst e;show{_,(sc (se<|ba T.eE (ju T) hr<|al 1 an)<|s1<|si (bX bO `u (ix `u (dv 1) di) ds) (s1<|se<|vL (dv 0) T.aj T.fC c hr<|ac (ix `u (dv 1) di)<|ac (ix `u (dv 1) di) an)<|s1<|si (bX bO `u (ix `u (dv 1) di) ds) (s1<|se<|vL (dv 0) T.aj T.cN g hr<|ac (ix `u (dv 1) di)<|ac (ix `u (dv 1) di) an)<|s1<|se<|vL (dv 0) T.aj T.eF i hr<|ac (ix `u (dv 1) di) an),?_};show !!{.inr<|.inr ⟨k,rfl⟩,?_};show !!!⟨?_⟩;show bY (λh=>absurd h<|`a) λx=>?_;show !!!⟨?_⟩;show bY (λh=>absurd h<|`a) λx=>?_;show !{a,_,rfl,ha,lk3 j<|`a,_,rfl,_,rfl,λx=>R .ao,Z,h,λd S' r=>fo r,λC S' z=>fo z}
def kd_sub(h:Sub S S')(hk:Sd S d k):Sd S' d k:=by cases d with|ref a=>(rcases hk with⟨rfl,ds,e⟩|⟨rfl,ds,e⟩;show .inl {rfl,ds,h _ _ e};show .inr {rfl,ds,h _ _ e})|_=>show hk
def Gt.sub(h:Sub S S')(g:Gt S d):Gt S' d:=by let⟨k,hk⟩:=g.1;show{{k,kd_sub h hk},g.2}
def LB(h:l.length=1):∃a,l=[a]:=by cases l with|nil=>(cases h)|cons a l=>show{a,by rw[List.eq_nil_of_length_eq_zero<|yU h]}
def LC(h:l.length=2):∃a b,l=[a,b]:=by cases l with|nil=>(cases h)|cons a l=>let⟨b,rfl⟩:=LB<|yU h;show⟨a,b,rfl⟩
def acL(h:l.length=3):∃a b c,l=[a,b,c]:=by cases l with|nil=>(cases h)|cons a l=>let⟨b,c,rfl⟩:=LC<|yU h;show⟨a,b,c,rfl⟩
def Qd(S:ax):π->D->η|0,d=>Gt S d|n+1,d=>Gt S d/\∀ws,d=.tup ws->ws.length<=1000/\∀v∈ws,Qd S n v
def Qd.gt(h:Qd S n d):Gt S d:=by cases n<;>first|show h|show h.1
theorem Qd.in(h:Qd S (n+1)<|.tup ws):ws.length<=1000/\∀v∈ws,Qd S n v:=h.2 ws rfl
def Qd.sub(b:Sub S S'):∀{n:π}{d:D},Qd S n d->Qd S' n d:=by intro n;induction n with|zero=>show λh=>Gt.sub b h|succ n c=>show λh=>{h.1.sub b,λws e=>{(h.2 ws e).1,λv a=>c<|(h.2 ws e).2 v a}}
def QA(S:ax)(d:D):Prop:=∀n,Qd S n d
theorem QA.sub(b:Sub S S')(h:QA S d):QA S' d:=λn=>(h n).sub b
theorem QA.in(h:QA S<|.tup ws)(a:v∈ws):QA S v:=λn=>(h<|n+1).in.2 v a
theorem iS(hl:ws.length<=1000)(h:∀v∈ws,QA S v):QA S (.tup ws):=λn=>by have g:Gt S (.tup ws):={{.tup,rfl},λz=>nofun};cases n with|zero=>show g|succ n=>show{g,λc e=>by cases e;show{hl,λv a=>h v a n}}
theorem xD(g:Gt S d)(n:∀ws,d≠.tup ws):QA S d:=λk=>by cases k with|zero=>show g|succ k=>show{g,λws e=>absurd e<|n ws}
noncomputable def p3(p:ρ×ρ×ρ):D:=.tup [.str p.1,.str p.2.1,.str p.2.2]
noncomputable def gR(z:ρ):Bool:=ω (z ="up")||ω (z ="down")
noncomputable def wD(z:ρ):Bool:=ω (z ="first")||ω (z ="last")
def LD(z a b:ρ)(x y:V):(([(a,x),(b,y)]:δ (ρ×V)).lookup z).isSome=(ω (z=a)||ω (z=b)):=by rw[zL,zL];by_cases h:z=a;rw[show(z==a)=ϱ by simp[h],zi h];rfl;rw[show(z==a)=ϰ by simp[h],zf h];by_cases h2:z=b;rw[show(z==b)=ϱ by simp[h2],zi h2];rfl;rw[show(z==b)=ϰ by simp[h2],zf h2];rfl
noncomputable def Gw(cs:δ<|ρ×ρ)(p:ρ×ρ×ρ):Bool:=ω (p.1∈cs.map Prod.fst)&&(gR p.2.1&&wD p.2.2)
noncomputable def OL(cs:δ<|ρ×ρ)(ps:δ<|ρ×ρ×ρ)(wy:ρ):Bool:=ω (ps.length<=8)&&(ps.all (Gw cs)&&(ω ((ps.map Prod.fst).Nodup)&&gR wy))
noncomputable def BM(cs:δ<|ρ×ρ):D->D|.str z=>(match cs.find? (λc=>ω<|c.1=z) with|some c=>.str c.2|none=>.ao)|_=>.ao
def AY(hg:Gd cs)(h:(z,k)∈cs):BM cs (.str z)=.str k:=by unfold BM;cases e:cs.find? (λc=>ω<|c.1=z) with|none=>show absurd (zi rfl) (List.find?_eq_none.mp e _ h)|some c=>have h0:ω (c.1=z)=ϱ:=List.find?_some (p:=λc:ρ×ρ=>ω<|c.1=z) e;have h1:c.1=z:=zj h0;have:=kl hg.2.1 (List.mem_of_find?_eq_some e) h h1;subst this;dsimp only;rw[e]
def AZ(h:z∉cs.map Prod.fst):BM cs (.str z)=.ao:=by unfold BM;dsimp only;rw[List.find?_eq_none.mpr λc hc e=>h<|zh.mpr {c,hc,zj e}]
def OM(hg:Gd cs)(z:ρ):au (BM cs<|.str z)=!decide (z∈cs.map Prod.fst):=by by_cases h:z∈cs.map Prod.fst;let⟨c,hc,rfl⟩:=zh.mp h;rw[AY hg (k:=c.2) hc,zi h];rfl;rw[AZ h,zf h];rfl
noncomputable def eJ(cs:δ<|ρ×ρ):D->χ|.tup [n,w,e]=>(!au (BM cs n))&&(ofStr gR w&&ofStr wD e)|_=>false
noncomputable def XW:D->ρ|.tup (.str z::_)=>z|_=>""
noncomputable def j6(cs:δ<|ρ×ρ):D->χ|.tup [.tup ps,w]=>ω (ps.length<=8)&&(ps.all (eJ cs)&&(ω ((ps.map XW).Nodup)&&ofStr gR w))|_=>false
def LF(hg:Gd cs)(p:ρ×ρ×ρ):eJ cs (p3 p)=Gw cs p:=by change((!au (BM cs<|.str p.1))&&(gR p.2.1&&wD p.2.2))=_;rw[OM hg,Bool.not_not];rfl
set_option tactic.hygienic true in
def LG(h:eJ cs d=ϱ):∃p,d=p3 p:=by
 unfold eJ at h;split at h;rename_i n w e;simp only[zT]at h;let⟨h1,h2,c⟩:=h;obtain⟨z1,rfl⟩:∃z,n=.str z:=by cases n<;>first|show{_,rfl}|cases h1
 obtain⟨z2,rfl⟩:∃z,w=.str z:=by cases w<;>first|show{_,rfl}|cases h2
 obtain⟨a,rfl⟩:∃z,e=.str z:=by cases e<;>first|show{_,rfl}|cases c
 show{(z1,z2,a),rfl};cases h
def LH:∀{ps:δ D},ps.all (eJ cs)=ϱ->∃a:δ (ρ×ρ×ρ),ps=a.map p3:=by intro ps;induction ps with|nil=>show λz=>{[],rfl}|cons p ps c=>intro h;rw[List.all_cons,zT]at h;let⟨q,rfl⟩:=LG h.1;let⟨a,rfl⟩:=c h.2;show{q::a,rfl}
def Qn(a:δ<|ρ×ρ×ρ):(a.map p3).map XW=a.map Prod.fst:=by rw[zH];rfl
def rB(hg:Gd cs)(ps:δ<|ρ×ρ×ρ)(wy:ρ):j6 cs (.tup [.tup<|ps.map p3,.str wy])=OL cs ps wy:=by change(ω ((ps.map p3).length<=8)&&((ps.map p3).all (eJ cs)&&(ω (((ps.map p3).map XW).Nodup)&&gR wy)))=_;rw[zc,Qn,List.all_map,show(eJ cs ∘ p3)=Gw cs from funext λp=>LF hg p];rfl
def pM(l:δ<|ρ×D)(z:ρ)(h:df (nN l) (.inr z)=ϑ d):∃p∈l,p.1=z/\d=p.2:=by
 have all:∀(l:δ (ρ×D))(c:δ (Key×D)),df (l.foldl (λc p=>dput c (.inr p.1) p.2) c) (.inr z)=ϑ d->(∃p∈l,p.1=z/\d=p.2)\/df c (.inr z)=ϑ d:=by intro l;induction l with|nil=>intro c h;show .inr h|cons p l g=>intro c h;rcases g _ h with⟨q,a,e⟩|h;show .inl {q,zk _ a,e};rw[BZ]at h;by_cases e:(.inr z:Key)=.inr p.1;rw[qe e]at h;show .inl {p,zD,(yK e).symm,(zU h).symm};rw[qb e]at h;show .inr h
 rcases all l [] h with h|h;show h;cases h
def Pok(p:ρ×ρ×ρ):Prop:=p.1.cps.size<=1000/\p.2.1.cps.size<=1000/\p.2.2.cps.size<=1000
def xE(T:Txt w K mg t):Ok P w base T.Av 1 (AM<|ofStr gR):=by show T.Av.F.Jf Ik ?_;rintro _ _ _ _ _ _ ds S R Z hr ⟨d,e,⟨⟨k,hk⟩,hz⟩,q⟩;subst e;show{_,(s1<|sr<|qA (cb cM T.ai ag<|al 0<|ac (oG T.lS iq) an)<|FN<|cmk T.Cq (dv 0)<|dg (v:=.ref t.lM) T.Aj rfl λx=>cg _),?_};show !{_,_,_,_,rfl,dw,hk,_,rfl,?_};rcases mi hk with⟨z,rfl,h0⟩|⟨h0,h1⟩;rw[h0];show ck !{z,rfl,rfl,?_};rw[LD];show fo q;rw[h1]at q;rw[h0];show bV<|fo q
def Iw(T:Txt w K mg t):Ok P w base T.Ew 1 (AM<|ofStr wD):=by show T.Ew.F.Jf Il ?_;rintro _ _ _ _ _ _ ds S R Z hr ⟨d,e,⟨⟨k,hk⟩,hz⟩,q⟩;subst e;show{_,(s1<|sr<|qA (cb cM T.ai ag<|al 0<|ac (oG T.lS iq) an)<|FN<|cmk T.Cr (dv 0)<|dg (v:=.ref t.lN) T.Al rfl λx=>cg _),?_};show !{_,_,_,_,rfl,dw,hk,_,rfl,?_};rcases mi hk with⟨z,rfl,h0⟩|⟨h0,h1⟩;rw[h0];show ck !{z,rfl,rfl,?_};rw[LD];show fo q;rw[h1]at q;rw[h0];show bV<|fo q
def Tx:ir:=λds S R z=>∃cs d,ds=[.tup<|cs.map aC,d]/\Gd cs/\Gt S d/\R (BM cs d) S
def jv(T:Txt w K mg t):Ok P w base T.iF 3 Tx:=by
 show T.iF.F.Jf wg ?_;rintro _ _ _ _ _ _ ds S R Z hr ⟨cs,d,e,hg,hz,q⟩;subst e;show{_,(sc (si (cL<|tv<|ba T.pq (ox T) hr<|al 1 an) (s1<|sr dn) s0)<|s1<|sr<|mg1 `u (ct Ky T.K7 FF<|al 0 an)<|dv 1),?_};show !{d,rfl,hz,_,rfl,?_};show bY (λh=>?_) λh=>?_;have h:ofStr iN d=ϰ:=nt h;have e:BM cs d=.ao:=by cases d with|str z=>(show AZ λm=>?_;let⟨c,hc,rfl⟩:=zh.mp m;have h:iN c.1=ϰ:=h;rw[(hg.2.2 c hc).1]at h;cases h)|_=>rfl
 rw[e]at q;show fo q;have h:ofStr iN d=ϱ:=nf h;cases d with|str z=>(have i:cs.map aC=(cs.map λc=>(c.1,D.str c.2)).map FV:=(by rw[zH];rfl);show !{(cs.map λc=>(c.1,D.str c.2)),by rw[i],λp a=>{p,_,rfl,aa,_,rfl,_,.inr z,aa,rfl,S,.new a,?_}};have h1:=xl (cs.map λc=>(c.1,D.str c.2)) z;cases g:df (nN<|cs.map λc=>(c.1,D.str c.2)) (.inr z) with|none=>(rw[g]at h1;rw[AZ λm=>?_]at q;show q;let⟨c,hc,e⟩:=zh.mp m;have:(cs.map λc=>(c.1,D.str c.2)).any (λp=>ω<|p.1=z)=ϱ:=List.any_eq_true.mpr {_,zh.mpr ⟨c,hc,rfl⟩,zi e};rw[this]at h1;cases h1)|some d=>let⟨p,a,e1,rfl⟩:=pM _ _ g;let⟨c,hc,rfl⟩:=zh.mp a;have e1:c.1=z:=e1;rw[AY hg (k:=c.2)<|by rw[<-e1];show hc]at q;show q)|_=>cases h
set_option tactic.hygienic true in
def ET(T:Txt w K mg t):Ok P w base T.Ax 4 (λds S R z=>∃cs d,ds=[.tup<|cs.map aC,d]/\Gd cs/\Qd S 1 d/\R (.bl<|eJ cs d) S):=by
 show T.Ax.F.Jf EB ?_;rintro _ _ _ _ _ _ ds S R Z hr ⟨cs,d,e,hg,i,q⟩;subst e;let⟨k,hk⟩:=i.1.1;show{_,(sc (si (twd<|twor (cL<|tv<|cb cM T.ai ag<|al 1<|ac (oG T.bL bj) an)<|tw1<|bX jk `u (cb bC T.bw aU<|al 1 an) di) (s1<|sr db) s0)<|s1<|sr<|qA (cm qB `u (ba T.iF (jv T) hr<|al 0<|ac (ix `u (dv 1) di) an) dn)<|qA (ba T.Av (xE T) hr<|ac (ix `u (dv 1) di) an)<|FN<|ba T.Ew (Iw T) hr<|ac (ix `u (dv 1) di) an),?_};show !{_,_,_,_,rfl,aV,hk,_,rfl,?_};rcases iO hk with⟨ws,rfl,h0⟩|⟨h0,h1⟩;rw[h0];show bV !!!⟨?_⟩;show bY (λh=>?_) λh=>?_;have h:¬((ws.length:π):ν)=3:=zK<|nt h;have e:eJ cs (.tup ws)=ϰ:=by unfold eJ;split;rename_i e;cases e;show absurd rfl h;rfl
 rw[e]at q;show fo q;have h:((ws.length:π):ν)=3:=zj<|nf h;obtain⟨a,b,c,rfl⟩:∃a b c,ws=[a,b,c]:=by show acL<|by omega
 have g:=i.in.2;have q:R (.bl<|(!au (BM cs a))&&(ofStr gR b&&ofStr wD c)) S:=q;show !!!{cs,a,rfl,hg,g a<|`d,_,rfl,?_};show bY (λh=>?_) λh=>?_;have h:(!au (BM cs a))=ϱ:=h;rw[h,zP]at q;show !!{b,rfl,g b<|`d,_,rfl,?_};show bY (λh2=>?_) λh2=>?_;rw[h2,zP]at q;show !!{c,rfl,g c<|`d,fo q};rw[h2,zR]at q;show fo q;have h:(!au (BM cs a))=ϰ:=h;rw[h,zR]at q;show fo q;rw[h0];have e:eJ cs d=ϰ:=by unfold eJ;split;show absurd rfl<|h1 _;rfl
 rw[e]at q;show ck<|fo q
def acM(t:gu):ir:=λds S R Z=>∃cs d,ds=[.tup<|cs.map aC,d]/\Gd cs/\Qd S 3 d/\(j6 cs d=ϱ->R .ao S)/\(j6 cs d=ϰ->Z t.aA S)
set_option tactic.hygienic true in
def fP(T:Txt w K mg t):Ok P w base T.fB 5 (acM t):=by
 show T.fB.F.Jf iI ?_;rintro _ _ _ _ _ _ ds S R Z hr ⟨cs,d,e,hg,o,l,j⟩;subst e;let⟨k,hk⟩:=o.1.1;show{_,(sc (si (twd<|twor (cL<|tv<|cb cM T.ai ag<|al 1<|ac (oG T.bL bj) an)<|tw1<|bX jk `u (cb bC T.bw aU<|al 1 an) di) (s1<|oH ⟨T.dX⟩ T.fw<|ac ds an) s0)<|sc (dy (i:=2) iI.nd<|ix `u (dv 1) di)<|sc (si (twd<|twor (cL<|tv<|cb cM T.ai ag<|al 2<|ac (oG T.bL bj) an)<|tw1<|bX sF `u (cb bC T.bw aU<|al 2 an)<|dg (v:=.int 8) T.lP {_,rfl} λf=>bc _) (s1<|oH ⟨T.dX⟩ T.fw<|ac ds an) s0)<|sc (si (cL<|tv<|cb lI T.lR ip<|ac (v9 (N:=["part","columns"]) (src:=[none,some 0]) (kT (ae nA) ["columns","order","parts","names"] rfl rfl<|`c) (Ks<|dv 2) (sG<|show(["part","columns"]:δ ρ).Nodup by trivial) (bD rfl) bH (λf f f f f=>tm) λf f f f f=>(ba T.Ax (ET T) hr<|al 1<|al 0 an)) an) (s1<|oH ⟨T.dX⟩ T.fw<|ac ds an) s0)<|sc (Sm (i:=3) (N:=["part"]) (src:=[none]) iI.nd (kT (ae nA) ["columns","order","parts","names"] rfl rfl<|`c) (Ks<|dv 2) (sG<|show(["part"]:δ ρ).Nodup by trivial) (bD rfl) bH (λf f f f f=>tm) λf f f f f=>(ix `u (dv 0) di))<|sc (si (bX jk `u (lse (dv 3) T.bw T.K8)<|cb bC T.bw aU<|al 3 an) (s1<|oH ⟨T.dX⟩ T.fw<|ac ds an) s0)<|s1<|si (cL<|tv<|ba T.Av (xE T) hr<|ac (ix `u (dv 1) di) an) (s1<|oH ⟨T.dX⟩ T.fw<|ac ds an) s0),?_};show !{_,_,_,_,rfl,aV,hk,_,rfl,?_};rcases iO hk with⟨ws,rfl,h0⟩|⟨h0,h1⟩;rotate_left;rw[h0];show ck {fU,fo<|j ?_};unfold j6;split;show absurd rfl<|h1 _;rfl;rw[h0];show bV !!!⟨?_⟩;show bY (λh=>?_) λh=>?_;have h:¬((ws.length:π):ν)=2:=zK<|nt h;show{fU,fo<|j ?_};unfold j6;split;rename_i e;cases e;show absurd rfl h;rfl;have h:((ws.length:π):ν)=2:=zj<|nf h;obtain⟨x,y,rfl⟩:∃a b,ws=[a,b]:=by show LC<|by omega
 have s:=o.in.2 x `d;have H:=(o.in.2 y<|`d).gt;let⟨k2,r⟩:=s.gt.1;show !!!{_,_,_,_,rfl,aV,r,_,rfl,?_};rcases iO r with⟨ps,rfl,h2⟩|⟨h2,B⟩;rotate_left;rw[h2];show ck {fU,fo<|j ?_};unfold j6;split;rename_i e;cases e;show absurd rfl<|B _;rfl;rw[h2];show bV !!!⟨?_⟩;have l:(ω (ps.length<=8)&&(ps.all (eJ cs)&&(ω ((ps.map XW).Nodup)&&ofStr gR y)))=ϱ->R .ao S:=l;have j:(ω (ps.length<=8)&&(ps.all (eJ cs)&&(ω ((ps.map XW).Nodup)&&ofStr gR y)))=ϰ->Z t.aA S:=j;show bY (λh=>?_) λh=>?_;have h:(8:ν)<((ps.length:π):ν):=zj h;show{fU,fo<|j<|by rw[zf<|by omega];rfl};have h:¬(8:ν)<((ps.length:π):ν):=zK h;have A:ps.length<=8:=by omega
 rw[zi A,zP]at l j;show !{_,.inl rfl,?_};show comp_map (λd=>.bl<|eJ cs d) trivial (by change ps.length<=_;omega) (λd hd Q n=>?_) λp z=>?_;show !!{cs,d,rfl,hg,s.in.2 d hd,n};have C:ps.map (λd=>D.bl<|eJ cs d)=(ps.map<|eJ cs).map D.bl:=by rw[zH];rfl
 rw[show({ps,λf=>True}:HJ).xs=ps from rfl,C];show{.ref p,ps.map<|eJ cs,rfl,aa,_,rfl,?_};rw[show(ps.map<|eJ cs).all id=ps.all (eJ cs) from all_map];show bY (λha=>?_) λha=>?_;have ha:=nt ha;show{fU,S,.new z,j<|by rw[ha];rfl};have ha:=nf ha;rw[ha,zP]at l j;let⟨g,rfl⟩:=LH ha;rw[Qn]at l j;rw[zc]at A;show !{_,.inl rfl,?_};show comp_map (λd=>match d with|.tup (x::_)=>x|_=>.ao) trivial (by change(g.map p3).length<=_;rw[zc];omega) (λd hd Q n=>?_) λp2 G=>?_;let⟨p,E,rfl⟩:=zh.mp hd;show !!⟨n⟩;have e3:(g.map p3).map (λd=>match d with|.tup (x::_)=>x|_=>.ao)=(g.map Prod.fst).map D.str:=by rw[zH,zH];rfl
 rw[show({g.map p3,λf=>True}:HJ).xs=g.map p3 from rfl,e3];have m:=(Sub.new (c:=.lst<|((g.map p3).map<|eJ cs).map D.bl) z).trans<|.new (c:=.lst<|(g.map Prod.fst).map D.str) G;have q:((S.set p<|.lst<|((g.map p3).map<|eJ cs).map D.bl).set p2<|.lst<|(g.map Prod.fst).map D.str) p2=ϑ (.lst<|(g.map Prod.fst).map D.str):=aa;generalize (S.set p<|.lst<|((g.map p3).map<|eJ cs).map D.bl).set p2 (.lst<|(g.map Prod.fst).map D.str)=I at m q⊢;show !{g.map Prod.fst,q,by rw[zc];omega,_,rfl,_,rfl,.inl {_,q,_,rfl,?_}};have e4:ω ((((jY<|g.map Prod.fst).length:π):ν)=((((g.map Prod.fst).map D.str).length:π):ν))=ω ((g.map Prod.fst).Nodup):=by rw[yE,<-qx,zc];omega
 show bY (λhn=>?_) λhn=>?_;have hn:(!decide ((((jY<|g.map Prod.fst).length:π):ν)=((((g.map Prod.fst).map D.str).length:π):ν)))=ϱ:=hn;rw[e4]at hn;show{fU,S,m,j<|by rw[nt hn];rfl};have hn:(!decide ((((jY<|g.map Prod.fst).length:π):ν)=((((g.map Prod.fst).map D.str).length:π):ν)))=ϰ:=hn;rw[e4]at hn;rw[nf hn,zP]at l j;show !!{y,rfl,H.sub m,_,rfl,?_};show bY (λhw=>?_) λhw=>?_;show{fU,S,m,j<|nt hw};show{S,m,l<|nf hw}
def LI(o:ρ)(c:ρ×ρ)(v:D):Prop:=o ="is"\/(v≠.ao/\(o ="below"\/o ="above"\/(o ="begins"/\c.2 ="word")))
def Lf(cs:δ<|ρ×ρ)(d:D):Prop:=d=.tup [.str "every"]\/(∃ks:δ ρ,d=.tup [.str "key",.tup<|ks.map .str]/\ks.length<=8/\∀k∈ks,k∈KS)\/∃(o:ρ) (c:ρ×ρ) (v:D),c∈cs/\Vg c.2 v/\LI o c v/\d=.tup [.str o,.str c.1,v]
def Sg(cs:δ<|ρ×ρ):π->D->η|0,_=>False|n+1,d=>Lf cs d\/(∃e,d=.tup [.str "not",e]/\Sg cs n e)\/∃(o:ρ) (ds:δ D),(o ="and"\/o ="or")/\d=.tup [.str o,.tup ds]/\ds.length<=8/\∀e∈ds,Sg cs n e
def XX(h:Vg k v):Gt S v:=by have h:=h.2;cases v with|ao=>(show{{_,rfl},λz e=>by cases e})|int i=>(show{{_,rfl},λz e=>by cases e})|str z=>unfold iR at h;simp only[zT,yp]at h;show gt_str (by omega)|_=>cases h
noncomputable def Qo:D->δ D|.tup [.str o,.tup ds]=>(if o ="not" then[.tup ds] else if o ="and"\/o ="or" then ds else[])|.tup [.str o,e]=>(if o ="not" then[e] else[])|_=>[]
noncomputable def EU:π->D->π|0,_=>0|n+1,d=>((Qo d).map<|EU n).sum+1
def LJ(e:D):Qo (.tup [.str "not",e])=[e]:=by cases e<;>rfl
def Gx{o:ρ}(h:o ="and"\/o ="or")(ds:δ D):Qo (.tup [.str o,.tup ds])=ds:=by rcases h with rfl|rfl<;>rfl
def Sq(cs:δ<|ρ×ρ)(d:D):Prop:=Sg cs 7 d/\EU 7 d<=200
def XY(h:Vg k v):∀ws,v≠.tup ws:=by have h:=h.2;rintro ws rfl;cases h
noncomputable def Tz:D->χ|.tup es=>ω (es.length<=8)|_=>false
noncomputable def LK(cs:δ<|ρ×ρ)(o:ρ)(x v:D):Bool:=match BM cs x with|.str k=>dR k v&&(ω (o ="is")||((!(ω (o ="begins") && !decide (k ="word"))) && !au v))|_=>false
def so(T:Txt w K mg t):Ok P w base T.fJ 1 (AM Tz):=by
 show T.fJ.F.Jf px ?_;rintro _ _ _ _ _ _ ds S R Z hr ⟨d,e,⟨⟨k,hk⟩,hz⟩,q⟩;subst e;show{_,(s1<|sr<|qA (cb cM T.ai ag<|al 0<|ac (oG T.bL bj) an)<|FN<|cm lH `u (cb bC T.bw aU<|al 0 an)<|dg (v:=.int 8) T.nW {_,rfl} λz=>bc _),?_};show !{_,_,_,_,rfl,aV,hk,_,rfl,?_};rcases iO hk with⟨es,rfl,h0⟩|⟨h0,h1⟩;rw[h0];show ck !!⟨?_⟩;have e1:ω (((es.length:π):ν)<=8)=ω (es.length<=8):=by rw[yE];omega
 change Fo S (R<|.bl<|ω<|((es.length:π):ν)<=8);rw[e1];show fo q;have e:Tz d=ϰ:=by cases d with|tup es=>show absurd rfl (h1 _)|_=>rfl
 rw[e]at q;rw[h0];show bV<|fo q
def ON(cs:δ<|ρ×ρ)(x:D):(∃k,BM cs x=.str k)\/BM cs x=.ao:=by cases x with|str z=>(unfold BM;dsimp only;cases cs.find? (λc=>ω<|c.1=z) with|some c=>show .inl {_,rfl}|none=>show .inr rfl)|_=>show .inr rfl
def Qp:ir:=λds S R z=>∃cs o x v,ds=[.tup<|cs.map aC,.tup [.str o,x,v]]/\Gd cs/\Gt S x/\Gt S v/\R (.bl<|LK cs o x v) S
def u_(T:Txt w K mg t):Ok P w base T.l8 4 Qp:=by show T.l8.F.Jf l_ ?_;rintro _ _ _ _ _ _ ds S R Z hr ⟨cs,o,x,v,e,hg,hx,c,q⟩;subst e;show{_,(sc (dy (i:=2) l_.nd<|ba T.iF (jv T) hr<|al 0<|ac (ix `u (dv 1) di) an)<|sc (si (twd<|twor (bX v8 `u (dv 2) dn)<|tw1<|cL<|tv<|ba T.l5 (mj T) hr<|al 2<|ac (ix `u (dv 1) di) an) (s1<|sr db) s0)<|sc (si (bX bO `u (ix `u (dv 1) di) ds) (s1<|sr db) s0)<|sc (si (twd<|twand (bX bO `u (ix `u (dv 1) di) ds)<|tw1<|bX jk `u (dv 2) ds) (s1<|sr db) s0)<|s1<|sr<|cm qB `u (ix `u (dv 1) di) dn),?_};show !!!{cs,x,rfl,hg,hx,?_};unfold LK at q;rcases ON cs x with⟨k,e⟩|e;rw[e]at q⊢;have q:R (.bl<|dR k v&&(ω (o ="is")||((!(ω (o ="begins") && !decide (k ="word"))) && !au v))) S:=q;show !!⟨bV !!!{k,v,rfl,c,_,rfl,?_}⟩;show bY (λh=>?_) λh=>?_;rw[nt h,zR]at q;show fo q;rw[nf h,zP]at q;show !!!⟨?_⟩;show bY (λh1=>?_) λh1=>?_;have h1:ω (o ="is")=ϱ:=h1;rw[h1,Bool.true_or]at q;show fo q;have h1:ω (o ="is")=ϰ:=h1;rw[h1,yO]at q;show !!!⟨?_⟩;show bY (λh2=>?_) λh2=>?_;have h2:ω (o ="begins")=ϱ:=h2;rw[h2,zP]at q;show !!⟨?_⟩;show bY (λa=>?_) λa=>?_;have a:(!decide (k ="word"))=ϱ:=a;rw[a]at q;show fo q;have a:(!decide (k ="word"))=ϰ:=a;rw[a]at q;show !!⟨fo q⟩;have h2:ω (o ="begins")=ϰ:=h2;rw[h2]at q;show !!⟨fo q⟩;rw[e]at q⊢;show !!⟨ck<|fo q⟩
noncomputable def Qq:D->χ|.tup ks=>ks.all (ofStr fV)|_=>false
noncomputable def OO(cs:δ<|ρ×ρ)(o:ρ):δ D->χ|[x,v]=>LK cs o x v|_=>false
noncomputable def OP:δ D->χ|[k]=>Tz k&&Qq k|_=>false
noncomputable def XZ:δ D->χ|[x]=>Tz x|_=>false
def LL(n:ws.length≠2):OO cs o ws=ϰ:=by unfold OO;split;show absurd rfl n;rfl
def LM(n:ws.length≠1):OP ws=ϰ:=by unfold OP;split;show absurd rfl n;rfl
def Gy(n:ws.length≠1):XZ ws=ϰ:=by unfold XZ;split;show absurd rfl n;rfl
noncomputable def kY(cs:δ<|ρ×ρ):D->χ|.tup (.str o::ws)=>(if o ="every" then ω (ws.length=0) else if o ="is"\/o ="below"\/o ="above"\/o ="begins" then OO cs o ws else if o ="key" then OP ws else if o ="not" then ω (ws.length=1) else if o ="and"\/o ="or" then XZ ws else false)|_=>false
noncomputable def subs:D->δ D|.tup [.str o,x]=>(if o ="not" then[x] else if o ="and"\/o ="or" then (match x with|.tup es=>es|_=>[]) else[])|_=>[]
def vc(o:ρ):o ="every"\/(o ="is"\/o ="below"\/o ="above"\/o ="begins")\/o ="key"\/o ="not"\/(o ="and"\/o ="or")\/(o≠"every"/\¬(o ="is"\/o ="below"\/o ="above"\/o ="begins")/\o≠"key"/\o≠"not"/\¬(o ="and"\/o ="or")):=by by_cases h1:o ="every";show .inl h1;by_cases h2:o ="is"\/o ="below"\/o ="above"\/o ="begins";show .inr<|.inl h2;by_cases a:o ="key";show .inr<|.inr<|.inl a;by_cases c:o ="not";show .inr<|.inr<|.inr<|.inl c;by_cases d:o ="and"\/o ="or";show .inr<|.inr<|.inr<|.inr<|.inl d;show .inr<|.inr<|.inr<|.inr<|.inr ⟨h1,h2,a,c,d⟩
def vd(cs:δ<|ρ×ρ)(ws:δ D):kY cs (.tup<|.str "every":: ws)=ω (ws.length=0):=by unfold kY;dsimp only;rw[qe rfl]
def LN{o:ρ}(h:o ="is"\/o ="below"\/o ="above"\/o ="begins")(ws:δ D):kY cs (.tup<|.str o::ws)=OO cs o ws:=by unfold kY;dsimp only;rw[qb<|by rcases h with rfl|rfl|rfl|rfl<;>decide,qe h]
def EV(cs:δ<|ρ×ρ)(ws:δ D):kY cs (.tup<|.str "key":: ws)=OP ws:=by unfold kY;dsimp only;rw[qb<|`a,qb<|`a,qe rfl]
def A1(cs:δ<|ρ×ρ)(ws:δ D):kY cs (.tup<|.str "not":: ws)=ω (ws.length=1):=by unfold kY;dsimp only;rw[qb<|`a,qb<|`a,qb<|`a,qe rfl]
def A4{o:ρ}(h:o ="and"\/o ="or")(ws:δ D):kY cs (.tup<|.str o::ws)=XZ ws:=by unfold kY;dsimp only;rw[qb<|by rcases h with rfl|rfl<;>decide,qb<|by rcases h with rfl|rfl<;>decide,qb<|by rcases h with rfl|rfl<;>decide,qb<|by rcases h with rfl|rfl<;>decide,qe h]
def EW{o:ρ}(h:o≠"every"/\¬(o ="is"\/o ="below"\/o ="above"\/o ="begins")/\o≠"key"/\o≠"not"/\¬(o ="and"\/o ="or"))(ws:δ D):kY cs (.tup<|.str o::ws)=ϰ:=by unfold kY;dsimp only;rw[qb h.1,qb h.2.1,qb h.2.2.1,qb h.2.2.2.1,qb h.2.2.2.2]
def LO{o:ρ}(h:o≠"every"/\¬(o ="is"\/o ="below"\/o ="above"\/o ="begins")/\o≠"key"/\o≠"not"/\¬(o ="and"\/o ="or")): ([("every",.int 1),("is",.int 3),("below",.int 3),("above",.int 3),("begins",.int 3),("key",.int 2),("not",.int 2),("and",.int 2),("or",.int 2)]:δ (ρ×V)).lookup o=ϐ:=by let⟨h1,h2,d,e,c⟩:=h;simp only[not_or]at h2 c;have f:∀{a:ρ},o≠a->(o==a)=ϰ:=λh=>beq_false_of_ne h;rw[zL,f h1,zL,f h2.1,zL,f h2.2.1,zL,f h2.2.2.1,zL,f h2.2.2.2,zL,f d,zL,f e,zL,f c.1,zL,f c.2];rfl
theorem TB(q:R (.bl true) S):MJ true .ao (.int i) S R:={.none,.int i,by simp only[Dl,Dp],by simp only[Dl,Dp],by simp only[PyData.canLay0],by simp only[PyData.canLay0],.inl<|by simp only[PyData.depth];lia,q}
theorem X0(h:R (.int es.length) S):Kj S R (.tup es):=h
def tj(x:D)(ws:δ D):tV (x::ws) 0=ϑ x:=by unfold tV JD;rw[qe<|Int.le_refl 0];change(if (0:ν)<(((x::ws).length:π):ν) then some (0:ν).toNat else none).bind _=_;rw[qe<|by rw[zG];lia];rfl
set_option tactic.hygienic true in
def A5(T:Txt w K mg t):Ok P w base T.rf 5 (λds S R f=>∃cs d,ds=[.tup<|cs.map aC,d]/\Gd cs/\Qd S 2 d/\R (.bl<|kY cs d) S):=by
 show T.rf.F.Jf AF ?_;rintro _ _ _ _ _ _ ds S R Z hr ⟨cs,d,e,hg,r,q⟩;subst e;let⟨k,hk⟩:=r.gt.1;show{_,(sc (si (twd<|twor (cL<|tv<|cb cM T.ai ag<|al 1<|ac (oG T.bL bj) an)<|twor (bX bO `u (cb bC T.bw aU<|al 1 an) di)<|tw1<|cL<|tv<|cb cM T.ai ag<|ac (ix `u (dv 1) di)<|ac (oG T.lS iq) an) (s1<|sr db) s0)<|sc (si (bX jk `u (mgk T.qP `a (gK T.pf)<|ix `u (dv 1) di)<|cb bC T.bw aU<|al 1 an) (s1<|sr db) s0)<|sc (si (bX BR `u (ix `u (dv 1) di)<|aF<|ac ds<|ac ds<|ac ds<|ac ds an) (s1<|sr<|ba T.l8 (u_ T) hr<|al 0<|al 1 an) s0)<|sc (si (bX bO `u (ix `u (dv 1) di) ds) (s1<|sr<|qA (ba T.fJ (so T) hr<|ac (ix `u (dv 1) di) an)<|FN<|cb lI T.lR ip<|ac (v9 (N:=["key"]) (src:=[none]) (kT (ae Cb) ["columns","thing"] rfl rfl<|`c) (Ks<|ix `u (dv 1) di) (sG<|show(["key"]:δ ρ).Nodup by trivial) (bD rfl) bH (λf f f f f=>tm) λf f f f f=>(ba T.og (jO T) hr<|al 0 an)) an) s0)<|sc (si (bX BR `u (ix `u (dv 1) di)<|aF<|ac ds<|ac ds an) (s1<|sr<|ba T.fJ (so T) hr<|ac (ix `u (dv 1) di) an) s0)<|s1<|sr db),?_};show !{_,_,_,_,rfl,aV,hk,_,rfl,?_};rcases iO hk with⟨ws,rfl,h0⟩|⟨h0,h1⟩;rotate_left;rw[h0];have e:kY cs d=ϰ:=by unfold kY;split;show absurd rfl<|h1 _;rfl
 rw[e]at q;show ck<|fo q;rw[h0];show bV !!!⟨?_⟩;cases ws with|nil=>show wC rfl (fo q)|cons x ws =>
 have B:ω ((((x::ws).length:π):ν)=0)=ϰ:=zf (by rw[zG];lia);show fg B ?_;have g:=r.in.2;let⟨k2,j⟩:=(g x<|`d).gt.1;show !{_,tj x ws,_,_,_,_,rfl,dw,j,_,rfl,?_};rcases mi j with⟨o,rfl,h2⟩|⟨h2,s⟩;rotate_left;rw[h2];have e:kY cs (.tup<|x::ws)=ϰ:=by unfold kY;split;rename_i e;cases e;have:=s λf=>true;cases this;rfl
 rw[e]at q;show ck<|fo q;rw[h2];show bV ?_;have c:=wx;have i:=gE;rcases vc o with rfl|h|rfl|rfl|h|h;rw[vd]at q;show !{_,tj _ ws,_,rfl,_,rfl,_,rfl,_,rfl,?_};show bY (λh=>?_) λh=>?_;have h:¬(1:ν)=(((D.str "every":: ws).length:π):ν):=zK<|nt h;rw[zG]at h;rw[zf<|`b]at q;show fo q;have h:(1:ν)=(((D.str "every":: ws).length:π):ν):=zj<|nf h;rw[zG]at h;rw[zi<|`b]at q;show !{_,tj _ ws,c,rfl,rfl,_,rfl,fg `c !{_,tj _ ws,_,rfl,fg `c !{_,tj _ ws,i,rfl,rfl,_,rfl,fg `c<|fo q}}};rw[LN h]at q;have a:∀{x v:D},ws=[x,v]->Qp [.tup<|cs.map aC,.tup [.str o,x,v]] S (λd S'=>Fo S'<|R d) (λC S'=>Fo S'<|Z C):=by rintro x v rfl;show{cs,o,x,v,rfl,hg,(g x<|`d).gt,(g v<|`d).gt,fo q}
 have bad:ws.length≠2->R (.bl false) S:=λn=>by rw[LL n]at q;show q
 rcases h with rfl|rfl|rfl|rfl<;>show !{_,tj _ ws,_,rfl,_,rfl,_,rfl,_,rfl,bY (λh=>fo<|bad λz=>zK (nt h)<|by rw[zG,z];rfl) λh=>(by let⟨x,v,rfl⟩:=LC (l:=ws) (by have h:=zj<|nf h;rw[zG]at h;lia);show !!{c,rfl,rfl,_,rfl,wC `c !!⟨a rfl⟩})};rw[EV]at q;show !{_,tj _ ws,_,rfl,_,rfl,_,rfl,_,rfl,bY (λh=>?_) λh=>?_};have h:¬(2:ν)=(((D.str "key":: ws).length:π):ν):=zK<|nt h;rw[zG]at h;rw[LM<|`b]at q;show fo q;have h:(2:ν)=(((D.str "key":: ws).length:π):ν):=zj<|nf h;rw[zG]at h;let⟨x,rfl⟩:=LB (l:=ws) `b;have q:R (.bl<|Tz x&&Qq x) S:=q;have m:=g x `d;show !!{c,rfl,rfl,_,rfl,fg `c !!!⟨wC `c ?_⟩};show !!{x,rfl,m.gt,_,rfl,bY (λh=>?_) λh=>?_};rw[h,zP]at q;obtain⟨ks,rfl⟩:∃ks,x=.tup ks:=by cases x<;>first|show{_,rfl}|cases h
 have E:ks.length<=8:=zj h;show !!{_,.inl rfl,?_};show comp_map (λd=>.bl<|ofStr fV d) trivial (by change ks.length<=1000;lia) (λd hd Q y=>?_) λp A=>?_;show !{d,rfl,m.in.2 d hd,y};have e2:ks.map (λd=>D.bl<|ofStr fV d)=(ks.map<|ofStr fV).map D.bl:=by rw[zH];rfl
 show{.ref p,ks.map<|ofStr fV,rfl,?_,S,.new A,?_};change(S.set p<|.lst<|ks.map _) p=_;rw[aa,e2];rw[all_map];show q;rw[h,zR]at q;show fo q;rw[A1]at q;show !{_,tj _ ws,_,rfl,_,rfl,_,rfl,_,rfl,?_};show bY (λh=>?_) λh=>?_;have h:¬(2:ν)=(((D.str "not":: ws).length:π):ν):=zK<|nt h;rw[zG]at h;rw[zf<|`b]at q;show fo q;have h:(2:ν)=(((D.str "not":: ws).length:π):ν):=zj<|nf h;rw[zG]at h;rw[zi<|`b]at q;show !{_,tj _ ws,c,rfl,rfl,_,rfl,fg `c !{_,tj _ ws,_,rfl,fg `c !{_,tj _ ws,i,rfl,rfl,_,rfl,fg `c<|fo q}}};rw[A4 h]at q;have a:∀{x:D},ws=[x]->AM Tz [x] S (λd S'=>Fo S'<|R d) (λC S'=>Fo S'<|Z C):=by rintro x rfl;show{x,rfl,(g x<|`d).gt,fo q}
 have bad:ws.length≠1->R (.bl false) S:=λn=>by rw[Gy n]at q;show q
 rcases h with rfl|rfl<;>show !{_,tj _ ws,_,rfl,_,rfl,_,rfl,_,rfl,bY (λh=>fo<|bad λz=>zK (nt h)<|by rw[zG,z];rfl) λh=>(by let⟨x,rfl⟩:=LB (l:=ws) (by have h:=zj<|nf h;rw[zG]at h;lia);show !!{c,rfl,rfl,_,rfl,fg `c !!!⟨fg `c !!{i,rfl,rfl,_,rfl,wC `c !!⟨a rfl⟩}⟩})};rw[EW h]at q;show !{_,tj _ ws,_,rfl,?_};rw[LO h];show !!⟨X0<|TB !⟨ck<|fo q⟩⟩
set_option tactic.hygienic true in
def CK{cs:δ<|ρ×ρ}{e:D}(h:kY cs e=ϱ):(∃(o:ρ) (ws:δ D),e=.tup (.str o::ws)/\o≠"not"/\¬(o ="and"\/o ="or")/\subs e=[])\/(∃x,e=.tup [.str "not",x])\/∃(o:ρ) (es:δ D),(o ="and"\/o ="or")/\e=.tup [.str o,.tup es]/\es.length<=8:=by
 have c:=h;unfold kY at c;split at c;rename_i o ws;clear c;have g:o≠"not"->¬(o ="and"\/o ="or")->subs (.tup<|.str o::ws)=[]:=λa d=>by unfold subs;split;rename_i e;cases e;rw[qb a,qb d];rfl
 rcases vc o with rfl|ho|rfl|rfl|ho|ho;show .inl {_,ws,rfl,`a,`a,g `a<|`a};have a:o≠"not":=by rcases ho with rfl|rfl|rfl|rfl<;>decide
 have d:¬(o ="and"\/o ="or"):=by rcases ho with rfl|rfl|rfl|rfl<;>decide
 show .inl {o,ws,rfl,a,d,g a d};show .inl {_,ws,rfl,`a,`a,g `a<|`a};rw[A1]at h;let⟨x,rfl⟩:=LB<|zj h;show .inr<|.inl ⟨x,rfl⟩;rw[A4 ho]at h;have hl:ws.length=1:=Decidable.byContradiction λn=>by rw[Gy n]at h;cases h
 let⟨x,rfl⟩:=LB hl;have h:Tz x=ϱ:=h;obtain⟨es,rfl⟩:∃es,x=.tup es:=by cases x<;>first|show{_,rfl}|cases h
 show .inr<|.inr {o,es,ho,rfl,zj h};rw[EW ho]at h;cases h;cases c
def jT{o:ρ}(h:o ="and"\/o ="or")(es:δ D):subs (.tup [.str o,.tup es])=es:=by unfold subs;dsimp only;rw[qb<|by rcases h with rfl|rfl<;>decide,qe h]
def pN(x:D):subs (.tup [.str "not",x])=[x]:=by unfold subs;dsimp only;rw[qe rfl]
def LP(h:kY cs e=ϱ):(subs e).length<=8:=by rcases CK h with⟨_,_,_,_,_,h⟩|⟨x,rfl⟩|⟨o,es,ho,rfl,hl⟩;rw[h];show yf _;rw[pN];simp;rw[jT ho];show hl
def LQ{cs:δ<|ρ×ρ} : ∀{es:δ D},(∀e∈es,kY cs e=ϱ)->(es.flatMap subs).length<=8*es.length:=by intro es;induction es with|nil=>show λz=>zp _|cons e es a=>intro h;rw[List.flatMap_cons,zw,zG];have:=LP<|h e zD;have:=a λx hx=>h x<|zk _ hx;lia
def Iy{es:δ D}{i:π}{e:D}(h:es[i]?=some e):(es.take<|i+1).flatMap subs=(es.take i).flatMap subs++subs e:=by rw[take_snoc h,List.flatMap_append,List.flatMap_cons,List.flatMap_nil,yG]
def rC(T:Txt w K mg t):Ok P w base T.jo 1 (λds S R k=>∃l es cs,ds=[.ref l]/\S l=ϑ (.lst es)/\es.length<=200/\(∀e∈es,kY cs e=ϱ)/\∀p,S p=ϐ->R (.ref p) (S.set p<|.lst<|es.flatMap subs)):=by
 show T.jo.F.Jf gf ?_;rintro _ _ _ _ _ _ ds S R Z hr ⟨l,es,cs,e,hl,C,v,q⟩;subst e;show{_,(sc (dy (i:=1) gf.nd<|bG an)<|sc (Jd<|P2 (il<|dv 0) (gn (i:=2) gf.nd)<|sc (Jd<|si (bX bO `u (ix `u (dv 2) di) ds) (s1<|se<|bm zS yd ye fF (dv 1)<|ac (ix `u (dv 2) di) an) s0)<|s1<|si (bX BR `u (ix `u (dv 2) di)<|aF<|ac ds<|ac ds an) (s1<|se<|bm zS PySem.F.slot_list_extend PySem.F.type_list_extend HM (dv 1)<|ac (ix `u (dv 2) di) an) s0)<|s1<|sr<|dv 1),?_};show{wu,λf y=>?_};have s:l≠f:=jx hl y;have m:=gE;show{λg S'=>∃o,g=[some<|.ref l,some<|.ref f,o]/\S'=S.set f (.lst<|es.flatMap subs),?_,?_};show !{es,(ah s).trans hl,?_};show{λi g S'=>∃o,g=[some<|.ref l,some<|.ref f,o]/\S'=S.set f (.lst<|(es.take i).flatMap subs),⟨none,rfl,rfl⟩,?_,?_,?_};rintro i g S' ⟨o,rfl,rfl⟩;show(ah s).trans hl;rintro i e g S' j ⟨o,rfl,rfl⟩;have j:es[i]?=some e:=j;have n:=v e<|zI j;have hi:i<es.length:=(zu.mp j).1;have B:((es.take i).flatMap subs).length<=1600:=by have:=LQ (cs:=cs) (es:=es.take i) λx hx=>v x<|List.mem_of_mem_take hx;rw[yc]at this;lia
 have more:∃o,[some<|D.ref l,some<|D.ref f,some e]=[some<|.ref l,some<|.ref f,o]/\S.set f (.lst<|(es.take i).flatMap subs++subs e)=S.set f (.lst<|(es.take<|i+1).flatMap subs):=!⟨by rw[Iy j]⟩;generalize (es.take i).flatMap subs=fs at B more⊢;have h:(S.set f<|.lst fs) f=ϑ (.lst fs):=aa;rcases CK n with⟨o,ws,rfl,z,r,hs⟩|⟨x,rfl⟩|⟨o,xs,ho,rfl,A⟩;rw[hs,yG]at more;show{λa d=>a=_/\d=S.set f (.lst fs),!{_,tj _ ws,_,rfl,fg (zf z)<|fo ⟨rfl,rfl⟩},?_};rintro _ _ ⟨rfl,rfl⟩;show !{_,tj _ ws,m,rfl,rfl,_,rfl,fg ?_ more};simp only[not_or]at r;simp[C8,lg,eqV,Ne.symm r.1,Ne.symm r.2];rw[pN]at more;show{λa d=>a=_/\d=S.set f (.lst<|fs++[x]),!!!⟨wC `c !⟨{rfl,_,h},_,rfl,_,rfl,f,_,_,rfl,rfl,h,by rw[zZ];lia,fo ⟨rfl,fu⟩⟩⟩,?_};rintro _ _ ⟨rfl,rfl⟩;show !!{m,rfl,rfl,_,rfl,fg `c more};rw[jT ho]at more;rw[<-fu (c:=.lst fs)]at more;rcases ho with rfl|rfl;show{λa d=>a=_/\d=S.set f (.lst fs),!!!⟨fg `c<|fo ⟨rfl,rfl⟩⟩,?_};rintro _ _ ⟨rfl,rfl⟩;show !!{m,rfl,rfl,_,rfl,wC `c !⟨{rfl,_,h},_,rfl,_,rfl,f,_,_,rfl,rfl,h,by rw[zZ];lia,more⟩};show{λa d=>a=_/\d=S.set f (.lst fs),!!!⟨fg `c<|fo ⟨rfl,rfl⟩⟩,?_};rintro _ _ ⟨rfl,rfl⟩;show !!{m,rfl,rfl,_,rfl,wC `c !⟨{rfl,_,h},_,rfl,_,rfl,f,_,_,rfl,rfl,h,by rw[zZ];lia,more⟩};rintro g S' ⟨o,rfl,rfl⟩;show fo {o,rfl,by rw[List.take_length]};rintro g S' ⟨o,rfl,rfl⟩;show{_,rfl,fo<|q f y}
noncomputable def tI(cs:δ<|ρ×ρ):π->π->δ D->χ|0,_,es=>ω (es.length=0)|n+1,p,es=>if es.length=0 then true else ω (p+es.length<=200)&&(es.all (kY cs)&&tI cs n (p+es.length) (es.flatMap subs))
def LR(cs:δ<|ρ×ρ)(n p:π):tI cs n p []=ϱ:=by cases n<;>rfl
set_option tactic.hygienic true in
def QA.subs(h:QA S d):∀e∈subs d,QA S e:=by intro e a;unfold My.subs at a;split at a;rename_i o x;have hx:QA S x:=h.in `d;split at a;rw[zx.mp a];show hx;split at a;split at a;show hx.in a;cases a;cases a;cases a
def acN(t:gu):ir:=λds S R Z=>∃cs d,ds=[.tup<|cs.map aC,d]/\Gd cs/\QA S d/\(tI cs 8 0 [d]=ϱ->R .ao S)/\(tI cs 8 0 [d]=ϰ->Z t.az S)
def mx(T:Txt w K mg t):Ok P w base T.ja 6 (acN t):=by
 show T.ja.F.Jf cH ?_;rintro _ _ _ _ _ _ ds S R Z hr ⟨cs,d,e,hg,hd,B,q⟩;subst e;obtain⟨b,A⟩:∃b,tI cs 8 0 [d]=b:={_,rfl};rw[A]at B q;have r:=fU;show{_,(sc (dy (i:=2) cH.nd<|bG<|al 1 an)<|sc (dy (i:=3) cH.nd di)<|sc (dy (i:=4) cH.nd di)<|s1<|swh (bX sF `u (cb bC T.bw aU<|al 2 an) di)<|sc (sau (i:=3) cH.nd di)<|sc (sau (i:=4) cH.nd<|cb bC T.bw aU<|al 2 an)<|sc (si (twd<|twor (bX sF `u (dv 3)<|dg (v:=.int 8) T.Ah {_,rfl} λk=>bc _)<|tw1<|bX sF `u (dv 4)<|dg (v:=.int 200) T.lQ {_,rfl} λk=>bc _) (s1<|oH ⟨T.iD⟩ T.lU<|ac ds an) s0)<|sc (si (cL<|tv<|cb lI T.lR ip<|ac (v9 (N:=["thing","columns"]) (src:=[none,some 0]) (kT (ae wb) ["columns","sieve","level","deep","parts"] rfl rfl<|`c) (il<|dv 2) (sG<|show(["thing","columns"]:δ ρ).Nodup by trivial) (bD rfl) bH (λk k k k k=>tm) λk k k k k=>(ba T.rf (A5 T) hr<|al 1<|al 0 an)) an) (s1<|oH ⟨T.iD⟩ T.lU<|ac ds an) s0)<|s1<|dy (i:=2) cH.nd<|ba T.jo (rC T) hr<|al 2 an),?_};show !{fU,λE J=>?_};show{λm C S'=>∃(l:ε) (es:δ D) (dp p:π),C=[some<|.tup<|cs.map aC,some d,some<|.ref l,some<|.int dp,some<|.int p]/\S' l=ϑ (.lst es)/\Sub S S'/\(∀e∈es,QA S e)/\dp+m=8/\tI cs m p es=b,{8,E,[d],0,0,rfl,aa,.new J,λe o=>by rw[zx.mp o];show hd,rfl,A},?_};rintro m C S' ⟨l,es,dp,p,rfl,hl,h,s,L,a⟩;show !!⟨.inl {_,hl,_,rfl,?_}⟩;show bY (λh1=>?_) λh1=>?_;have sD:0<es.length:=by have h1:(0:ν)<((es.length:π):ν):=zj h1;lia
 show !!!!!⟨.inl {_,hl,_,rfl,?_}⟩;show !!⟨bY (λh2=>?_) λh2=>?_⟩;have h2:(8:ν)<((dp:π):ν)+1:=zj h2;obtain rfl:m=0:=`b
 show{r,S,h,q ?_};rw[<-a];show zf `b;have h2:¬(8:ν)<((dp:π):ν)+1:=zK h2;obtain⟨n,rfl⟩:∃n,m=n+1:={m-1,`b};unfold tI at a;rw[qb<|`b]at a;show !!⟨bY (λj=>?_) λj=>?_⟩;have j:(200:ν)<((p:π):ν)+((es.length:π):ν):=zj j;show{r,S,h,q ?_};rw[<-a,zf<|`b];rfl;have j:¬(200:ν)<((p:π):ν)+((es.length:π):ν):=zK j;rw[zi<|`b,zP]at a;show !{es,hl,?_};show comp_map (λe=>.bl<|kY cs e) hl (by change es.length<=1000;lia) (λe o Q G=>?_) λy z=>?_;show !!{cs,e,rfl,hg,(s e o 2).sub h,G};have e2:es.map (λe=>D.bl<|kY cs e)=(es.map<|kY cs).map D.bl:=by rw[zH];rfl
 rw[show({es,λS=>yY S (.ref l) es}:HJ).xs=es from rfl,e2];have s1:=h.trans<|.new (c:=.lst<|(es.map<|kY cs).map D.bl) z;show{.ref y,es.map<|kY cs,rfl,aa,_,rfl,?_};rw[show(es.map<|kY cs).all id=es.all (kY cs) from all_map];show bY (λg=>?_) λg=>?_;show{r,S,s1,q ?_};rw[<-a,nt g];rfl;have g:=nf g;rw[g,zP]at a;have H:(S'.set y<|.lst<|(es.map<|kY cs).map D.bl) l=ϑ (.lst es):=(ah<|jx hl z).trans hl;show !{l,es,cs,rfl,H,`b,yn.mp g,λp2 M=>?_};show{n,Nat.lt_succ_self n,p2,es.flatMap subs,dp+1,p+es.length,?_,aa,s1.trans<|.new M,λx hx=>?_,`b,a};change[_,_,_,some<|D.int<|((dp:π):ν)+1,some<|D.int<|((p:π):ν)+((es.length:π):ν)]=_;rw[show(((dp:π):ν)+1)=((dp+1:π):ν) by lia,show(((p:π):ν)+((es.length:π):ν))=((p+es.length:π):ν) by lia];let⟨e,o,hx⟩:=List.mem_flatMap.mp hx;show(s e o).subs x hx;have h1:¬(0:ν)<((es.length:π):ν):=zK h1;have I:es=[]:=List.eq_nil_of_length_eq_zero `b;rw[I,LR]at a;show{S,h,B a.symm}
noncomputable def TC(cs:δ<|ρ×ρ)(z:ρ):Nat:=(cs.map Prod.fst).idxOf z
noncomputable def aJ(cs:δ<|ρ×ρ)(ws:δ D)(z:ρ):D:=(ws[TC cs z]?).getD .ao
noncomputable def aI(r:ρ×δ D):D:=.tup [.str r.1,.tup r.2]
theorem ve:∀{l:δ α}{m:δ β},Paired rel l m->∀{i:π}{a:α},l[i]?=some a->∃b,m[i]?=some b/\rel a b|_,_,.nil,_,_,h=>by simp at h|_,_,.cons r t,0,a,h=>(by rw[List.getElem?_cons_zero]at h⊢;cases h;show{_,rfl,r})|_,_,.cons r t,i+1,a,h=>by rw[List.getElem?_cons_succ]at h⊢;show ve t h
def A6(hg:Gd cs)(h:c∈cs):cs[TC cs c.1]?=some c/\(cs.map Prod.fst)[TC cs c.1]?=some c.1:=by
 have hm:c.1∈cs.map Prod.fst:=zh.mpr ⟨c,h,rfl⟩;have hi:(cs.map Prod.fst).idxOf c.1<(cs.map Prod.fst).length:=List.idxOf_lt_length_of_mem hm;have e1:(cs.map Prod.fst)[(cs.map Prod.fst).idxOf c.1]?=some c.1:=by rw[zg hi,List.getElem_idxOf]
 show{?_,e1};let⟨j,d⟩:=List.getElem?_of_mem h;have a:(cs.map Prod.fst)[j]?=some c.1:=by rw[zA,d];rfl
 let⟨b1,e⟩:=zu.mp e1;let⟨b2,g⟩:=zu.mp a;have:=(List.getElem_inj hg.2.1 (h₀:=b1) (h₁:=b2)).mp<|e.trans g.symm;unfold TC;rw[this];show d
def A7(hg:Gd cs)(hw:Wg cs ws)(h:c∈cs):ws[TC cs c.1]?=some (aJ cs ws c.1)/\Vg c.2 (aJ cs ws c.1):=by let⟨v,e,r⟩:=ve hw (A6 hg h).1;unfold aJ;rw[e];show⟨rfl,r⟩
noncomputable def xG:D->D->χ|.ao,.ao=>true|.int i,.int j=>ω (i=j)|.str i,.str j=>ω (i=j)|_,_=>false
def mO(ha:iR a=ϱ)(c:iR b=ϱ):xG a b=ϱ↔a=b:=by cases a<;>cases b<;>first|(cases ha;done)|(cases c;done)|simp[xG]
def LS(ha:iR a=ϱ)(d:iR b=ϱ)(q:R (.bl<|if neg then !xG a b else xG a b) S):MJ neg a b S R:=by
 have c:∀{a b:D},iR a=ϱ->iR b=ϱ->(∀p q,Dp S a p->Dp S b q->PyData.eqv p q=xG a b)->(∀i j,a=.int i->b≠.int j)->(∀i j,a=.str i->b≠.str j)->R (.bl<|if neg then !xG a b else xG a b) S->MJ neg a b S R:=by intro a b ha d h h1 h2 q;let⟨p,g,p2,p3⟩:=Ly.plain (S:=S) ha;let⟨r,l,o,v⟩:=Ly.plain (S:=S) d;have e:=h p r g l;let⟨t,m,n,s⟩:=Ly.dl<|Ly.plain (S:=S) ha;cases a<;>cases b<;>first|(cases ha;done)|(cases d;done)|show absurd rfl (h1 _ _ rfl)|show absurd rfl (h2 _ _ rfl)|show{p,r,g,l,p2,o,.inl<|`b,by rw[e];show q}
 cases a with|ao=>(cases b with|ao=>show c ha d (λp q h1 h2=>by simp only[Dp]at h1 h2;subst h1 h2;rfl) nofun nofun q|int j=>show c ha d (λp q h1 h2=>by simp only[Dp]at h1 h2;subst h1 h2;rfl) nofun nofun q|str j=>show c ha d (λp q h1 h2=>by simp only[Dp]at h1 h2;subst h1 h2;rfl) nofun nofun q|_=>cases d)|int i=>(cases b with|ao=>show c ha d (λp q h1 h2=>by simp only[Dp]at h1 h2;subst h1 h2;rfl) nofun nofun q|int j=>show q|str j=>show c ha d (λp q h1 h2=>by simp only[Dp]at h1 h2;subst h1 h2;rfl) nofun nofun q|_=>cases d)|str i=>(cases b with|ao=>show c ha d (λp q h1 h2=>by simp only[Dp]at h1 h2;subst h1 h2;rfl) nofun nofun q|int j=>show c ha d (λp q h1 h2=>by simp only[Dp]at h1 h2;subst h1 h2;rfl) nofun nofun q|str j=>show q|_=>cases d)|_=>cases ha
noncomputable def MQ:D->D->χ|.int i,.int j=>ω (i<j)|.str i,.str j=>C9 i j|_,_=>false
noncomputable def stP:D->D->χ|.str i,.str j=>PySem.Txt.startswith i j|_,_=>false
noncomputable def Gz(o:ρ)(a b:D):Bool:=if o ="is" then xG a b else if au a then false else if o ="below" then MQ a b else if o ="above" then MQ b a else stP a b
noncomputable def Iz:D->δ D|.tup ds=>ds|_=>[]
noncomputable def X1(cs:δ<|ρ×ρ)(r:ρ×δ D)(f:D->χ):D->χ|.tup [.str _]=>true|.tup [.str o,e]=>(if o ="not" then !f e else if o ="key" then C8 (lg<|.str r.1) ((Iz e).map lg) else if o ="and" then (Iz e).all f else (Iz e).any f)|.tup [.str o,.str z,v]=>Gz o (aJ cs r.2 z) v|_=>false
noncomputable def dq(cs:δ<|ρ×ρ)(r:ρ×δ D):π->D->χ|0,_=>false|n+1,d=>X1 cs r (dq cs r n) d
theorem GA(cs:δ<|ρ×ρ)(r:ρ×δ D)(n:π)(o:ρ)(e:D):dq cs r (n+1) (.tup [.str o,e])=if o ="not" then !dq cs r n e else if o ="key" then C8 (lg<|.str r.1) ((Iz e).map lg) else if o ="and" then (Iz e).all (dq cs r n) else (Iz e).any (dq cs r n):=rfl
theorem X2(cs:δ<|ρ×ρ)(r:ρ×δ D)(n:π)(o z:ρ)(v:D):dq cs r (n+1) (.tup [.str o,.str z,v])=Gz o (aJ cs r.2 z) v:=rfl
def LU(cs:δ<|ρ×ρ)(r:ρ×δ D)(n:π)(ks:δ D):dq cs r (n+1) (.tup [.str "key",.tup ks])=C8 (lg<|.str r.1) (ks.map lg):=by rw[GA,qb<|`c,qe rfl];rfl
def LV(cs:δ<|ρ×ρ)(r:ρ×δ D)(n:π)(e:D):dq cs r (n+1) (.tup [.str "not",e])=!dq cs r n e:=by rw[GA,qe rfl]
def LW(cs:δ<|ρ×ρ)(r:ρ×δ D)(n:π)(es:δ D):dq cs r (n+1) (.tup [.str "and",.tup es])=es.all (dq cs r n):=by rw[GA,qb<|`c,qb<|`c,qe rfl];rfl
def OQ(cs:δ<|ρ×ρ)(r:ρ×δ D)(n:π)(es:δ D):dq cs r (n+1) (.tup [.str "or",.tup es])=es.any (dq cs r n):=by rw[GA,qb<|`c,qb<|`c,qb<|`c];rfl
def EX{k:ρ}(ha:Vg k a)(g:Vg k b)(h:a≠.ao)(d:b≠.ao):(∃i j,a=.int i/\b=.int j)\/∃i j,a=.str i/\b=.str j:=by let⟨c,l⟩:=ha;let⟨b1,b2⟩:=g;cases a with|ao=>show absurd rfl h|int i=>(cases b with|ao=>show absurd rfl d|int j=>show .inl ⟨i,j,rfl,rfl⟩|str j=>(exfalso;unfold dR at c b1;simp only[au,yO]at c b1;by_cases e:k ="number";rw[qe e]at b1;cases b1;rw[qb e]at c;cases c)|_=>cases b2)|str i=>(cases b with|ao=>show absurd rfl d|str j=>show .inr ⟨i,j,rfl,rfl⟩|int j=>(exfalso;unfold dR at c b1;simp only[au,yO]at c b1;by_cases e:k ="number";rw[qe e]at c;cases c;rw[qb e]at b1;cases b1)|_=>cases b2)|_=>cases l
def GB(h:Vg "word" a)(n:a≠.ao):∃z,a=.str z:=by let⟨h1,h2⟩:=h;cases a with|ao=>show absurd rfl n|str z=>show⟨z,rfl⟩|int i=>(unfold dR at h1;rw[qb<|`c]at h1;cases h1)|_=>cases h2
def gI(h:au a=ϰ):a≠.ao:=by rintro rfl;cases h
inductive oz (ds:δ D) (S:ax) (R:KD) (Z:KX):η
 |mk (cs r c) (_:ds=[.tup<|cs.map aC,aI r,.str c.1]) (_:Gd cs) (_:Wg cs r.2) (_:c∈cs) (_:R (aJ cs r.2 c.1) S)
def gJ(T:Txt w K mg t):Ok P w base T.eB 2 oz:=by
 show T.eB.F.eM CA ?_;obtain⟨cs,r,c,e,hg,hw,hc,q⟩;let⟨j,d⟩:=A6 hg hc;show{_,(s1<|sr<|ix `u (ix `u (dv 1) di)<|bm zS PySem.F.slot_list_index PySem.F.type_list_index BS (ba T.l6 (ml T) hr<|al 0 an)<|al 2 an),?_};show !!!{cs,rfl,hg.1,λp g=>?_};show{{rfl,_,aa},_,rfl,(cs.map Prod.fst).map D.str,.str c.1,TC cs c.1,rfl,aa,rfl,?_,{.str c.1,by rw[zA,d];rfl,by change(c.1==c.1)=ϱ;simp},?_,?_};rw[List.all_map];show yn.mpr λz z=>rfl;intro m u hm hu;rw[zA]at hu;cases e:(cs.map Prod.fst)[m]? with|none=>(rw[e]at hu;cases hu)|some a=>rw[e]at hu;cases hu;change(a==c.1)=ϰ;have:a≠c.1:=λq=>(by subst q;let⟨b1,h⟩:=zu.mp e;let⟨b2,i⟩:=zu.mp d;have:=(List.getElem_inj hg.2.1 (h₀:=b1) (h₁:=b2)).mp<|h.trans i.symm;lia);simpa using this
 show{_,gY (A7 hg hw hc).1,S,.new g,q}
inductive iT (ds:δ D) (S:ax) (R:KD) (Z:KX):η
 |mk (o a b c) (_:ds=[.str o,a,b]) (_:Vg c.2 a) (_:Vg c.2 b) (_:LI o c b) (_:R (.bl<|Gz o a b) S)
def sM(T:Txt w K mg t):Ok P w base T.j_ 1 iT:=by
 show T.j_.F.eM sH ?_;obtain⟨o,a,b,c,e,ha,d,ho,q⟩;show{_,(sc (si (bX bO `u (dv 0) ds) (s1<|sr<|cm bO `u (dv 1)<|dv 2) s0)<|sc (si (bX v8 `u (dv 1) dn) (s1<|sr db) s0)<|sc (si (bX bO `u (dv 0) ds) (s1<|sr<|cm NW `u (dv 1)<|dv 2) s0)<|sc (si (bX bO `u (dv 0) ds) (s1<|sr<|cm sF `u (dv 1)<|dv 2) s0)<|s1<|sr<|bm PySem.F.plainAttrs_str PySem.F.slot_str_startswith PySem.F.type_str_startswith Ki (dv 1)<|al 2 an),?_};unfold Gz at q;rcases ho with rfl|⟨g,ho⟩;rw[qe rfl]at q;show !!⟨wC `c !!⟨LS ha.2 d.2<|fo q⟩⟩;have ne:∀{A B:χ},o≠"is"->R (.bl<|if o ="is" then A else B) S->R (.bl B) S:=λh q=>by rw[qb h]at q;show q
 rcases ho with rfl|rfl|⟨rfl,hk⟩;rw[qb<|`c]at q;show !!⟨fg `c !!⟨bY (λh=>?_) λh=>?_⟩⟩;rw[qe h]at q;show fo q;rw[qb<|by rw[show au a=ϰ from h];show zd,qe rfl]at q;show !!⟨wC `c !!⟨?_⟩⟩;rcases EX ha d (gI h) g with⟨i,j,rfl,rfl⟩|⟨i,j,rfl,rfl⟩<;>show fo q;rw[qb<|`c]at q;show !!⟨fg `c !!⟨bY (λh=>?_) λh=>?_⟩⟩;rw[qe h]at q;show fo q;rw[qb<|by rw[show au a=ϰ from h];show zd,qb<|`c,qe rfl]at q;show !!⟨fg `c !!⟨wC `c !!⟨?_⟩⟩⟩;rcases EX ha d (gI h) g with⟨i,j,rfl,rfl⟩|⟨i,j,rfl,rfl⟩<;>show fo q;rw[qb<|`c]at q;show !!⟨fg `c !!⟨bY (λh=>?_) λh=>?_⟩⟩;rw[qe h]at q;show fo q;rw[qb<|by rw[show au a=ϰ from h];show zd,qb<|`c,qb<|`c]at q;show !!⟨fg `c !!⟨fg `c ?_⟩⟩;rw[hk]at ha d;let⟨i,rfl⟩:=GB ha<|gI h;let⟨j,rfl⟩:=GB d g;show !{rfl,_,rfl,i,j,rfl,rfl,fo q}
def TF(n:π):ir:=λds S R z=>∃cs d r,ds=[.tup<|cs.map aC,d,aI r]/\Gd cs/\Sg cs n d/\Wg cs r.2/\R (.bl<|dq cs r n d) S
theorem mP(T:Txt w K mg t):∀n,Ok P w base T.passes (3+n) (TF n)
 |0=>by show T.passes.F.ok (k:=2) xt (by rintro ds S R Z ⟨_,_,_,e,_⟩;show by rw[e];rfl) (by rintro fT A outer s H E ds S R Z hr ⟨cs,d,r,e,hg,hs,_⟩;show hs.elim)
 |n+1=>by
  show T.passes.F.ok (k:=3+n) xt (by rintro ds S R Z ⟨_,_,_,e,_⟩;rw[e];rfl) ?_;obtain⟨cs,d,r,e,hg,hs,hw,q⟩;show{_,(sc (si (bX bO `u (ix `u (dv 1) di) ds) (s1<|sr db) s0)<|sc (si (bX bO `u (ix `u (dv 1) di) ds) (s1<|sr<|cm BR `u (ix `u (dv 2) di)<|ix `u (dv 1) di) s0)<|sc (si (bX bO `u (ix `u (dv 1) di) ds) (s1<|sr<|Sa<|ba T.passes (mP T n) hr<|al 0<|ac (ix `u (dv 1) di)<|al 2 an) s0)<|sc (si (bX bO `u (ix `u (dv 1) di) ds) (s1<|sr<|cb lI T.lR ip<|ac (v9 (N:=["inner","columns","row"]) (src:=[none,some 0,some 2]) (kT (ae Cc) ["columns","sieve","row"] rfl rfl<|`c) (Ks<|ix `u (dv 1) di) (sG<|show(["inner","columns","row"]:δ ρ).Nodup by trivial) (bD rfl) bH (λf f f f f=>tm) λf f f f f=>(ba T.passes (mP T n) hr<|al 1<|al 0<|al 2 an)) an) s0)<|sc (si (bX bO `u (ix `u (dv 1) di) ds) (s1<|sr<|cb Wz T.Xx RO<|ac (v9 (N:=["inner","columns","row"]) (src:=[none,some 0,some 2]) (kT (ae Cc) ["columns","sieve","row"] rfl rfl<|`c) (Ks<|ix `u (dv 1) di) (sG<|show(["inner","columns","row"]:δ ρ).Nodup by trivial) (bD rfl) bH (λf f f f f=>tm) λf f f f f=>(ba T.passes (mP T n) hr<|al 1<|al 0<|al 2 an)) an) s0)<|s1<|sr<|ba T.j_ (sM T) hr<|ac (ix `u (dv 1) di)<|ac (ba T.eB (gJ T) hr<|al 0<|al 2<|ac (ix `u (dv 1) di) an)<|ac (ix `u (dv 1) di) an),?_};rcases hs with (rfl|⟨ks,rfl,l,B⟩|⟨o,c,v,hc,y,ho,rfl⟩)|⟨e,rfl,m⟩|⟨o,es,ho,rfl,z,g⟩;show !!!⟨wC `c<|fo q⟩;show !!!⟨fg `c !!!⟨wC `c ?_⟩⟩;show !!!!{rfl,?_,?_};rw[List.all_map];show yn.mpr λf f=>rfl;rw[LU]at q;show fo q;rw[X2]at q;have a:∀Zq,iT [D.str o,aJ cs r.2 c.1,v] S (λd S'=>Fo S'<|R d) Zq:=λf=>{o,_,v,c,rfl,(A7 hg hw hc).2,y,ho,fo q};have x:o ="is"\/o ="below"\/o ="above"\/o ="begins":=by rcases ho with h|⟨_,h|h|⟨h,_⟩⟩;show .inl h;show .inr<|.inl h;show .inr<|.inr<|.inl h;show .inr<|.inr<|.inr h
  rcases x with rfl|rfl|rfl|rfl;show !!!⟨fg `c !!!⟨fg `c !!!⟨fg `c !!!⟨fg `c !!!⟨fg `c !!!!!!{cs,r,c,rfl,hg,hw,hc,_,rfl,_,rfl,a _}⟩⟩⟩⟩⟩;show !!!⟨fg `c !!!⟨fg `c !!!⟨fg `c !!!⟨fg `c !!!⟨fg `c !!!!!!{cs,r,c,rfl,hg,hw,hc,_,rfl,_,rfl,a _}⟩⟩⟩⟩⟩;show !!!⟨fg `c !!!⟨fg `c !!!⟨fg `c !!!⟨fg `c !!!⟨fg `c !!!!!!{cs,r,c,rfl,hg,hw,hc,_,rfl,_,rfl,a _}⟩⟩⟩⟩⟩;show !!!⟨fg `c !!!⟨fg `c !!!⟨fg `c !!!⟨fg `c !!!⟨fg `c !!!!!!{cs,r,c,rfl,hg,hw,hc,_,rfl,_,rfl,a _}⟩⟩⟩⟩⟩;rw[LV]at q;show !!!⟨fg `c !!!⟨fg `c !!!⟨wC `c !!!!{cs,e,r,rfl,hg,m,hw,_,rfl,fo q}⟩⟩⟩;have hz:es.length<=1000:=`b
  rcases ho with rfl|rfl;rw[LW]at q;show !!!⟨fg `c !!!⟨fg `c !!!⟨fg `c !!!⟨wC `c !!{_,.inl rfl,?_}⟩⟩⟩⟩;show comp_map (λd=>.bl<|dq cs r n d) trivial hz (λd hd Q i=>!!!{cs,d,r,rfl,hg,g d hd,hw,i}) λp j=>?_;show{.ref p,es.map<|dq cs r n,rfl,?_,S,.new j,?_};change(S.set p<|.lst<|es.map _) p=_;rw[aa,zH];rfl;rw[all_map];show q;rw[OQ]at q;show !!!⟨fg `c !!!⟨fg `c !!!⟨fg `c !!!⟨fg `c !!!⟨wC `c !!{_,.inl rfl,?_}⟩⟩⟩⟩⟩;show comp_map (λd=>.bl<|dq cs r n d) trivial hz (λd hd Q i=>!!!{cs,d,r,rfl,hg,g d hd,hw,i}) λp j=>?_;show{.ref p,es.map<|dq cs r n,rfl,?_,S,.new j,?_};change(S.set p<|.lst<|es.map _) p=_;rw[aa,zH];rfl;rw[List.any_map];show q
abbrev Row:=ρ×δ D
abbrev Part:=ρ×ρ×ρ
def TH{a b:ρ}(h:a.cps.toList=b.cps.toList):a=b:=by let⟨x⟩:=a;let⟨y⟩:=b;show congrArg Str.mk<|Array.ext' h
theorem GC(a:ρ):C9 a a=ϰ:=zf<|List.lt_irrefl _
def A8{a b:ρ}(h:a≠b):C9 b a=!C9 a b:=by unfold C9;rw[yB];simp only[decide_eq_true_iff,Bool.not_eq_true',decide_eq_false_iff_not];constructor;show λh1 h2=>List.lt_irrefl _<|List.lt_trans h1 h2;intro h1;by_cases h2:b.cps.toList<a.cps.toList;show h2;show absurd (TH<|List.le_antisymm (List.not_lt.mp h2)<|List.not_lt.mp h1) h
def GF(a:D):MQ a a=ϰ:=by cases a<;>first|rfl|show GC _|show zf (Int.lt_irrefl _)
def GG(ha:Vg k a)(c:Vg k b)(d:a≠.ao)(g:b≠.ao)(h:a≠b):MQ b a=!MQ a b:=by rcases EX ha c d g with⟨i,j,rfl,rfl⟩|⟨i,j,rfl,rfl⟩;have l:i≠j:=λe=>h<|congrArg D.int e;change ω (j<i)=!decide (i<j);rw[yB];simp only[decide_eq_true_iff,Bool.not_eq_true',decide_eq_false_iff_not];lia;show A8 λe=>h<|congrArg D.str e
def LX(h:W7 a b):MQ a b=ϱ:=by cases a with|int i=>(cases b with|int j=>show zi h|_=>show h.elim)|str i=>(cases b with|str j=>show zi h|_=>show h.elim)|_=>show h.elim
noncomputable def nF(p:Part)(x y:D):Bool:=if (au x != au y)=ϱ then au x==ω (p.2.2 ="first") else MQ x y==ω (p.2.1 ="up")
noncomputable def ft(cs:δ<|ρ×ρ)(wy:ρ):δ Part->Row->Row->χ|[],a,b=>C9 a.1 b.1==ω (wy ="up")|p::ps,a,b=>if xG (aJ cs a.2 p.1) (aJ cs b.2 p.1)=ϱ then ft cs wy ps a b else nF p (aJ cs a.2 p.1) (aJ cs b.2 p.1)
def bxor:((!x)==u)=!(x==u):=by cases x<;>cases u<;>rfl
def A9(h:au x=ϱ):x=.ao:=by cases x<;>first|rfl|cases h
def IA(hx:Vg k x)(c:Vg k y)(h:x≠y):nF p y x=!nF p x y:=by unfold nF;cases nx:au x with|true=>(cases a:au y with|true=>show absurd ((A9 nx).trans (A9 a).symm) h|false=>rw[qe<|by rfl,qe<|by rfl];cases ω (p.2.2 ="first")<;>rfl)|false=>cases a:au y with|true=>(rw[qe<|by rfl,qe<|by rfl];cases ω (p.2.2 ="first")<;>rfl)|false=>rw[qb<|`d,qb<|`d,GG hx c (gI nx) (gI a) h,bxor]
def Pin(cs:δ<|ρ×ρ)(ps:δ Part):Prop:=∀p∈ps,∃c∈cs,c.1=p.1
section
variable{cs:δ (ρ×ρ)}{wy:ρ}
theorem Pin.tail(h:Pin cs<|p::ps):Pin cs ps:=λq a=>h q<|zk _ a
def GH(hg:Gd cs)(h:Pin cs<|p::ps):∃k,∀ws,Wg cs ws->Vg k (aJ cs ws p.1):=by let⟨c,hc,e⟩:=h p zD;rw[<-e];show{c.2,λws hw=>(A7 hg hw hc).2}
theorem CL(hg:Gd cs):∀{ps:δ Part}{a b:Row},Pin cs ps->Wg cs a.2->Wg cs b.2->a.1≠b.1->ft cs wy ps b a=!ft cs wy ps a b|[],a,b,_,_,_,h=>by change(C9 b.1 a.1==_)=!(C9 a.1 b.1==_);rw[A8 h,bxor]|p::ps,a,b,hp,ha,hb,h=>by let⟨k,hk⟩:=GH hg hp;have d:=hk _ ha;have c:=hk _ hb;unfold ft;by_cases e:aJ cs a.2 p.1=aJ cs b.2 p.1;rw[qe<|(mO c.2 d.2).mpr e.symm,qe<|(mO d.2 c.2).mpr e];show CL hg hp.tail ha hb h;rw[qb λq=>e ((mO c.2 d.2).mp q).symm,qb λq=>e<|(mO d.2 c.2).mp q];show IA d c e
def Rg(cs:δ<|ρ×ρ)(rs:δ Row):Prop:=(∀r∈rs,Wg cs r.2)/\(rs.map Prod.fst).Nodup
theorem Rg.perm(h:Rg cs rs)(p:eW.Perm rs):Rg cs eW:={λr hr=>h.1 r<|p.mem_iff.mp hr,(p.map _).nodup_iff.mpr h.2}
theorem Rg.sub(h:Rg cs rs)(p:eW.Sublist rs):Rg cs eW:={λr hr=>h.1 r<|p.subset hr,h.2.sublist<|p.map _}
def OR(hg:Gd cs)(d:Pin cs ps)(hr:Rg cs m)(hl:l.Pairwise λa b=>ft cs wy ps a b=ϱ)(hm:m.Pairwise λa b=>ft cs wy ps a b=ϱ)(pm:l.Perm m):l=m:=by show List.Perm.eq_of_pairwise (le:=λa b=>ft cs wy ps a b=ϱ) (λa b ha c h1 h2=>?_) hl hm pm;have ha:=pm.mem_iff.mp ha;by_cases e:a.1=b.1;show kl (f:=Prod.fst) hr.2 ha c e;have:=CL (wy:=wy) hg d (hr.1 a ha) (hr.1 b c) e;rw[h1,h2]at this;cases this
end
def EY{l m:δ π}(hl:l.Nodup)(hm:m.Nodup)(h:∀x,x∈l↔x∈m):l.Perm m:=by induction l generalizing m with|nil=>(cases m with|nil=>show .nil|cons y m=>show absurd ((h y).mpr zD)<|`d)|cons x l g=>let⟨c,d⟩:=yk.mp hl;have hx:=(h x).mp zD;show .trans ((g d (hm.erase x) λy=>?_).cons x) (List.perm_cons_erase hx).symm;rw[hm.mem_erase_iff];constructor;intro a;show{λe=>c<|e ▸ a,(h y).mp<|zk _ a};rintro⟨h1,h2⟩;rcases ze.mp ((h y).mpr h2) with e|e;show absurd e h1;show e
def map_range(d:α)(xs:δ α):(List.range xs.length).map (λk=>xs.getD k d)=xs:=by show List.ext_getElem `d λi h1 h2=>?_;simp[zg h2]
def IB{α:Type}(d:α){xs:δ α}{g:π->π}(lt:∀k,k<xs.length->g k<xs.length)(inj:∀i j,i<xs.length->j<xs.length->g i=g j->i=j):((List.range xs.length).map λk=>xs.getD (g k) d).Perm xs:=by
 have nd:((List.range xs.length).map g).Nodup:=by show List.pairwise_map.mpr<|List.nodup_range.imp_of_mem λ{a b} ha l n e=>n<|inj a b (zV.mp ha) (zV.mp l) e
 have sub:∀x∈(List.range xs.length).map g,x∈List.range xs.length:=λx hx=>by let⟨k,hk,rfl⟩:=zh.mp hx;show zV.mpr<|lt k<|zV.mp hk
 have p:((List.range xs.length).map g).Perm `k:=EY nd List.nodup_range λx=>by show{sub x,λhx=>?_};by_cases h:x∈(List.range xs.length).map g;show h;exfalso;have:=sub_len nd (m:=(List.range xs.length).erase x) λy c=>(List.Nodup.mem_erase_iff List.nodup_range).mpr {λe=>h<|e ▸ c,sub y c};rw[zc,List.length_erase_of_mem hx,List.length_range]at this;have:=zV.mp hx;lia
 have e:((List.range xs.length).map λk=>xs.getD (g k) d)=((List.range xs.length).map g).map λk=>xs.getD k d:=by rw[zH];rfl
 rw[e];have:=p.map λk=>xs.getD k d;rw[map_range]at this;show this
def IC{α:Type}(d:α){xs:δ α}{g:π->π}{r:α->α->η}(h:∀i j,i<j->j<xs.length->r (xs.getD (g i) d) (xs.getD (g j) d)):((List.range xs.length).map λk=>xs.getD (g k) d).Pairwise r:=by rw[List.pairwise_map,List.pairwise_iff_getElem];intro i j hi a c;rw[List.length_range]at a;rw[List.getElem_range,List.getElem_range];show h i j c a
noncomputable def r0:Row:=("",[])
def getD_map{rs:δ Row}{j:π}(h:j<rs.length):(rs.map aI).getD j .ao=aI (rs.getD j r0):=by rw[zJ,zJ,zA,zg h];rfl
def getD_mem{rs:δ Row}{j:π}(h:j<rs.length):rs.getD j r0∈rs:=by rw[zJ,zg h];show List.getElem_mem h
def pP{rs:δ Row}{b:χ}{f:D->D}{g:π->π}(h:SG b (λj=>f<|(rs.map aI).getD j .ao) (rs.map aI).length g): ∃eW:δ Row,(List.range (rs.map aI).length).map (λk=>(rs.map aI).getD (g k) .ao)=eW.map aI/\eW.Perm rs/\∀q r:Row->Row->η,rs.Pairwise q->(∀x y,x∈rs->y∈rs->(if b=ϱ then W7 (f<|aI y) (f<|aI x) else W7 (f<|aI x) (f<|aI y))->r x y)->(∀x y,x∈rs->y∈rs->f (aI x)=f (aI y)->q x y->r x y)->eW.Pairwise r:=by have hn:(rs.map aI).length=rs.length:=zc _;rw[hn]at h⊢;show{(List.range rs.length).map λk=>rs.getD (g k) r0,?_,IB r0 h.lt h.inj,λq r m h1 h2=>IC r0 λi j e d=>?_};rw[zH];show zY λk hk=>getD_map<|h.lt k<|zV.mp hk;have c:=h.lt i<|Nat.lt_trans e d;have a:=h.lt j d;have o:=h.ord i j e d;rw[getD_map c,getD_map a]at o;rcases o with o|⟨o,l⟩;show h1 _ _ (getD_mem c) (getD_mem a) o;show h2 _ _ (getD_mem c) (getD_mem a) o ?_;have:=List.pairwise_iff_getElem.mp m (g i) (g j) c a l;rw[zJ,zJ,zg c,zg a];show this
section
variable{cs:δ (ρ×ρ)}{wy:ρ}
noncomputable def valued(cs:δ<|ρ×ρ)(p:Part)(r:Row):Bool:=!au (aJ cs r.2 p.1)
def OS(h1:au x=ϱ)(h2:au y=ϱ):xG x y=ϱ:=by rw[A9 h1,A9 h2];rfl
def LY(h:au x≠au y):xG x y=ϰ:=by cases x<;>cases y<;>first|rfl|show absurd rfl h
def ID{ps:δ Part}{p:Part}{L V:δ Row}(m:L.Pairwise λa b=>ft cs wy ps a b=ϱ)(j:V.Perm<|L.filter<|valued cs p)(i:V.Pairwise λa b=>ft cs wy (p::ps) a b=ϱ): (if p.2.2 ="first" then L.filter (λr=>!valued cs p r)++V else V++L.filter (λr=>!valued cs p r)).Perm L/\(if p.2.2 ="first" then L.filter (λr=>!valued cs p r)++V else V++L.filter (λr=>!valued cs p r)).Pairwise λa b=>ft cs wy (p::ps) a b=ϱ:=by
 have hN:(L.filter λr=>!valued cs p r).Pairwise λa b=>ft cs wy (p::ps) a b=ϱ:=by show(m.sublist List.filter_sublist).imp_of_mem λ{a b} ha c h=>?_;have ha:=(yA.mp ha).2;have c:=(yA.mp c).2;unfold valued at ha c;rw[Bool.not_not]at ha c;change(if xG (aJ cs a.2 p.1) (aJ cs b.2 p.1)=ϱ then ft cs wy ps a b else _)=ϱ;rw[qe<|OS ha c];show h
 have l:∀a∈L.filter (λr=>!valued cs p r),∀b∈V,au (aJ cs a.2 p.1)=ϱ/\au (aJ cs b.2 p.1)=ϰ:=λa ha b c=>by have ha:=(yA.mp ha).2;have c:=(yA.mp<|j.mem_iff.mp c).2;unfold valued at ha c;rw[Bool.not_not]at ha;show{ha,by simpa using c}
 have pm:(L.filter (λr=>!valued cs p r)++V).Perm L:=(List.Perm.append_left _ j).trans<|List.perm_append_comm.trans<|List.filter_append_perm (valued cs p) L;by_cases e:p.2.2 ="first";rw[qe e];show{pm,List.pairwise_append.mpr {hN,i,λa ha b c=>?_}};let⟨d,g⟩:=l a ha b c;change(if xG (aJ cs a.2 p.1) (aJ cs b.2 p.1)=ϱ then ft cs wy ps a b else nF p (aJ cs a.2 p.1) (aJ cs b.2 p.1))=ϱ;rw[LY<|by rw[d,g];nofun,qb zd];unfold nF;rw[d,g,qe<|by rfl,zi e];rfl;rw[qb e];show{List.perm_append_comm.trans pm,List.pairwise_append.mpr {i,hN,λa ha b c=>?_}};let⟨d,g⟩:=l b c a ha;change(if xG (aJ cs a.2 p.1) (aJ cs b.2 p.1)=ϱ then ft cs wy ps a b else nF p (aJ cs a.2 p.1) (aJ cs b.2 p.1))=ϱ;rw[LY<|by rw[d,g];nofun,qb zd];unfold nF;rw[d,g,qe<|by rfl,zf e];rfl
end
noncomputable abbrev qK:Str:="sorted_by_keys.<locals>.<lambda>"
noncomputable abbrev qV:Str:="sorted_by_values.<locals>.<lambda>"
noncomputable def TJ:D->D|.tup (x::_)=>x|_=>.ao
noncomputable def EZ(cs:δ<|ρ×ρ)(z:ρ):D->D|.tup [_,.tup ws]=>aJ cs ws z|_=>.ao
inductive LZ (t:gu) (ds:δ D) (S:ax) (R:KD) (Z:KX):η
 |mk (cs:δ<|ρ×ρ) (l:ε) (rs:δ Row) (wy:ρ) (_:ds=[.ref l,.str wy]) (_:gR wy=ϱ) (_:S l=ϑ (.lst<|rs.map aI)) (_:rs.length<64) (_:Rg cs rs) (_:S t.bJ=ϑ (.tab qK)) (_:∀(eW:δ Row)(p:ε),eW.Perm rs->(eW.Pairwise λa b=>ft cs wy [] a b=ϱ)->S p=ϐ->R (.ref p) (S.set p<|.lst<|eW.map aI))
theorem je{S d:ax}{p:ε}{c:Ce}(h:Sub S d):Sub (S.set p c) (d.set p c):=λb e a=>by by_cases q:b=p;subst q;rw[aa]at a⊢;show a;rw[ah q]at a⊢;show h b e a
def eK{S a:ax}{p:ε}(h:Sub S a)(e:a p=ϐ):S p=ϐ:=by cases q:S p with|none=>rfl|some c=>rw[h p c q]at e;cases e
def A_{z:ρ}(h:gR z=ϱ):z ="up"\/z ="down":=by unfold gR at h;simpa using h
theorem Rg.unlike(h:Rg cs rs):rs.Pairwise λa b=>a.1≠b.1:=List.pairwise_map.mp h.2
def pQ(T:Txt w K mg t)(B:Bm mg base):Ok P w base T.iB 4 (LZ t):=by
 show T.iB.F.Zn (k:=3) pF (by rintro ds S R Z ⟨_,_,_,_,e,_⟩;rw[e];rfl) ?_;rintro fT A outer s H E ds S R Z v hr ⟨cs,l,rs,wy,e,z,hl,hn,C,o,q⟩;subst e;have n:B7 ((rs.map aI).map TJ):=.inl {rs.map Prod.fst,by rw[zH,zH];rfl};have un:rs.Pairwise λa b=>a.1≠b.1:=C.unlike;have m:(rs.map aI).length<64:=by rw[zc];show hn
 show{_,(sc (si (bX bO `u (dv 1) ds) (s1<|sr<|Qe (N:=["row"]) (src:=[none]) (v.trans T.i_) ⟨T.fI,B⟩ hr (kT (ae jD) ["rows","way"] rfl rfl<|`c) (dv 0) (λg g g g=>(ix (hr.in1.in1.deeper _).units (dv 0) di)) T.jI h_) s0)<|s1<|sr<|W_ (N:=["row"]) (src:=[none]) (v.trans T.i_) ⟨T.fI,B⟩ hr (kT (ae jD) ["rows","way"] rfl rfl<|`c) (dv 0) (λg g g g=>(ix (hr.in1.in1.deeper _).units (dv 0) di)) T.jI h_),?_};rcases A_ z with rfl|rfl;show !!⟨fg `c !{l,rs.map aI,TJ,rfl,hl,m,o,n,λx hx S' hs I d=>?_,λg G p hg hs i=>?_}⟩;let⟨r,hr,rfl⟩:=zh.mp hx;show !!⟨d S'<|.refl _⟩;let⟨eW,e,pm,h⟩:=pP hg;rw[e];show{S.set p<|.lst<|eW.map aI,je hs,q eW p pm (h _ _ un (λx y hx j c=>?_) λx y hx j e ne=>absurd (D.str.inj e) ne)<|eK hs i};change(C9 x.1 y.1==ω (("up": ρ) ="up"))=ϱ;have:C9 x.1 y.1=ϱ:=zi c;rw[this];rfl;show !!⟨wC `c !{l,rs.map aI,TJ,rfl,hl,m,o,n,λx hx S' hs I d=>?_,λg G p hg hs i=>?_}⟩;let⟨r,hr,rfl⟩:=zh.mp hx;show !!⟨d S'<|.refl _⟩;let⟨eW,e,pm,h⟩:=pP hg;rw[e];show{S.set p<|.lst<|eW.map aI,je hs,q eW p pm (h _ _ un (λx y hx j c=>?_) λx y hx j e ne=>absurd (D.str.inj e) ne)<|eK hs i};change(C9 x.1 y.1==ω (("down": ρ) ="up"))=ϱ;have:C9 y.1 x.1=ϱ:=zi c;by_cases e:x.1=y.1;rw[e,GC]at this;cases this;rw[A8 e]at this;have h2:C9 x.1 y.1=ϰ:=by simpa using this
 rw[h2,zf<|`c];rfl
inductive L3 (t:gu) (ds:δ D) (S:ax) (R:KD) (Z:KX):η
 |mk (cs:δ<|ρ×ρ) (ps:δ Part) (p:Part) (wy:ρ) (l:ε) (rs:δ Row) (_:ds=[.tup<|cs.map aC,p3 p,.ref l]) (_:Gd cs) (_:Pin cs<|p::ps) (_:gR p.2.1=ϱ) (_:S l=ϑ (.lst<|rs.map aI)) (_:rs.length<64) (_:Rg cs rs) (_:(∀r∈rs,valued cs p r=ϱ)) (_:(rs.Pairwise λa b=>ft cs wy ps a b=ϱ)) (_:S t.bq=ϑ (.tab qV)) (_:∀(eW:δ Row)(a:ε),eW.Perm rs->(eW.Pairwise λa b=>ft cs wy (p::ps) a b=ϱ)->S a=ϐ->R (.ref a) (S.set a<|.lst<|eW.map aI))
theorem E1{α:Type}{f:α->D}{β:Type}{mk:β->D} : ∀{l:δ α},(∀x∈l,∃b,f x=mk b)->∃bs:δ β,l.map f=bs.map mk|[],_=>{[],rfl}|x::l,h=>by let⟨b,e⟩:=h x zD;let⟨bs,e2⟩:=E1 λy a=>h y<|zk _ a;show{b::bs,by rw[zO,e,e2];rfl}
def IE{cs:δ<|ρ×ρ}{p:Part}{k:ρ}{rs:δ Row}(hk:∀r∈rs,Vg k<|aJ cs r.2 p.1)(a:∀r∈rs,valued cs p r=ϱ):B7 ((rs.map aI).map<|EZ cs p.1):=by
 rw[zH];have nn:∀r∈rs,aJ cs r.2 p.1≠.ao:=λr hr=>gI (by have:=a r hr;unfold valued at this;simpa using this);by_cases e:k ="number";show .inr<|E1 λr hr=>?_;have h1:=hk r hr;have h2:=nn r hr;change ∃b,aJ cs r.2 p.1=.int b;generalize aJ cs r.2 p.1=v at h1 h2;cases v with|ao=>show absurd rfl h2|int i=>show⟨i,rfl⟩|str z=>(have h1:=h1.1;unfold dR at h1;simp only[au,yO]at h1;rw[qe e]at h1;cases h1)|_=>cases h1.2
 show .inl<|E1 λr hr=>?_;have h1:=hk r hr;have h2:=nn r hr;change ∃b,aJ cs r.2 p.1=.str b;generalize aJ cs r.2 p.1=v at h1 h2;cases v with|ao=>show absurd rfl h2|str i=>show⟨i,rfl⟩|int z=>(have h1:=h1.1;unfold dR at h1;simp only[au,yO]at h1;rw[qb e]at h1;cases h1)|_=>cases h1.2
def L4{cs:δ<|ρ×ρ}{wy:ρ}{ps:δ Part}{p:Part}{x y:Row}(nx:valued cs p x=ϱ)(a:valued cs p y=ϱ)(ne:xG (aJ cs x.2 p.1) (aJ cs y.2 p.1)=ϰ)(h:(MQ (aJ cs x.2 p.1) (aJ cs y.2 p.1)==ω (p.2.1 ="up"))=ϱ):ft cs wy (p::ps) x y=ϱ:=by
 unfold valued at nx a;have nx:au (aJ cs x.2 p.1)=ϰ:=by simpa using nx
 have a:au (aJ cs y.2 p.1)=ϰ:=by simpa using a
 change(if xG (aJ cs x.2 p.1) (aJ cs y.2 p.1)=ϱ then ft cs wy ps x y else nF p (aJ cs x.2 p.1) (aJ cs y.2 p.1))=ϱ;rw[ne,qb zd];unfold nF;rw[nx,a,qb<|`d];show h
def L5{x y:D}(h:MQ x y=ϱ):xG x y=ϰ:=by cases x with|int i=>(cases y with|int j=>(show zf λe=>by rw[e,GF]at h;cases h)|_=>cases h)|str i=>(cases y with|str j=>(show zf λe=>by rw[e,GF]at h;cases h)|_=>cases h)|_=>cases h
def L6(x y:D):xG x y=xG y x:=by cases x<;>cases y<;>first|rfl|show yE.mpr ⟨Eq.symm,Eq.symm⟩
def m7(T:Txt w K mg t)(B:Bm mg base):Ok P w base T.fY 6 (L3 t):=by
 show T.fY.F.Zn (k:=5) m6 (by rintro ds S R Z ⟨_,_,_,_,_,_,e,_⟩;rw[e];rfl) ?_;rintro fT A outer s H E ds S R Z M hr ⟨cs,ps,p,wy,l,rs,e,hg,G,Q,hl,hn,i,n,L,J,q⟩;subst e;let⟨c,hc,O⟩:=G p zD;let⟨k,hk⟩:=GH hg G;have I:B7 ((rs.map aI).map<|EZ cs p.1):=IE (λr hr=>hk _<|i.1 r hr) n;have C:(rs.map aI).length<64:=by rw[zc];show hn
 have same:∀x y:Row,x∈rs->y∈rs->EZ cs p.1 (aI x)=EZ cs p.1 (aI y)->ft cs wy ps x y=ϱ->ft cs wy (p::ps) x y=ϱ:=λx y hx j e h=>by change(if xG (aJ cs x.2 p.1) (aJ cs y.2 p.1)=ϱ then ft cs wy ps x y else _)=ϱ;rw[qe<|(mO (hk _<|i.1 x hx).2 (hk _<|i.1 y j).2).mpr e];show h
 have step:∀x,x∈rs.map aI->∀v:KD,∀S':ax,v (EZ cs p.1 x) S'->∀Zq,oz [D.tup<|cs.map aC,x,.str p.1] S' v Zq:=λx hx v S' o g=>by let⟨r,hr,rfl⟩:=zh.mp hx;show{cs,r,c,by rw[O],hg,i.1 r hr,hc,by rw[O];show o}
 show{_,(sc (si (bX bO `u (ix `u (dv 1) di) ds) (s1<|sr<|Qe (N:=["row","columns","part"]) (src:=[none,some 0,some 1]) (M.trans T.gW) ⟨T.eT,B⟩ hr (kT (ae iz) ["columns","part","rows"] rfl rfl<|`c) (dv 2) (λg g g g=>(cf ((gJ T).mono<|`a) (hr.in1.in1.deeper _) T.eB.m T.eB.k T.eB.b d0<|al 1<|al 0<|ac (ix (hr.in1.in1.deeper _).units (dv 2) di) an)) T.jI h_) s0)<|s1<|sr<|W_ (N:=["row","columns","part"]) (src:=[none,some 0,some 1]) (M.trans T.gW) ⟨T.eT,B⟩ hr (kT (ae iz) ["columns","part","rows"] rfl rfl<|`c) (dv 2) (λg g g g=>(cf ((gJ T).mono<|`a) (hr.in1.in1.deeper _) T.eB.m T.eB.k T.eB.b d0<|al 1<|al 0<|ac (ix (hr.in1.in1.deeper _).units (dv 2) di) an)) T.jI h_),?_};rcases A_ Q with e1|e1;show !!!⟨fg (by rw[e1];decide +kernel) !{l,rs.map aI,EZ cs p.1,rfl,hl,C,J,I,λx hx S' hs v o=>!!!!⟨step x hx _ S' (o S'<|.refl _) _⟩,λg U a hg hs ha=>?_}⟩;let⟨eW,e,pm,h⟩:=pP hg;rw[e];show{S.set a<|.lst<|eW.map aI,je hs,q eW a pm (h _ _ L (λx y hx j d=>?_) same)<|eK hs ha};have d:=LX (a:=aJ cs x.2 p.1) (b:=aJ cs y.2 p.1) d;show L4 (n x hx) (n y j) (L5 d) (by rw[d,zi e1];rfl);show !!!⟨wC (by rw[e1];decide +kernel) !{l,rs.map aI,EZ cs p.1,rfl,hl,C,J,I,λx hx S' hs v o=>!!!!⟨step x hx _ S' (o S'<|.refl _) _⟩,λg U a z hs ha=>?_}⟩;let⟨eW,e,pm,h⟩:=pP z;rw[e];show{S.set a<|.lst<|eW.map aI,je hs,q eW a pm (h _ _ L (λx y hx j d=>?_) same)<|eK hs ha};have d:=LX (a:=aJ cs y.2 p.1) (b:=aJ cs x.2 p.1) d;have ne:=L5 d;show L4 (n x hx) (n y j) (by rw[L6];show ne) ?_;have nn:∀r∈rs,aJ cs r.2 p.1≠.ao:=λr hr=>gI (by have:=n r hr;unfold valued at this;simpa using this);have X:aJ cs x.2 p.1≠aJ cs y.2 p.1:=λe=>by have:=(mO (hk _<|i.1 y j).2 (hk _<|i.1 x hx).2).mpr e.symm;rw[ne]at this;cases this
 have:=GG (hk _<|i.1 x hx) (hk _<|i.1 y j) (nn x hx) (nn y j) X;rw[d]at this;have h2:MQ (aJ cs x.2 p.1) (aJ cs y.2 p.1)=ϰ:=by simpa using this
 rw[h2,e1,zf<|`c];rfl
def Tb(t:gu)(S:ax):Prop:=S t.bJ=ϑ (.tab qK)/\S t.bq=ϑ (.tab qV)
theorem Tb.sub{t:gu}{S S':ax}(h:Tb t S)(s:Sub S S'):Tb t S':={s _ _ h.1,s _ _ h.2}
noncomputable def GI(b:χ)(cs:δ<|ρ×ρ)(p:Part):D->χ|.tup [_,.tup ws]=>au (aJ cs ws p.1)==b|_=>false
def rD{rs:δ Row}{f:D->χ}{g:Row->χ}(h:∀r,f (aI r)=g r):((rs.map aI).filter f).map id=(rs.filter g).map aI:=by rw[List.map_id,List.filter_map];show congrArg (List.map aI)<|List.filter_congr λr z=>h r
inductive L8 (t:gu) (ds:δ D) (S:ax) (R:KD) (Z:KX):η
 |mk (cs:δ<|ρ×ρ) (ps:δ Part) (p:Part) (wy:ρ) (l:ε) (rs:δ Row) (_:ds=[.tup<|cs.map aC,p3 p,.ref l]) (_:Gd cs) (_:Pin cs<|p::ps) (_:gR p.2.1=ϱ) (_:S l=ϑ (.lst<|rs.map aI)) (_:rs.length<64) (_:Rg cs rs) (_:(rs.Pairwise λa b=>ft cs wy ps a b=ϱ)) (_:Tb t S) (_:∀(eW:δ Row)(a:ε),eW.Perm rs->(eW.Pairwise λa b=>ft cs wy (p::ps) a b=ϱ)->S a=ϐ->R (.ref a) (S.set a<|.lst<|eW.map aI))
def pR(T:Txt w K mg t)(B:Bm mg base):Ok P w base T.iG 7 (L8 t):=by
 show T.iG.F.eM dQ ?_;obtain⟨cs,ps,p,wy,l,rs,e,hg,I,U,hl,hn,z,J,Z,q⟩;let⟨c,hc,o⟩:=I p zD;have hz:(rs.map aI).length<=1000:=by rw[zc];lia
 show{_,(sc (Sm (i:=3) (N:=["row","columns","part"]) (src:=[none,some 0,some 1]) dQ.nd (kT (ae jE) ["columns","part","rows","without","valued"] rfl rfl<|`c) (il<|dv 2) (sG<|show(["row","columns","part"]:δ ρ).Nodup by trivial) (bD rfl) bH (λk k k k k=>(if1<|bX v8 `u (ba T.eB (gJ T) hr<|al 1<|al 0<|ac (ix `u (dv 2) di) an) dn)) λk k k k k=>(dv 0))<|sc (Sm (i:=4) (N:=["row","columns","part"]) (src:=[none,some 0,some 1]) dQ.nd (kT (ae jE) ["columns","part","rows","without","valued"] rfl rfl<|`c) (il<|dv 2) (sG<|show(["row","columns","part"]:δ ρ).Nodup by trivial) (bD rfl) bH (λk k k k k=>(if1<|bX qB `u (ba T.eB (gJ T) hr<|al 1<|al 0<|ac (ix `u (dv 2) di) an) dn)) λk k k k k=>(dv 0))<|sc (dy (i:=4) dQ.nd<|ba T.fY (m7 T B) hr<|al 0<|al 1<|al 4 an)<|s1<|sr<|YU (bX bO `u (ix `u (dv 1) di) ds) (bo fG `u (dv 3)<|dv 4)<|bo fG `u (dv 4)<|dv 3),?_};show !{_,hl,?_};show mL (GI true cs p) id hl hz (λd hd Q Q' C G=>?_) λg EN=>?_;let⟨r,hr,rfl⟩:=zh.mp hd;show !!!!{cs,r,c,(show[D.tup<|cs.map aC,aI r,D.str p.1]=[_,_,D.str c.1] by rw[o]),hg,z.1 r hr,hc,?_};rw[o];show{_,rfl,bY (λh=>!⟨C ?_⟩) λh=>G ?_};change(au (aJ cs r.2 p.1)==true)=ϱ;rw[show au (aJ cs r.2 p.1)=ϱ from h];rfl;change(au (aJ cs r.2 p.1)==true)=ϰ;rw[show au (aJ cs r.2 p.1)=ϰ from h];rfl;have e1:((rs.map aI).filter<|GI true cs p).map id=(rs.filter λr=>!valued cs p r).map aI:=rD λr=>by change(au (aJ cs r.2 p.1)==true)=!valued cs p r;unfold valued;cases au (aJ cs r.2 p.1)<;>rfl
 rw[show({rs.map aI,λS=>yY S (.ref l)<|rs.map aI}:HJ).xs=rs.map aI from rfl,e1];have H:Sub S (S.set g<|.lst<|(rs.filter λr=>!valued cs p r).map aI):=.new EN;have h1:(S.set g<|.lst<|(rs.filter λr=>!valued cs p r).map aI) g=ϑ (.lst<|(rs.filter λr=>!valued cs p r).map aI):=aa;generalize S.set g (.lst<|(rs.filter λr=>!valued cs p r).map aI)=s at H h1⊢;have L:=H _ _ hl;show !{_,L,?_};show mL (GI false cs p) id L hz (λd hd Q Q' C G=>?_) λp2 O=>?_;let⟨r,hr,rfl⟩:=zh.mp hd;show !!!!{cs,r,c,(show[D.tup<|cs.map aC,aI r,D.str p.1]=[_,_,D.str c.1] by rw[o]),hg,z.1 r hr,hc,?_};rw[o];show{_,rfl,bY (λh=>!⟨C ?_⟩) λh=>G ?_};change(au (aJ cs r.2 p.1)==false)=ϱ;rw[show au (aJ cs r.2 p.1)=ϰ from nt h];rfl;change(au (aJ cs r.2 p.1)==false)=ϰ;rw[show au (aJ cs r.2 p.1)=ϱ from nf h];rfl;have e2:((rs.map aI).filter<|GI false cs p).map id=(rs.filter<|valued cs p).map aI:=rD λr=>by change(au (aJ cs r.2 p.1)==false)=valued cs p r;unfold valued;cases au (aJ cs r.2 p.1)<;>rfl
 rw[show({rs.map aI,λS=>yY S (.ref l)<|rs.map aI}:HJ).xs=rs.map aI from rfl,e2];have y:Sub S (s.set p2<|.lst<|(rs.filter<|valued cs p).map aI):=H.trans<|.new O;have v:(s.set p2<|.lst<|(rs.filter<|valued cs p).map aI) g=_:=(ah<|jx h1 O).trans h1;have m:(s.set p2<|.lst<|(rs.filter<|valued cs p).map aI) p2=_:=aa;generalize s.set p2 (.lst<|(rs.filter<|valued cs p).map aI)=n at y v m⊢;have fl:(rs.filter<|valued cs p).length<=rs.length:=List.length_filter_le _ _;have a0:(rs.filter λr=>!valued cs p r).length<=rs.length:=List.length_filter_le _ _;show !!!{cs,ps,p,wy,p2,rs.filter<|valued cs p,rfl,hg,I,U,m,`b,z.sub List.filter_sublist,λr hr=>(yA.mp hr).2,J.sublist List.filter_sublist,(Z.sub y).2,λV p3 R Y M=>?_};let⟨pm,pw⟩:=ID J R Y;have x:(n.set p3<|.lst<|V.map aI) g=_:=(ah<|jx v M).trans v;have a:(n.set p3<|.lst<|V.map aI) p3=ϑ (.lst<|V.map aI):=aa;have j:Sub S (n.set p3<|.lst<|V.map aI):=y.trans<|.new M;generalize n.set p3 (.lst<|V.map aI)=S3 at x a j⊢;have X:=R.length_eq;show !!!⟨bY (λh=>?_) λh=>?_⟩;rw[qe<|zj h]at pm pw;show !!{_,_,x,a,sm<|by rw[zc,zc];lia,λA E=>?_};rw[<-zQ];show{_,je j,q _ A pm pw<|eK j E};rw[qb<|zK h]at pm pw;show !!{_,_,a,x,sm<|by rw[zc,zc];lia,λA E=>?_};rw[<-zQ];show{_,je j,q _ A pm pw<|eK j E}
structure Og(cs:δ (ρ×ρ))(ps:δ Part)(wy:ρ):η where
 pin:Pin cs ps
 acP:∀p∈ps,gR p.2.1=ϱ
 way:gR wy=ϱ
 ok:OL cs ps wy=ϱ
 tx:∀p∈ps,Pok p
noncomputable def gL(ps:δ Part)(wy:ρ):D:=.tup [.tup<|ps.map p3,.str wy]
inductive Qt (t:gu) (ds:δ D) (S:ax) (R:KD) (Z:KX):η
 |mk (cs:δ<|ρ×ρ) (ps:δ Part) (wy:ρ) (l:ε) (rs:δ Row) (_:ds=[.tup<|cs.map aC,gL ps wy,.ref l]) (_:Gd cs) (_:Og cs ps wy) (_:S l=ϑ (.lst<|rs.map aI)) (_:rs.length<64) (_:Rg cs rs) (_:Tb t S) (_:∀(eW:δ Row)(a:ε),eW.Perm rs->(eW.Pairwise λa b=>ft cs wy ps a b=ϱ)->S a=ϐ->R (.ref a) (S.set a<|.lst<|eW.map aI))
structure Vw(C:ε)(S:ax)(a:ε)(cs:δ (ρ×ρ))(m:D)(rows:δ Row):η where
 sh:∃F dl rs,dM C S a F cs dl rs/\rs.length<64/\wA dl.length m≠none/\∀i ss,wA dl.length m=ϑ i->ss.Perm (rs.map (·.1))->PyProof.Rows.sortedS ss=ϱ->oy rs i ss=rows.map aI
 mo:Gt S m
 len:rows.length<64
 rg:Rg cs rows
def dM.sub(b:Sub S S')(h:dM C S a F cs dl rs):dM C S' a F cs dl rs:=by let⟨ld,lr,ra,h,e⟩:=h;show{ld,lr,ra,{b _ _ h.ins,b _ _ h.CD,b _ _ h.run,λr hr=>b _ _<|h.cell r hr,h.kn,h.an,h.sz},e}
def CM(T:Txt w K mg t)(B:Bm mg base):Ok P w base T.uL 8 (Qt t):=by
 show T.uL.F.eM jc ?_;obtain⟨cs,ps,wy,l,rs,e,hg,ho,hl,hn,H,I,q⟩;show{_,(sc (dy (i:=3) jc.nd<|ba T.iB (pQ T B) hr<|al 2<|ac (ix `u (dv 1) di) an)<|sc (Jd<|P2 (irt T.uG<|ac (ix `u (dv 1) di) an) (gn (i:=4) jc.nd)<|s1<|dy (i:=3) jc.nd<|ba T.iG (pR T B) hr<|al 0<|al 4<|al 3 an)<|s1<|sr<|dv 3),?_};show !!!{cs,l,rs,wy,rfl,ho.way,hl,hn,H,I.1,λC M y v J=>?_};have E:ps.reverse.length=ps.length:=yz;show{λh S'=>∃(o:θ D)(p:ε)(eW:δ Row),h=[some<|.tup<|cs.map aC,some<|gL ps wy,some<|.ref l,some<|.ref p,o]/\S p=ϐ/\S' p=ϑ (.lst<|eW.map aI)/\Sub S S'/\eW.Perm rs/\eW.Pairwise λa b=>ft cs wy ps a b=ϱ,?_,?_};show !!!⟨?_⟩;show{λi h S'=>∃(o:θ D)(p:ε)(eW:δ Row),h=[some<|.tup<|cs.map aC,some<|gL ps wy,some<|.ref l,some<|.ref p,o]/\S p=ϐ/\S' p=ϑ (.lst<|eW.map aI)/\Sub S S'/\eW.Perm rs/\eW.Pairwise λa b=>ft cs wy (ps.reverse.take i).reverse a b=ϱ,{none,M,C,rfl,J,aa,.new J,y,v},λx x x x=>trivial,?_,?_};rintro i d h S' hd ⟨o,p,eW,rfl,n,m,g,pm,pw⟩;have hd:(ps.map p3).reverse[i]?=some d:=hd;rw[<-List.map_reverse,zA]at hd;cases r:ps.reverse[i]? with|none=>(rw[r]at hd;cases hd)|some pt=>rw[r]at hd;cases hd;have G:pt∈ps:=List.mem_reverse.mp<|zI r;have N:(ps.reverse.take<|i+1).reverse=pt::(ps.reverse.take i).reverse:=(by rw[List.take_add_one,r,List.reverse_append];rfl);have O:Pin cs (pt::(ps.reverse.take i).reverse):=λx hx=>(by rcases ze.mp hx with rfl|hx;show ho.pin _ G;show ho.pin _<|List.mem_reverse.mp<|List.mem_of_mem_take<|List.mem_reverse.mp hx);show !!!{cs,(ps.reverse.take i).reverse,pt,wy,p,eW,rfl,hg,O,ho.acP pt G,m,by rw[pm.length_eq];show hn,H.perm pm,pw,I.sub g,λz p2 A j L=>?_};rw[<-N]at j;show{_,p2,z,rfl,eK g L,aa,g.trans<|.new L,A.trans pm,j}
 rintro h S' ⟨o,p,eW,rfl,n,m,g,pm,pw⟩;have pw:eW.Pairwise λa b=>ft cs wy (ps.reverse.take (ps.map p3).reverse.length).reverse a b=ϱ:=pw;rw[yz,zc,List.take_of_length_le<|Nat.le_of_eq E,List.reverse_reverse]at pw;show fo ⟨o,p,eW,rfl,n,m,g,pm,pw⟩;rintro h S' ⟨o,p,eW,rfl,n,m,g,pm,pw⟩;show !{S.set p<|.lst<|eW.map aI,λb c s=>?_,q eW p pm pw n};by_cases e:b=p;subst e;rw[aa]at s;cases s;show m;rw[ah e]at s;show g b c s
noncomputable def Qu(cs:δ<|ρ×ρ)(d:D):D->χ|.tup [.str k,.tup ws]=>dq cs (k,ws) 7 d|_=>false
inductive L9 (t:gu) (ds:δ D) (S:ax) (R:KD) (Z:KX):η
 |mk (a cs d m rows) (_:ds=[.ref a,d,m]) (_:Gd cs) (_:Sq cs d) (_:Vw t.aw S a cs m rows) (_:∀p,S p=ϐ->R (.ref p) (S.set p<|.lst<|(rows.filter λr=>dq cs r 7 d).map aI))
def sN(T:Txt w K mg t):Ok P w base T.ke 11 (L9 t):=by show T.ke.F.eM kJ ?_;obtain⟨a,cs,d,m,rows,e,hg,hd,c,q⟩;let⟨F,dl,rs,j,hn,g,l⟩:=c.sh;let⟨ld,lr,ra,h,_⟩:=id j;show{_,(sc (dy (i:=3) kJ.nd<|mV (dv 0) T.aj T.a_ (bW T) hr)<|s1<|sr<|v9 (N:=["row","columns","sieve"]) (src:=[none,some 3,some 1]) (kT (ae uA) ["shelf","sieve","moment","columns"] rfl rfl<|`c) (il<|vL (dv 0) T.aj T.j9 (Iv T) hr<|al 2 an) (sG<|show(["row","columns","sieve"]:δ ρ).Nodup by trivial) (bD rfl) bH (λx x x x x=>(if1<|tv<|ba T.passes (mP T 7) hr<|al 1<|al 2<|al 0 an)) λx x x x x=>(dv 0)),?_};show !{a,_,rfl,h.ins,rfl,a,F,cs,dl,rs,rfl,j,?_};show !{a,_,rfl,h.ins,rfl,_,rfl,a,F,cs,dl,rs,m,rfl,j,hn,c.mo,λi ss hi s hs p n=>?_,λh=>absurd h g};rw[l i ss hi s hs];show{_,aa,?_};show mL (Qu cs d) id aa (by change(rows.map aI).length<=1000;rw[zc];have:=c.len;lia) (λx hx Q z o v=>?_) λp2 y=>?_;let⟨r,hr,rfl⟩:=zh.mp hx;show !!!{cs,d,r,rfl,hg,hd.1,c.rg.1 r hr,_,rfl,bY (λh=>!⟨o h⟩) λh=>v h};have e1:((rows.map aI).filter<|Qu cs d).map id=(rows.filter λr=>dq cs r 7 d).map aI:=rD λr=>rfl;rw[show({rows.map aI,λS=>yY S (.ref p)<|rows.map aI}:HJ).xs=rows.map aI from rfl,e1];show{_,je<|.new n,q p2<|eK (.new n) y}
inductive X5 (t:gu) (ds:δ D) (S:ax) (R:KD) (Z:KX):η
 |mk (a cs ps wy d m rows) (_:ds=[.ref a,gL ps wy,d,m]) (_:Gd cs) (_:Og cs ps wy) (_:Sq cs d) (_:Vw t.aw S a cs m rows) (_:Tb t S) (_:∀(eW:δ Row)(p:ε),eW.Perm (rows.filter λr=>dq cs r 7 d)->(eW.Pairwise λa b=>ft cs wy ps a b=ϱ)->S p=ϐ->R (.ref p) (S.set p<|.lst<|eW.map aI))
def fQ(T:Txt w K mg t)(B:Bm mg base):Ok P w base T.eC 12 (X5 t):=by show T.eC.F.eM pz ?_;obtain⟨a,cs,ps,wy,d,m,rows,e,hg,ho,hd,c,l,q⟩;let⟨F,dl,rs,i,hn,j,o⟩:=c.sh;let⟨ld,lr,ra,h,_⟩:=id i;show{_,(s1<|sr<|ba T.uL (CM T B) hr<|ac (mV (dv 0) T.aj T.a_ (bW T) hr)<|al 1<|ac (ba T.ke (sN T) hr<|al 0<|al 2<|al 3 an) an),?_};show !{a,_,rfl,h.ins,rfl,a,F,cs,dl,rs,rfl,i,?_};show !!!!{a,cs,d,m,rows,rfl,hg,hd,c,λp g=>?_};have fl:(rows.filter λr=>dq cs r 7 d).length<=rows.length:=List.length_filter_le _ _;have:=c.len;show{cs,ps,wy,p,rows.filter λr=>dq cs r 7 d,rfl,hg,ho,aa,Nat.lt_of_le_of_lt fl this,c.rg.sub List.filter_sublist,l.sub<|.new g,λeW p2 pm pw n=>?_};show{_,je<|.new g,q eW p2 pm pw<|eK (.new g) n}
theorem rE(h:S p=ϑ (.lst L)):Gt S (.ref p):={{.lst,.inl ⟨rfl,L,h⟩},λz=>nofun}
theorem oA:Gt S (.tup ws):={{.tup,rfl},λz=>nofun}
theorem OT(h:ws.length<=1000)(g:∀v∈ws,Gt S v):Jh S (.tup ws):={oA,λa e=>by cases e;show⟨h,g⟩}
theorem gt_int:Gt S (.int i):={{.int,rfl},λz=>nofun}
theorem xH:Gt S (.bl i):={{.bl,rfl},λz=>nofun}
theorem tJ(h:z.cps.size<=1000):Gt S (.str z):={{.str,rfl},λa e=>by cases e;show h}
def my(h:iR d=ϱ):Gt S d:=by cases d with|ao=>show gm|int i=>show gt_int|str z=>have h:(ω (z.cps.size<=40)&&PyData.strOk z)=ϱ:=h;rw[zT]at h;have:=zj h.1;show tJ `b|_=>cases h
theorem vf:∀{cs:δ (ρ×ρ)}{ws:δ D},Paired rel cs ws->ws.length=cs.length|_,_,.nil=>rfl|_,_,.cons _ t=>by rw[zG,zG,vf t]
theorem Wg.len(h:Wg cs ws):ws.length=cs.length:=vf h
def Wg.TK(h:Wg cs ws):fM cs (.tup ws)=ϱ:=by change(ω (ws.length=cs.length)&&(List.zipWith (λc v=>dR c.2 v) cs ws).all id)=ϱ;rw[zi h.len,zP];unfold Wg at h;induction h with|nil=>rfl|cons r t a=>rw[List.zipWith_cons_cons,List.all_cons,a];change(id (dR _ _)&&true)=ϱ;rw[show id (dR _ _)=ϱ from r.1];rfl
theorem Wg.ZE(h:Wg cs ws)(hc:cs.length<=8):Jh S (.tup ws):=OT (by rw[h.len];lia) λv a=>my<|h.all v a
theorem GJ(hg:Gd cs)(hN:∀c∈cs,c.1∈xB):∀d∈cs.map aC,Ly S 60 d:=λd hd=>by let⟨c,hc,rfl⟩:=zh.mp hd;show(Ly.tup (n:=0) λx hx=>?_).le `a;have hx:x∈[D.str c.1,D.str c.2]:=hx;simp only[ze,zt,or_false]at hx;rcases hx with rfl|rfl;show Ly.str (Ll _<|hN c hc).2;rcases (hg.2.2 c hc).2 with e|e<;>rw[e]<;>show Ly.str `c
def OU{n a b tn:π}(ha:a<n)(c:b<n)(h:(a+tn)%n=(b+tn)%n):a=b:=by rcases Nat.lt_trichotomy a b with l|l|l;have:=Nat.sub_mod_eq_zero_of_mod_eq h.symm;rw[show b+tn-(a+tn)=b-a by lia,Nat.mod_eq_of_lt<|`b]at this;lia;show l;have:=Nat.sub_mod_eq_zero_of_mod_eq h;rw[show a+tn-(b+tn)=a-b by lia,Nat.mod_eq_of_lt<|`b]at this;lia
noncomputable def vg(cs:δ<|ρ×ρ)(tn k:π):Str:=(cs.getD ((k+tn)%cs.length) ("","")).1
def CO(h:0<cs.length):∃c∈cs,cs[(k+tn)%cs.length]?=some c/\c.1=vg cs tn k:=by have a:(k+tn)%cs.length<cs.length:=Nat.mod_lt _ h;show{cs[(k+tn)%cs.length],List.getElem_mem a,zg a,?_};unfold vg;rw[zJ,zg a];rfl
def CP{cs:δ<|ρ×ρ}(hg:(cs.map Prod.fst).Nodup){tn i:π}(hi:i<=cs.length):((List.range i).map<|vg cs tn).Nodup:=by
 show List.pairwise_map.mpr<|List.nodup_range.imp_of_mem λ{a b} ha c n e=>n ?_;have ha:=zV.mp ha;have c:=zV.mp c;have h0:0<cs.length:=`b
 have g:(a+tn)%cs.length<cs.length:=Nat.mod_lt _ h0;have d:(b+tn)%cs.length<cs.length:=Nat.mod_lt _ h0;unfold vg at e;rw[zJ,zg g,zJ,zg d]at e;have e:(cs[(a+tn)%cs.length]).1=(cs[(b+tn)%cs.length]).1:=e;have e2:(cs.map Prod.fst)[(a+tn)%cs.length]'(by rw[zc];show g)=(cs.map Prod.fst)[(b+tn)%cs.length]'(by rw[zc];show d):=by rw[List.getElem_map,List.getElem_map];show e
 show OU (n:=cs.length) `b `b<|(List.getElem_inj hg).mp e2
inductive xI (ds:δ D) (S:ax) (R:KD) (Z:KX):η
 |mk (l cs) (_:ds=[.ref l,.tup<|cs.map aC]) (_:Gd cs) (_:S l=ϑ .well) (_:∀(ps:δ Part)(wy:ρ),Og cs ps wy->R (gL ps wy) S)
def L_(T:Txt w K mg t):Ok P w base T.Ay 2 xI:=by
 show T.Ay.F.eM iJ ?_;obtain⟨l,cs,e,hg,hw,q⟩;have h8:=hg.1;have O:(cs.map aC).length=cs.length:=zc _;show{_,(sc (dy (i:=2) iJ.nd<|ba T.aN (bB T) hr<|al 0<|ac di an)<|sc (dy (i:=3) iJ.nd<|bG an)<|sc (Jd<|P2 (P1 T.i9<|ac (cb PV T.Qj Kc<|ac (cb bC T.bw aU<|al 1 an)<|ac (ur<|ix `u (bG<|ac di<|ac di<|ac di<|ac di an)<|ba T.aN (bB T) hr<|al 0<|ac di an) an) an) (gn (i:=4) iJ.nd)<|sc (dy (i:=5) iJ.nd<|ix `u (ix `u (dv 1)<|bo kB `u (bo fG `u (dv 4)<|dv 2)<|cb bC T.bw aU<|al 1 an) di)<|s1<|se<|bm zS yd ye fF (dv 3)<|ac (aF<|al 5<|ac (ur<|ix `u (bG<|ac ds<|ac ds an)<|ba T.aN (bB T) hr<|al 0<|ac di an)<|ac (ur<|ix `u (bG<|ac ds<|ac ds an)<|ba T.aN (bB T) hr<|al 0<|ac di an) an) an)<|s1<|sr<|aF<|ac (ct i4 T.bL bj<|al 3 an)<|ac (ur<|ix `u (bG<|ac ds<|ac ds an)<|ba T.aN (bB T) hr<|al 0<|ac di an) an),?_};show !{l,_,rfl,`a,`a,hw,λR a1 a0=>{wu,λlp g=>?_}};obtain⟨tn,rfl⟩:∃n:π,R=(n:ν):={R.toNat,`b};have v:l≠lp:=jx hw g;show{λs S'=>∃(o j:θ D)(ps:δ Part)(i:π),s=[some<|.ref l,some<|.tup<|cs.map aC,some<|.int tn,some<|.ref lp,o,j]/\i<=cs.length/\ps.map Prod.fst=(List.range i).map (vg cs tn)/\(∀p∈ps,gR p.2.1=ϱ/\wD p.2.2=ϱ)/\S'=S.set lp (.lst<|ps.map p3),?_,?_};show !!{wx,λp a=>!{l,_,rfl,`a,`a,wl (wl hw g) a,λn4 J M=>bU J M a λd hd=>?_}};obtain⟨m,rfl⟩:∃m:π,d=.int m:=by have hd:d∈[D.int 1,.int 2,.int 0,.int 8]:=hd;simp only[ze,zt,or_false]at hd;rcases hd with h|h|h|h;show{1,h};show{2,h};show{0,h};show{8,h}
 obtain⟨k,hk,Z⟩:∃k:π,k<=cs.length/\(if ω ((m:ν)<(((cs.map aC).length:π):ν))=ϱ then (m:ν) else (((cs.map aC).length:π):ν))=(k:ν):=by rw[O];by_cases h:(m:ν)<((cs.length:π):ν);show{m,`b,by rw[zi h,qe rfl]};show{cs.length,zp _,by rw[zf h,qb zd]}
 show{_,_,rfl,k,congrArg (λi=>[D.int i]) Z,`b,`b,?_};show{λi s S'=>∃(o j:θ D)(ps:δ Part),s=[some<|.ref l,some<|.tup<|cs.map aC,some<|.int tn,some<|.ref lp,o,j]/\ps.map Prod.fst=(List.range i).map (vg cs tn)/\(∀p∈ps,gR p.2.1=ϱ/\wD p.2.2=ϱ)/\S'=S.set lp (.lst<|ps.map p3),{none,none,[],rfl,rfl,λf h=>(nomatch h),rfl},λf f f f=>trivial,?_,?_};rintro i d s S' hd ⟨o,j,ps,rfl,hn,H,rfl⟩;let⟨hi,rfl⟩:=oY hd;have hi:i<k:=by simpa using hi
 have h0:0<cs.length:=`b
 have X:ps.length=i:=by have:=congrArg List.length hn;simpa using this
 let⟨c,hc,r,N⟩:=CO (cs:=cs) (tn:=tn) (k:=i) h0;have G:(S.set lp<|.lst<|ps.map p3) l=ϑ .well:=(ah v).trans hw;have B:(S.set lp<|.lst<|ps.map p3) lp=ϑ (.lst<|ps.map p3):=aa;have Q:tV (cs.map aC) (((0:ν)+(i:π)+(tn:π))%(((cs.map aC).length:π):ν))=ϑ (aC c):=by rw[O,show((0:ν)+(i:π)+(tn:π))%((cs.length:π):ν)=(((i+tn)%cs.length:π):ν) by rw[Int.zero_add,Int.natCast_emod,Int.natCast_add]];show gY ?_;rw[zA,r];rfl
 show !!!!!{(by rw[O];lia),_,Q,_,rfl,?_};show{_,rfl,{rfl,_,B},_,rfl,gE,λp a=>!{l,_,rfl,`a,`a,wl G a,λU y A=>bU y A a λd hd=>?_}};obtain⟨wy,rfl,E⟩:∃wy:ρ,d=.str wy/\gR wy=ϱ:=by have hd:d∈[D.str "up",.str "down"]:=hd;simp only[ze,zt,or_false]at hd;rcases hd with h|h;show{_,h,`c};show{_,h,`c}
 show{gE,λp a=>!{l,_,rfl,`a,`a,wl G a,λU y A=>bU y A a λd hd=>?_}};obtain⟨C,rfl,Y⟩:∃C:ρ,d=.str C/\wD C=ϱ:=by have hd:d∈[D.str "first",.str "last"]:=hd;simp only[ze,zt,or_false]at hd;rcases hd with h|h;show{_,h,`c};show{_,h,`c}
 show{iM,lp,_,_,rfl,rfl,B,bg<|by rw[zc];lia,?_};show{_,_,ps++[(c.1,wy,C)],rfl,?_,λx hx=>?_,?_};rw[zQ,hn,List.range_succ,zQ];change _=_++[vg cs tn i];rw[<-N];rfl;rcases zN.mp hx with h|h;show H x h;rw[zx.mp h];show⟨E,Y⟩;rw[fu,zQ];rfl;rintro s S' ⟨o,j,ps,rfl,hn,H,rfl⟩;rw[dS]at hn;show fo {o,j,ps,k,rfl,hk,by simpa using hn,H,rfl};rintro s S' ⟨o,j,ps,i,rfl,hi,hn,hk,rfl⟩;have G:(S.set lp<|.lst<|ps.map p3) l=ϑ .well:=(ah v).trans hw;have B:(S.set lp<|.lst<|ps.map p3) lp=ϑ (.lst<|ps.map p3):=aa;show !{_,_,rfl,.inl B,gE,λp a=>!{l,_,rfl,`a,`a,wl G a,λU y A=>bU y A a λd hd=>?_}};obtain⟨wy,rfl,E⟩:∃wy:ρ,d=.str wy/\gR wy=ϱ:=by have hd:d∈[D.str "up",.str "down"]:=hd;simp only[ze,zt,or_false]at hd;rcases hd with h|h;show{_,h,`c};show{_,h,`c}
 have X:ps.length=i:=by have:=congrArg List.length hn;simpa using this
 have pin:Pin cs ps:=λx hx=>by have:x.1∈ps.map Prod.fst:=zh.mpr ⟨x,hx,rfl⟩;rw[hn]at this;let⟨k,hk,e⟩:=zh.mp this;have:=zV.mp hk;let⟨c,hc,_,r⟩:=CO (cs:=cs) (tn:=tn) (k:=k) `b;show{c,hc,r.trans e}
 have L:∀z,gR z=ϱ->z.cps.size<=1000:=λz h=>by rcases A_ h with rfl|rfl<;>decide +kernel
 have I:∀z,wD z=ϱ->z.cps.size<=1000:=λz h=>by unfold wD at h;simp only[Bool.or_eq_true,yp]at h;rcases h with rfl|rfl<;>decide +kernel
 show{gE,S,.new g,q ps wy {pin,λx hx=>(hk x hx).1,E,?_,λx hx=>?_}};unfold OL;rw[zi<|show ps.length<=8 by lia,zP,zT,zT];show{yn.mpr λx hx=>?_,zi<|by rw[hn];show CP hg.2.1 hi,E};let⟨c,hc,r⟩:=pin x hx;unfold Gw;rw[zi<|zh.mpr ⟨c,hc,r⟩,(hk x hx).1,(hk x hx).2];rfl;let⟨c,hc,r⟩:=pin x hx;show{by rw[<-r];show xu (hg.2.2 c hc).1,L _ (hk x hx).1,I _ (hk x hx).2}
def acT(n:π):ir:=λds S R z=>∃l cs m,n=m+1/\ds=[.ref l,.tup<|cs.map aC,.int ((m:π):ν)]/\Gd cs/\(∀c∈cs,c.1∈xB)/\S l=ϑ .well/\∀d,Sg cs n d->R d S
def keys_str:(∀d∈out,∃z∈KS,d=.str z)->∃ks:δ ρ,out=ks.map D.str/\∀k∈ks,k∈KS:=by induction out with|nil=>show λy=>{[],rfl,λy h=>(nomatch h)}|cons x l c=>intro h;let⟨z,hz,e⟩:=h x zD;let⟨ks,e2,hk⟩:=c λd hd=>h d<|zk _ hd;show{z::ks,by rw[e,e2];rfl,λk a=>(ze.mp a).elim (λe=>e ▸ hz)<|hk k}
theorem kr:∀{xs out:δ D},Paired rel xs out->∀v∈out,∃x,rel x v|_,_,.nil,_,h=>(nomatch h)|_,_,.cons r t,v,h=>by rcases ze.mp h with rfl|h;show{_,r};show kr t v h
theorem rF(T:Txt w K mg t):∀n,Ok P w base T.mK (3+n) (acT n)
 |0=>by show T.mK.F.ok (k:=2) fm (by rintro ds S R Z ⟨_,_,_,_,e,_⟩;show by rw[e];rfl) (by rintro fT A outer s H E ds S R Z hr ⟨_,_,m,e,_⟩;show by cases e)
 |n+1=>by
  show T.mK.F.ok (k:=3+n) fm (by rintro ds S R Z ⟨_,_,_,_,e,_⟩;rw[e];rfl) ?_;obtain⟨l,cs,m,em,e,hg,hN,hw,q⟩;cases em;have Hx:(cs.map aC).length=cs.length:=zc _;have h8:=hg.1;show{_,(sc (dy (i:=3) fm.nd<|ba T.aN (bB T) hr<|al 0<|ac (bo fG `u di<|bo i3 `u di<|ct lJ T.kI gO<|ac (cm sF `u (dv 2) di) an) an)<|sc (si (twd<|twor (bX bO `u (dv 3) di)<|tw1<|twd<|twand (bX bO `u (dv 1)<|aF an)<|tw1<|bX NW `u (dv 3) di) (s1<|sr<|aF<|ac ds an) s0)<|sc (si (bX bO `u (dv 3) di) (s1<|sr<|aF<|ac ds<|ac (ct i4 T.bL bj<|ac (v9 (N:=["_law_k","_law_well_here"]) (src:=[none,some 0]) (kT (ae xn) ["_law_well_here","_law_columns_here","_law_deep","_law_way","_law_some","_law_name","_law_kind","_law_value_here"] rfl rfl<|`c) (P1 T.i9<|ac (ba T.aN (bB T) hr<|al 0<|ac di an) an) (sG<|show(["_law_k","_law_well_here"]:δ ρ).Nodup by trivial) (bD rfl) bH (λf f f f f=>tm) λf f f f f=>(ba T.Cv (EL T) hr<|al 1 an)) an) an) s0)<|sc (si (bX bO `u (dv 3) di) (s1<|sr<|aF<|ac ds<|ac (ba T.mK (rF T n) hr<|al 0<|al 1<|ac (bo uo `u (dv 2) di) an) an) s0)<|sc (si (bX sF `u (dv 3) di) (sc (Sm (i:=4) (N:=["_law_k","_law_well_here","_law_columns_here","_law_deep"]) (src:=[none,some 0,some 1,some 2]) fm.nd (kT (ae xn) ["_law_well_here","_law_columns_here","_law_deep","_law_way","_law_some","_law_name","_law_kind","_law_value_here"] rfl rfl<|`c) (P1 T.i9<|ac (ba T.aN (bB T) hr<|al 0<|ac di an) an) (sG<|show(["_law_k","_law_well_here","_law_columns_here","_law_deep"]:δ ρ).Nodup by trivial) (bD rfl) bH (λf f f f f=>tm) λf f f f f=>(ba T.mK (rF T n) hr<|al 1<|al 2<|ac (bo uo `u (dv 3) di) an))<|s1<|sr<|aF<|ac (ur<|ix `u (bG<|ac ds<|ac ds an)<|bo uo `u (dv 3) di)<|ac (ct i4 T.bL bj<|al 4 an) an) s0)<|sc (sa (ix `u (dv 1)<|ba T.aN (bB T) hr<|al 0<|ac (cb bC T.bw aU<|al 1 an) an)<|gt (n:=2)<|gc (gn (i:=5) fm.nd)<|gc (gn (i:=6) fm.nd) g0)<|sc (dy (i:=7) fm.nd<|ba T.tE (CH T) hr<|al 0<|al 6 an)<|sc (si (twd<|twor (bX bO `u (dv 3) di)<|tw1<|bX v8 `u (dv 7) dn) (s1<|sr<|aF<|ac ds<|al 5<|al 7 an) s0)<|sc (si (twd<|twand (bX bO `u (dv 3) di)<|tw1<|bX bO `u (dv 6) ds) (s1<|sr<|aF<|ac ds<|al 5<|al 7 an) s0)<|s1<|sr<|aF<|ac (ur<|ix `u (bG<|ac ds<|ac ds an)<|bo kB `u (dv 3) di)<|al 5<|al 7 an),?_};obtain⟨x,ex,hx⟩:∃x:ν,(if (λi j:ν=>ω<|j<i) (↑n) 0=ϱ then (1:ν) else 0)=x/\(x=0\/(x=1/\0<n)):=by by_cases e:(0:ν)<(n:ν);show{1,qe<|zi e,.inr {rfl,`b}};show{0,qb<|by rw[show(λi j:ν=>ω<|j<i) (↑n) 0=ϰ from zf e];show zd,.inl rfl}
  show !!⟨.inr !⟨?_⟩⟩;rw[ex];show{.inl {`a,`a},l,_,rfl,`b,u0 `b<|`b,hw,λway h0 h1=>?_};have M:way<9:=`b
  have X:6<=way->0<n:=λh=>by lia
  have Qw:Fo S (R<|.tup [.str "every"]):=fo<|q _<|.inl<|.inl rfl;have O:∀d∈cs.map aC,Ly S 60 d:=GJ hg hN;show !!⟨bY (λh=>⟨fU,Qw⟩) λh=>!{wu,Gv O !⟨bY (λh2=>!!⟨bY (λh3=>⟨fU,Qw⟩) λh3=>?_⟩) λh2=>?_⟩}⟩
  all_goals
   have Oz:way<5->0<cs.length:=by
    first
    |show λh=>absurd h (zK h3)
    |show λf=>List.length_pos_iff.mpr λe=>by subst e;cases h2
   have a2:way≠0:=zK h
   show !!⟨bY (λh5=>?_) λh5=>?_⟩
   ·show !{l,_,rfl,`a,`a,hw,λn5 a5 a4=>{n5,rfl,`b,`b,?_}}
    show mf (λf v=>∃z∈KS,v=.str z) trivial (by rw[dS];lia) (λd hd Q L=>?_) λout ho p G=>?_
    ·show !{l,[],rfl,rfl,hw,by rintro d ⟨z,hz,e⟩;show L d {z,r_ hz,e}}
    ·let⟨ks,rfl,Dg⟩:=keys_str λd hd=>(kr ho d hd).elim λf h=>h
     have U:ks.length<=8:=by
      have:=yM ho
      rw[dS,zc]at this
      lia
     show{_,_,rfl,.inl aa,gE,S,.new G,q _<|.inl<|.inr<|.inl ⟨ks,rfl,U,Dg⟩}
   have a0:way≠5:=zK h5
   show !!⟨bY (λI=>?_) λI=>?_⟩
   ·have I:way=6:=zj I
    have hn:=X<|`b
    show !!!{l,cs,n-1,`b,?_,hg,hN,hw,λd hd=>{gE,fo<|q _<|.inr<|.inl ⟨d,rfl,hd⟩}}
    change[D.ref l,.tup<|cs.map aC,.int<|(n:ν)-1]=[_,_,D.int ((n-1:π):ν)]
    rw[show((n-1:π):ν)=(n:ν)-1 by lia]
   have a3:way≠6:=zK I
   show !!⟨bY (λr=>?_) λr=>?_⟩
   ·have r:6<way:=zj r
    have hn:=X<|`b
    show !{l,_,rfl,`a,`a,hw,λn3 a6 ZD=>{n3,rfl,`b,`b,?_}}
    show mf (λf v=>Sg cs n v) trivial (by rw[dS];lia) (λd hd Q L=>?_) λout ho p G=>?_
    ·show !!!{l,cs,n-1,`b,?_,hg,hN,hw,λd hd=>L d hd}
     change[D.ref l,.tup<|cs.map aC,.int<|(n:ν)-1]=[_,_,D.int ((n-1:π):ν)]
     rw[show((n-1:π):ν)=(n:ν)-1 by lia]
    ·have J6:out.length<=2:=by
      have:=yM ho
      rw[dS]at this
      lia
     show{gE,λp2 lB=>!⟨bU `b (by change way-7<2;lia) lB λd hd=>?_⟩}
     obtain⟨o,rfl,g⟩:∃o:ρ,d=.str o/\(o ="and"\/o ="or"):=by
      have hd:d∈[D.str "and",.str "or"]:=hd
      simp only[ze,zt,or_false]at hd
      rcases hd with h|h
      ·show{_,h,.inl rfl}
      ·show{_,h,.inr rfl}
     show !{_,_,rfl,.inl aa,gE,S,.new G,q _<|.inr<|.inr {o,out,g,rfl,zM J6<|`a,λe he=>(kr ho e he).elim λf h=>h}}
   have r:¬6<way:=zK r
   have sD:=Oz<|`b
   show !!!!{l,_,rfl,`b,u0 `b<|`b,hw,λj a7 a1=>?_}
   obtain⟨a,rfl⟩:∃a:π,j=(a:ν):={j.toNat,`b}
   have y:a<cs.length:=`b
   have ec:cs[a]?=some cs[a]:=zg y
   have hc:cs[a]∈cs:=List.getElem_mem y
   generalize cs[a]=c at ec hc
   show{aC c,gY<|by rw[zA,ec];rfl,_,rfl,rfl,_,_,rfl,_,_,rfl,rfl,?_}
   show !!{l,[.str c.2],rfl,?_,hw,λv C=>?_}
   ·rcases (hg.2.2 c hc).2 with e|e<;>rw[e]
    ·show .inl rfl
    ·show .inr rfl
   let⟨k,ek,C⟩:=C
   cases ek
   have MP:Fo S (R<|.tup [.str "is",.str c.1,v]):=fo<|q _<|.inl<|.inr<|.inr {"is",c,v,hc,C,.inl rfl,rfl}
   show !!⟨bY (λh8=>!!⟨iM,MP⟩) λh8=>!!⟨bY (λM=>!!⟨iM,MP⟩) λM=>?_⟩⟩
   have Y:v≠.ao:=gI M
   show !!⟨bY (λJ=>!!⟨bY (λB=>?_) λB=>?_⟩) λJ=>?_⟩
   ·show !!{iM,fo<|q _<|.inl<|.inr<|.inr {"begins",c,v,hc,C,.inr {Y,.inr<|.inr {rfl,zj B}},rfl}}
   all_goals
    show{gE,λp G=>!{`a,bU `b (by change way%2<2;lia) G λd hd=>?_}}
    obtain⟨o,rfl,g⟩:∃o:ρ,d=.str o/\(o ="below"\/o ="above"):=by
     have hd:d∈[D.str "below",.str "above"]:=hd
     simp only[ze,zt,or_false]at hd
     rcases hd with h|h
     ·show{_,h,.inl rfl}
     ·show{_,h,.inr rfl}
    show !!{iM,fo<|q _<|.inl<|.inr<|.inr {o,c,v,hc,C,.inr {Y,g.elim .inl λh=>.inr<|.inl h},rfl}}
theorem GK:∀{l:δ ρ}{p:ρ},PyProof.Rows.risingS p l=ϱ->(p::l).Pairwise λa b=>a.cps.toList<=b.cps.toList|[],p,_=>List.pairwise_singleton _ _|x::r,p,h=>by have h:(!PySem.Spec.ltCps x.cps.toList p.cps.toList&&PyProof.Rows.risingS x r)=ϱ:=h;rw[zT,PyProof.Rows.ltCps_eq,Bool.not_eq_true',decide_eq_false_iff_not]at h;have g:=GK h.2;have c:p.cps.toList<=x.cps.toList:=List.not_lt.mp h.1;show List.pairwise_cons.mpr {λy d=>?_,g};rcases ze.mp d with e|d;rw[e];show c;show List.le_trans c<|(List.pairwise_cons.mp g).1 y d
def xJ(h:PyProof.Rows.sortedS l=ϱ):l.Pairwise λa b=>a.cps.toList<=b.cps.toList:=by cases l with|nil=>show List.Pairwise.nil|cons x r=>show GK h
def OV{a b:ρ}(h:a.cps.toList=b.cps.toList):a=b:=by let⟨⟨x⟩⟩:=a;let⟨⟨y⟩⟩:=b;cases h;rfl
theorem IF{l m:δ ρ}(hl:l.Pairwise λa b=>a.cps.toList<=b.cps.toList)(hm:m.Pairwise λa b=>a.cps.toList<=b.cps.toList)(c:l.Nodup)(nm:m.Nodup)(h:∀z,z∈l↔z∈m):l=m:=List.Perm.eq_of_pairwise (λa b x x h1 h2=>OV<|List.le_antisymm h1 h2) hl hm<|(List.perm_ext_iff_of_nodup c nm).mpr h
def TI(l:δ Std)(n:π):Prop:=∀s∈l,s.b<=n/\∀m,s.e=ϑ m->m<n
noncomputable def OW(s:Std):D:=match s.e with|none=>.tup s.ws|some _=>.ao
noncomputable def cur(l:δ Std):D:=match l.getLast? with|none=>.ao|some s=>OW s
def mz(r:δ Std)(s:Std):cur (r++[s])=OW s:=by unfold cur;rw[List.getLast?_concat]
def TL(h:TI l n):wt l n=cur l:=by by_cases e:l=[];subst e;rfl;let⟨r,s,rfl⟩:=mM e;rw[mz];unfold wt;rw[List.reverse_append];let⟨h1,h2⟩:=h s<|zB _<|zx.mpr rfl;change Ld (s::r.reverse) (n:ν)=_;unfold Ld OW;rw[qe<|show(s.b:ν)<=(n:ν) by lia];cases q:s.e with|none=>rfl|some m=>have:=h2 m q;show qb<|show ¬(n:ν)<=(m:ν) by lia
theorem TI.up(h:TI l n):TI l (n+1):=λs hs=>{Nat.le_succ_of_le (h s hs).1,λm e=>Nat.lt_succ_of_lt<|(h s hs).2 m e}
def TI.close(h:TI l n):TI (km n l) (n+1):=by by_cases e:l=[];subst e;show λs hs=>(nomatch hs);let⟨r,s,rfl⟩:=mM e;rw[gF];intro x hx;rcases zN.mp hx with hx|hx;show h.up x<|zW _ hx;rw[zx.mp hx];show{Nat.le_succ_of_le (h s<|zB _<|zx.mpr rfl).1,λm e=>by cases e;show Nat.lt_succ_self _}
theorem TI.beg(h:TI l<|n+1):TI (l++[Std.mk (n+1) none ws]) (n+1):=λs hs=>by rcases zN.mp hs with hs|hs;show h s hs;rw[zx.mp hs];show{zp _,λm e=>(by cases e)}
def IG:cur (km n l)=.ao:=by by_cases e:l=[];subst e;rfl;let⟨r,s,rfl⟩:=mM e;rw[gF,mz];rfl
noncomputable def CQ(kn:Kn)(z:ρ):D:=match g9 kn z with|none=>.ao|some ws=>.tup ws
structure RI(rs:xx)(n:π)(kn:Kn):η where
 ti:∀z,TI ((lu rs z).getD []) n
 eq:∀z,cur ((lu rs z).getD [])=CQ kn z
 ks:∀r∈rs,r.1∈KS
def OX(h:r∈EH rs z s):r.1=z\/∃c∈rs,c.1=r.1:=by unfold EH at h;split at h;let⟨r0,a,e⟩:=zh.mp h;show .inr {r0,a,?_};subst e;split<;>rfl;rcases zN.mp h with h|h;show .inr ⟨r,h,rfl⟩;rw[zx.mp h];show .inl rfl
theorem Ma(h:∀r∈rs,r.1∈KS)(hz:z∈KS):∀r∈EH rs z s,r.1∈KS:=λr hr=>by rcases OX hr with e|⟨c,a,e⟩;rw[e];show hz;rw[<-e];show h c a
def GL:CQ (sL kn z ws) k=if k=z then .tup ws else CQ kn k:=by unfold CQ;rw[OF];by_cases h:k=z;rw[qe h,qe h];rw[qb h,qb h]
def GN:CQ (AX kn z) k=if k=z then .ao else CQ kn k:=by unfold CQ;rw[OG];by_cases h:k=z;rw[qe h,qe h];rw[qb h,qb h]
theorem RI.nil:RI [] 0 []:={λz s hs=>(nomatch hs),λz=>rfl,λr hr=>(nomatch hr)}
def RI.put(h:RI rs n kn)(hz:z∈KS):RI (wB rs z (n+1) ws) (n+1) (sL kn z ws):=by show{λk=>?_,λk=>?_,Ma h.ks hz};unfold wB;rw[mq];by_cases e:k=z;rw[qe e];show(h.ti z).up.beg;rw[qb e];show(h.ti k).up;unfold wB;rw[mq,GL];by_cases e:k=z;rw[qe e,qe e];show mz _ _;rw[qb e,qb e];show h.eq k
def RI.del(h:RI rs n kn)(hz:z∈KS):RI (rq rs z n) (n+1) (AX kn z):=by show{λk=>?_,λk=>?_,Ma h.ks hz};unfold rq;rw[mq];by_cases e:k=z;rw[qe e];show(h.ti z).close;rw[qb e];show(h.ti k).up;unfold rq;rw[mq,GN];by_cases e:k=z;rw[qe e,qe e];show IG;rw[qb e,qb e];show h.eq k
def RI.change(h:RI rs n kn)(hz:z∈KS):RI (wB (rq rs z n) z (n+1) ws) (n+1) (sL kn z ws):=by have h1:=h.del hz;show{λk=>?_,λk=>?_,Ma h1.ks hz};unfold wB;rw[mq];by_cases e:k=z;rw[qe e];show(h1.ti z).beg;rw[qb e];show h1.ti k;unfold wB;rw[mq,GL];by_cases e:k=z;rw[qe e,qe e];show mz _ _;rw[qb e,qb e,h1.eq k,GN,qb e]
def RI.wt{rs:xx}{n:π}{kn:Kn}(h:RI rs n kn)(z:ρ):wt ((lu rs z).getD []) n=CQ kn z:=by rw[TL<|h.ti z,h.eq]
def RI.Di(h:RI rs n kn)(hz:z∈KS):Di rs (.str z) n=CQ kn z:=by rw[AR (jt z hz).1,h.wt]
def xK(kn:Kn)(z:ρ):au (CQ kn z)=!(g9 kn z).isSome:=by unfold CQ;cases g9 kn z<;>rfl
def Qx(h:dM C S a F cs dl rs):(rs.map (·.1)).Nodup:=by let⟨ld,lr,ra,h,_,rfl⟩:=h;unfold jP;rw[zH];show h.kn
def RI.len(h:RI rs n kn)(hs:dM C S a F cs dl rs):rs.length<=50:=by
 have:=sub_len (Qx hs) (m:=KS) λx hx=>by let⟨r,hr,rfl⟩:=zh.mp hx;show h.ks r hr
 rw[zc]at this;show this
noncomputable def TM(kn:Kn)(ss:δ ρ):δ D:=ss.map λz=>.tup [.str z,CQ kn z]
def X6(h:lu rs k=ϑ s):k∈rs.map (·.1):=by induction rs with|nil=>(cases h)|cons r rs a=>rw[g8]at h;rw[zO];by_cases e:r.1=k;show ze.mpr<|.inl e.symm;rw[qb e]at h;show zk _<|a h
noncomputable def rG(k:π)(l:δ Std):δ Std:=match l.getLast? with|none=>l|some s=>match s.e with|none=>km k l|some _=>l
def su(h:s.e=ϐ):rG k (r++[s])=r++[Std.mk s.b (some k) s.ws]:=by unfold rG;rw[List.getLast?_concat];dsimp only;rw[h];show gF _ _ _
def CT(h:s.e=ϑ n):rG k (r++[s])=r++[s]:=by unfold rG;rw[List.getLast?_concat];dsimp only;rw[h]
def OY{s:Std}{r:δ Std}{m:π}(h:m<s.b):Ld (s::r) m=Ld r m:=by change(if (s.b:ν)<=(m:ν) then _ else Ld r m)=_;rw[qb<|`b]
def IH(hm:m<=n):wt (rG n l) m=wt l m:=by by_cases e:l=[];subst e;rfl;let⟨r,s,rfl⟩:=mM e;cases q:s.e with|some k=>rw[CT q]|none=>rw[su q];unfold wt;rw[List.reverse_append,List.reverse_append];change(if (s.b:ν)<=(m:ν) then (if (m:ν)<=(n:ν) then D.tup s.ws else .ao) else Ld r.reverse m)=(if (s.b:ν)<=(m:ν) then (match s.e with|none=>.tup s.ws|some n=>if (m:ν)<=(n:ν) then .tup s.ws else .ao) else Ld r.reverse m);rw[q,qe<|show(m:ν)<=(n:ν) by lia]
def E3(h:cur l≠.ao):rG n l=km n l:=by by_cases e:l=[];subst e;rfl;let⟨r,s,rfl⟩:=mM e;rw[mz]at h;cases q:s.e with|none=>rw[su q,gF]|some m=>unfold OW at h;rw[q]at h;show absurd rfl h
noncomputable def jf(kn:Kn)(ss:δ ρ):δ Row:=ss.map λz=>(z,(g9 kn z).getD [])
structure Snap(rs:xx)(cs:δ (ρ×ρ))(m:π)(rows:δ Row):η where
 ex:∃kn ss,rows=jf kn ss/\KI cs kn/\ss.Perm (kn.map (·.1))/\PyProof.Rows.sortedS ss=ϱ/\∀z,wt ((lu rs z).getD []) m=CQ kn z
def II(p:ss.Perm (kn.map (·.1))):(jf kn ss).map aI=TM kn ss:=by unfold jf TM;rw[zH];show zY λz hz=>?_;let⟨ws,a⟩:=rA<|p.mem_iff.mp hz;change D.tup [.str z,.tup<|(g9 kn z).getD []]=.tup [.str z,CQ kn z];unfold CQ;rw[a];rfl
def Mb(a:KI cs kn)(p:ss.Perm (kn.map (·.1))):Rg cs (jf kn ss):=by show{λr hr=>?_,?_};let⟨z,hz,rfl⟩:=zh.mp hr;let⟨ws,c⟩:=rA<|p.mem_iff.mp hz;change Wg cs ((g9 kn z).getD []);rw[c];show(a.ok _<|tG c).2;unfold jf;rw[zH];change(ss.map id).Nodup;rw[List.map_id];show p.nodup_iff.mpr a.nd
def xM(a:KI cs kn)(p:ss.Perm (kn.map (·.1))):(jf kn ss).length<=50:=by unfold jf;rw[zc,p.length_eq,zc];show a.len
def Snap.rg(h:Snap rs cs m rows):Rg cs rows/\rows.length<=50:=by let⟨kn,ss,rfl,a,p,_⟩:=h.ex;show{Mb a p,xM a p}
def Snap.key(h:Snap rs cs m rows):∀r∈rows,r.1∈KS:=by let⟨kn,ss,rfl,c,p,_⟩:=h.ex;intro r hr;let⟨z,hz,rfl⟩:=zh.mp hr;let⟨ws,a⟩:=rA<|p.mem_iff.mp hz;show(c.ok _<|tG a).1
def IJ{C a:ε}{S:ax}{F:δ ε}{cs:δ<|ρ×ρ}{dl:δ D}{rs:xx}{m:π}{rows:δ Row}(h:Snap rs cs m rows)(hs:dM C S a F cs dl rs){ss:δ ρ} (d:ss.Perm (rs.map (·.1))) (o1:PyProof.Rows.sortedS ss=ϱ):oy rs m ss=rows.map aI:=by
 let⟨kn,s2,rfl,i,p2,g,hw⟩:=h.ex;rw[II p2];have e:ss.filter (λz=>!au (wt ((lu rs z).getD []) m))=s2:=by show IF ((xJ o1).filter _) (xJ g) ?_ (p2.nodup_iff.mpr i.nd) λz=>?_;show List.filter_sublist.nodup<|d.nodup_iff.mpr<|Qx hs;rw[yA,hw,xK,Bool.not_not,d.mem_iff,p2.mem_iff];constructor;rintro⟨_,hz⟩;let⟨ws,c⟩:=Option.isSome_iff_exists.mp hz;show zh.mpr {_,tG c,rfl};intro hz;let⟨ws,c⟩:=rA hz;show{?_,by rw[c];rfl};have e:=hw z;unfold CQ at e;rw[c]at e;cases q:lu rs z with|none=>(rw[q]at e;cases e)|some s=>show X6 q
 unfold oy TM;rw[e];show zY λz x=>?_;unfold AS;rw[hw]
def TN{l:δ Std}{n m:π}{ws:δ D}(hm:m<=n):wt (l++[Std.mk (n+1) none ws]) m=wt l m:=by unfold wt;rw[List.reverse_append];show OY<|show m<n+1 by lia
def GO(k:ρ)(m:π)(hm:m<=n):wt ((lu (wB rs z (n+1) ws) k).getD []) m=wt ((lu rs k).getD []) m:=by unfold wB;rw[mq];by_cases e:k=z;rw[qe e,e];show TN hm;rw[qb e]
def GP(h:RI rs n kn)(hz:(g9 kn z).isSome=ϱ)(k:ρ)(m:π)(hm:m<=n):wt ((lu (rq rs z n) k).getD []) m=wt ((lu rs k).getD []) m:=by
 unfold rq;rw[mq];by_cases e:k=z;rw[qe e,e];have hc:cur ((lu rs z).getD [])≠.ao:=by rw[h.eq];unfold CQ;cases q:g9 kn z with|none=>(rw[q]at hz;cases hz)|some ws=>show λe=>by cases e
 change wt (km n<|(lu rs z).getD []) m=_;rw[<-E3 hc,IH hm];rw[qb e]
theorem vh(hz:z∈KS):Gt S (.str z):=tJ<|by have:=(jt z hz).2.1;lia
section
variable{t:gu}{S:ax}{a:ε}{F:δ ε}{cs:δ (ρ×ρ)}{dl:δ D}{rs:xx}{kn:Kn}{d:D}{R:KD}{Z:KX}
def Ba(hz:z∈KS)(h:Wg cs ws):kX cs (.str z) (.tup ws)=ϱ:=by unfold kX;rw[h.TK,show ofStr fV (.str z)=ϱ from(jt z hz).1];rfl
def rH(a:RI rs dl.length kn)(hz:z∈KS):au (Di rs (.str z) dl.length)=!(g9 kn z).isSome:=by rw[a.Di hz,xK]
def Mc(h:g9 kn z=ϐ):(!(g9 kn z).isSome)=ϱ:=by rw[h];rfl
def E6(h:(g9 kn z).isSome=ϱ):(!(g9 kn z).isSome)=ϰ:=by rw[h];rfl
def tf{b:χ}(h1:b=ϱ)(h2:b=ϰ){p:η} : p:=by rw[h1]at h2;cases h2
theorem dM.out(d:dM C S a F cs dl rs)(c:S b=ϐ):b∉F:=λm=>by let⟨ld,lr,ra,h,rfl,_⟩:=d;unfold fp at m;simp only[ze,zh]at m;rcases m with e|e|e|⟨r,hr,e⟩;have:=h.ins;rw[<-e,c]at this;cases this;have:=h.CD;rw[<-e,c]at this;cases this;have:=h.run;rw[<-e,c]at this;cases this;have:=h.cell r hr;rw[e,c]at this;cases this
def dM.off(l:dM C S a F cs dl rs)(g:p∉F):dM C (S.set p c) a F cs dl rs:=by let⟨ld,lr,ra,d,rfl,e2⟩:=l;unfold fp at g;simp only[ze,not_or]at g;let⟨i,j,m,h⟩:=g;show{ld,lr,ra,{(ah<|Ne.symm i).trans d.ins,(ah<|Ne.symm j).trans d.CD,(ah<|Ne.symm m).trans d.run,λr hr=>(ah λe=>h<|by rw[<-e];show zh.mpr ⟨r,hr,rfl⟩).trans<|d.cell r hr,d.kn,d.an,d.sz},rfl,e2}
def GD.up(hd:GD KT cs kn d):GD KS cs kn d:=by rcases hd with⟨z,ws,hz,h⟩|h;show .inl {z,ws,r_ hz,h};show .inr h
def GD.as(hd:GD KS cs kn d)(a:KI cs kn):∃tH,ZA kn d tH/\KI cs tH:=by rcases hd with⟨z,ws,hz,hw,hn,rfl⟩|⟨z,ws,hz,hw,hn,rfl⟩|⟨z,hz,hn,rfl⟩;show{_,.inl {_,z,ws,.inl rfl,rfl,rfl},a.put hz hw};show{_,.inl {_,z,ws,.inr rfl,rfl,rfl},a.put hz hw};show{_,.inr ⟨z,hn,rfl,rfl⟩,a.del z}
structure Dos(t:gu)(ds:δ D)(S:ax)(R:KD)(Z:KX):η where
 of:ES t ds S R Z
def IK(i:dM t.aw S a F cs dl rs)(hg:Gd cs)(x:KI cs kn)(c:RI rs dl.length kn)(hl:dl.length<=100)(hd:GD KS cs kn d){tH:Kn}(p:ZA kn d tH) (q:∀S' F' eW,dM t.aw S' a F' cs (dl++[d]) eW->EJ F F' S S'->RI eW (dl.length+1) tH->(∀z m,m<=dl.length->wt ((lu eW z).getD []) m=wt ((lu rs z).getD []) m)->R .ao S'):Dos t [.ref a,d] S R Z:=by
 have w:=c.len i;have o:=hg.1;let⟨ld,lr,ra,h,_,_⟩:=id i;show{a,_,h.ins,rfl,?_};rcases hd with⟨z,ws,hz,hw,hn,rfl⟩|⟨z,ws,hz,hw,hn,rfl⟩|⟨z,hz,hn,rfl⟩;have r:=Ba hz hw;have st:=(rH c hz).trans<|Mc hn;show .inl {_,_,rfl,a,F,cs,_,rs,_,_,rfl,i,o,vh hz,hw.ZE o,`b,`b,λe=>tf r e,λu e=>tf st e,λs v e1 e2 u u S' F' l j=>?_};cases e1;cases e2;have g:tH=sL kn z ws:=by rcases p with⟨n,y,vs,_,e1,e2⟩|⟨y,_,e1,_⟩<;>cases e1;show e2
 subst g;show q S' F' _ l j (c.put hz) GO;have r:=Ba hz hw;have st:=(rH c hz).trans<|E6 hn;show .inr<|.inl {_,_,rfl,a,F,cs,_,rs,_,_,rfl,i,o,vh hz,hw.ZE o,`b,`b,λe=>tf r e,λu e=>tf e st,λs v e1 e2 u u S' F' l j=>?_};cases e1;cases e2;have g:tH=sL kn z ws:=by rcases p with⟨n,y,vs,_,e1,e2⟩|⟨y,_,e1,_⟩<;>cases e1;show e2
 subst g;show q S' F' _ l j (c.change hz) λk m hm=>(GO k m hm).trans<|GP c hn k m hm;have st:=(rH c hz).trans<|E6 hn;show .inr<|.inr !{a,F,cs,_,rs,_,rfl,i,vh hz,`b,λe=>tf (jt z hz).1 e,λu e=>tf e st,λs e1 u u S' l j=>?_};cases e1;have g:tH=AX kn z:=by rcases p with⟨n,y,vs,_,e1,e2⟩|⟨y,_,e1,e2⟩<;>cases e1;show e2
 subst g;show q S' F _ l j (c.del hz)<|GP c hn
def Snap.vw(h:Snap rs cs m rows)(c:dM t.aw S a F cs dl rs)(g:RI rs dl.length kn)(hm:wA dl.length md=ϑ (m:ν))(d:Gt S md):Vw t.aw S a cs md rows:=by have:=h.rg;show{{F,dl,rs,c,by have:=g.len c;lia,(λe=>by rw[hm]at e;cases e),λi ss hi j hs=>?_},d,`b,this.1};rw[hm]at hi;cases hi;show IJ h c j hs
end
def Far(S:ax)(F:δ ε)(S':ax):Prop:=∀b c,S b=ϑ c->b∉F/\S' b=ϑ c
theorem Far.sub(h:Far S F S'):Sub S S':=λb c e=>(h b c e).2
theorem KI.nil(cs:δ<|ρ×ρ):KI cs []:={List.nodup_nil,λz h=>(nomatch h)}
def CU(ns:δ ν)(lo hi:θ ν):iY (ns.map D.int) lo hi=(iY ns lo hi).map D.int:=by unfold iY;rw[zc,List.map_take,List.map_drop]
structure St(t:gu)(S0:ax)(a:ε)(fs:δ (ε×Ce))(F:δ ε)(cs:δ (ρ×ρ))(dl:δ D)(rs:xx)(S:ax):η where
 sh:dM t.aw S a F cs dl rs
 fa:∀x∈fs,S x.1=ϑ x.2/\x.1∉F/\S0 x.1=ϐ
 nd:(fs.map Prod.fst).Nodup
 CV:Far S0 F S
section
variable{t:gu}{S0:ax}{a:ε}{fs:δ (ε×Ce)}{F:δ ε}{cs:δ (ρ×ρ)}{dl:δ D}{rs:xx}{S:ax}
theorem St.at(h:St t S0 a fs F cs dl rs S)(i:π)(e:fs[i]?=some (b,c)):S b=ϑ c:=(h.fa _<|zI e).1
theorem St.sub(h:St t S0 a fs F cs dl rs S)(b:Sub S S'):St t S0 a fs F cs dl rs S':={h.sh.sub b,λx hx=>{b _ _ (h.fa x hx).1,(h.fa x hx).2},h.nd,λx c hx=>{(h.CV x c hx).1,b _ _ (h.CV x c hx).2}}
def St.zero(h:St t S0 a fs F cs dl rs S)(d:S b=ϐ):S0 b=ϐ:=by cases e:S0 b with|none=>rfl|some c=>have:=h.CV.sub _ _ e;rw[d]at this;cases this
def St.new(h:St t S0 a fs F cs dl rs S)(d:S p=ϐ)(c:Ce):St t S0 a (fs++[(p,c)]) F cs dl rs (S.set p c):=by
 have h1:=h.sub<|.new (c:=c) d;show{h1.sh,λx hx=>?_,?_,h1.CV};rcases zN.mp hx with hx|hx;show h1.fa x hx;rw[zx.mp hx];show{aa,h.sh.out d,h.zero d};rw[zQ,List.nodup_append];show{h.nd,`d,λx hx y g e=>?_};let⟨z,hz,rfl⟩:=zh.mp hx;have g:y=p:=by simpa using g
 have:=(h.fa z hz).1;rw[e,g,d]at this;cases this
def St.put(h:St t S0 a fs F cs dl rs S)(i:π)(e:fs[i]?=some (b,c))(g:Ce):St t S0 a (fs.set i (b,g)) F cs dl rs (S.set b g):=by
 have l:=h.fa _<|zI e;have hi:=(zu.mp e).1;have n:(fs.set i (b,g)).map Prod.fst=fs.map Prod.fst:=by show List.ext_getElem? λj=>?_;rw[zA,zA];by_cases q:j=i;subst q;rw[List.getElem?_set_self hi,e];rfl;rw[List.getElem?_set_ne<|Ne.symm q]
 show{h.sh.off l.2.1,λx hx=>?_,by rw[n];show h.nd,λx c hx=>{(h.CV x c hx).1,(ah<|jx hx l.2.2).trans (h.CV x c hx).2}};let⟨j,d⟩:=List.getElem?_of_mem hx;by_cases q:j=i;subst q;rw[List.getElem?_set_self hi]at d;cases d;show⟨aa,l.2⟩;rw[List.getElem?_set_ne<|Ne.symm q]at d;have m:=h.fa x<|zI d;show{(ah λe2=>q ?_).trans m.1,m.2};have s:(fs.map Prod.fst)[j]?=some x.1:=by rw[zA,d];rfl
 have r:(fs.map Prod.fst)[i]?=some b:=by rw[zA,e];rfl
 let⟨b1,o⟩:=zu.mp s;let⟨b2,p⟩:=zu.mp r;show(List.getElem_inj h.nd (h₀:=b1) (h₁:=b2)).mp<|by rw[o,p];show e2
theorem St.less(h:St t S0 a fs F cs dl rs S)(n:(c.map Prod.fst).Nodup)(p:∀x∈c,x∈fs):St t S0 a c F cs dl rs S:={h.sh,λx hx=>h.fa x<|p x hx,n,h.CV}
theorem St.acW(h:St t S0 a fs F cs dl rs S)(g:dM t.aw S' a F' cs dl' eW)(d:EJ F F' S S'):St t S0 a fs F' cs dl' eW S':={g,λx hx=>by let⟨h1,h2,e⟩:=h.fa x hx;show by let⟨k1,k2⟩:=d _ _ h2 h1;show⟨k2,k1,e⟩,h.nd,λx c hx=>by let⟨h1,h2⟩:=h.CV x c hx;show d _ _ h1 h2}
end
def TQ(hk:r.1∈KS)(hw:Wg cs r.2):Ly S 60 (aI r):=by show(Ly.tup (n:=1) λx hx=>?_).le `a;simp only[ze,zt,or_false]at hx;rcases hx with rfl|rfl;show(Ly.str (jt _ hk).2.2).le `a;show hw.ly
def Vw.sub(h:Vw C S a cs m rows)(b:Sub S S'):Vw C S' a cs m rows:=by let⟨F,dl,rs,h1,h2⟩:=h.sh;show{{F,dl,rs,h1.sub b,h2},h.mo.sub b,h.len,h.rg}
noncomputable def vO(cs:δ<|ρ×ρ)(z:ρ):Str:=((cs[TC cs z]?).map Prod.snd).getD "word"
noncomputable def vi(z:ρ):Bool:=ω (z ="ahead")||ω (z ="behind")
def Og.len(h:Og cs ps wy):ps.length<=8:=by have:=h.ok;unfold OL at this;simp only[zT,yp]at this;show this.1
def E7(hg:Gd cs)(hc:c∈cs):c.1.cps.size<=1000:=by have h:=(hg.2.2 c hc).1;unfold iN at h;simp only[zT,yp]at h;lia
noncomputable def MS(cs:δ<|ρ×ρ)(ps:δ Part):D->χ|.tup xs=>ω (xs.length=ps.length)&&(List.zipWith (λp x=>dR (vO cs p.1) x) ps xs).all id|_=>false
noncomputable def avD(cs:δ<|ρ×ρ):D->D|.tup [.tup (.str z::_),y]=>.bl (dR (vO cs z) y)|_=>.ao
noncomputable def MT(cs:δ<|ρ×ρ)(ps:δ Part):D->χ|.tup [x,k]=>MS cs ps x&&ofStr fV k|_=>false
noncomputable def sO(cs:δ<|ρ×ρ)(ps:δ Part):D->χ|.tup [x,z]=>MT cs ps x&&ofStr vi z|_=>false
def E8(T:Txt w K mg t):Ok P w base T.Aw 1 (AM<|ofStr vi):=by show T.Aw.F.Jf EA ?_;rintro _ _ _ _ _ _ ds S R Z hr ⟨d,e,⟨⟨k,hk⟩,hz⟩,q⟩;subst e;show{_,(s1<|sr<|qA (cb cM T.ai ag<|al 0<|ac (oG T.lS iq) an)<|FN<|cmk T.Am (dv 0)<|dg (v:=.ref t.j8) T.we rfl λx=>cg _),?_};show !{_,_,_,_,rfl,dw,hk,_,rfl,?_};rcases mi hk with⟨z,rfl,h0⟩|⟨h0,h1⟩;rw[h0];show ck !{z,rfl,rfl,?_};rw[LD];show fo q;rw[h1]at q;rw[h0];show bV<|fo q
inductive iU (ds:δ D) (S:ax) (R:KD) (Z:KX):η
 |mk (cs ps d) (_:ds=[.tup<|cs.map aC,.tup<|ps.map p3,d]) (_:Gd cs) (_:Pin cs ps) (_:ps.length<=8) (_:Qd S 1 d) (_:R (.bl<|MS cs ps d) S)
def m8(T:Txt w K mg t):Ok P w base T.f9 4 iU:=by
 show T.f9.F.eM mZ ?_;obtain⟨cs,ps,d,e,hg,n,v,hd,q⟩;have g:(ps.map p3).length=ps.length:=zc _;show{_,(sc (si (twd<|twor (cL<|tv<|cb cM T.ai ag<|al 2<|ac (oG T.bL bj) an)<|tw1<|bX jk `u (cb bC T.bw aU<|al 2 an)<|cb bC T.bw aU<|al 1 an) (s1<|sr db) s0)<|s1<|sr<|cb lI T.lR ip<|ac (v9 (N:=["part","value","columns"]) (src:=[none,none,some 0]) (kT (ae nR) ["columns","parts","thing"] rfl rfl<|`c) (izn T.Qi<|al 1<|al 2 an) (cg2<|show(["part","value","columns"]:δ ρ).Nodup by trivial) (xZ rfl rfl) y7 (λz z z z z=>tm) λz z z z z=>(ba T.l5 (mj T) hr<|ac (ba T.iF (jv T) hr<|al 2<|ac (ix `u (dv 0) di) an)<|al 1 an)) an),?_};let⟨k,hk⟩:=hd.gt.1;show !{_,_,_,_,rfl,aV,hk,_,rfl,?_};rcases iO hk with⟨xs,rfl,h0⟩|⟨h0,h1⟩;rw[h0];show bV !!!!!⟨?_⟩;show bY (λh=>?_) λh=>?_;have h:¬((xs.length:π):ν)=(((ps.map p3).length:π):ν):=zK<|nt h;rw[g]at h;have e:MS cs ps (.tup xs)=ϰ:=by change(ω (xs.length=ps.length)&&_)=ϰ;rw[zf<|`b];rfl
 rw[e]at q;show fo q;have h:((xs.length:π):ν)=(((ps.map p3).length:π):ν):=zj<|nf h;rw[g]at h;have q:R (.bl<|ω (xs.length=ps.length)&&(List.zipWith (λp x=>dR (vO cs p.1) x) ps xs).all id) S:=q;rw[zi<|`b,zP]at q;show !!{_,_,rfl,by rw[g];lia,?_};show comp_map (avD cs) trivial (by change(dU _ _).length<=_;unfold dU;rw[List.length_zipWith,g];lia) (λd j Q a=>?_) λp s=>?_;have j:d∈dU (ps.map p3) xs:=j;unfold dU at j;let⟨i,o⟩:=List.getElem?_of_mem j;let⟨x,y,e2,e3,e4⟩:=List.getElem?_zipWith_eq_some.mp o;subst e4;rw[zA]at e2;cases l:ps[i]? with|none=>(rw[l]at e2;cases e2)|some pt=>rw[l]at e2;cases e2;let⟨c,hc,m⟩:=n pt<|zI l;have a:Q (.bl<|dR (vO cs pt.1) y) S:=a;have r:vO cs pt.1=c.2:=(by unfold vO;rw[<-m,(A6 hg hc).1];rfl);rw[r]at a;show !{rfl,_,_,rfl,_,_,rfl,rfl,_,rfl,_,rfl,_,rfl,cs,.str pt.1,rfl,hg,tJ<|by rw[<-m];show E7 hg hc,?_};rw[AY hg (k:=c.2)<|by rw[<-m];show hc];show !{c.2,y,rfl,hd.in.2 y<|zI e3,a}
 have e2:(dU (ps.map p3) xs).map (avD cs)=(List.zipWith (λp x=>dR (vO cs p.1) x) ps xs).map D.bl:=by unfold dU;rw[List.map_zipWith,List.map_zipWith,List.zipWith_map_left];rfl
 rw[show({dU (ps.map p3) xs,λz=>True}:HJ).xs=dU (ps.map p3) xs from rfl,e2];show{.ref p,List.zipWith (λ(p:Part) x=>dR (vO cs p.1) x) ps xs,rfl,aa,S,.new s,q};rw[h0];have e:MS cs ps d=ϰ:=by unfold MS;split;show absurd rfl<|h1 _;rfl
 rw[e]at q;show ck<|fo q
inductive nG (t:gu) (ds:δ D) (S:ax) (R:KD) (Z:KX):η
 |mk (cs ps wy d) (_:ds=[.tup<|cs.map aC,gL ps wy,d]) (_:Gd cs) (_:Pin cs ps) (_:ps.length<=8) (_:Qd S 2 d) (_:MT cs ps d=ϱ->R .ao S) (_:MT cs ps d=ϰ->Z t.av S)
set_option tactic.hygienic true in
def vj(T:Txt w K mg t):Ok P w base T.l7 5 (nG t):=by show T.l7.F.eM uO ?_;obtain⟨cs,ps,wy,d,e,hg,l,j,hd,g,a⟩;have c:=fU;show{_,(sc (si (twd<|twor (cL<|tv<|cb cM T.ai ag<|al 2<|ac (oG T.bL bj) an)<|tw1<|bX jk `u (cb bC T.bw aU<|al 2 an) di) (s1<|oH ⟨T.dY⟩ T.fz<|ac ds an) s0)<|sc (si (cL<|tv<|ba T.f9 (m8 T) hr<|al 0<|ac (ix `u (dv 1) di)<|ac (ix `u (dv 2) di) an) (s1<|oH ⟨T.dY⟩ T.fz<|ac ds an) s0)<|s1<|si (cL<|tv<|ba T.og (jO T) hr<|ac (ix `u (dv 2) di) an) (s1<|oH ⟨T.dY⟩ T.fz<|ac ds an) s0),?_};let⟨k,hk⟩:=hd.gt.1;show !{_,_,_,_,rfl,aV,hk,_,rfl,?_};rcases iO hk with⟨xs,rfl,h0⟩|⟨h0,h1⟩;rw[h0];show bV !!!⟨bY (λh=>{c,fo<|a ?_}) λh=>?_⟩;have h:¬((xs.length:π):ν)=2:=zK<|nt h;unfold MT;split;rename_i e;cases e;show absurd rfl h;rfl;have h:((xs.length:π):ν)=2:=zj<|nf h;let⟨x,y,rfl⟩:=LC (show xs.length=2 by lia);have i:=hd.in.2;have g:(MS cs ps x&&ofStr fV y)=ϱ->R .ao S:=g;have a:(MS cs ps x&&ofStr fV y)=ϰ->Z t.av S:=a;show !!!!!{cs,ps,x,rfl,hg,l,j,i x<|`d,_,rfl,bY (λh=>{c,fo<|a ?_}) λh=>?_};rw[nt h];rfl;rw[nf h,zP]at g a;show !!{y,rfl,(i y<|`d).gt,_,rfl,bY (λh2=>{c,fo<|a<|nt h2}) λh2=>fo<|g<|nf h2};rw[h0];show ck {c,fo<|a ?_};unfold MT;split;show absurd rfl<|h1 _;rfl
inductive sx (t:gu) (ds:δ D) (S:ax) (R:KD) (Z:KX):η
 |mk (cs ps wy d) (_:ds=[.tup<|cs.map aC,gL ps wy,d]) (_:Gd cs) (_:Pin cs ps) (_:ps.length<=8) (_:Qd S 3 d) (_:sO cs ps d=ϱ->R .ao S) (_:sO cs ps d=ϰ->Z t.av S)
set_option tactic.hygienic true in
def Bb(T:Txt w K mg t):Ok P w base T.q_ 6 (sx t):=by show T.q_.F.eM AE ?_;obtain⟨cs,ps,wy,d,e,hg,l,j,hd,c,a⟩;have g:=fU;show{_,(sc (si (twd<|twor (cL<|tv<|cb cM T.ai ag<|al 2<|ac (oG T.bL bj) an)<|tw1<|bX jk `u (cb bC T.bw aU<|al 2 an) di) (s1<|oH ⟨T.dY⟩ T.fz<|ac ds an) s0)<|sc (se<|ba T.l7 (vj T) hr<|al 0<|al 1<|ac (ix `u (dv 2) di) an)<|s1<|si (cL<|tv<|ba T.Aw (E8 T) hr<|ac (ix `u (dv 2) di) an) (s1<|oH ⟨T.dY⟩ T.fz<|ac ds an) s0),?_};let⟨k,hk⟩:=hd.gt.1;show !{_,_,_,_,rfl,aV,hk,_,rfl,?_};rcases iO hk with⟨xs,rfl,h0⟩|⟨h0,h1⟩;rw[h0];show bV !!!⟨bY (λh=>{g,fo<|a ?_}) λh=>?_⟩;have h:¬((xs.length:π):ν)=2:=zK<|nt h;unfold sO;split;rename_i e;cases e;show absurd rfl h;rfl;have h:((xs.length:π):ν)=2:=zj<|nf h;let⟨x,y,rfl⟩:=LC (show xs.length=2 by lia);have i:=hd.in.2;have c:(MT cs ps x&&ofStr vi y)=ϱ->R .ao S:=c;have a:(MT cs ps x&&ofStr vi y)=ϰ->Z t.av S:=a;show !!!!{cs,ps,wy,x,rfl,hg,l,j,i x<|`d,λh=>?_,λh=>fo<|a<|by rw[h];rfl};rw[h,zP]at c a;show !!{y,rfl,(i y<|`d).gt,_,rfl,bY (λh2=>{g,fo<|a<|nt h2}) λh2=>fo<|c<|nf h2};rw[h0];show ck {g,fo<|a ?_};unfold sO;split;show absurd rfl<|h1 _;rfl
noncomputable def UX:D->χ|.int n=>ω (1<=n)&&ω (n<=1000)|_=>false
inductive pT (t:gu) (ds:δ D) (S:ax) (R:KD) (Z:KX):η
 |mk (d:D) (_:ds=[d]) (_:Gt S d) (_:UX d=ϱ->R .ao S) (_:UX d=ϰ->Z t.aG S)
def wF(T:Txt w K mg t):Ok P w base T.om 2 (pT t):=by show T.om.F.eM wo ?_;obtain⟨d,e,hd,c,a⟩;show{_,(s1<|si (twd<|twor (cL<|tv<|ba T.l4 (mh T) hr<|al 0 an)<|tw1<|cL<|YT lH lH `u di (dv 0)<|dg (v:=.int 1000) T.Ai {_,rfl} λz=>bc _) (s1<|oH ⟨T.mG⟩ T.uH<|ac ds an) s0),?_};show !{d,rfl,hd,_,rfl,?_};cases d with|int n=>show bV !!⟨bY (λh1=>?_) λh1=>?_⟩;have h1:1<=n:=zj h1;show{_,rfl,?_};by_cases h2:n<=1000;show fg (by change(!decide (n<=1000))=ϰ;rw[zi h2];rfl)<|fo<|c (by change(ω (1<=n)&&ω (n<=1000))=ϱ;rw[zi h1,zi h2];rfl);show wC (by change(!decide (n<=1000))=ϱ;rw[zf h2];rfl) {fU,fo<|a<|by change(ω (1<=n)&&ω (n<=1000))=ϰ;rw[zf h2,yQ]};have h1:ω (1<=n)=ϰ:=h1;show{_,rfl,ck {fU,fo<|a<|by change(ω (1<=n)&&ω (n<=1000))=ϰ;rw[h1];rfl}}|_=>show ck {fU,fo<|a rfl}
theorem bh(h:z.cps.size<=1000):QA S (.str z):=xD (tJ h) λx=>nofun
theorem jw:QA S .ao:=xD gm λz=>nofun
theorem Bc:QA S (.int i):=xD gt_int λz=>nofun
theorem GQ:QA S (.bl i):=xD xH λz=>nofun
theorem Bd(h:S p=ϑ (.lst L)):QA S (.ref p):=xD (rE h) λz=>nofun
theorem nH(h:QA S a):QA S (.tup [a]):=iS `d λv c=>by rw[zx.mp c];show h
theorem cz(h:QA S a)(h2:QA S b):QA S (.tup [a,b]):=iS `d λv c=>by simp only[ze,zt,or_false]at c;rcases c with rfl|rfl;show h;show h2
theorem GR(h:QA S a)(h2:QA S b)(e:QA S c):QA S (.tup [a,b,c]):=iS `d λv d=>by simp only[ze,zt,or_false]at d;rcases d with rfl|rfl|rfl;show h;show h2;show e
theorem vk(hn:n<=1000)(h:QA S a):QA S (.tup<|List.replicate n a):=iS (by rw[zE];show hn) λv c=>by rw[List.eq_of_mem_replicate c];show h
set_option tactic.hygienic true in
def OZ{x w:D}(h:ofStr gR w=ϰ):j6 cs (.tup [x,w])=ϰ:=by unfold j6;split;rename_i e;cases e;rw[h];simp;rfl
def E9:tI cs (n+1) p [d]=(ω (p+1<=200)&&(kY cs d&&tI cs n (p+1) (subs d))):=by change(if (1:π)=0 then true else ω (p+1<=200)&&((kY cs d&&true)&&tI cs n (p+1) (subs d++[])))=_;rw[qb<|`a,Bool.and_true,yG]
def mQ(h:kY cs d=ϰ):tI cs 8 0 [d]=ϰ:=by rw[E9,h];rfl
noncomputable def E_:π->D|0=>.tup [.str "every"]|n+1=>.tup [.str "not",E_ n]
theorem GS(S:ax):∀n,QA S (E_ n)|0=>nH (bh<|`a)|n+1=>cz (bh<|`a)<|GS S n
def O0(cs:δ<|ρ×ρ):∀(m n p:π),m<=n->tI cs m p [E_ n]=ϰ:=by intro m;induction m with|zero=>intro n p _;rfl|succ m a=>intro n p h;obtain⟨k,rfl⟩:∃k,n=k+1:={n-1,`b};rw[E9,show subs (E_<|k+1)=[E_ k] from pN _,a k _<|`b];simp
def Me(h:subs x=List.replicate m y):∀k,(List.replicate k x).flatMap subs=List.replicate (k*m) y:=by intro k;induction k with|zero=>rw[Nat.zero_mul];rfl|succ k a=>rw[List.replicate_succ,List.flatMap_cons,a,h,List.replicate_append_replicate,Nat.succ_mul,Nat.add_comm]
def Be(hk:0<k)(hs:subs x=List.replicate m y)(h:tI cs n (p+k) (List.replicate (k*m) y)=ϰ):tI cs (n+1) p (List.replicate k x)=ϰ:=by unfold tI;rw[qb<|by rw[zE];lia,Me hs,zE,h];simp
def TR(hk:0<k)(h:200<p+k):tI cs (n+1) p (List.replicate k x)=ϰ:=by unfold tI;rw[qb<|by rw[zE];lia,zf<|by rw[zE];lia];rfl
def Bf(ho:Og cs ps wy):QA S (.tup<|ps.map p3)/\QA S (.str wy)/\QA S (gL ps wy):=by
 have c:∀z:ρ,gR z=ϱ->z.cps.size<=1000:=λz h=>by unfold gR at h;rw[Bool.or_eq_true]at h;rcases h with q|q<;>rw[zj q]<;>decide
 have a:QA S (.tup<|ps.map p3):=iS (by rw[zc];have:=ho.len;lia) λv d=>by let⟨p,a,rfl⟩:=zh.mp d;have:=ho.tx p a;show GR (bh this.1) (bh this.2.1)<|bh this.2.2
 have hw:QA S (.str wy):=bh<|c wy ho.way;show{a,hw,cz a hw}
noncomputable def ev:D:=.tup [.str "every"]
def X9(cs:δ<|ρ×ρ):tI cs 8 0 [ev]=ϱ:=by unfold ev;rw[E9,vd];rfl
theorem X_:Sq cs ev:={.inl<|.inl rfl,`c}
def O3(a b:D):XZ [.tup<|List.replicate (8:ν).toNat a++[b]]=ϰ:=by change ω ((List.replicate (8:ν).toNat a++[b]).length<=8)=ϰ;rw[zw,zE];rfl
def acX:ir:=λds S R z=>∃l,ds=[.ref l,.int 2000]/\S l=ϑ .well/\∀d,(∀S',QA S' d)->(∀cs,tI cs 8 0 [d]=ϰ)->R d S
def vm(T:Txt w K mg t):Ok P w base T.jr 2 acX:=by
 show T.jr.F.Jf dm ?_;rintro _ _ _ _ _ _ ds S R Z hr ⟨l,e,hw,q⟩;subst e;have c:=fU;have a:=gE;have ev:∀S,QA S (.tup [.str "every"]):=λS=>nH<|bh `a;show{_,(sc (dy (i:=2) dm.nd<|aF<|ac ds an)<|sc (dy (i:=3) dm.nd<|ba T.aN (bB T) hr<|al 0<|ac di an)<|sc (si (bX bO `u (dv 3) di) (s1<|sr<|aF<|ac ds<|ac (bo fE `u (bo qH `u (aF<|ac (aF<|ac ds<|ac (bo qH `u (aF<|ac (aF<|ac ds<|al 2 an) an) di) an) an) di)<|aF<|al 2 an) an) s0)<|sc (si (bX bO `u (dv 3) di) (s1<|sr<|aF<|ac ds<|ac (bo qH `u (aF<|ac (aF<|ac ds<|ac (bo qH `u (aF<|ac (aF<|ac ds<|ac (bo qH `u (aF<|al 2 an) di) an) an) di) an) an) di) an) s0)<|sc (Jd<|P2 (P1 T.i9<|ac (ur<|ix `u (bG<|ac di<|al 1 an)<|ba T.aN (bB T) hr<|al 0<|ac di an) an) (gn (i:=4) dm.nd)<|s1<|dy (i:=2) dm.nd<|aF<|ac ds<|al 2 an)<|s1<|sr<|dv 2),?_};show{c,_,rfl,l,_,rfl,`a,`a,hw,λway h0 h1=>?_};show !!⟨bY (λr=>?_) λr=>?_⟩;show !{a,c,_,_,rfl,rfl,`a,`a,a,c,_,_,rfl,rfl,`a,`a,_,rfl,c,?_,a,?_};show sm (by rw[zE];decide);show fo<|q _ (λS'=>cz (bh<|`a)<|iS (by rw[zw,zE];decide) λv o=>?_) λcs=>mQ ?_;rcases zN.mp o with o|o;rw[List.eq_of_mem_replicate o];show cz (bh<|`a)<|vk `a<|cz (bh<|`a)<|ev _;rw[zx.mp o];show ev _;rw[A4<|.inr rfl];show O3 _ _;show !!⟨bY (λs=>?_) λs=>?_⟩;show !{c,_,_,rfl,rfl,`a,`a,a,c,_,_,rfl,rfl,`a,`a,a,c,_,_,rfl,rfl,`a,`a,a,?_};show fo<|q _ (λS'=>cz (bh<|`a)<|vk `a<|cz (bh<|`a)<|vk `a<|cz (bh<|`a)<|vk `a<|ev _) λcs=>?_;show Be (k:=1) (m:=8) `a (jT (.inl rfl) _)<|Be (k:=8) (m:=8) `a (jT (.inr rfl) _)<|Be (k:=64) (m:=3) `a (jT (.inl rfl) _)<|TR (k:=192) `a `a;show{λj S'=>∃(g:θ D)(m:π),j=[some<|.ref l,some<|.int 2000,some<|E_ m,some<|.int way,g]/\8<=m/\S'=S,?_,?_};show !{a,λp x=>!{l,_,rfl,`a,`a,wl hw x,λn h0 h1=>bU h0 h1 x λd hd=>?_}};obtain⟨m,rfl,hm,y⟩:∃m:π,d=.int m/\8<=m/\m<=2000:=by have hd:d∈[D.int 8,.int 2000]:=hd;simp only[ze,zt,or_false]at hd;rcases hd with h|h;show{8,h,`a,`a};show{2000,h,`a,`a}
 show{m,rfl,`b,`b,?_};show{λi j S'=>∃(g:θ D),j=[some<|.ref l,some<|.int 2000,some<|E_ i,some<|.int way,g]/\S'=S,⟨none,rfl,rfl⟩,λz z z z=>trivial,?_,?_};rintro i d j S' hd ⟨g,rfl,rfl⟩;show !{a,_,rfl,rfl};rintro j S' ⟨g,rfl,rfl⟩;show fo {g,_,rfl,?_,rfl};rw[dS];change 8<=((m:ν)).toNat;lia;rintro j S' ⟨g,m,rfl,hm,rfl⟩;show{_,rfl,fo<|q _ (λS'=>GS S' m) λcs=>O0 cs 8 m 0 hm}
structure An(cs:δ (ρ×ρ))(ps:δ Part)(wy:ρ)(A:δ Row):η where
 rg:Rg cs A
 ky:∀r∈A,r.1∈KS
 pw:A.Pairwise λa b=>ft cs wy ps a b=ϱ
structure TU(cs:δ (ρ×ρ))(ps:δ Part)(wy:ρ)(n:π)(d:D)(rows A:δ Row):η where
 an:An cs ps wy A
 pm:A.Perm (rows.filter λr=>dq cs r n d)
theorem TU.one(hg:Gd cs)(a:Pin cs ps)(h:TU cs ps wy n d rows A)(h':TU cs ps wy n d rows A'):A=A':=OR hg a h'.an.rg h.an.pw h'.an.pw<|h.pm.trans h'.pm.symm
def TV(rows:δ Row):Prop:=∀r∈rows,r.1∈KS
theorem TY(hr:Rg cs rows)(hk:TV rows)(pm:A.Perm<|rows.filter λr=>dq cs r n d)(pw:A.Pairwise λa b=>ft cs wy ps a b=ϱ):TU cs ps wy n d rows A:={{(hr.sub List.filter_sublist).perm pm,λr h=>hk r (yA.mp<|pm.mem_iff.mp h).1,pw},pm}
inductive fR (ds:δ D) (S:ax) (R:KD) (Z:KX):η
 |mk (l:ε) (A:δ D) (b e:ν) (_:ds=[.ref l,.int b,.int e]) (_:S l=ϑ (.lst A)) (_:∀v S',Sub S S'->R v S')
def kO(T:Txt w K mg t):Ok P w base T.gZ 1 fR:=by show T.gZ.F.eM sI ?_;rintro _ _ _ _ _ _ _ S R Z hr ⟨l,A,b,e,c,hl,q⟩;subst c;show{_,(s1<|sr<|aF<|ac (sll (dv 0) (o1<|dv 1)<|o1<|dv 2)<|al 1<|ac (bo uo `u (cb bC T.bw aU<|al 0 an)<|dv 2) an),?_};show !!!!!{_,hl,λp a=>!!!⟨.inl {_,(Sub.new a) _ _ hl,_,rfl,iM,fo<|q _ _<|.new a}⟩}
def Bh(T:Txt w K mg t):Ok P w base T.rh 2 fR:=by show T.rh.F.eM AH ?_;rintro _ _ _ _ _ _ _ S R Z hr ⟨l,A,b,n,c,hl,q⟩;subst c;show{_,(s1<|sr<|ba T.gZ (kO T) hr<|al 0<|al 1<|ac (cb PV T.Qj Kc<|ac (bo fG `u (dv 1)<|dv 2)<|ac (cb bC T.bw aU<|al 0 an) an) an),?_};show !!!!!!⟨.inl {_,hl,_,_,rfl,l,A,_,_,rfl,hl,λv S' a=>fo<|q v S' a}⟩
def wG(T:Txt w K mg t):Ok P w base T.oj 2 fR:=by show T.oj.F.eM wk ?_;rintro _ _ _ _ _ _ _ S R Z hr ⟨l,A,e,n,c,hl,q⟩;subst c;show{_,(s1<|sr<|ba T.gZ (kO T) hr<|al 0<|ac (cb WC T.Xy SQ<|ac (bo uo `u (dv 1)<|dv 2)<|ac di an)<|al 1 an),?_};show !!!{_,_,rfl,_,rfl,l,A,_,_,rfl,hl,λv S' a=>fo<|q v S' a}
inductive Mf (ds:δ D) (S:ax) (R:KD) (Z:KX):η
 |mk (c o:D) (l:ε) (A:δ D) (n:ν) (_:ds=[c,o,.ref l,.int n,.ao]) (_:S l=ϑ (.lst A)) (_:∀v S',Sub S S'->R v S')
def wH(T:Txt w K mg t):Ok P w base T.oi 6 Mf:=by show T.oi.F.eM nD ?_;rintro _ _ _ _ _ _ _ S R Z hr ⟨c,o,l,A,n,a,hl,q⟩;subst a;show{_,(sc (dy (i:=5) nD.nd<|YU (bX v8 `u (dv 4) dn) di eno)<|s1<|sr<|ba T.rh (Bh T) hr<|al 2<|al 5<|al 3 an),?_};show !!⟨ck !!!{l,A,_,_,rfl,hl,λv S' d=>fo<|q v S' d}⟩
def sP(T:Txt w K mg t):Ok P w base T.kf 6 Mf:=by show T.kf.F.eM kK ?_;rintro _ _ _ _ _ _ _ S R Z hr ⟨c,o,l,A,n,a,hl,q⟩;subst a;show{_,(sc (dy (i:=5) kK.nd<|YU (bX v8 `u (dv 4) dn) (cb bC T.bw aU<|al 2 an) eno)<|s1<|sr<|ba T.oj (wG T) hr<|al 2<|al 5<|al 3 an),?_};show !!⟨ck !!⟨.inl {_,hl,_,rfl,_,rfl,_,rfl,l,A,_,_,rfl,hl,λv S' d=>fo<|q v S' d}⟩⟩
structure Aq(S:ax)(cs:δ (ρ×ρ))(ps:δ Part)(d z b:D)(b0 b1 b2:χ):η where
 qd:QA S d
 gz:Gt S z
 sv:tI cs 8 0 [d]=!b0
 sz:UX z=!b1
 gp:b2=ϰ/\b=.ao\/b2=ϱ/\au b=ϰ/\QA S b/\sO cs ps b=ϰ
 sq:b0=ϰ->Sq cs d
def Mg(h:UX z=ϱ):∃n,z=.int n:=by cases z with|int n=>show⟨n,rfl⟩|_=>cases h
inductive nI (t:gu) (ds:δ D) (S:ax) (R:KD) (Z:KX):η
 |mk (cs ps wy d) (_:ds=[.tup<|cs.map aC,gL ps wy,d]) (_:Gd cs) (_:Pin cs ps) (_:ps.length<=8) (_:d=.ao/\R .ao S\/au d=ϰ/\QA S d/\(sO cs ps d=ϱ->R .ao S)/\(sO cs ps d=ϰ->Z t.av S))
def vn(T:Txt w K mg t):Ok P w base T.l9 7 (nI t):=by show T.l9.F.eM uQ ?_;obtain⟨cs,ps,wy,d,e,hg,a,g,hd⟩;show{_,(s1<|si (bX qB `u (dv 2) dn) (s1<|se<|ba T.q_ (Bb T) hr<|al 0<|al 1<|al 2 an) s0),?_};rcases hd with⟨rfl,q⟩|⟨hn,hd,h,c⟩;show !!⟨bV<|fo q⟩;show !!⟨wC (by change(!au d)=ϱ;rw[hn];rfl) !!!{cs,ps,wy,d,rfl,hg,a,g,hd 3,λb=>fo<|h b,λb=>fo<|c b}⟩
inductive pU (t:gu) (ds:δ D) (S:ax) (R:KD) (Z:KX):η
 |mk (cs:δ<|ρ×ρ) (ps:δ Part) (wy:ρ) (d z b:D) (b0 b1 b2:χ) (_:ds=[.tup<|cs.map aC,gL ps wy,d,z,b]) (_:Gd cs) (_:Og cs ps wy) (_:Aq S cs ps d z b b0 b1 b2)
  (z0:b0=ϱ->Z t.az S) (z1:b0=ϰ->b1=ϱ->Z t.aG S) (z2:b0=ϰ->b1=ϰ->b2=ϱ->Z t.av S) (_:b0=ϰ->b1=ϰ->b2=ϰ->R .ao S):pU t ds S R Z
def nJ(T:Txt w K mg t):Ok P w base T.kh 8 (pU t):=by show T.kh.F.eM wm ?_;obtain⟨cs,ps,wy,d,z,b,b0,b1,b2,e,hg,ho,a,z0,z1,z2,r⟩;have g:j6 cs (gL ps wy)=ϱ:=(rB hg ps wy).trans ho.ok;show{_,(sc (se<|ba T.fB (fP T) hr<|al 0<|al 1 an)<|sc (se<|ba T.ja (mx T) hr<|al 0<|al 2 an)<|sc (se<|ba T.om (wF T) hr<|al 3 an)<|s1<|se<|ba T.l9 (vn T) hr<|al 0<|al 1<|al 4 an),?_};show !!{cs,gL ps wy,rfl,hg,(Bf ho).2.2 3,λx=>?_,λe=>tf g e};show !!{cs,d,rfl,hg,a.qd,λc=>?_,λc=>fo<|z0<|nf<|a.sv.symm.trans c};have c:=nt<|a.sv.symm.trans c;show !{z,rfl,a.gz,λe1=>?_,λe1=>fo<|z1 c<|nf<|a.sz.symm.trans e1};have e1:=nt<|a.sz.symm.trans e1;show !!!{cs,ps,wy,b,rfl,hg,ho.pin,ho.len,a.gp.imp (λh=>{h.2,fo<|r c e1 h.1}) λh=>{h.2.1,h.2.2.1,λe=>tf e h.2.2.2,λx=>fo<|z2 c e1 h.1}}
inductive TZ (t:gu) (ds:δ D) (S:ax) (R:KD) (Z:KX):η
 |mk (a:ε) (cs:δ<|ρ×ρ) (ps:δ Part) (wy:ρ) (rows:δ Row) (d z b:D) (b0 b1 b2:χ) (_:ds=[.ref a,gL ps wy,d,z,b,.ao]) (_:Gd cs) (_:Og cs ps wy) (_:Vw t.aw S a cs .ao rows) (_:TV rows) (_:Tb t S) (_:Aq S cs ps d z b b0 b1 b2)
  (z0:b0=ϱ->Z t.az S) (z1:b0=ϰ->b1=ϱ->Z t.aG S) (z2:b0=ϰ->b1=ϰ->b2=ϱ->Z t.av S) (_:b0=ϰ->b1=ϰ->b2=ϰ->∀v S',Sub S S'->R v S'):TZ t ds S R Z
def Fc(T:Txt w K mg t)(B:Bm mg base):Ok P w base T.tw 13 (TZ t):=by show T.tw.F.eM EC ?_;obtain⟨a,cs,ps,wy,rows,d,z,b,b0,b1,b2,e,hg,ho,i,hk,m,c,z0,z1,z2,r⟩;let⟨F,dl,rs,g,_⟩:=i.sh;let⟨ld,lr,ra,h,_⟩:=id g;show{_,(sc (se<|ba T.kh (nJ T) hr<|ac (mV (dv 0) T.aj T.a_ (bW T) hr)<|al 1<|al 2<|al 3<|al 4 an)<|s1<|sr<|ba T.oi (wH T) hr<|ac (mV (dv 0) T.aj T.a_ (bW T) hr)<|al 1<|ac (ba T.eC (fQ T B) hr<|al 0<|al 1<|al 2<|al 5 an)<|al 3<|al 4 an),?_};show !{a,_,rfl,h.ins,rfl,a,F,cs,dl,rs,rfl,g,_,rfl,_,rfl,_,rfl,_,rfl,cs,ps,wy,d,z,b,b0,b1,b2,rfl,hg,ho,c,λe=>fo<|z0 e,λe1 e2=>fo<|z1 e1 e2,λe1 e2 e3=>fo<|z2 e1 e2 e3,λe1 e2 e3=>?_};let⟨n,rfl⟩:=Mg<|c.sz.trans (by rw[e2];rfl);obtain rfl:b=.ao:=c.gp.elim And.right λh=>tf h.1 e3;show !{a,_,rfl,h.ins,rfl,a,F,cs,dl,rs,rfl,g,_,rfl,_,rfl,_,rfl,_,rfl,_,rfl,a,cs,ps,wy,d,.ao,rows,rfl,hg,ho,c.sq e1,i,m,λA l pm pw hl=>!!{_,_,l,_,n,rfl,aa,λv S' j=>fo<|r e1 e2 e3 v S'<|(Sub.new hl).trans j}}
def Bi(T:Txt w K mg t)(B:Bm mg base):Ok P w base T.mE 13 (TZ t):=by show T.mE.F.eM AG ?_;obtain⟨a,cs,ps,wy,rows,d,z,b,b0,b1,b2,e,hg,ho,i,hk,m,c,z0,z1,z2,r⟩;let⟨F,dl,rs,g,_⟩:=i.sh;let⟨ld,lr,ra,h,_⟩:=id g;show{_,(sc (se<|ba T.kh (nJ T) hr<|ac (mV (dv 0) T.aj T.a_ (bW T) hr)<|al 1<|al 2<|al 3<|al 4 an)<|s1<|sr<|ba T.kf (sP T) hr<|ac (mV (dv 0) T.aj T.a_ (bW T) hr)<|al 1<|ac (ba T.eC (fQ T B) hr<|al 0<|al 1<|al 2<|al 5 an)<|al 3<|al 4 an),?_};show !{a,_,rfl,h.ins,rfl,a,F,cs,dl,rs,rfl,g,_,rfl,_,rfl,_,rfl,_,rfl,cs,ps,wy,d,z,b,b0,b1,b2,rfl,hg,ho,c,λe=>fo<|z0 e,λe1 e2=>fo<|z1 e1 e2,λe1 e2 e3=>fo<|z2 e1 e2 e3,λe1 e2 e3=>?_};let⟨n,rfl⟩:=Mg<|c.sz.trans (by rw[e2];rfl);obtain rfl:b=.ao:=c.gp.elim And.right λh=>tf h.1 e3;show !{a,_,rfl,h.ins,rfl,a,F,cs,dl,rs,rfl,g,_,rfl,_,rfl,_,rfl,_,rfl,_,rfl,a,cs,ps,wy,d,.ao,rows,rfl,hg,ho,c.sq e1,i,m,λA l pm pw hl=>!!{_,_,l,_,n,rfl,aa,λv S' j=>fo<|r e1 e2 e3 v S'<|(Sub.new hl).trans j}}
def Ya(F:cG P w K mg base (fh P w mg) k f fd ps<|qD K p)(G:cG P w K mg base (fh P w mg) k f fd ps<|qD K q):cG P w K mg base (fh P w mg) k f fd ps (qD K λds S R Z=>p ds S R Z\/q ds S R Z):=by show{λvs H Q E h=>?_,λA outer s H args us vs Q E hr e g r h=>?_};obtain⟨ds,S,R,Z,a,b,c|c,d⟩:=h;show F.len vs H Q E ⟨ds,S,R,Z,a,b,c,d⟩;show G.len vs H Q E ⟨ds,S,R,Z,a,b,c,d⟩;obtain⟨ds,S,R,Z,a,b,c|c,d⟩:=h;show F.run A outer s H args us vs Q E hr e g r ⟨ds,S,R,Z,a,b,c,d⟩;show G.run A outer s H args us vs Q E hr e g r ⟨ds,S,R,Z,a,b,c,d⟩
inductive MU (S:ax):D->η|kind {d:D} (h:∀ds,d≠.tup ds) (g:Gt S d):MU S d|nil:MU S (.tup [])|fst {x:D}{ds:δ D} (h:∀z,x≠.str z) (g:Gt S x):MU S (.tup<|x::ds)|word {z:ρ}{ds:δ D} (h:z≠"put"/\z≠"change"/\z≠"take"):MU S (.tup<|.str z::ds)|len {z:ρ}{ds:δ D} (h:(z ="put"\/z ="change")/\ds.length≠2\/z ="take"/\ds.length≠1):MU S (.tup<|.str z::ds)
theorem Fd(ds:δ D):ω (((ds.length+1:π):ν)=0)=ϰ:=zf<|`b
theorem O4(q:R (.bl true) S):MJ true .ao (.int i) S R:={.none,.int i,by simp only[Dl,Dp],by simp only[Dl,Dp],by simp only[PyData.canLay0],by simp only[PyData.canLay0],.inl<|by simp only[PyData.depth];lia,q}
def Yb(t:gu):ir:=λds S z Z=>∃d,ds=[d]/\MU S d/\Z t.aH S
def vo(T:Txt w K mg t):Ok P w base T.eE 1 (Yb t):=by show T.eE.F.eM nC ?_;obtain⟨d,e,h,q⟩;show{_,(sc (si (twd<|twor (cL<|tv<|cb cM T.ai ag<|al 0<|ac (oG T.bL bj) an)<|twor (bX bO `u (cb bC T.bw aU<|al 0 an) di)<|tw1<|cL<|tv<|cb cM T.ai ag<|ac (ix `u (dv 0) di)<|ac (oG T.lS iq) an) (s1<|oH ⟨T.fZ⟩ T.iE<|ac ds an) s0)<|s1<|si (bX jk `u (mgk T.kH `a (gK T.jH)<|ix `u (dv 0) di)<|cb bC T.bw aU<|al 0 an) (s1<|oH ⟨T.fZ⟩ T.iE<|ac ds an) s0),?_};cases h with|kind h g=>(let⟨⟨k,hk⟩,_⟩:=g;show !{_,_,_,_,rfl,aV,hk,_,rfl,?_};rcases iO hk with⟨ws,rfl,_⟩|⟨h0,_⟩;show absurd rfl<|h ws;rw[h0];show ck<|ck {sm<|`a,fo q})|nil=>show (!{_,_,_,_,rfl,aV,rfl,_,rfl,bV !!!⟨Zv<|ck {sm<|`a,fo q}⟩})|@fst x ds h g=>(let⟨⟨k,hk⟩,_⟩:=g;show !{_,_,_,_,rfl,aV,rfl,_,rfl,bV !!!⟨fg (Fd ds) !{_,tj _ _,_,_,_,_,rfl,dw,hk,_,rfl,?_}⟩};rw[(mi hk).elim (by rintro⟨z,e,_⟩;show absurd e<|h z) And.left];show ck {sm<|`a,fo q})|@word z ds h=>show !{_,_,_,_,rfl,aV,rfl,_,rfl,bV !!!⟨fg (Fd ds) !{_,tj _ _,_,_,_,_,rfl,dw,rfl,_,rfl,bV ?_}⟩};show !{_,tj _ _,_,rfl,_,rfl,?_};have f:∀{a:ρ},z≠a->(z==a)=ϰ:=λh=>beq_false_of_ne h;rw[zL,f h.1,zL,f h.2.1,zL,f h.2.2];show{_,rfl,?_};dsimp only[Kj,Option.elim,List.lookup];show O4 ?_;show{_,rfl,ck {sm<|`a,fo q}}|@len z ds h=>show !{_,_,_,_,rfl,aV,rfl,_,rfl,bV !!!⟨fg (Fd ds) !{_,tj _ _,_,_,_,_,rfl,dw,rfl,_,rfl,bV ?_}⟩};rcases h with⟨rfl|rfl,h⟩|⟨rfl,h⟩;show !{_,tj _ _,_,rfl,_,rfl,_,rfl,_,rfl,Zv {sm<|`a,fo q}<|by change(!decide ((3:ν)=((ds.length+1:π):ν)))=ϱ;rw[zf<|`b];rfl};show !{_,tj _ _,_,rfl,_,rfl,_,rfl,_,rfl,Zv {sm<|`a,fo q}<|by change(!decide ((3:ν)=((ds.length+1:π):ν)))=ϱ;rw[zf<|`b];rfl};show !{_,tj _ _,_,rfl,_,rfl,_,rfl,_,rfl,Zv {sm<|`a,fo q}<|by change(!decide ((2:ν)=((ds.length+1:π):ν)))=ϱ;rw[zf<|`b];rfl}
def Yc(t:gu):ir:=λds S z Z=>∃a d,ds=[a,d]/\MU S d/\Z t.aH S
def Mh(T:Txt w K mg t):Ok P w base T.mJ 7 (Yc t):=by have i:rS P w mg base T.fC 6 (Mo<|Lz t):=EO<|Lj T;have c:rS P w mg base T.cN 6 (Mo<|u9 t):=EO<|xA T;have g:rS P w mg base T.eF 6 (Mo<|ER t):=EO<|Gu T;show T.mJ.F.eM uP ?_;obtain⟨a,d,e,h,q⟩;show{_,(sc (se<|ba T.eE (vo T) hr<|al 1 an)<|s1<|si (bX bO `u (ix `u (dv 1) di) ds) (s1<|se<|vL (dv 0) T.aj T.fC i hr<|ac (ix `u (dv 1) di)<|ac (ix `u (dv 1) di) an)<|s1<|si (bX bO `u (ix `u (dv 1) di) ds) (s1<|se<|vL (dv 0) T.aj T.cN c hr<|ac (ix `u (dv 1) di)<|ac (ix `u (dv 1) di) an)<|s1<|se<|vL (dv 0) T.aj T.eF g hr<|ac (ix `u (dv 1) di) an),_,rfl,d,rfl,h,fo q}
noncomputable def kindB(z:ρ):Bool:=C8 (lg<|.str z)<|[D.str "number",D.str "word"].map lg
noncomputable def IL(c:ρ×ρ):Bool:=iN c.1&&kindB c.2
inductive wI (S:ax):D->η|kind {d:D} (h:∀ds,d≠.tup ds) (g:Gt S d):wI S d|many {cs:δ<|ρ×ρ} (h:8<cs.length):wI S (.tup<|cs.map aC)|col {cs:δ<|ρ×ρ} (h:cs.length<=8) (hs:∀c∈cs,c.1.cps.size<=1000) (hc:cs.all IL=ϰ\/¬(cs.map Prod.fst).Nodup):wI S (.tup<|cs.map aC)
def wI.sub(h:wI S d)(s:Sub S S'):wI S' d:=by cases h with|kind h g=>show .kind h (g.sub s)|many h=>show .many h|col h a b=>show .col h a b
noncomputable def Yd:D->D|.tup [.str a,.str b]=>.bl (IL (a,b))|_=>.bl false
def O5:ir:=λds S R x=>∃z,ds=[.str z]/\R (.bl<|kindB z) S
def CW(T:Txt w K mg t):Ok P w base T.mH 1 O5:=by show T.mH.F.eM uN ?_;obtain⟨z,e,q⟩;show{_,(s1<|sr<|qA (cb cM T.ai ag<|al 0<|ac (oG T.lS iq) an)<|FN<|cm BR `u (dv 0)<|dg (v:=.ref t.tq) T.Co rfl T.Cp),?_};show !{_,_,_,_,rfl,dw,rfl,_,rfl,ck !{rfl,rfl,?_}};change Fo S (R<|.bl<|if false=ϱ then _ else C8 (lg<|.str z) ([D.str "number",D.str "word"].map lg));rw[qb zd];show fo q
def T6:ir:=λds S R z=>∃c,ds=[aC c]/\c.1.cps.size<=1000/\R (.bl<|IL c) S
def wJ(T:Txt w K mg t):Ok P w base T.ia 3 T6:=by show T.ia.F.eM pv ?_;obtain⟨c,e,hs,q⟩;show{_,(sc (si (twd<|twor (cL<|tv<|cb cM T.ai ag<|al 0<|ac (oG T.bL bj) an)<|tw1<|bX jk `u (cb bC T.bw aU<|al 0 an) di) (s1<|sr db) s0)<|s1<|sr<|qA (ba T.pq (ox T) hr<|ac (ix `u (dv 0) di) an)<|FN<|ba T.mH (CW T) hr<|ac (ix `u (dv 0) di) an),?_};show !{_,_,_,_,rfl,aV,rfl,_,rfl,?_};show bV !!!⟨bV ?_⟩;show !!!{gt_str hs,_,rfl,?_};unfold IL at q;change if iN c.1=ϱ then _ else _;cases h:iN c.1 with|false=>rw[h]at q;show bV (fo q)|true=>rw[h]at q;show ck !!!⟨fo q⟩
def O6(t:gu):ir:=λds S z Z=>∃d,ds=[d]/\wI S d/\Z t.ak S
def pY(T:Txt w K mg t):Ok P w base T.dN 4 (O6 t):=by show T.dN.F.eM jL ?_;obtain⟨d,e,h,q⟩;show{_,(sc (si (twd<|twor (cL<|tv<|cb cM T.ai ag<|al 0<|ac (oG T.bL bj) an)<|tw1<|bX sF `u (cb bC T.bw aU<|al 0 an)<|dg (v:=.int 8) T.kG {_,rfl} λz=>bc _) (s1<|oH ⟨T.cq⟩ T.cR<|ac ds an) s0)<|sc (si (cL<|tv<|cb lI T.lR ip<|ac (v9 (N:=["column"]) (src:=[none]) (kT (ae kD) ["columns"] rfl rfl<|`c) (Ks<|dv 0) (sG<|show(["column"]:δ ρ).Nodup by trivial) (bD rfl) bH (λz z z z z=>tm) λz z z z z=>(ba T.ia (wJ T) hr<|al 0 an)) an) (s1<|oH ⟨T.cq⟩ T.cR<|ac ds an) s0)<|s1<|si (bX jk `u (lse (ba T.l6 (ml T) hr<|al 0 an) T.bw T.K8)<|cb bC T.bw aU<|al 0 an) (s1<|oH ⟨T.cq⟩ T.cR<|ac ds an) s0),?_};cases h with|kind h g=>(let⟨⟨k,hk⟩,_⟩:=g;show !{_,_,_,_,rfl,aV,hk,_,rfl,?_};rcases iO hk with⟨ws,rfl,_⟩|⟨h0,_⟩;show absurd rfl<|h ws;rw[h0];show ck<|ck {sm<|`a,fo q})|@many cs h=>show (!{_,_,_,_,rfl,aV,rfl,_,rfl,bV !!!⟨wC (by change ω ((8:ν)<(((cs.map aC).length:π):ν))=ϱ;rw[zc];show zi<|`b) {sm<|`a,fo q}⟩})|@col cs h hs hc=>show !{_,_,_,_,rfl,aV,rfl,_,rfl,bV !!!⟨fg (by change ω ((8:ν)<(((cs.map aC).length:π):ν))=ϰ;rw[zc];show zf<|`b) ?_⟩};show !{_,.inl rfl,?_};show comp_map Yd trivial (by change(cs.map aC).length<=1000;rw[zc];lia) (λd hd Q j=>?_) λp a=>?_;let⟨c,hc,rfl⟩:=zh.mp hd;show !{c,rfl,hs c hc,j};show{.ref p,cs.map IL,rfl,?_,_,rfl,?_};change(S.set p<|.lst<|(cs.map aC).map Yd) p=_;rw[aa,zH,zH];rfl;cases ha:(cs.map IL).all id with|false=>show ck {sm<|`a,S,.new a,q}|true=>show bV !{cs,rfl,h,λp2 i=>{cs.map Prod.fst,aa,by rw[zc];lia,_,rfl,_,rfl,_,rfl,wC ?_ {sm<|`a,S,(Sub.new a).trans<|.new i,q}}};have hn:¬(cs.map Prod.fst).Nodup:=hc.resolve_left λe=>(by rw[all_map]at ha;show tf ha e);change(!decide ((((jY<|cs.map Prod.fst).length:π):ν)=(((cs.map aC).length:π):ν)))=ϱ;rw[zf λe=>hn<|(qx _).mp ?_];rfl;rw[zc]at e⊢;lia
def O7(t:gu):ir:=λds S z Z=>∃a d,ds=[.ref a,d]/\wI S d/\Z t.ak S
def Mi(T:Txt w K mg t):rS P w mg base T.dk 5 (O7 t):=by show T.dk.F.eM jd ?_;obtain⟨a,d,e,h,q⟩;show{_,(sc (se<|ba T.dN (pY T) hr<|al 1 an)<|sc (sf T.aj T.dh (dv 0)<|dv 1)<|sc (sf T.aj T.dj (dv 0)<|bG an)<|s1<|sf T.aj T.cw (dv 0) Sb),_,rfl,d,rfl,h,fo q}
structure Kq where
 (k a:ε)
 ps:δ Part
 wy:ρ
noncomputable def Jj(C:ε)(q:Kq):Ce:=.ins C [("shelf",.ref q.a),("order",gL q.ps q.wy)]
def T7(k:ε)(S S':ax):Prop:=∀b c,b≠k->S b=ϑ c->S' b=ϑ c
def Mj(h:T7 k S S')(hk:S k=ϑ (.ins C fs))(g:Gt S d):Gt S' d:=by let⟨⟨i,c⟩,g2⟩:=g;show{{i,?_},g2};cases d with|ref a=>(rcases c with⟨rfl,ds,e⟩|⟨rfl,ds,e⟩;show .inl {rfl,ds,h _ _ (λq=>by rw[q,hk]at e;cases e) e};show .inr {rfl,ds,h _ _ (λq=>by rw[q,hk]at e;cases e) e})|_=>show c
theorem Ml(h:T7 k S S')(hk:S k=ϑ (.ins C fs)):∀{n:π}{d:D},Qd S n d->Qd S' n d|0,_,g=>Mj h hk g|n+1,_,g=>{Mj h hk g.1,λws e=>{(g.2 ws e).1,λv a=>Ml h hk<|(g.2 ws e).2 v a}}
inductive GU (t:gu) (ds:δ D) (S:ax) (R:KD) (Z:KX):η
 |mk (a:ε) (cs:δ<|ρ×ρ) (ps:δ Part) (wy:ρ) (rows:δ Row) (_:ds=[.ref a,gL ps wy,ev,.ao]) (_:Gd cs) (_:Og cs ps wy) (_:Vw t.aw S a cs .ao rows) (_:TV rows) (_:Tb t S) (_:∀(A:δ Row)(p:ε),TU cs ps wy 7 ev rows A->S p=ϐ->R (.ref p) (S.set p<|.lst<|A.map aI))
def Mm(T:Txt w K mg t)(B:Bm mg base):Ok P w base T.plain 13 (GU t):=by show T.plain.F.eM K9 ?_;obtain⟨a,cs,ps,wy,rows,e,hg,ho,d,hk,i,q⟩;let⟨F,dl,rs,c,_⟩:=d.sh;let⟨ld,lr,ra,h,_⟩:=id c;have g:j6 cs (gL ps wy)=ϱ:=(rB hg ps wy).trans ho.ok;show{_,(sc (se<|ba T.fB (fP T) hr<|ac (mV (dv 0) T.aj T.a_ (bW T) hr)<|al 1 an)<|sc (se<|ba T.ja (mx T) hr<|ac (mV (dv 0) T.aj T.a_ (bW T) hr)<|al 2 an)<|s1<|sr<|ba T.eC (fQ T B) hr<|al 0<|al 1<|al 2<|al 3 an),?_};show !{a,_,rfl,h.ins,rfl,a,F,cs,dl,rs,rfl,c,_,rfl,cs,gL ps wy,rfl,hg,(Bf ho).2.2 3,λz=>?_,λe=>tf g e};show !{a,_,rfl,h.ins,rfl,a,F,cs,dl,rs,rfl,c,_,rfl,cs,ev,rfl,hg,nH<|bh<|`a,λz=>?_,λe=>tf (X9 cs) e};show !!!!{a,cs,ps,wy,ev,.ao,rows,rfl,hg,ho,X_,d,i,λA l pm pw hl=>fo<|q A l (TY d.rg hk pm pw) hl}
inductive GV (t:gu) (ds:δ D) (S:ax) (R:KD) (Z:KX):η
 |mk (k:ε) (cs:δ<|ρ×ρ) (o:D) (_:ds=[.ref k,.tup<|cs.map aC,o]) (_:Gd cs) (_:QA S o) (_:S k=ϑ (.ins t.aL []))
  (_:j6 cs o=ϱ->∃ps wy,o=gL ps wy/\∀S' F a,dM t.aw S' a F cs [] []->S' k=ϑ (Jj t.aL ⟨k,a,ps,wy⟩)->k∉F->(∀b c,b≠k->S b=ϑ c->b∉F/\S' b=ϑ c)->R .ao S')
  (_:j6 cs o=ϰ->∀S',T7 k S S'->Z t.aA S'):GV t ds S R Z
def Mn(T:Txt w K mg t):rS P w mg base T.bS 7 (GV t):=by
 show T.bS.F.eM iL ?_;obtain⟨k,cs,o,e,hg,s,hk,q,z⟩;show{_,(sc (sf T.bz T.cJ (dv 0)<|mk T.Cu (OB T) (hr.mono<|`a) T.Ct T.dk.b d0<|al 1 an)<|sc (se<|ba T.fB (fP T) hr<|al 1<|al 2 an)<|s1<|sf T.bz T.dJ (dv 0)<|dv 2),?_};show{_,rfl,λa ha=>{a,cs,rfl,hg,aa,λy p v r=>{rfl,?_}}};have g:k≠a:=jx hk ha;let⟨j,l⟩:=r k _ (λm=>g<|zx.mp m)<|(ah g).trans hk;show !{k,[],rfl,l,(show 0<1000 by decide),?_};have h:∀b c,b≠k->S b=ϑ c->b∉p/\(y.set k<|.ins t.aL [("shelf",.ref a)]) b=ϑ c:=λb c n e=>by have d:b≠a:=jx e ha;let⟨A,i⟩:=r b c (λm=>d<|zx.mp m)<|(ah d).trans e;show{A,(ah n).trans i}
 show !!{cs,o,rfl,hg,Ml (λb c n e=>(h b c n e).2) hk<|s 3,λe=>?_,λe=>fo<|z e _ λb c n e=>(h b c n e).2};let⟨ps,wy,rfl,x⟩:=q e;show !!{k,[("shelf",.ref a)],rfl,aa,(show 1<1000 by decide),?_};show fo<|x _ p a ((v.off j).off j) aa j λb c n e=>{(h b c n e).1,(ah n).trans (h b c n e).2}
def Mp(t:gu):ir:=λds S z Z=>∃k d o,ds=[.ref k,d,o]/\wI S d/\S k=ϑ (.ins t.aL [])/\Z t.ak S
def IM(T:Txt w K mg t):rS P w mg base T.bS 7 (Mp t):=by show T.bS.F.eM iL ?_;obtain⟨k,d,o,e,h,hk,z⟩;show{_,(sc (sf T.bz T.cJ (dv 0)<|mk T.Cu (Mi T) (hr.mono<|`a) T.Ct T.dk.b d0<|al 1 an)<|sc (se<|ba T.fB (fP T) hr<|al 1<|al 2 an)<|s1<|sf T.bz T.dJ (dv 0)<|dv 2),?_};show{_,rfl,λa ha=>{a,d,rfl,h.sub<|.new ha,S,.new ha,z}}
inductive Bj (t:gu) (ds:δ D) (S:ax) (R:KD) (Z:KX):η
 |mk (q:Kq) (d:D) (_:ds=[.ref q.k,d]) (_:S q.k=ϑ (Jj t.aL q)) (_:Dos t [.ref q.a,d] S (λz=>R .ao) Z\/MU S d/\Z t.aH S)
def GW(T:Txt w K mg t):rS P w mg base T.gD 8 (Bj t):=by have c:Ok P w base T.mJ 7 _:=Ya (EO<|OJ T)<|Mh T;show T.gD.F.eM uS ?_;obtain⟨q,d,e,hk,h⟩;show{_,(s1<|se<|ba T.mJ c hr<|ac (fl T.bz T.cJ<|dv 0)<|al 1 an),?_};show !{q.k,_,_,rfl,hk,rfl,_,rfl,h.imp (λh=>{λx=>R .ao,Z,h.of,λd S' r=>fo r,λC S' z=>fo z}) λh=>{.ref q.a,d,rfl,h.1,fo h.2}}
inductive oB (t:gu) (ds:δ D) (S:ax) (R:KD) (Z:KX):η
 |mk (q:Kq) (cs:δ<|ρ×ρ) (rows:δ Row) (_:ds=[.ref q.k]) (hk:S q.k=ϑ (Jj t.aL q)) (_:Gd cs) (_:Og cs q.ps q.wy) (_:Vw t.aw S q.a cs .ao rows) (_:TV rows) (_:Tb t S) (_:∀(A:δ Row)(p:ε),TU cs q.ps q.wy 7 ev rows A->S p=ϐ->R (.ref p) (S.set p<|.lst<|A.map aI))
def jg(T:Txt w K mg t)(B:Bm mg base):rS P w mg base T.cK 14 (oB t):=by show T.cK.F.eM ou ?_;obtain⟨q,cs,rows,e,hk,hg,ho,d,i,h,g⟩;show{_,(s1<|sr<|cf ((Mm T B).mono<|`a) hr T.plain.m T.plain.k T.Ib d1<|ac (fl T.bz T.cJ<|dv 0)<|ac (fl T.bz T.dJ<|dv 0)<|ac (aF<|ac ds an) an),?_};show !{q.k,_,_,rfl,hk,rfl,_,rfl,q.k,_,_,rfl,hk,rfl,fU,q.a,cs,q.ps,q.wy,rows,rfl,hg,ho,d,i,h,λA p c j=>fo<|g A p c j}
inductive GX (t:gu) (ds:δ D) (S:ax) (R:KD) (Z:KX):η
 |mk (q:Kq) (cs:δ<|ρ×ρ) (rows:δ Row) (d z b:D) (b0 b1 b2:χ) (_:ds=[.ref q.k,d,z,b]) (hk:S q.k=ϑ (Jj t.aL q)) (_:Gd cs) (_:Og cs q.ps q.wy) (_:Vw t.aw S q.a cs .ao rows) (_:TV rows) (_:Tb t S) (_:Aq S cs q.ps d z b b0 b1 b2)
  (z0:b0=ϱ->Z t.az S) (z1:b0=ϰ->b1=ϱ->Z t.aG S) (z2:b0=ϰ->b1=ϰ->b2=ϱ->Z t.av S) (_:b0=ϰ->b1=ϰ->b2=ϰ->∀v S',Sub S S'->R v S'):GX t ds S R Z
def Ye(T:Txt w K mg t)(B:Bm mg base):rS P w mg base T.mF 14 (GX t):=by show T.mF.F.eM AL ?_;obtain⟨q,cs,rows,d,z,b,b0,b1,b2,e,hk,hg,ho,i,g,j,c,z0,z1,z2,r⟩;show{_,(s1<|sr<|cf ((Fc T B).mono<|`a) hr T.tw.m T.tw.k T.Cm d1<|ac (fl T.bz T.cJ<|dv 0)<|ac (fl T.bz T.dJ<|dv 0)<|al 1<|al 2<|al 3 an),?_};show !{q.k,_,_,rfl,hk,rfl,_,rfl,q.k,_,_,rfl,hk,rfl,_,rfl,_,rfl,_,rfl,q.a,cs,q.ps,q.wy,rows,d,z,b,b0,b1,b2,rfl,hg,ho,i,g,j,c,λe=>fo<|z0 e,λe1 e2=>fo<|z1 e1 e2,λe1 e2 e3=>fo<|z2 e1 e2 e3,λe1 e2 e3 v S' h=>fo<|r e1 e2 e3 v S' h}
def O8(T:Txt w K mg t)(B:Bm mg base):rS P w mg base T.i8 14 (GX t):=by show T.i8.F.eM uT ?_;obtain⟨q,cs,rows,d,z,b,b0,b1,b2,e,hk,hg,ho,i,g,j,c,z0,z1,z2,r⟩;show{_,(s1<|sr<|cf ((Bi T B).mono<|`a) hr T.mE.m T.mE.k T.wd d1<|ac (fl T.bz T.cJ<|dv 0)<|ac (fl T.bz T.dJ<|dv 0)<|al 1<|al 2<|al 3 an),?_};show !{q.k,_,_,rfl,hk,rfl,_,rfl,q.k,_,_,rfl,hk,rfl,_,rfl,_,rfl,_,rfl,q.a,cs,q.ps,q.wy,rows,d,z,b,b0,b1,b2,rfl,hg,ho,i,g,j,c,λe=>fo<|z0 e,λe1 e2=>fo<|z1 e1 e2,λe1 e2 e3=>fo<|z2 e1 e2 e3,λe1 e2 e3 v S' h=>fo<|r e1 e2 e3 v S' h}
noncomputable def GY(t:gu):π->ε|0=>t.aH|1=>t.aM|2=>t.aW|3=>t.bf|4=>t.az|5=>t.aG|6=>t.av|7=>t.ak|_=>t.aA
noncomputable def T8:π->ρ|0=>"deed"|1=>"row"|2=>"has"|3=>"no"|4=>"sieve"|5=>"size"|6=>"place"|7=>"columns"|_=>"order"
structure XF(K:Φ)(t:gu)(C:ε)(i:π):η where
 xc:XC K C
 xa:XA K C
 m:mroIn K C (.ref t.bR)=ϑ true
 k0:kitOne K (.ref C) (.ref t.aH)=ϑ (0==i)
 k1:kitOne K (.ref C) (.ref t.aM)=ϑ (1==i)
 k2:kitOne K (.ref C) (.ref t.aW)=ϑ (2==i)
 k3:kitOne K (.ref C) (.ref t.bf)=ϑ (3==i)
 k4:kitOne K (.ref C) (.ref t.az)=ϑ (4==i)
 k5:kitOne K (.ref C) (.ref t.aG)=ϑ (5==i)
 k6:kitOne K (.ref C) (.ref t.av)=ϑ (6==i)
 k7:kitOne K (.ref C) (.ref t.ak)=ϑ (7==i)
 k8:kitOne K (.ref C) (.ref t.aA)=ϑ (8==i)
 n5:kitAny K (.ref C) ([t.dI,t.dG,t.bA,t.dH,t.cI].map Value.ref)=ϑ false
 v:kitOne K (.ref C) (.type "ValueError")=ϑ true
theorem xf(T:Txt w K mg t):∀i,i<9->XF K t (GY t i) i|0,_=>{⟨T.fZ⟩,T.nZ,T.eR,T.k_BadDeed_BadDeed,T.k_BadDeed_BadRow,T.k_BadDeed_HasKey,T.k_BadDeed_NoKey,T.k_BadDeed_BadSieve,T.k_BadDeed_BadSize,T.k_BadDeed_BadPlace,T.k_BadDeed_BadColumns,T.k_BadDeed_BadOrder,T.n_,T.k_BadDeed_ValueError}|1,_=>{⟨T.iC⟩,T.qQ,T.fj,T.k_BadRow_BadDeed,T.k_BadRow_BadRow,T.k_BadRow_HasKey,T.k_BadRow_NoKey,T.k_BadRow_BadSieve,T.k_BadRow_BadSize,T.k_BadRow_BadPlace,T.k_BadRow_BadColumns,T.k_BadRow_BadOrder,T.qU,T.k_BadRow_ValueError}|2,_=>{⟨T.ph⟩,T.qS,T.fk,T.k_HasKey_BadDeed,T.k_HasKey_BadRow,T.k_HasKey_HasKey,T.k_HasKey_NoKey,T.k_HasKey_BadSieve,T.k_HasKey_BadSize,T.k_HasKey_BadPlace,T.k_HasKey_BadColumns,T.k_HasKey_BadOrder,T.qW,T.k_HasKey_ValueError}|3,_=>{⟨T.tD⟩,T.uI,T.fH,T.k_NoKey_BadDeed,T.k_NoKey_BadRow,T.k_NoKey_HasKey,T.k_NoKey_NoKey,T.k_NoKey_BadSieve,T.k_NoKey_BadSize,T.k_NoKey_BadPlace,T.k_NoKey_BadColumns,T.k_NoKey_BadOrder,T.uJ,T.k_NoKey_ValueError}|4,_=>{⟨T.iD⟩,T.lW,T.d_,T.k_BadSieve_BadDeed,T.k_BadSieve_BadRow,T.k_BadSieve_HasKey,T.k_BadSieve_NoKey,T.k_BadSieve_BadSieve,T.k_BadSieve_BadSize,T.k_BadSieve_BadPlace,T.k_BadSieve_BadColumns,T.k_BadSieve_BadOrder,T.lZ,T.k_BadSieve_ValueError}|5,_=>{⟨T.mG⟩,T.nY,T.eQ,T.k_BadSize_BadDeed,T.k_BadSize_BadRow,T.k_BadSize_HasKey,T.k_BadSize_NoKey,T.k_BadSize_BadSieve,T.k_BadSize_BadSize,T.k_BadSize_BadPlace,T.k_BadSize_BadColumns,T.k_BadSize_BadOrder,T.n8,T.k_BadSize_ValueError}|6,_=>{⟨T.dY⟩,T.lX,T.ee,T.k_BadPlace_BadDeed,T.k_BadPlace_BadRow,T.k_BadPlace_HasKey,T.k_BadPlace_NoKey,T.k_BadPlace_BadSieve,T.k_BadPlace_BadSize,T.k_BadPlace_BadPlace,T.k_BadPlace_BadColumns,T.k_BadPlace_BadOrder,T.l3,T.k_BadPlace_ValueError}|7,_=>{⟨T.cq⟩,T.jl,T.dA,T.k_BadColumns_BadDeed,T.k_BadColumns_BadRow,T.k_BadColumns_HasKey,T.k_BadColumns_NoKey,T.k_BadColumns_BadSieve,T.k_BadColumns_BadSize,T.k_BadColumns_BadPlace,T.k_BadColumns_BadColumns,T.k_BadColumns_BadOrder,T.jm,T.k_BadColumns_ValueError}|8,_=>{⟨T.dX⟩,T.lV,T.dZ,T.k_BadOrder_BadDeed,T.k_BadOrder_BadRow,T.k_BadOrder_HasKey,T.k_BadOrder_NoKey,T.k_BadOrder_BadSieve,T.k_BadOrder_BadSize,T.k_BadOrder_BadPlace,T.k_BadOrder_BadColumns,T.k_BadOrder_BadOrder,T.lY,T.k_BadOrder_ValueError}|n+9,h=>absurd h<|`b
def low(hm:m<i)(hu:([.bl<|0==i,.bl<|1==i,.bl<|2==i,.bl<|3==i,.bl<|4==i,.bl<|5==i,.bl<|6==i,.bl<|7==i,.bl<|8==i]:δ D)[m]?=some u):eqV (lg u) (lg<|.bl true)=ϰ:=by have e:((List.range 9).map λk=>D.bl<|k==i)[m]?=some u:=hu;rw[zA]at e;let⟨k,e1,rfl⟩:=Option.map_eq_some_iff.mp e;let⟨h,rfl⟩:=zu.mp e1;rw[List.getElem_range,beq_eq_false_iff_ne.mpr<|zC hm];rfl
inductive O9 (t:gu) (R:KD):ε->ax->η
 |mk {S:ax} (i:π) (h:i<9) (r:R (.str<|T8 i) S):O9 t R (GY t i) S
structure acY(t:gu)(a:Dh)(S:ax)(R:KD)(Z:KX):η where
 of:∀(R1:KD)(Z1:KX),(∀v S',R (.str "told") S'->R1 v S')->(∀C S',O9 t R C S'->Z1 C S')->a S R1 Z1
abbrev OkA(P:Ψ)(w:Ω)(base:Γ){K:Φ}{mg:ρ->θ ξ}{x:ρ}{st:Stmt}{ps:δ ρ}{f:ε}{d:FuncData}(_:El K mg x st ps f d)(k kA:π)(sp:Dh->Dh):Prop:=K2 P w K mg base k kA f "_law_ask" d sp
def xN(T:Txt w K mg t):OkA P w base T.bP (n+16) 15 (acY t):=by show T.bP.F.Xu cy ?_;rintro _ _ _ _ _ _ fA a S R Z hr hA h;show{_,(sc (dy (i:=1) cy.nd ds)<|sc (Jd<|abN (i:=2) cy.nd T.Ar ⟨T.lT⟩ (s1<|se<|Xt (i:=0) hA<|hr.mono<|Nat.le_add_left _ _) λk=>(sc (dy (i:=3) cy.nd<|bG<|ac (Kt lK T.ai ag<|al 2<|ac (dg (v:=.ref t.aH) T.iE rfl λk=>cg _) an)<|ac (Kt lK T.ai ag<|al 2<|ac (dg (v:=.ref t.aM) T.jJ rfl λk=>cg _) an)<|ac (Kt lK T.ai ag<|al 2<|ac (dg (v:=.ref t.aW) T.xr rfl λk=>cg _) an)<|ac (Kt lK T.ai ag<|al 2<|ac (dg (v:=.ref t.bf) T.Cs rfl λk=>cg _) an) an)<|sc (dy (i:=3) cy.nd<|bo fE `u (dv 3)<|bG<|ac (Kt lK T.ai ag<|al 2<|ac (dg (v:=.ref t.az) T.lU rfl λk=>cg _) an)<|ac (Kt lK T.ai ag<|al 2<|ac (dg (v:=.ref t.aG) T.uH rfl λk=>cg _) an)<|ac (Kt lK T.ai ag<|al 2<|ac (dg (v:=.ref t.av) T.fz rfl λk=>cg _) an) an)<|sc (dy (i:=3) cy.nd<|bo fE `u (dv 3)<|bG<|ac (Kt lK T.ai ag<|al 2<|ac (dg (v:=.ref t.ak) T.cR rfl λk=>cg _) an)<|ac (Kt lK T.ai ag<|al 2<|ac (dg (v:=.ref t.aA) T.fw rfl λk=>cg _) an) an)<|sc (dy (i:=4) cy.nd<|eor (Kt lK T.ai ag<|al 2<|ac (aF<|ac (dg (v:=.ref t.dI) T.Ii rfl λk=>cg _)<|ac (dg (v:=.ref t.dG) T.Ig rfl λk=>cg _)<|ac (dg (v:=.ref t.bA) T.rW rfl λk=>cg _)<|ac (dg (v:=.ref t.dH) T.Ih rfl λk=>cg _)<|ac (dg (v:=.ref t.cI) T.Es rfl λk=>cg _) an) an)<|FN<|Sa<|Kt lK T.ai ag<|al 2<|ac (oG T.Ap vW) an)<|sc (dy (i:=1) cy.nd ds)<|s1<|si (twd<|twand (bX bO `u (bm zS PySem.F.slot_list_count PySem.F.type_list_count NZ (dv 3)<|ac db an) di)<|tw1<|cL<|tv<|dv 4) (sc (dy (i:=5) cy.nd<|bG<|ac ds<|ac ds<|ac ds<|ac ds<|ac ds<|ac ds<|ac ds<|ac ds<|ac ds an)<|s1<|dy (i:=1) cy.nd<|ix `u (dv 5)<|bm zS PySem.F.slot_list_index PySem.F.type_list_index BS (dv 3)<|ac db an) s0))<|s1<|sr<|dv 1),?_};show{λaX S'=>∃r N O Y,aX=[some<|.ref fA,some<|.str r,none,N,O,Y]/\R (.str r) S',?_,?_};{show{rfl,h.of _ _ (λv S' q=>?_) λC S' q=>?_};show fo {"told",none,none,none,rfl,q};{let⟨i,hi,q⟩:=q;have X:=xf T i hi;generalize GY t i=C at X;show{X.m,λx hx=>?_};have j:(S'.set x<|.exc C) x=ϑ (.exc C):=aa;have b0:Sub S' (S'.set x<|.exc C):=.new hx;generalize S'.set x (.exc C)=H at j b0⊢;show !{x,C,_,_,rfl,j,X.xc,X.xa,.inl !⟨X.k0⟩,_,rfl,x,C,_,_,rfl,j,X.xc,X.xa,.inl !⟨X.k1⟩,_,rfl,x,C,_,_,rfl,j,X.xc,X.xa,.inl !⟨X.k2⟩,_,rfl,x,C,_,_,rfl,j,X.xc,X.xa,.inl !⟨X.k3⟩,wx,λE EN=>?_};have h1:(H.set E<|.lst [.bl<|0==i,.bl<|1==i,.bl<|2==i,.bl<|3==i]) E=ϑ (.lst [.bl<|0==i,.bl<|1==i,.bl<|2==i,.bl<|3==i]):=aa;have b1:Sub H (H.set E<|.lst [.bl<|0==i,.bl<|1==i,.bl<|2==i,.bl<|3==i]):=.new EN;have p:=b1 _ _ j;generalize H.set E (.lst [.bl<|0==i,.bl<|1==i,.bl<|2==i,.bl<|3==i])=G at h1 b1 p⊢;show !!{x,C,_,_,rfl,p,X.xc,X.xa,.inl !⟨X.k4⟩,_,rfl,x,C,_,_,rfl,p,X.xc,X.xa,.inl !⟨X.k5⟩,_,rfl,x,C,_,_,rfl,p,X.xc,X.xa,.inl !⟨X.k6⟩,iM,λp2 lB=>?_};show{_,_,(Sub.new lB) _ _ h1,aa,Ov,λp3 US=>?_};have A:((G.set p2<|.lst [.bl<|4==i,.bl<|5==i,.bl<|6==i]).set p3<|.lst<|[.bl<|0==i,.bl<|1==i,.bl<|2==i,.bl<|3==i]++[.bl<|4==i,.bl<|5==i,.bl<|6==i]) p3=ϑ (.lst<|[.bl<|0==i,.bl<|1==i,.bl<|2==i,.bl<|3==i]++[.bl<|4==i,.bl<|5==i,.bl<|6==i]):=aa;have b2:Sub G ((G.set p2<|.lst [.bl<|4==i,.bl<|5==i,.bl<|6==i]).set p3<|.lst<|[.bl<|0==i,.bl<|1==i,.bl<|2==i,.bl<|3==i]++[.bl<|4==i,.bl<|5==i,.bl<|6==i]):=(Sub.new lB).trans<|.new US;have y:=b2 _ _ p;generalize (G.set p2<|.lst [.bl<|4==i,.bl<|5==i,.bl<|6==i]).set p3 (.lst<|[.bl<|0==i,.bl<|1==i,.bl<|2==i,.bl<|3==i]++[.bl<|4==i,.bl<|5==i,.bl<|6==i])=s at A b2 y⊢;have A:s p3=ϑ (.lst [.bl<|0==i,.bl<|1==i,.bl<|2==i,.bl<|3==i,.bl<|4==i,.bl<|5==i,.bl<|6==i]):=A;show !!{x,C,_,_,rfl,y,X.xc,X.xa,.inl !⟨X.k7⟩,_,rfl,x,C,_,_,rfl,y,X.xc,X.xa,.inl !⟨X.k8⟩,gE,λL Q=>?_};show{_,_,(Sub.new Q) _ _ A,aa,Td,λo I=>?_};have g:((s.set L<|.lst [.bl<|7==i,.bl<|8==i]).set o<|.lst<|[.bl<|0==i,.bl<|1==i,.bl<|2==i,.bl<|3==i,.bl<|4==i,.bl<|5==i,.bl<|6==i]++[.bl<|7==i,.bl<|8==i]) o=ϑ (.lst<|[.bl<|0==i,.bl<|1==i,.bl<|2==i,.bl<|3==i,.bl<|4==i,.bl<|5==i,.bl<|6==i]++[.bl<|7==i,.bl<|8==i]):=aa;have J:Sub s ((s.set L<|.lst [.bl<|7==i,.bl<|8==i]).set o<|.lst<|[.bl<|0==i,.bl<|1==i,.bl<|2==i,.bl<|3==i,.bl<|4==i,.bl<|5==i,.bl<|6==i]++[.bl<|7==i,.bl<|8==i]):=(Sub.new Q).trans<|.new I;have d:=J _ _ y;generalize (s.set L<|.lst [.bl<|7==i,.bl<|8==i]).set o (.lst<|[.bl<|0==i,.bl<|1==i,.bl<|2==i,.bl<|3==i,.bl<|4==i,.bl<|5==i,.bl<|6==i]++[.bl<|7==i,.bl<|8==i])=z at g J d⊢;have g:z o=ϑ (.lst [.bl<|0==i,.bl<|1==i,.bl<|2==i,.bl<|3==i,.bl<|4==i,.bl<|5==i,.bl<|6==i,.bl<|7==i,.bl<|8==i]):=g;show !{Tc,x,C,_,false,rfl,d,X.xc,X.xa,.inr<|.inr !⟨X.n5⟩,_,rfl,bV !{x,C,_,true,rfl,d,X.xc,X.xa,.inr<|.inl !⟨X.v⟩,_,rfl,?_}};have hc:(([0==i,1==i,2==i,3==i,4==i,5==i,6==i,7==i,8==i]:δ χ).count true:π)=1:=(show ∀i,i<9->(([0==i,1==i,2==i,3==i,4==i,5==i,6==i,7==i,8==i]:δ χ).count true:π)=1 by decide) i hi;show{_,rfl,{rfl,_,g},[0==i,1==i,2==i,3==i,4==i,5==i,6==i,7==i,8==i],true,rfl,g,_,rfl,?_};show bY (λk=>?_) λh=>absurd (zK h) (by rw[hc];decide);show !!⟨ck {Td,λB e=>!!⟨{rfl,_,(Sub.new e) _ _ g},?_⟩}⟩;have M:=(Sub.new (c:=.lst [.str "deed",.str "row",.str "has",.str "no",.str "sieve",.str "size",.str "place",.str "columns",.str "order"]) e) _ _ g;have l:(z.set B<|.lst [.str "deed",.str "row",.str "has",.str "no",.str "sieve",.str "size",.str "place",.str "columns",.str "order"]) B=ϑ (.lst [.str "deed",.str "row",.str "has",.str "no",.str "sieve",.str "size",.str "place",.str "columns",.str "order"]):=aa;have U:Sub S' (z.set B<|.lst [.str "deed",.str "row",.str "has",.str "no",.str "sieve",.str "size",.str "place",.str "columns",.str "order"]):=(((b0.trans b1).trans b2).trans J).trans<|.new e;have lw:=λm u=>low (i:=i) (m:=m) (u:=u);generalize z.set B _=S5 at M l U⊢;obtain rfl|rfl|rfl|rfl|rfl|rfl|rfl|rfl|rfl:i=0\/i=1\/i=2\/i=3\/i=4\/i=5\/i=6\/i=7\/i=8:=`b;all_goals show{_,.bl true,_,rfl,M,rfl,rfl,!⟨rfl⟩,lw,_,_,l,rfl,S',U,_,_,_,_,rfl,q}}};rintro aX S' ⟨r,N,O,Y,rfl,q⟩;show{_,rfl,fo q}
noncomputable def vp(n:π):D:=.tup [.tup<|List.replicate n .ao,.str "a"]
structure Bg(S:ax)(n:π)(d:D):η where
 nn:au d=ϰ
 qa:QA S d
 no:∀cs ps,ps.length=n->sO cs ps d=ϰ
noncomputable abbrev Yf(n:π)(p1:ε):δ D:=[vp n,.tup [vp n],.ref p1,.tup [vp n,.str "over"],.tup [vp n,.ao],.tup [vp n,.str "ahead",.int 0],.str "ahead",.int 0,.tup []]
noncomputable abbrev ZI(n:π)(p3:ε):δ D:=[.tup [.tup [.tup<|List.replicate n .ao++[.ao],.str "a"],.str "ahead"],.tup [.tup [.ref p3,.str "a"],.str "behind"],.tup [.tup [.tup<|List.replicate n .ao,.str "A"],.str "ahead"]]
noncomputable abbrev bg3(n:π):δ D:=[.tup [.tup [.tup<|List.replicate n .ao],.str "ahead"],.tup [.tup [.tup<|List.replicate n .ao,.ao],.str "behind"],.tup [.ao,.str "ahead"],.tup [.tup [.bl true,.str "a"],.str "ahead"]]
def vq(h:ofStr vi z=ϰ):sO cs ps (.tup [x,z])=ϰ:=by change(MT cs ps x&&ofStr vi z)=ϰ;rw[h,yQ]
def ku(h:MT cs ps x=ϰ):sO cs ps (.tup [x,z])=ϰ:=by change(MT cs ps x&&ofStr vi z)=ϰ;rw[h,zR]
def O_{n:π}{S:ax}{h p3:ε}{A B:δ D}(hn:n<=8)(h1:S h=ϑ (.lst A))(l:S p3=ϑ (.lst B)):∀d∈Yf n h++ZI n p3++bg3 n,Bg S n d:=by have g:QA S (.tup<|List.replicate n .ao):=vk `b jw;have st:∀{z:ρ},z.cps.size<=1000->QA S (.str z):=bh;have c:QA S (vp n):=cz g<|st `a;have j:QA S (.ref h):=Bd h1;have i:QA S (.ref p3):=Bd l;simp only[List.forall_mem_append,List.forall_mem_cons,zt,false_imp_iff,implies_true,and_true];show{{{{rfl,c,λcs ps x=>vq<|`a},{rfl,nH c,λx x x=>rfl},{rfl,j,λx x x=>rfl},{rfl,cz c<|st<|`a,λcs ps x=>vq<|`a},{rfl,cz c jw,λcs ps x=>vq rfl},{rfl,GR c (st<|`a) Bc,λx x x=>rfl},{rfl,st<|`a,λx x x=>rfl},{rfl,Bc,λx x x=>rfl},{rfl,iS `a (λv a=>nomatch a),λx x x=>rfl}},{rfl,cz (cz (iS (by rw[zw,zE];change n+1<=1000;lia) λv a=>?_)<|st<|`a)<|st<|`a,λcs ps e=>ku ?_},{rfl,cz (cz i<|st<|`a)<|st<|`a,λcs ps e=>ku rfl},{rfl,cz (cz g<|st<|`a)<|st<|`a,λcs ps e=>ku ?_}},{rfl,cz (nH g)<|st<|`a,λcs ps e=>ku rfl},{rfl,cz (cz g jw)<|st<|`a,λcs ps e=>ku<|yQ _},{rfl,cz jw<|st<|`a,λcs ps e=>ku rfl},{rfl,cz (cz GQ<|st<|`a)<|st<|`a,λcs ps e=>ku rfl}};rcases zN.mp a with a|a;rw[List.eq_of_mem_replicate a];show jw;rw[zx.mp a];show jw;change((ω ((List.replicate n D.ao++[D.ao]).length=ps.length)&&_)&&_)=ϰ;rw[zf<|by rw[zw,zE,e];change ¬(n+1=n);lia];rfl;change(MS cs ps _&&ofStr fV (.str "A"))=ϰ;rw[show ofStr fV (.str "A")=ϰ by trivial,yQ]
inductive xO (ds:δ D) (S:ax) (R:KD) (Z:KX):η
 |mk (l ps wy) (_:ds=[.ref l,gL ps wy]) (_:ps.length<=8) (_:S l=ϑ .well) (_:∀d S',Sub S S'->Bg S' ps.length d->R d S')
def Fe(T:Txt w K mg t):Ok P w base T.rl 2 xO:=by
 show T.rl.F.eM fL ?_;obtain⟨l,ps,wy,e,I,hw,q⟩;show{_,(sc (dy (i:=2) fL.nd<|aF<|ac (ct i4 T.bL bj<|ac (v9 (N:=["_law_part"]) (src:=[none]) (kT (ae Cf) ["_law_well_here","_law_order_here","_law_good","_law_some"] rfl rfl<|`c) (Ks<|ix `u (dv 1) di) (sG<|show(["_law_part"]:δ ρ).Nodup by trivial) (bD rfl) bH (λf f f f f=>tm) λf f f f f=>dn) an)<|ac ds an)<|sc (dy (i:=3) fL.nd<|bG<|al 2<|ac (aF<|al 2 an)<|ac (bG<|al 2<|ac ds an)<|ac (aF<|al 2<|ac ds an)<|ac (aF<|al 2<|ac dn an)<|ac (aF<|al 2<|ac ds<|ac di an)<|ac ds<|ac di<|ac (aF an) an)<|sc (dy (i:=3) fL.nd<|bo fE `u (dv 3)<|bG<|ac (aF<|ac (aF<|ac (bo fE `u (ix `u (dv 2) di)<|aF<|ac dn an)<|ac ds an)<|ac ds an)<|ac (aF<|ac (aF<|ac (ct y1 T.Ao s_<|ac (ix `u (dv 2) di) an)<|ac ds an)<|ac ds an)<|ac (aF<|ac (aF<|ac (ix `u (dv 2) di)<|ac ds an)<|ac ds an) an)<|sc (dy (i:=3) fL.nd<|bo fE `u (dv 3)<|bG<|ac (aF<|ac (aF<|ac (ix `u (dv 2) di) an)<|ac ds an)<|ac (aF<|ac (aF<|ac (ix `u (dv 2) di)<|ac dn an)<|ac ds an)<|ac (aF<|ac dn<|ac ds an)<|ac (aF<|ac (aF<|ac db<|ac ds an)<|ac ds an) an)<|s1<|sr<|ix `u (dv 3)<|ba T.aN (bB T) hr<|al 0<|ac di an),?_};show !!{_,.inl rfl,?_};show comp_map (λf=>.ao) trivial (by change(ps.map p3).length<=1000;rw[zc];lia) (λd vH Q U=>U) λj h0=>?_;have G1:(ps.map p3).map (λf=>D.ao)=List.replicate ps.length .ao:=by rw[List.map_const',zc]
 have n0:=wu;have x:=fU;have c:=gE;have G:=iM;have b0:Sub S (S.set j<|.lst<|(ps.map p3).map λf=>.ao):=.new h0;have z:=b0 _ _ hw;have R:(S.set j<|.lst<|(ps.map p3).map λf=>.ao) j=ϑ (.lst<|(ps.map p3).map λf=>.ao):=aa;show{_,_,rfl,.inl R,c,?_};dsimp only;generalize S.set j _=S0 at b0 z⊢;rw[G1];generalize hn:ps.length=n at I q⊢;show !!{x,_,rfl,c,λg h1=>!{c,_,rfl,c,_,rfl,G,n0,Td,λp2 h2=>?_}};generalize a:ax.set (ax.set S0 g _) p2 _=h;have a1:h g=ϑ (.lst [vp n,.str "ahead"]):=by rw[<-a];show(Sub.new h2) _ _ aa
 have Z:h p2=ϑ (.lst<|Yf n g):=by rw[<-a];show aa
 have b1:Sub S0 h:=by rw[<-a];show(Sub.new h1).trans<|.new h2
 clear a h1 h2;have w1:=b1 _ _ z;show !!!{x,sm<|by rw[zE];change n+1<=1000;lia,c,c,_,rfl,_,rfl,_,_,rfl,.inr rfl,λp3 L=>?_};generalize a:ax.set h p3 _=p;have b2:Sub h p:=by rw[<-a];show .new L
 have X:p p3=ϑ (.lst<|List.replicate n .ao):=by rw[<-a];show aa
 clear a;show{c,c,_,rfl,_,rfl,c,c,G,λO H=>?_};have y:=b2 _ _ Z;show{_,_,(Sub.new H) _ _ y,aa,XG,λC h5=>?_};generalize a:ax.set (ax.set p O _) C _=o;have r:Sub p o:=by rw[<-a];show(Sub.new H).trans<|.new h5
 have a5:o C=ϑ (.lst<|Yf n g++ZI n p3):=by rw[<-a];show aa
 clear a;show !!!{x,c,_,rfl,_,rfl,c,c,c,c,c,wx,λY E=>?_};show{_,_,(Sub.new E) _ _ a5,aa,XI,λB J=>?_};generalize a:ax.set (ax.set o Y _) B _=m;have s:Sub o m:=by rw[<-a];show(Sub.new E).trans<|.new J
 have M:m B=ϑ (.lst<|Yf n g++ZI n p3++bg3 n):=by rw[<-a];show aa
 clear a;have A:Sub S m:=(((b0.trans b1).trans b2).trans r).trans s;show !!{l,_,rfl,`a,`a,A _ _ hw,λk k0 k1=>?_};let⟨v,e1,e2⟩:=iZ (l:=Yf n g++ZI n p3++bg3 n) (i:=k) k0 k1;show{_,v,M,e1,fo<|q v m A<|O_ I (s _ _<|r _ _<|b2 _ _ a1) (s _ _<|r _ _ X) v<|zI e2}
theorem x41:PySem.Txt.mul "x" 41 ="xxxxxxxxxxxxxxxxxxxxxxxxxxxxxxxxxxxxxxxxx":=`c
theorem Qy:MulOk "x" 41:={`a,`a,`c}
noncomputable abbrev UY:δ D:=[.str "x",.bl true,.str "",.bl false]
noncomputable abbrev UZ:δ D:=[.int 1,.bl true,.str "xxxxxxxxxxxxxxxxxxxxxxxxxxxxxxxxxxxxxxxxx",.int 0]
def T9{k:ρ}(hk:k ="number"\/k ="word"){v:D}(h:v∈if k ="word" then UZ else UY):dR k v=ϰ/\∀S,QA S v:=by rcases hk with rfl|rfl;have h:v∈UY:=h;simp only[ze,zt,or_false]at h;rcases h with rfl|rfl|rfl|rfl;show{`c,λS=>bh<|`a};show{`c,λS=>GQ};show{`c,λS=>bh<|`a};show{`c,λS=>GQ};have h:v∈UZ:=h;simp only[ze,zt,or_false]at h;rcases h with rfl|rfl|rfl|rfl;show{`c,λS=>Bc};show{`c,λS=>GQ};show{`c,λS=>bh<|`a};show{`c,λS=>Bc}
def Pa{cs:δ<|ρ×ρ}(hg:Gd cs){z:ρ}(h:∃c∈cs,c.1=z):df (nN<|cs.map λc=>(c.1,D.str c.2)) (.inr z)=ϑ (.str<|vO cs z)/\(vO cs z ="number"\/vO cs z ="word"):=by let⟨c,hc,e⟩:=h;have h1:=xl (cs.map λc=>(c.1,D.str c.2)) z;rw[show(cs.map λc=>(c.1,D.str c.2)).any (λq=>ω<|q.1=z)=ϱ from List.any_eq_true.mpr {_,zh.mpr ⟨c,hc,rfl⟩,zi e}]at h1;cases l:df (nN<|cs.map λc=>(c.1,D.str c.2)) (.inr z) with|none=>(rw[l]at h1;cases h1)|some d=>let⟨m,g,e1,rfl⟩:=pM _ _ l;let⟨a,j,rfl⟩:=zh.mp g;have e1:a.1=z:=e1;have i:vO cs z=a.2:=(by unfold vO;rw[<-e1,(A6 hg j).1];rfl);show{by rw[i],by rw[i];show(hg.2.2 a j).2}
def T_{cs:δ<|ρ×ρ}{ps:δ Part}{xs:δ D}{j:π}{p:Part}{v:D}(c:ps[j]?=some p)(hx:xs[j]?=some v)(h:dR (vO cs p.1) v=ϰ):MS cs ps (.tup xs)=ϰ:=by change(ω (xs.length=ps.length)&&(List.zipWith (λp x=>dR (vO cs p.1) x) ps xs).all id)=ϰ;rw[show(List.zipWith (λ(p:Part) x=>dR (vO cs p.1) x) ps xs).all id=ϰ from ?_,yQ];rw[List.all_eq_false];show{_,zI (i:=j) (a:=dR (vO cs p.1) v) ?_,by rw[h];show zd};rw[List.getElem?_zipWith,c,hx]
theorem CY{S S':ax}{p:ε}{c:Ce}(h:Sub S S')(g:S p=ϐ):Sub S (S'.set p c):=λa d e=>(ah<|jx e g).trans<|h a d e
structure Bgc(S:ax)(cs:δ (ρ×ρ))(ps:δ Part)(d:D):η where
 nn:au d=ϰ
 qa:QA S d
 no:sO cs ps d=ϰ
inductive vt (ds:δ D) (S:ax) (R:KD) (Z:KX):η
 |mk (l cs ps wy) (_:ds=[.ref l,.tup<|cs.map aC,gL ps wy]) (hg:Gd cs) (ho:Og cs ps wy) (_:S l=ϑ .well) (_:∀d S',Sub S S'->Bgc S' cs ps d->R d S')
def CZ(T:Txt w K mg t):Ok P w base T.oq 2 vt:=by
 show T.oq.F.eM gA ?_;obtain⟨l,cs,ps,wy,e,hg,ho,hw,q⟩;have h8:=ho.len;have n0:=wu;have n1:=fU;have r:=gE;have R:=wx;show{_,(sc (Sm (i:=3) (N:=["_law_part"]) (src:=[none]) gA.nd (kT (ae Ae) ["_law_well_here","_law_columns_here","_law_order_here","_law_values","_law_at","_law_kind"] rfl rfl<|`c) (Ks<|ix `u (dv 2) di) (sG<|show(["_law_part"]:δ ρ).Nodup by trivial) (bD rfl) bH (λf f f f f=>tm) λf f f f f=>dn)<|sc (si (bX bO `u (dv 3)<|bG an) (s1<|sr<|aF<|ac (aF<|ac dn<|ac ds an)<|ac ds an) s0)<|sc (dy (i:=4) gA.nd<|ba T.aN (bB T) hr<|al 0<|ac (cb bC T.bw aU<|al 3 an) an)<|sc (dy (i:=5) gA.nd<|ix `u (ct Ky T.K7 FF<|al 1 an)<|ix `u (ix `u (ix `u (dv 2) di)<|dv 4) di)<|sc (sls (dv 3) (dv 4)<|ix `u (ur<|ix `u (bG<|ac (bG<|ac ds<|ac db<|ac ds<|ac db an)<|ac (bG<|ac di<|ac db<|ac (bo i3 `u ds di)<|ac di an) an)<|ct lJ T.kI gO<|ac (cm bO `u (dv 5) ds) an)<|ba T.aN (bB T) hr<|al 0<|ac di an)<|s1<|sr<|aF<|ac (aF<|ac (ct i4 T.bL bj<|al 3 an)<|ac ds an)<|ac (ur<|ix `u (bG<|ac ds<|ac ds an)<|ba T.aN (bB T) hr<|al 0<|ac di an) an),?_};show !!{_,.inl rfl,?_};show comp_map (λf=>.ao) trivial (by change(ps.map p3).length<=1000;rw[zc];lia) (λd vH Q hQ=>hQ) λp h0=>?_;have G1:(ps.map p3).map (λf=>D.ao)=List.replicate ps.length .ao:=by rw[List.map_const',zc]
 dsimp only;rw[G1];generalize g:ax.set S p _=S0;have b0:Sub S S0:=by rw[<-g];show .new h0
 have m:S0 p=ϑ (.lst<|List.replicate ps.length .ao):=by rw[<-g];show aa
 clear g;show !{n0,λp1 h1=>?_};generalize g:ax.set S0 p1 _=y;have b1:Sub S0 y:=by rw[<-g];show .new h1
 have c1:y p1=ϑ (.lst []):=by rw[<-g];show aa
 clear g;have m:=b1 _ _ m;show eq_nil m c1 (λd hd=>by rw[List.eq_of_mem_replicate hd];show{.none,by simp only[Dp],by simp only[PyData.canLay0],by simp only[PyData.depth];lia}) !⟨?_⟩;show bY (λh=>{r,r,fo<|q _ y (b0.trans b1) {rfl,cz (cz jw<|bh<|`a)<|bh<|`a,ku rfl}}) λh=>?_;have sD:0<ps.length:=by cases ps with|nil=>(cases h)|cons _ _=>show Nat.succ_pos _
 have b2:=b0.trans b1;show !!!⟨.inl {_,m,l,_,rfl,by rw[zE];lia,u0 (by rw[zE];lia)<|by rw[zE];lia,b2 _ _ hw,λk k0 k1=>?_}⟩;rw[zE]at k1;obtain⟨j,rfl⟩:∃n:π,k=(n:ν):={k.toNat,`b};have O:j<ps.length:=`b
 have B:=zg O;generalize ps[j]=pt at B;let⟨q3,hk⟩:=Pa hg<|ho.pin pt<|zI B;have ek:cs.map aC=(cs.map λc=>(c.1,D.str c.2)).map FV:=by rw[zH];rfl
 show !{(cs.map λc=>(c.1,D.str c.2)),by rw[ek],λp2 h2=>?_};show !!!{p3 pt,gY<|by rw[zA,B];rfl,_,rfl,_,_,aa,q3,?_};generalize g:ax.set y p2 _=L;have U:Sub y L:=by rw[<-g];show .new h2
 clear g;have b4:=b2.trans U;have m:=U _ _ m;show{R,λx hA=>{Qy,R,λs E=>{r,λX A=>!⟨.inr !⟨?_⟩⟩}}};generalize g:ax.set (ax.set (ax.set L x _) s _) X _=o;have cA:o x=ϑ (.lst UY):=by rw[<-g];show(Sub.new A) _ _<|(Sub.new E) _ _ aa
 have cB:o s=ϑ (.lst UZ):=by rw[<-g,x41];show(Sub.new A) _ _ aa
 have cC:o X=ϑ (.lst [.ref x,.ref s]):=by rw[<-g];show aa
 have b5:Sub L o:=by rw[<-g];show((Sub.new hA).trans<|.new E).trans<|.new A
 clear g hA E A;obtain⟨J,eX,cX⟩:∃J,tV [D.ref x,D.ref s] (if ω (vO cs pt.1 ="word")=ϱ then 1 else 0)=ϑ (.ref J)/\o J=ϑ (.lst<|if vO cs pt.1 ="word" then UZ else UY):=by by_cases h:vO cs pt.1 ="word";rw[qe h,qe<|zi h];show⟨s,rfl,cB⟩;rw[qb h,qb<|by rw[zf h];decide];show⟨x,rfl,cA⟩
 have hL:(if vO cs pt.1 ="word" then UZ else UY).length=4:=by split<;>rfl
 have b6:=b4.trans b5;have m:=b5 _ _ m;show{_,_,cC,eX,fo ?_};show !{l,_,rfl,`a,`a,b6 _ _ hw,λk2 ZJ ZK=>?_};let⟨v,e3,e4⟩:=iZ (l:=if vO cs pt.1 ="word" then UZ else UY) (i:=k2) ZJ (by rw[hL];show ZK);let⟨I,G⟩:=T9 hk<|zI e4;show{_,v,cX,e3,_,rfl,_,rfl,_,_,_,j,rfl,rfl,m,?_,?_};rw[zE];unfold JD;rw[qe<|`b];simp;lia;have C:Sub S (o.set p<|.lst<|(List.replicate ps.length .ao).set j v):=CY b6 h0;have w7:=C _ _ hw;have Z:(o.set p<|.lst<|(List.replicate ps.length .ao).set j v) p=ϑ (.lst<|(List.replicate ps.length .ao).set j v):=aa;generalize o.set p _=S4 at C w7 Z⊢;show !{_,_,rfl,.inl Z,r,r,λpD Y=>!{l,_,rfl,`a,`a,wl w7 Y,λk3 M H=>bU M H Y λd hd=>{r,?_}}};obtain⟨z,rfl,hz⟩:∃z:ρ,d=.str z/\z.cps.size<=1000:=by have hd:d∈[D.str "ahead",.str "behind"]:=hd;simp only[ze,zt,or_false]at hd;rcases hd with h|h;show{_,h,`a};show{_,h,`a}
 show fo<|q _ S4 C {rfl,cz (cz (iS (by rw[List.length_set,zE];lia) λv' Pw=>?_)<|bh<|`a)<|bh hz,ku ?_};rcases List.mem_or_eq_of_mem_set Pw with h|rfl;rw[List.eq_of_mem_replicate h];show jw;show G _;change(MS cs ps (.tup<|(List.replicate ps.length .ao).set j v)&&ofStr fV (.str "a"))=ϰ;rw[T_ B (by rw[List.getElem?_set_self<|by rw[zE];show O]) I,zR]
def Mq(L:δ D)(k:π):iY L none (some ((k:π):ν))=L.take k:=by unfold iY;rw[HT.sIx_nat,HT.sIx_none,List.drop_zero,Nat.sub_zero];show List.take_eq_take_iff.mpr<|`b
def Mr(L:δ D)(k:π):iY L (some ((k:π):ν)) none=L.drop k:=by unfold iY;rw[HT.sIx_nat,HT.sIx_none];rcases Nat.le_total k L.length with h|h;rw[Nat.min_eq_left h,List.take_of_length_le<|by rw[List.length_drop];show zp _];rw[Nat.min_eq_right h,Nat.sub_self,List.take_zero,List.drop_eq_nil_of_le h]
noncomputable abbrev U0:δ D:=[.str "x",.bl true,.bl false,.str ""]
noncomputable abbrev U1:δ D:=[.int 1,.bl true,.str "xxxxxxxxxxxxxxxxxxxxxxxxxxxxxxxxxxxxxxxxx",.tup [.str "a"]]
def Ua{k:ρ}(hk:k ="number"\/k ="word"){v:D}(h:v∈if k ="word" then U1 else U0):dR k v=ϰ/\∀S,Gt S v:=by rcases hk with rfl|rfl;have h:v∈U0:=h;simp only[ze,zt,or_false]at h;rcases h with rfl|rfl|rfl|rfl;show{`c,λS=>gt_str<|`a};show{`c,λS=>xH};show{`c,λS=>xH};show{`c,λS=>gt_str<|`a};have h:v∈U1:=h;simp only[ze,zt,or_false]at h;rcases h with rfl|rfl|rfl|rfl;show{`c,λS=>gt_int};show{`c,λS=>xH};show{`c,λS=>gt_str<|`a};show{`c,λS=>oA}
def Ff{cs:δ<|ρ×ρ}{ws:δ D}{j:π}{c:ρ×ρ}{v:D}(d:cs[j]?=some c)(hx:ws[j]?=some v)(h:dR c.2 v=ϰ):fM cs (.tup ws)=ϰ:=by change(ω (ws.length=cs.length)&&(List.zipWith (λc v=>dR c.2 v) cs ws).all id)=ϰ;rw[show(List.zipWith (λ(c:ρ×ρ) v=>dR c.2 v) cs ws).all id=ϰ from ?_,yQ];rw[List.all_eq_false];show{_,zI (i:=j) (a:=dR c.2 v) ?_,by rw[h];show zd};rw[List.getElem?_zipWith,d,hx]
def vz(h:ws.length≠cs.length):fM cs (.tup ws)=ϰ:=by change(ω (ws.length=cs.length)&&_)=ϰ;rw[zf h];rfl
structure Bw0(S:ax)(cs:δ (ρ×ρ))(d:D):η where
 gs:Jh S d
 no:fM cs d=ϰ
inductive nK (ds:δ D) (S:ax) (R:KD) (Z:KX):η
 |mk (l cs) (_:ds=[.ref l,.tup<|cs.map aC]) (hg:Gd cs) (hN:∀c∈cs,c.1∈xB) (_:S l=ϑ .well) (_:∀d,(∀S',Bw0 S' cs d)->R d S)
def vA(T:Txt w K mg t):Ok P w base T.jq 4 nK:=by
 show T.jq.F.eM eO ?_;obtain⟨l,cs,e,hg,hN,hw,q⟩;have h8:=hg.1;have C:=fU;have N:=gE;have E:=wx;show{_,(sc (dy (i:=2) eO.nd<|ba T.iH (jS T) hr<|al 0<|al 1 an)<|sc (si (bX bO `u (dv 1)<|aF an) (s1<|sr<|aF<|ac dn an) s0)<|sc (dy (i:=3) eO.nd<|ba T.aN (bB T) hr<|al 0<|ac (cb bC T.bw aU<|al 1 an) an)<|sc (dy (i:=4) eO.nd<|ur<|ix `u (bG<|ac (bG<|ac ds<|ac db<|ac db<|ac ds an)<|ac (bG<|ac di<|ac db<|ac (bo i3 `u ds di)<|ac (aF<|ac ds an) an) an)<|ct lJ T.kI gO<|ac (cm bO `u (ix `u (ix `u (dv 1)<|dv 3) di) ds) an)<|s1<|sr<|bo fE `u (bo fE `u (sl (dv 2) o0<|o1<|dv 3)<|aF<|ac (ix `u (dv 4)<|ba T.aN (bB T) hr<|al 0<|ac di an) an)<|sl (dv 2) (o1<|bo fE `u (dv 3) di) o0),?_};show !!{l,cs,rfl,hg,hw,λws B=>?_};have Y:=wu;show !{Y,Gv (GJ hg hN) !⟨?_⟩};show bY (λh=>{C,fo<|q _ λS'=>{{oA,λO e=>by cases e;show{`a,λv U=>by rw[zx.mp U];show gm}},?_}}) λh=>?_;have:cs=[]:=by cases cs with|nil=>rfl|cons _ _=>cases h
 subst this;rfl;have sD:0<cs.length:=by cases cs with|nil=>(cases h)|cons _ _=>show Nat.succ_pos _
 show !!!{l,_,rfl,by rw[zc];lia,u0 (by rw[zc];lia)<|by rw[zc];lia,hw,λk k0 k1=>?_};rw[zc]at k1;obtain⟨j,rfl⟩:∃n:π,k=(n:ν):={k.toNat,`b};have L:j<cs.length:=`b
 have p:=zg L;generalize cs[j]=c at p;have hk:=(hg.2.2 c<|zI p).2;show{E,λm I=>{Qy,C,E,λa s=>{N,λG o=>!!{aC c,gY<|by rw[zA,p];rfl,_,rfl,.inr !⟨?_⟩}}}};generalize d:ax.set (ax.set (ax.set S m _) a _) G _=g;have cA:g m=ϑ (.lst U0):=by rw[<-d];show(Sub.new o) _ _<|(Sub.new s) _ _ aa
 have cB:g a=ϑ (.lst U1):=by rw[<-d,x41];show(Sub.new o) _ _ aa
 have X:g G=ϑ (.lst [.ref m,.ref a]):=by rw[<-d];show aa
 have H:Sub S g:=by rw[<-d];show((Sub.new I).trans<|.new s).trans<|.new o
 clear d I s o;obtain⟨A,M,Z⟩:∃A,tV [D.ref m,D.ref a] (if ω (c.2 ="word")=ϱ then 1 else 0)=ϑ (.ref A)/\g A=ϑ (.lst<|if c.2 ="word" then U1 else U0):=by by_cases h:c.2 ="word";rw[qe h,qe<|zi h];show⟨a,rfl,cB⟩;rw[qb h,qb<|by rw[zf h];decide];show⟨m,rfl,cA⟩
 have hL:(if c.2 ="word" then U1 else U0).length=4:=by split<;>rfl
 have J:ws.length=cs.length:=(yM B).symm;show{_,_,X,M,fo ?_};show !!!{λz=>?_,?_};rw[HT.sIx_nat]at z;lia;rw[Mq];show !!{l,_,rfl,`a,`a,H _ _ hw,λk2 ZJ Q=>?_};let⟨v,e3,e4⟩:=iZ (l:=if c.2 ="word" then U1 else U0) (i:=k2) ZJ (by rw[hL];show Q);let⟨y,x⟩:=Ua hk<|zI e4;show{_,v,Z,e3,C,sm<|by rw[yc];change min j ws.length+1<=1000;lia,?_};show !!!{λz=>?_,?_};have z:=z.1;rw[show((j:π):ν)+1=((j+1:π):ν) by lia,HT.sIx_nat]at z;lia;rw[show((j:π):ν)+1=((j+1:π):ν) by lia,Mr];have FD:(ws.take j++[v]++ws.drop (j+1)).length<=9:=by rw[zw,zw,yc,List.length_drop,List.length_singleton];lia
 have JR:∀S',∀r∈ws.take j++[v]++ws.drop (j+1),Gt S' r:=λS' r Pw=>by rcases zN.mp Pw with h|h;rcases zN.mp h with h|h;show my<|Wg.all B r<|List.mem_of_mem_take h;rw[zx.mp h];show x _;show my<|Wg.all B r<|List.mem_of_mem_drop h
 have R:fM cs (.tup<|ws.take j++[v]++ws.drop (j+1))=ϰ:=by show Ff p ?_ y;rw[List.append_assoc,List.getElem?_append_right<|by rw[yc];lia,yc];rw[show j-min j ws.length=0 by lia];rfl
 show{sm<|by rw[<-zw];lia,_,H,q _ λS'=>{{oA,λO e=>by cases e;show{`b,JR S'}},R}}
inductive Pb (S:ax) (cs:δ<|ρ×ρ) (kn:Kn):D->ρ->η|Iu {d:D} (h:MU S d):Pb S cs kn d "deed"|row {z:ρ}{k v:D} (hz:z ="put"\/z ="change") (g:Gt S k) (g2:Jh S v) (h:kX cs k v=ϰ):Pb S cs kn (.tup [.str z,k,v]) "row"|key {k:D} (g:Gt S k) (h:ofStr fV k=ϰ):Pb S cs kn (.tup [.str "take",k]) "row"|has {z:ρ}{ws:δ D} (hz:z∈KS) (hw:Wg cs ws) (h:(g9 kn z).isSome=ϱ):Pb S cs kn (.tup [.str "put",.str z,.tup ws]) "has"|chg {z:ρ}{ws:δ D} (hz:z∈KS) (hw:Wg cs ws) (h:g9 kn z=ϐ):Pb S cs kn (.tup [.str "change",.str z,.tup ws]) "no"|no {z:ρ} (hz:z∈KS) (h:g9 kn z=ϐ):Pb S cs kn (.tup [.str "take",.str z]) "no"
noncomputable abbrev Yg(k v:D)(p5:ε):δ D:=[.ao,.tup [],.tup [.str "put"],.tup [.str "put",k],.tup [.str "put",k,v,.int 0],.ref p5,.tup [.str "take"],.tup [.str "change",k]]
noncomputable abbrev ZL(k v:D)(p6:ε):δ D:=[.tup [.str "take",k,v],.tup [.str "drop",k],.tup [.ao,k],.str "take",.tup [.ref p6,k,v]]
def ac7(h:S e=ϑ (.lst A))(g:S i=ϑ (.lst B)):∀d∈Yg k v e++ZL k v i++[.tup [.str "Put",k,v]],MU S d:=by have w:∀{z:ρ},z≠"put"->z≠"change"->z≠"take"->z≠"put"/\z≠"change"/\z≠"take":=λa b c=>⟨a,b,c⟩;simp only[List.forall_mem_append,List.forall_mem_cons,zt,false_imp_iff,implies_true,and_true];show{{{.kind nofun gm,.nil,.len<|.inl {.inl rfl,`a},.len<|.inl {.inl rfl,by change(1:π)≠2;decide},.len<|.inl {.inl rfl,by change(3:π)≠2;decide},.kind nofun (rE h),.len<|.inr {rfl,`a},.len<|.inl {.inr rfl,by change(1:π)≠2;decide}},.len<|.inr {rfl,by change(2:π)≠1;decide},.word<|w `a `a<|`a,.fst nofun gm,.kind nofun (gt_str<|`a),.fst nofun (rE g)},.word<|w `a `a<|`a}
inductive vB (ds:δ D) (S:ax) (R:KD) (Z:KX):η
 |mk (l cs lk kn) (_:ds=[.ref l,.tup<|cs.map aC,.ref lk]) (_:Gd cs) (hN:∀c∈cs,c.1∈xB) (_:S l=ϑ .well) (_:S lk=ϑ (.eV<|jV kn)) (_:∀d Qz S',Sub S S'->Pb S' cs kn d Qz->R (.tup [d,.str Qz]) S')
def C3(T:Txt w K mg t):Ok P w base T.ot 5 vB:=by
 show T.ot.F.eM bT ?_;obtain⟨l,cs,lk,kn,e,hg,hN,hw,hk,q⟩;have M:=hg.1;have n0:=wu;have L:=fU;have j:=gE;have n:=iM;have n4:=wx;show{_,(sc (dy (i:=3) bT.nd<|ba T.Cv (EL T) hr<|al 0 an)<|sc (dy (i:=4) bT.nd<|ba T.iH (jS T) hr<|al 0<|al 1 an)<|sc (dy (i:=5) bT.nd<|ur<|ix `u (bG<|ac ds<|ac ds<|ac ds<|ac ds<|ac dn<|ac di<|ac (bG<|ac ds an) an)<|ba T.aN (bB T) hr<|al 0<|ac di an)<|sc (dy (i:=6) bT.nd<|ur<|ix `u (bG<|ac (ct y1 T.Ao s_<|al 4 an)<|ac (bo fE `u (dv 4)<|aF<|ac dn an)<|ac dn<|ac (bo SS `u (aF<|ac db an)<|bo fE `u di<|cb bC T.bw aU<|al 1 an)<|ac ds an)<|ba T.aN (bB T) hr<|al 0<|ac di an)<|sc (Jd<|si (bX bO `u (ba T.aN (bB T) hr<|al 0<|ac di an) di) (s1<|dy (i:=6) bT.nd<|ba T.jq (vA T) hr<|al 0<|al 1 an) s0)<|sc (dy (i:=7) bT.nd<|bG<|ac dn<|ac (aF an)<|ac (aF<|ac ds an)<|ac (aF<|ac ds<|al 3 an)<|ac (aF<|ac ds<|al 3<|al 4<|ac di an)<|ac (bG<|ac ds<|al 3<|al 4 an)<|ac (aF<|ac ds an)<|ac (aF<|ac ds<|al 3 an) an)<|sc (dy (i:=7) bT.nd<|bo fE `u (dv 7)<|bG<|ac (aF<|ac ds<|al 3<|al 4 an)<|ac (aF<|ac ds<|al 3 an)<|ac (aF<|ac dn<|al 3 an)<|ac ds<|ac (aF<|ac (bG<|ac ds an)<|al 3<|al 4 an) an)<|sc (se<|bm zS yd ye fF (dv 7)<|ac (aF<|ac ds<|al 3<|al 4 an) an)<|sc (dy (i:=8) bT.nd<|ba T.aN (bB T) hr<|al 0<|ac di an)<|sc (si (bX bO `u (dv 8) di) (s1<|sr<|aF<|ac (ix `u (dv 7)<|ba T.aN (bB T) hr<|al 0<|ac di an)<|ac ds an) s0)<|sc (si (bX bO `u (dv 8) di) (s1<|sr<|aF<|ac (ur<|ix `u (bG<|ac (aF<|ac ds<|al 5<|al 4 an)<|ac (aF<|ac ds<|al 5 an)<|ac (aF<|ac ds<|al 5<|al 6 an) an)<|ba T.aN (bB T) hr<|al 0<|ac di an)<|ac ds an) s0)<|sc (si (bX bO `u (dv 8) di) (s1<|sr<|aF<|ac (ur<|ix `u (bG<|ac (aF<|ac ds<|al 3<|al 6 an)<|ac (aF<|ac ds<|al 3<|al 6 an) an)<|ba T.aN (bB T) hr<|al 0<|ac di an)<|ac ds an) s0)<|sc (si (bX BR `u (dv 3)<|dv 2) (s1<|sr<|aF<|ac (aF<|ac ds<|al 3<|al 4 an)<|ac ds an) s0)<|s1<|sr<|aF<|ac (ur<|ix `u (bG<|ac (aF<|ac ds<|al 3<|al 4 an)<|ac (aF<|ac ds<|al 3 an) an)<|ba T.aN (bB T) hr<|al 0<|ac di an)<|ac ds an),?_};show !{l,[],rfl,rfl,hw,λd ⟨z,hz,e⟩=>?_};subst e;show !!{l,cs,rfl,hg,hw,λws Q=>?_};have p:ws.length=cs.length:=(yM Q).symm;show{L,λp1 h1=>{Ov,λp2 h2=>!{l,_,rfl,`a,`a,wl (wl hw h1) h2,λk k0 k1=>bU k0 k1 h2 λok aT=>?_}}};generalize g:ax.set S p1 _=U;have b1:Sub S U:=by rw[<-g];show .new h1
 have c1:U p1=ϑ (.lst [.str "a"]):=by rw[<-g];show aa
 clear g h2;have aT:Gt U ok/\ofStr fV ok=ϰ:=by have aT:ok∈[D.str "",.str "A",.str "1a",.str "abcdefghijklm",.ao,.int 5,.ref p1]:=aT;simp only[ze,zt,or_false]at aT;rcases aT with h|h|h|h|h|h|h<;>subst h;show{gt_str<|`a,`c};show{gt_str<|`a,`c};show{gt_str<|`a,`c};show{gt_str<|`a,`c};show⟨gm,rfl⟩;show⟨gt_int,rfl⟩;show{rE c1,rfl}
 show !{_,_,rfl,.inr rfl,λp3 h3=>?_};generalize g:ax.set U p3 _=y;have b2:Sub U y:=by rw[<-g];show .new h3
 have c3:y p3=ϑ (.lst ws):=by rw[<-g];show aa
 clear g h3;have x:=b1.trans b2;show !{L,sm<|by rw[p];change cs.length+1<=1000;lia,L,_,rfl,_,rfl,_,_,rfl,rfl,`b,by rw[zc];lia,Tc,λp4 h4=>!{l,_,rfl,`a,`a,wl (x _ _ hw) h4,λk k0 k1=>bU k0 k1 h4 λod m=>?_}};have m:Jh y od/\fM cs od=ϰ:=by have m:od∈[D.ref p3,.tup<|ws++[.ao],.ao,.tup<|List.replicate (1+(((cs.map aC).length:π):ν)).toNat<|.bl true,.str ""]:=m;rw[zc,show(1+((cs.length:π):ν)).toNat=cs.length+1 by lia]at m;simp only[ze,zt,or_false]at m;rcases m with h|h|h|h|h<;>subst h;show{{rE c3,λf e=>nomatch e},rfl};have JR:∀v∈ws++[D.ao],Gt y v:=λv E=>(by rcases zN.mp E with h|h;show my<|Wg.all Q v h;rw[zx.mp h];show gm);show{{oA,λf e=>by cases e;show{by rw[zw,p];change cs.length+1<=1000;lia,JR}},vz<|by rw[zw,p];change cs.length+1≠cs.length;lia};show{{gm,λf e=>nomatch e},rfl};show{{oA,λf e=>by cases e;show{by rw[zE];lia,λv E=>by rw[List.eq_of_mem_replicate E];show xH}},vz<|by rw[zE];lia};show{{gt_str<|`a,λf e=>nomatch e},rfl}
 clear h4;show{λaX S'=>∃od,aX=[some<|.ref l,some<|.tup<|cs.map aC,some<|.ref lk,some<|.str z,some<|.tup ws,some ok,some od,none,none]/\(Jh y od/\fM cs od=ϰ)/\S'=y,?_,?_};show !{l,_,rfl,`a,`a,x _ _ hw,λk k0 k1=>!⟨bY (λf=>?_) λf=>fo ⟨od,rfl,m,rfl⟩⟩};show !!{l,cs,rfl,hg,hN,x _ _ hw,λd hd=>fo {d,rfl,{(hd y).gs,(hd y).no},rfl}};rintro aX S' ⟨od,rfl,m,rfl⟩;show{n0,L,_,rfl,j,_,rfl,_,rfl,n4,_,rfl,_,rfl,n,λJ I=>{L,_,rfl,j,XB,λp7 h7=>?_}};generalize g:ax.set (ax.set S' J _) p7 _=s;have c5:s J=ϑ (.lst [.str "put",.str z,.tup ws]):=by rw[<-g];show(Sub.new h7) _ _ aa
 have c7:s p7=ϑ (.lst<|Yg (.str z) (.tup ws) J):=by rw[<-g];show aa
 have X:Sub S' s:=by rw[<-g];show(Sub.new I).trans<|.new h7
 clear g I h7;show !!!{n,_,rfl,j,_,rfl,j,L,λC H=>!!{n,Tc,λp8 M=>?_}};show{_,_,(Sub.new M) _ _<|(Sub.new H) _ _ c7,aa,XH,λG Z=>?_};generalize g:ax.set (ax.set (ax.set s C _) p8 _) G _=Y;have c6:Y C=ϑ (.lst [.str "put"]):=by rw[<-g];show(Sub.new Z) _ _<|(Sub.new M) _ _ aa
 have c9:Y G=ϑ (.lst<|Yg (.str z) (.tup ws) J++ZL (.str z) (.tup ws) C):=by rw[<-g];show aa
 have b4:Sub s Y:=by rw[<-g];show((Sub.new H).trans<|.new M).trans<|.new Z
 have n9:s G=ϐ:=by cases e:s G with|none=>rfl|some c=>show absurd (Z.symm.trans<|((Sub.new H).trans<|.new M) _ _ e) nofun
 clear g H M Z;show{_,rfl,{rfl,_,c9},_,rfl,_,rfl,n,_,_,_,rfl,rfl,c9,jA<|show 13<=1000 by decide,?_};generalize g:ax.set Y G _=o;have a2:o G=ϑ (.lst<|Yg (.str z) (.tup ws) J++ZL (.str z) (.tup ws) C++[.tup [.str "Put",.str z,.tup ws]]):=by rw[<-g];show aa
 have O:∀{A:ax},Sub A s->Sub A o:=λh=>by rw[<-g];show CY (h.trans b4)<|eK h n9
 have a1:o C=ϑ (.lst [.str "put"]):=by rw[<-g,ah<|show C≠G by rintro rfl;rw[c9]at c6;cases c6];show c6
 clear g;have f1:Sub S o:=O<|x.trans X;have a0:=O (Sub.refl s) _ _ c5;have N:=f1 _ _ hw;have k5:=f1 _ _ hk;have go:Gt o ok:=aT.1.sub<|O<|b2.trans X;have gd:Jh o od:={m.1.1.sub<|O X,λvs e=>{(m.1.2 vs e).1,λv E=>((m.1.2 vs e).2 v E).sub<|O X}};have gw:Jh o (.tup ws):={oA,λvs e=>by cases e;show{`b,λv E=>my<|Wg.all Q v E}};have gz:Gt o (.str z):=vh<|r_ hz;have r1:∀v,kX cs ok v=ϰ:=λv=>by unfold kX;rw[aT.2,zR]
 have r2:∀k,kX cs k od=ϰ:=λk=>by unfold kX;rw[m.2,yQ]
 have r:∀d Qz,Pb o cs kn d Qz->Fo o (R<|.tup [d,.str Qz]):=λd Qz h=>fo<|q d Qz o f1 h;show !{l,_,rfl,`a,`a,N,λway w0 w1=>!!⟨bY (λf=>?_) λf=>!!⟨bY (λf=>?_) λf=>!!⟨bY (λf=>?_) λf=>?_⟩⟩⟩};show !!{l,_,rfl,`a,`a,N,λk k0 k1=>?_};let⟨v,e1,e2⟩:=iZ (l:=Yg (.str z) (.tup ws) J++ZL (.str z) (.tup ws) C++[D.tup [.str "Put",.str z,.tup ws]]) (i:=k) k0 k1;show{_,v,a2,e1,j,r _ _<|.Iu<|ac7 a0 a1 v<|zI e2};show !!{n,_,rfl,j,_,rfl,_,rfl,n,n,λpX B=>!{l,_,rfl,`a,`a,wl N B,λk k0 k1=>bU k0 k1 B λd hd=>{j,r _ _ ?_}}};have hd:d∈[D.tup [.str "put",ok,.tup ws],.tup [.str "take",ok],.tup [.str "change",ok,od]]:=hd;simp only[ze,zt,or_false]at hd;rcases hd with h|h|h<;>subst h;show .row (.inl rfl) go gw<|r1 _;show .key go aT.2;show .row (.inr rfl) go gd<|r1 _;show !!{n,_,rfl,_,rfl,n,j,λpX B=>!{l,_,rfl,`a,`a,wl N B,λk k0 k1=>bU k0 k1 B λd hd=>{j,r _ _ ?_}}};have hd:d∈[D.tup [.str "put",.str z,od],.tup [.str "change",.str z,od]]:=hd;simp only[ze,zt,or_false]at hd;rcases hd with h|h<;>subst h;show .row (.inl rfl) gz gd<|r2 _;show .row (.inr rfl) gz gd<|r2 _;have MP:(df (jV kn)<|.inr z).isSome=(g9 kn z).isSome:=by rw[u7 kn];cases g9 kn z<;>rfl
 show !!⟨.inr {jV kn,.inr z,k5,rfl,_,rfl,bY (λI=>?_) λI=>?_}⟩;show !!{n,j,r _ _<|.has (r_ hz) Q<|MP.symm.trans I};have H:g9 kn z=ϐ:=by have:=MP.symm.trans I;cases e:g9 kn z with|none=>rfl|some _=>rw[e]at this;cases this
 show !!{n,_,rfl,j,j,λpX B=>!{l,_,rfl,`a,`a,wl N B,λk k0 k1=>bU k0 k1 B λd hd=>{j,r _ _ ?_}}};have hd:d∈[D.tup [.str "change",.str z,.tup ws],.tup [.str "take",.str z]]:=hd;simp only[ze,zt,or_false]at hd;rcases hd with h|h<;>subst h;show .chg (r_ hz) Q H;show .no (r_ hz) H
def Yh(hg:Gd cs)(h:Lf cs d):kY cs d=ϱ/\subs d=[]:=by
 rcases h with rfl|⟨ks,rfl,e,g⟩|⟨o,c,v,hc,j,ho,rfl⟩;show{by rw[vd];rfl,rfl};show{?_,rfl};rw[EV];change(ω ((ks.map D.str).length<=8)&&(ks.map D.str).all (ofStr fV))=ϱ;rw[zc,zi e,zP,List.all_map];show yn.mpr λk hk=>(jt k<|g k hk).1;have a:o ="is"\/o ="below"\/o ="above"\/o ="begins":=by rcases ho with h|⟨_,h|h|⟨h,_⟩⟩;show .inl h;show .inr<|.inl h;show .inr<|.inr<|.inl h;show .inr<|.inr<|.inr h
 show{?_,rfl};rw[LN a];change LK cs o (.str c.1) v=ϱ;unfold LK;rw[AY hg (k:=c.2) hc];change(dR c.2 v&&(ω (o ="is")||((!(ω (o ="begins") && !decide (c.2 ="word"))) && !au v)))=ϱ;rw[j.1,zP];rcases ho with rfl|⟨l,ho⟩;rfl;have i:au v=ϰ:=by cases v<;>first|rfl|show absurd rfl l
 rw[i];rcases ho with rfl|rfl|⟨rfl,hw⟩;rfl;rfl;rw[hw];rfl
def Pc(hg:Gd cs)(h:Sg cs (n+1) d):kY cs d=ϱ/\(subs d).length<=8/\∀e∈subs d,Sg cs n e:=by rcases h with h|⟨e,rfl,a⟩|⟨o,ds,ho,rfl,hl,hd⟩;let⟨h1,h2⟩:=Yh hg h;rw[h2];show{h1,`d,`d};rw[pN];show{by rw[A1];rfl,`d,λx hx=>by rw[zx.mp hx];show a};rw[jT ho];show{?_,hl,hd};rw[A4 ho];show zi<|`b
def Ms(hg:Gd cs):∀{es:δ D},(∀e∈es,Sg cs (n+1) e)->es.all (kY cs)=ϱ/\(es.flatMap subs).length<=8*es.length/\∀e∈es.flatMap subs,Sg cs n e:=by intro es;induction es with|nil=>show λz=>{rfl,zp _,`d}|cons e es i=>intro h;let⟨a,b,c⟩:=Pc hg<|h e zD;let⟨d,j,g⟩:=i λx hx=>h x<|zk _ hx;rw[List.flatMap_cons,List.all_cons,a,d,zw,zG];show{rfl,`b,λx hx=>(zN.mp hx).elim (c x)<|g x}
def Yi(hg:Gd cs):∀(n:π){m p:π}{es:δ D},(∀e∈es,Sg cs n e)->n<=m->p+es.length*9^n<=200->tI cs m p es=ϱ:=by intro n;induction n with|zero=>(intro m p es h _ _;cases es with|nil=>show LR _ _ _|cons e es=>show(h e zD).elim)|succ n d=>intro m p es h hm g;obtain⟨m,rfl⟩:∃k,m=k+1:={m-1,`b};let⟨a,b,c⟩:=Ms hg h;unfold tI;split;rfl;rw[Nat.pow_succ,<-Nat.mul_assoc]at g;have e2:es.length<=es.length*9^n:=Nat.le_mul_of_pos_right _<|Nat.pow_pos `a;have e3:(es.flatMap subs).length*9^n<=8*es.length*9^n:=Nat.mul_le_mul_right _ b;rw[Nat.mul_assoc]at e3;rw[zi<|`b,a,zP,zP];show d c `b<|`b
def Yj(hN:∀c∈cs,c.1∈xB):∀{n:π}{d:D},Sg cs n d->QA S d:=by intro n;induction n with|zero=>show λh=>h.elim|succ n i=>rintro d ((rfl|⟨ks,rfl,m,j⟩|⟨o,c,v,hc,g,ho,rfl⟩)|⟨e,rfl,l⟩|⟨o,ds,ho,rfl,hl,hd⟩);show nH<|bh `a;show cz (bh<|`a)<|iS (by rw[zc];lia) λv g=>?_;let⟨k,hk,rfl⟩:=zh.mp g;show bh (by have:=(jt k<|j k hk).2.1;lia);have hz:∀z∈xB,z.cps.size<=1000:=`c;have a:o.cps.size<=1000:=(by rcases ho with rfl|⟨_,rfl|rfl|⟨rfl,_⟩⟩<;>decide);show GR (bh a) (bh<|hz _<|hN c hc)<|xD (XX g)<|XY g;show cz (bh<|`a)<|i l;have a:o.cps.size<=1000:=(by rcases ho with rfl|rfl<;>decide);show cz (bh a)<|iS `b λv g=>i<|hd v g
def Yk(h:Lf cs d):EU (n+1) d=1:=by rcases h with rfl|⟨ks,rfl,_⟩|⟨o,c,v,_,_,_,rfl⟩<;>rfl
def Ub(n:π)(e:D):EU (n+1) (.tup [.str "not",e])=EU n e+1:=by change((Qo _).map<|EU n).sum+1=_;rw[LJ];simp
def Pd{o:ρ}(h:o ="and"\/o ="or")(n:π)(ds:δ D):EU (n+1) (.tup [.str o,.tup ds])=(ds.map<|EU n).sum+1:=by change((Qo _).map<|EU n).sum+1=_;rw[Gx h]
def Yl(h:Sg cs (n+1) d):∀f∈Qo d,Sg cs n f:=by
 rcases h with (rfl|⟨ks,rfl,_,_⟩|⟨o,c,v,_,_,ho,rfl⟩)|⟨e',rfl,a⟩|⟨o,ds,ho,rfl,g,hd⟩;show nofun;show nofun;show nofun;rw[LJ];show λf e=>by rw[zx.mp e];show a
 rw[Gx ho];show hd
theorem xP:∀{n:π}{d:D},Sg cs n d->EU (n+1) d=EU n d|0,_,h=>h.elim|n+1,d,h=>by change((Qo d).map<|EU<|n+1).sum+1=((Qo d).map<|EU n).sum+1;rw[zY λf a=>xP<|Yl h f a]
theorem Sg.up:∀{n:π}{d:D},Sg cs n d->Sg cs (n+1) d|0,_,h=>h.elim|n+1,d,h=>by rcases h with h|⟨e,h1,h2⟩|⟨o,ds,h1,h2,a,g⟩;show .inl h;show .inr<|.inl ⟨e,h1,h2.up⟩;show .inr<|.inr {o,ds,h1,h2,a,λe c=>(g e c).up}
theorem Mt:∀{ds:δ D},(∀d∈ds,f d<=c)->(ds.map f).sum<=ds.length*c|[],_=>yf _|d::ds,h=>by have h1:=h d zD;have h2:=Mt (f:=f) (c:=c) (ds:=ds) λx hx=>h x<|zk _ hx;rw[zO,List.sum_cons,zG,Nat.succ_mul];lia
theorem Mu:∀{n:π}{d:D},Sg cs n d->EU n d<=9^n|0,_,h=>h.elim|n+1,d,h=>by have hp:0<9^n:=Nat.pow_pos `a;rw[Nat.pow_succ];rcases h with h|⟨e,rfl,h2⟩|⟨o,ds,h1,rfl,g,a⟩;rw[Yk h];lia;rw[Ub];have:=Mu h2;lia;rw[Pd h1];have j:=Mt (f:=EU n) (c:=9^n) λd hd=>Mu<|a d hd;have i:ds.length*9^n<=8*9^n:=Nat.mul_le_mul_right _ g;lia
def Uc(h:Sg cs 2 d):Sq cs d:=by have hz:=Mu h;have c:=h.up;have a:=c.up;have e:=a.up;have g:=e.up;show{g.up,?_};rw[xP g,xP e,xP a,xP c,xP h];show zM hz<|`a
noncomputable abbrev qR:Str:="_law_right.<locals>.<lambda>"
noncomputable def Pe(b0 b1 b2:χ):Str:=if b0=ϱ then "sieve" else if b1=ϱ then "size" else if b2=ϱ then "place" else "told"
def U4(b:χ):(0:ν)<=(if b=ϱ then 1 else 0)/\(if b=ϱ then (1:ν) else 0)<=1000:=by cases b<;>decide
noncomputable abbrev IQ(b:χ)(z:ρ):δ D:=List.replicate (if b=ϱ then (1:ν) else 0).toNat<|.str z
def jh(b:χ)(z:ρ):(IQ b z).length<=1:=by cases b<;>simp[IQ]
def Mv(b:χ)(x y:D):tV [x,y] (if b=ϱ then 1 else 0)=ϑ (if b=ϱ then y else x):=by cases b<;>rfl
inductive Bk (t:gu) (ds:δ D) (S:ax) (R:KD) (Z:KX):η
 |mk (q:Kq) (cs:δ<|ρ×ρ) (rows:δ Row) (l:ε) (_:ds=[.ref q.k,gL q.ps q.wy,.tup<|cs.map aC,.ref l]) (hk:S q.k=ϑ (Jj t.aL q)) (hl:S l=ϑ .well) (_:Gd cs) (hN:∀c∈cs,c.1∈xB) (_:Og cs q.ps q.wy) (_:Vw t.aw S q.a cs .ao rows) (_:TV rows) (_:Tb t S) (hT:S t.eN=ϑ (.tab qR)) (_:∀S',Sub S S'->R (.bl true) S')
def Mw(T:Txt w K mg t)(B:Bm mg base):Ok P w base T.Ag 17 (Bk t):=by
 have gq:OkA P w base T.bP 16 15 _:=xN T (n:=0);show T.Ag.F.Zn (k:=16) eG (λds S R Z h=>by cases h;subst_vars;rfl) ?_;rintro _ _ _ _ _ _ _ S R Z kP hr ⟨kq,cs,rows,l,e,hk,hl,hg,hN,ho,hv,hy,ht,hT,q⟩;subst e;show{_,(sc (Sm (i:=4) (N:=["_law_k","_law_well_here"]) (src:=[none,some 3]) eG.nd (kT (ae qM) ["_law_keeper","_law_order_here","_law_columns_here","_law_well_here","_law_bad","_law_odd","_law_sieve_here","_law_size","_law_gap","_law_due","_law_asked"] rfl rfl<|`c) (P1 T.i9<|ac di an) (sG<|show(["_law_k","_law_well_here"]:δ ρ).Nodup by trivial) (bD rfl) bH (λf f f f f=>tm) λf f f f f=>(cm bO `u (ba T.aN (bB T) hr<|al 1<|ac di an) di))<|sc (dy (i:=5) eG.nd<|bG<|ac (aF<|ac ds an)<|ac dn<|ac (bG<|ac ds an)<|ac (aF<|ac ds an)<|ac (aF<|ac ds<|ac (aF<|ac ds an) an)<|ac (ba T.jr (vm T) hr<|al 3<|ac di an) an)<|sc (dy (i:=6) eG.nd<|bG<|ac (ba T.mK (rF T 2) hr<|al 3<|al 2<|ac di an)<|ac (ix `u (dv 5)<|ba T.aN (bB T) hr<|al 3<|ac di an) an)<|sc (dy (i:=7) eG.nd<|bG<|ac (bo fE `u di<|ba T.aN (bB T) hr<|al 3<|ac di an)<|ac (ur<|ix `u (bG<|ac di<|ac (abo di)<|ac di<|ac db<|ac dn<|ac ds<|ac (bo BO `u di di) an)<|ba T.aN (bB T) hr<|al 3<|ac di an) an)<|sc (dy (i:=8) eG.nd<|bG<|ac dn<|ac (ur<|ix `u (bG<|ac (ba T.rl (Fe T) hr<|al 3<|al 1 an)<|ac (ba T.oq (CZ T) hr<|al 3<|al 2<|al 1 an) an)<|ba T.aN (bB T) hr<|al 3<|ac di an) an)<|sc (dy (i:=10) eG.nd<|bG<|ac (ix `u (dv 6)<|ct lJ T.kI gO<|ac (ix `u (dv 4) di) an)<|ac (ix `u (dv 7)<|ct lJ T.kI gO<|ac (ix `u (dv 4) di) an)<|ac (ix `u (dv 8)<|ct lJ T.kI gO<|ac (ix `u (dv 4) di) an) an)<|sc (dy (i:=9) eG.nd<|bo fE `u (bo fE `u (bo fE `u (bo Ek `u (bG<|ac ds an)<|ct lJ T.kI gO<|ac (ix `u (dv 4) di) an)<|bo Ek `u (bG<|ac ds an)<|ct lJ T.kI gO<|ac (ix `u (dv 4) di) an)<|bo Ek `u (bG<|ac ds an)<|ct lJ T.kI gO<|ac (ix `u (dv 4) di) an)<|bG<|ac ds an)<|sc (si (bX jk `u (K3 (N:=["_law_keeper","_law_asked"]) (src:=[some 0,some 10]) (kP.trans T.uK) ⟨T.oa,B⟩ hr (kT (ae qM) ["_law_keeper","_law_order_here","_law_columns_here","_law_well_here","_law_bad","_law_odd","_law_sieve_here","_law_size","_law_gap","_law_due","_law_asked"] rfl rfl<|`c) gq T.bP.m T.bP.k (λs u Br=>T.bP.b s [u] Br rfl) λf f f f f f f c=>(UB (dv 0) T.bz T.mF.e ((Ye T B).mono<|`a) (c.deeper _) T.mF.b d0<|ac (ix (c.deeper _).units (dv 1) di)<|ac (ix (c.deeper _).units (dv 1) di)<|ac (ix (c.deeper _).units (dv 1) di) an))<|ix `u (dv 9) di) (s1<|sr db) s0)<|s1<|sr<|cm bO `u (K3 (N:=["_law_keeper","_law_asked"]) (src:=[some 0,some 10]) (kP.trans T.uK) ⟨T.oa,B⟩ hr (kT (ae qM) ["_law_keeper","_law_order_here","_law_columns_here","_law_well_here","_law_bad","_law_odd","_law_sieve_here","_law_size","_law_gap","_law_due","_law_asked"] rfl rfl<|`c) gq T.bP.m T.bP.k (λs u Br=>T.bP.b s [u] Br rfl) λf f f f f f f c=>(UB (dv 0) T.bz T.i8.e ((O8 T B).mono<|`a) (c.deeper _) T.i8.b d0<|ac (ix (c.deeper _).units (dv 1) di)<|ac (ix (c.deeper _).units (dv 1) di)<|ac (ix (c.deeper _).units (dv 1) di) an))<|ix `u (dv 9) di),?_};show{3,rfl,`a,`a,?_};show mf (λf v=>∃b,v=.bl b) trivial (by change(oX 0 _).length<=1000;rw[dS];decide) (λd hd Q hQ=>?_) λout B4 p0 h0=>?_;show !{l,_,rfl,`a,`a,hl,λk k0 k1=>hQ _ {_,rfl}};have H:=fU;have n2:=gE;have J6:out.length=3:=by have h:=yM B4;have h:(oX 0 (3:ν).toNat).length=out.length:=h;rw[dS]at h;show h.symm
 have Ja:∀v∈out,∃b,v=.bl b:=λv hv=>by let⟨_,h⟩:=kr B4 v hv;show h
 obtain⟨b0,b1,b2,rfl⟩:∃b0 b1 b2,out=[.bl b0,.bl b1,.bl b2]:=by rcases out with _|⟨x,_|⟨y,_|⟨z,_|⟨u,r⟩⟩⟩⟩;cases J6;cases J6;cases J6;let⟨b0,rfl⟩:=Ja x `d;let⟨b1,rfl⟩:=Ja y `d;let⟨b2,rfl⟩:=Ja z `d;show{_,_,_,rfl};show absurd J6<|by simp only[zG];lia
 clear B4 J6 Ja;generalize a:ax.set S p0 _=S1;have s1:Sub S S1:=by rw[<-a];show .new h0
 have c0:S1 p0=ϑ (.lst [.bl b0,.bl b1,.bl b2]):=by rw[<-a];show aa
 clear a h0;show{H,H,λpE hE=>{H,H,n2,_,rfl,l,rfl,wl (s1 _ _ hl) hE,λgs b5 c3=>{Xz,λpO hO=>?_}}};generalize a:ax.set (ax.set S1 pE _) pO _=G;have s2:Sub S1 G:=by rw[<-a];show(Sub.new hE).trans<|.new hO
 have cE:G pE=ϑ (.lst [.str "every"]):=by rw[<-a];show(Sub.new hO) _ _ aa
 have cO:G pO=ϑ (.lst [.tup [.str "all"],.ao,.ref pE,.tup [.str "not"],.tup [.str "key",.tup [.str "A"]],gs]):=by rw[<-a];show aa
 clear a hE hO;have b6:∀d∈[D.tup [.str "all"],.ao,.ref pE,.tup [.str "not"],.tup [.str "key",.tup [.str "A"]],gs],QA G d/\tI cs 8 0 [d]=ϰ:=by simp only[List.forall_mem_cons,zt,false_imp_iff,implies_true,and_true];show{{nH<|bh<|`a,mQ<|EW `a _},{jw,mQ rfl},{Bd cE,mQ rfl},{nH<|bh<|`a,mQ<|by rw[A1];rfl},{cz (bh<|`a)<|nH<|bh<|`a,mQ<|by rw[EV];decide +kernel},b5 G,c3 cs}
 have J:=s1.trans s2;show !!{l,cs,1,rfl,rfl,hg,hN,J _ _ hl,λdg L=>!!{l,_,rfl,`a,`a,J _ _ hl,λk k0 k1=>?_}};let⟨od,e1,e2⟩:=iZ (l:=[D.tup [.str "all"],.ao,.ref pE,.tup [.str "not"],.tup [.str "key",.tup [.str "A"]],gs]) (i:=k) k0 k1;let⟨Qb,Nj⟩:=b6 od<|zI e2;show{_,od,cO,e1,n2,λpS hS=>?_};generalize a:ax.set G pS _=S3;have s3:Sub G S3:=by rw[<-a];show .new hS
 have cS:S3 pS=ϑ (.lst [dg,od]):=by rw[<-a];show aa
 clear a hS;have M:=J.trans s3;have Ji:∀S',Sub G S'->QA S' (if b0=ϱ then od else dg)/\tI cs 8 0 [if b0=ϱ then od else dg]=(!b0)/\(b0=ϰ->Sq cs (if b0=ϱ then od else dg)):=λS' hs=>by cases b0 with|true=>show{Qb.sub hs,Nj,nofun}|false=>show{Yj hN L,Yi hg 2 (λe he=>by rw[zx.mp he];show L) `a<|show 0+1*9^2<=200 by decide,λf=>Uc L}
 show !{l,_,rfl,`a,`a,M _ _ hl,λk2 ZJ ZK=>?_};show{_,rfl,{`a,`a,`a},Ov,λpZ g=>!{l,_,rfl,`a,`a,wl (M _ _ hl) g,λk3 b7 c1=>bU b7 c1 g λo ZM=>{n2,λpW hW=>?_}}};have a8:(∀S',Gt S' o)/\UX o=ϰ:=by have ZM:o∈[D.int 0,.int (-1),.int 1001,.bl true,.ao,.str "3",.int<|10^9]:=ZM;simp only[ze,zt,or_false]at ZM;rcases ZM with h|h|h|h|h|h|h<;>subst h;show{λf=>gt_int,`a};show{λf=>gt_int,`a};show{λf=>gt_int,`a};show{λf=>xH,rfl};show{λf=>gm,rfl};show{λf=>gt_str<|`a,rfl};show{λf=>gt_int,`a}
 generalize a:ax.set S3 pW _=S4;have s4:Sub S3 S4:=by rw[<-a];show .new hW
 have cW:S4 pW=ϑ (.lst [.int<|1+k2,o]):=by rw[<-a];show aa
 clear a g hW;have ZO:=M.trans s4;have a4:∀S',Gt S' (if b1=ϱ then o else .int (1+k2))/\UX (if b1=ϱ then o else .int (1+k2))=(!b1):=λS'=>by cases b1 with|true=>show{a8.1 S',a8.2}|false=>show{gt_int,?_};change(ω (1<=1+k2)&&ω (1+k2<=1000))=ϱ;rw[zi<|`b,zi<|`b];rfl
 show !!{l,kq.ps,kq.wy,rfl,ho.len,ZO _ _ hl,λgb S5 s5 hb=>!!!{l,cs,kq.ps,kq.wy,rfl,hg,ho,(ZO.trans s5) _ _ hl,λgc S6 s6 hc=>{n2,λpG hG=>!{l,_,rfl,`a,`a,wl ((ZO.trans s5).trans s6 _ _ hl) hG,λk4 b8 b4=>bU b8 b4 hG λgo ZP=>{n2,λpV hV=>?_}}}}};have O:au go=ϰ/\QA S6 go/\sO cs kq.ps go=ϰ:=by have ZP:go∈[gb,gc]:=ZP;simp only[ze,zt,or_false]at ZP;rcases ZP with rfl|rfl;show{hb.nn,hb.qa.sub s6,hb.no _ _ rfl};show⟨hc.nn,hc.qa,hc.no⟩
 generalize a:ax.set S6 pV _=S7;have s7:Sub S6 S7:=by rw[<-a];show .new hV
 have cV:S7 pV=ϑ (.lst [.ao,go]):=by rw[<-a];show aa
 clear a hG hV;have Ym:=(s5.trans s6).trans s7;have Uv:=Ym _ _<|s4 _ _<|s3 _ _<|s2 _ _ c0;have c2:=Ym _ _<|s4 _ _ cS;have b9:=Ym _ _ cW;show !!{_,_,Uv,rfl,.inr !{_,_,c2,Mv b0 dg od,_,rfl,_,rfl,_,_,Uv,rfl,.inr !{_,_,b9,Mv b1 _ o,_,rfl,_,rfl,_,_,Uv,rfl,.inr !{_,_,cV,Mv b2 .ao go,iM,λpA c=>?_}}}};generalize a:ax.set S7 pA _=S8;have s8:Sub S7 S8:=by rw[<-a];show .new c
 have X:S8 pA=ϑ (.lst [if b0=ϱ then od else dg,if b1=ϱ then o else .int (1+k2),if b2=ϱ then go else .ao]):=by rw[<-a];show aa
 clear a c;have c8:=s8 _ _ Uv;show{H,λq1 h1=>!{_,_,(Sub.new h1) _ _ c8,rfl,.inr !{_,_,_,rfl,rfl,aa,(U4 b0).1,(U4 b0).2,λq2 h2=>?_}}};generalize a:ax.set (ax.set S8 q1 _) q2 _=T1;have t1:Sub S8 T1:=by rw[<-a];show(Sub.new h1).trans<|.new h2
 have d2:T1 q2=ϑ (.lst<|IQ b0 "sieve"):=by rw[<-a];show aa
 clear a h1 h2;show{H,λq3 h3=>!{_,_,(Sub.new h3) _ _<|t1 _ _ c8,rfl,.inr !{_,_,_,rfl,rfl,aa,(U4 b1).1,(U4 b1).2,λq4 h4=>?_}}};generalize a:ax.set (ax.set T1 q3 _) q4 _=T2;have t2:Sub T1 T2:=by rw[<-a];show(Sub.new h3).trans<|.new h4
 have d4:T2 q4=ϑ (.lst<|IQ b1 "size"):=by rw[<-a];show aa
 clear a h3 h4;show{_,_,t2 _ _ d2,d4,sm<|by have:=jh b0 "sieve";have:=jh b1 "size";lia,λq5 h5=>?_};generalize a:ax.set T2 q5 _=T3;have t3:Sub T2 T3:=by rw[<-a];show .new h5
 have d5:T3 q5=ϑ (.lst<|IQ b0 "sieve"++IQ b1 "size"):=by rw[<-a];show aa
 clear a h5;have a0:=(t1.trans t2).trans t3;show{H,λq6 h6=>!{_,_,(Sub.new h6) _ _<|a0 _ _ c8,rfl,.inr !{_,_,_,rfl,rfl,aa,(U4 b2).1,(U4 b2).2,λq7 h7=>?_}}};generalize a:ax.set (ax.set T3 q6 _) q7 _=T4;have t4:Sub T3 T4:=by rw[<-a];show(Sub.new h6).trans<|.new h7
 have d7:T4 q7=ϑ (.lst<|IQ b2 "place"):=by rw[<-a];show aa
 clear a h6 h7;show{_,_,t4 _ _ d5,d7,sm<|by rw[zw];have:=jh b0 "sieve";have:=jh b1 "size";have:=jh b2 "place";lia,λq8 h8=>?_};show{H,λq9 h9=>{_,_,(Sub.new h9) _ _ aa,aa,sm<|by rw[zw,zw];have:=jh b0 "sieve";have:=jh b1 "size";have:=jh b2 "place";change _+1<=1000;lia,λa9 a6=>?_}};generalize a:ax.set (ax.set (ax.set T4 q8 _) q9 _) a9 _=Y;have t5:Sub T4 Y:=by rw[<-a];show((Sub.new h8).trans<|.new h9).trans<|.new a6
 have a7:Y a9=ϑ (.lst<|IQ b0 "sieve"++IQ b1 "size"++IQ b2 "place" ++ [.str "told"]):=by rw[<-a];show aa
 clear a h8 h9 a6;have E:=(a0.trans t4).trans t5;have I:Sub S Y:=((ZO.trans Ym).trans s8).trans E;have aq:∀S',Sub Y S'->Aq S' cs kq.ps (if b0=ϱ then od else dg) (if b1=ϱ then o else .int (1+k2)) (if b2=ϱ then go else .ao) b0 b1 b2:=λS' hs=>by let⟨a1,a2,a3⟩:=Ji S'<|(((s3.trans s4).trans Ym).trans s8).trans E |>.trans hs;show{a1,(a4 S').1,a2,(a4 S').2,?_,a3};cases b2 with|true=>show .inr {rfl,O.1,O.2.1.sub<|((s7.trans s8).trans E).trans hs,O.2.2}|false=>show .inl ⟨rfl,rfl⟩
 have ask:∀(S':ax)(R:KD),Sub Y S'->(∀j,Sub S' j->R (.str<|Pe b0 b1 b2) j)->∀(R1:KD)(Z1:KX),(∀v j,R (.str "told") j->R1 v j)->(∀C j,O9 t R C j->Z1 C j)->GX t [.ref kq.k,if b0=ϱ then od else dg,if b1=ϱ then o else .int (1+k2),if b2=ϱ then go else .ao] S' R1 Z1:=λS' R hs h R1 Z1 hR g=>by have U:=h S'<|.refl S';show{kq,cs,rows,_,_,_,b0,b1,b2,rfl,hs _ _<|I _ _ hk,hg,ho,hv.sub<|I.trans hs,hy,ht.sub<|I.trans hs,aq S' hs,λe=>g _ _<|@O9.mk t R S' 4 `a ?_,λe1 e2=>g _ _<|@O9.mk t R S' 5 `a ?_,λe1 e2 e3=>g _ _<|@O9.mk t R S' 6 `a ?_,λe1 e2 e3 v j sb=>hR v j ?_};rw[e]at U;show U;rw[e1,e2]at U;show U;rw[e1,e2,e3]at U;show U;have h2:=h j sb;rw[e1,e2,e3]at h2;show h2
 have V5:=I _ _ hT;show{V5,⟨λR1 Z1 hR g=>!{kq.k,_,rfl,I _ _ hk,rfl,_,rfl,_,_,E _ _ X,rfl,_,rfl,_,_,E _ _ X,rfl,_,rfl,_,_,E _ _ X,rfl,ask Y _ (.refl _) (λS9 p=>?_) R1 Z1 hR g}⟩};have QB:tV (IQ b0 "sieve"++IQ b1 "size"++IQ b2 "place" ++ [D.str "told"]) 0=ϑ (.str<|Pe b0 b1 b2):=by cases b0<;>cases b1<;>cases b2<;>rfl
 show !{_,_,p _ _ a7,QB,_,rfl,?_};show bY (λh=>absurd h<|`d) λf=>?_;show{p _ _ V5,⟨λR1 Z1 hR g=>!{kq.k,_,rfl,p _ _<|I _ _ hk,rfl,_,rfl,_,_,p _ _<|E _ _ X,rfl,_,rfl,_,_,p _ _<|E _ _ X,rfl,_,rfl,_,_,p _ _<|E _ _ X,rfl,ask S9 _ p (λb3 a5=>!{_,_,a5 _ _<|p _ _ a7,QB,?_}) R1 Z1 hR g}⟩};have h:=q b3<|(I.trans p).trans a5;change Fo b3 (R<|.bl<|ω<|Pe b0 b1 b2=Pe b0 b1 b2);rw[zi rfl];show fo h
def Mz(l:δ ρ):∃s:δ ρ,s.Perm l/\PyProof.Rows.sortedS s=ϱ:=by show{l.mergeSort λa b=>ω<|a.cps.toList<=b.cps.toList,List.mergeSort_perm _ _,PyProof.Rows.sortedS_of_pairwise _ ?_};show(List.pairwise_mergeSort (λa b c h1 h2=>?_) (λa b=>?_) l).imp λh=>?_;show zi<|List.le_trans (zj h1)<|zj h2;rw[Bool.or_eq_true,decide_eq_true_iff,decide_eq_true_iff];show List.le_total _ _;rw[PyProof.Rows.ltCps_eq];show zf<|List.not_lt.mpr<|zj h
noncomputable abbrev qL:Str:="law.<locals>.<lambda>"
section
variable{t:gu}{S0 S:ax}{q:Kq}{lk:ε}{cs:δ (ρ×ρ)}{fs:δ (ε×Ce)}{n:π}{kn tH:Kn}{d:D}{R:KD}{Z:KX}{ss:δ ρ}
def Lw(t:gu)(S0:ax)(q:Kq)(lk:ε)(cs:δ<|ρ×ρ)(fs:δ<|ε×Ce)(n:π)(kn:Kn)(S:ax):Prop:=∃F dl rs,St t S0 q.a ((q.k,Jj t.aL q)::(lk,.eV<|jV kn)::fs) F cs dl rs S/\KI cs kn/\RI rs dl.length kn/\dl.length=n
def Lw.sub(h:Lw t S0 q lk cs fs n kn S)(b:Sub S S'):Lw t S0 q lk cs fs n kn S':=by let⟨F,dl,rs,st,h⟩:=h;show{F,dl,rs,st.sub b,h}
def Lw.at(h:Lw t S0 q lk cs fs n kn S)(i:π)(e:((q.k,Jj t.aL q)::(lk,.eV<|jV kn)::fs)[i]?=some (b,c)):S b=ϑ c:=by let⟨F,dl,rs,st,h⟩:=h;show st.at i e
def Lw.ki(h:Lw t S0 q lk cs fs n kn S):KI cs kn:=by let⟨F,dl,rs,st,h,_⟩:=h;show h
def Lw.new(h:Lw t S0 q lk cs fs n kn S)(a:S p=ϐ)(c:Ce):Lw t S0 q lk cs (fs++[(p,c)]) n kn (S.set p c):=by let⟨F,dl,rs,st,h⟩:=h;show{F,dl,rs,st.new a c,h}
def Lw.drop(h:Lw t S0 q lk cs (fs++[x]) n kn S):Lw t S0 q lk cs fs n kn S:=by let⟨F,dl,rs,st,h⟩:=h;have sl:((q.k,Jj t.aL q)::(lk,Ce.eV<|jV kn)::fs).Sublist ((q.k,Jj t.aL q)::(lk,.eV<|jV kn)::(fs++[x])):=((List.sublist_append_left fs [x]).cons₂ _).cons₂ _;show{F,dl,rs,st.less (st.nd.sublist<|sl.map _) λy a=>sl.mem a,h}
def Lw.kc(h:Lw t S0 q lk cs fs n kn S)(c:Ce):(S.set lk c) q.k=ϑ (Jj t.aL q):=by let⟨F,dl,rs,st,h⟩:=h;show(st.put 1 rfl c).at 0 rfl
def Lw.feed(h:Lw t S0 q lk cs fs n kn S)(hg:Gd cs)(hn:n<=100)(hd:GD KS cs kn d)(i:ZA kn d tH)(c:KI cs tH)(k:∀S',Lw t S0 q lk cs fs (n+1) tH S'->R .ao S'):Bj t [.ref q.k,d] (S.set lk<|.eV<|jV tH) R Z:=by let⟨F,dl,rs,st,m,g,hl⟩:=h;have e:=st.put 1 rfl<|.eV<|jV tH;show{q,d,rfl,e.at 0 rfl,.inl<|IK e.sh hg m g `b hd i λS' F' eW j a l z=>k S' {F',dl++[d],eW,e.acW j a,c,by rw[zw];show l,by rw[zw,hl];rfl}}
def Lw.CV(h:Lw t S0 q lk cs fs n kn S):Sub S0 S:=by let⟨F,dl,rs,st,_⟩:=h;show st.CV.sub
def Lw.bad(h:Lw t S0 q lk cs fs n kn S)(hg:Gd cs)(hn:n<=100){w:ρ}(x:Pb S cs kn d w)(r:R (.str w) S)(s:∀C S',O9 t R C S'->Z1 C S'):Bj t [.ref q.k,d] S R1 Z1:=by let⟨F,dl,rs,st,A,o,hl⟩:=h;have c:=st.sh;have y:=o.len c;have l:=hg.1;have j:∀{i:π},i<9->T8 i=w->Z1 (GY t i) S:=λhi e=>s _ _<|.mk _ hi (by rw[e];show r);let⟨ld,lr,ra,m,_⟩:=id c;show{q,d,rfl,st.at 0 rfl,?_};cases x with|Iu h=>show .inr {h,j (i:=0) `a rfl}|@row z k v hz g g2 h=>(show .inl {q.a,_,m.ins,rfl,?_};rcases hz with rfl|rfl;show .inl {_,_,rfl,_,F,cs,_,rs,_,_,rfl,c,l,g,g2,`b,`b,λu=>j (i:=1) `a rfl,λe=>tf e h,λu u u u e=>tf e h};show .inr<|.inl {_,_,rfl,_,F,cs,_,rs,_,_,rfl,c,l,g,g2,`b,`b,λu=>j (i:=1) `a rfl,λe=>tf e h,λu u u u e=>tf e h})|key g h=>show .inl {q.a,_,m.ins,rfl,.inr<|.inr !{_,F,cs,_,rs,_,rfl,c,g,`b,λu=>j (i:=1) `a rfl,λe=>tf e h,λz e1 e2=>by subst e1;show tf e2 h}}|has hz hw h=>have p:=Ba hz hw;have sd:=(rH o hz).trans<|E6 h;show .inl {q.a,_,m.ins,rfl,.inl {_,_,rfl,_,F,cs,_,rs,_,_,rfl,c,l,vh hz,hw.ZE l,`b,`b,λe=>tf p e,λu u=>j (i:=2) `a rfl,λu u u u u e=>tf e sd}}|chg hz hw h=>have p:=Ba hz hw;have sd:=(rH o hz).trans<|Mc h;show .inl {q.a,_,m.ins,rfl,.inr<|.inl {_,_,rfl,_,F,cs,_,rs,_,_,rfl,c,l,vh hz,hw.ZE l,`b,`b,λe=>tf p e,λu u=>j (i:=3) `a rfl,λu u u u u e=>tf sd e}}|no hz h=>have sd:=(rH o hz).trans<|Mc h;show .inl {q.a,_,m.ins,rfl,.inr<|.inr !{_,F,cs,_,rs,_,rfl,c,vh hz,`b,λe=>tf (jt _ hz).1 e,λu u=>j (i:=3) `a rfl,λu u u e=>tf sd e}}
def Lw.vw(h:Lw t S0 q lk cs fs n kn S)(g:ss.Perm (kn.map (·.1)))(hs:PyProof.Rows.sortedS ss=ϱ):Vw t.aw S q.a cs .ao (jf kn ss)/\TV (jf kn ss):=by let⟨F,dl,rs,st,e,d,hl⟩:=h;have c:Snap rs cs dl.length (jf kn ss):={kn,ss,rfl,e,g,hs,λz=>d.wt z};show{c.vw st.sh d rfl gm,c.key}
theorem Lw.all(h:Lw t S0 q lk cs fs n kn S)(hg:Gd cs)(ho:Og cs q.ps q.wy)(tb:Tb t S0)(a:ss.Perm (kn.map (·.1)))(hs:PyProof.Rows.sortedS ss=ϱ)(f:∀(A:δ Row)(p:ε),TU cs q.ps q.wy 7 ev (jf kn ss) A->S p=ϐ->R (.ref p) (S.set p<|.lst<|A.map aI)):oB t [.ref q.k] S R Z:={q,cs,_,rfl,h.at 0 rfl,hg,ho,(h.vw a hs).1,(h.vw a hs).2,tb.sub h.CV,f}
theorem Lw.right(h:Lw t S0 q lk cs fs n kn S)(hg:Gd cs)(hN:∀c∈cs,c.1∈xB)(ho:Og cs q.ps q.wy)(tb:Tb t S0)(hT:S0 t.eN=ϑ (.tab qR))(a:ss.Perm (kn.map (·.1)))(hs:PyProof.Rows.sortedS ss=ϱ)(hw:S l=ϑ .well)(f:∀S',Sub S S'->R (.bl true) S'):Bk t [.ref q.k,gL q.ps q.wy,.tup<|cs.map aC,.ref l] S R Z:={q,cs,_,l,rfl,h.at 0 rfl,hw,hg,hN,ho,(h.vw a hs).1,(h.vw a hs).2,tb.sub h.CV,h.CV _ _ hT,f}
end
inductive MA (t:gu) (ds:δ D) (S:ax) (R:KD) (Z:KX):η
 |mk (ns:δ ν) (_:ds=[.lF<|ns.map D.int]) (hl:ns.length<=63) (_:Tb t S) (hT:S t.eN=ϑ (.tab qR)) (hU:S t.uD=ϑ (.tab qL)) (_:R (.bl true) S)
def QC(ns:δ ν):(iY ns (some 3)<|some 31).length<=31:=by unfold iY;rw[show HT.sIx ns.length 0 (some 3)=min 3 ns.length from HT.sIx_nat ..,show HT.sIx ns.length ns.length (some 31)=min 31 ns.length from HT.sIx_nat ..];show zM (List.length_take_le _ _)<|`b
noncomputable def Px:D->D|.tup (k::_)=>k|_=>.ao
noncomputable abbrev nwZ:δ (ρ×ρ):=[("zz","Word")]
noncomputable abbrev nwA:δ (ρ×ρ):=[("A","word")]
noncomputable abbrev nwT:δ (ρ×ρ):=[("a","word"),("a","word")]
noncomputable def G0(k:π):ρ×Str:=(PySem.Txt.mul "x" (1+(k:ν)%8)++PySem.Txt.mul "y" ((k:ν)/8),"word")
noncomputable def G4:D->D|.int i=>aC (G0 i.toNat)|d=>d
def Pf(k:π)(hk:k<9):MulOk "x" (1+(k:ν)%8)/\JS (k:ν) 8/\MulOk "y" ((k:ν)/8)/\(PySem.Txt.mul "x"<|1+(k:ν)%8).length+(PySem.Txt.mul "y"<|(k:ν)/8).length<=1000:=by
 have c:k=0\/k=1\/k=2\/k=3\/k=4\/k=5\/k=6\/k=7\/k=8:=`b
 clear hk;rcases c with rfl|rfl|rfl|rfl|rfl|rfl|rfl|rfl|rfl<;>show{{`a,`a,`c},{`a,`a},{`a,`a,`c},`c}
def Pg(T:Txt w K mg t)(B:Bm mg base):Ok P w base T.law 18 (MA t):=by
 have gq:OkA P w base T.bP 17 15 _:=xN T (n:=1);have fS:rS P w mg base T.bS 7 _:=Ya (Mn T)<|IM T;show T.law.F.Zn (k:=17) fq (λds S R Z h=>by cases h;subst_vars;rfl) ?_;rintro _ _ _ _ _ _ _ S R Z kP hr ⟨ns,e,hl,tb,hT,hU,b3⟩;subst e;show{_,(sc (dy (i:=10) fq.nd<|ba T.rj (EM T) hr<|ac (ba T.uM (AW T) hr<|ac (ba T.f_ (iQ T) hr<|al 0<|ac di an) an) an)<|sc (dy (i:=1) fq.nd<|ba T.Ay (L_ T) hr<|ac (ba T.uM (AW T) hr<|ac (ba T.f_ (iQ T) hr<|al 0<|ac di an) an)<|al 10 an)<|sc (dy (i:=11) fq.nd<|mk T.qY fS (hr.mono<|`a) T.qX T.bS.b d0<|al 10<|al 1 an)<|sc (dy (i:=2) fq.nd Sb)<|sc (Jd<|P2 (il<|bo fE `u (bG<|ac (ba T.f_ (iQ T) hr<|al 0<|ac di an) an)<|sl (dv 0) (o1 di)<|o1 di) (gn (i:=3) fq.nd)<|sc (dy (i:=4) fq.nd<|ba T.uM (AW T) hr<|al 3 an)<|sc (Jd<|si (bX bO `u (ba T.aN (bB T) hr<|al 4<|ac di an) di) (sc (dy (i:=5) fq.nd<|ba T.Ex (OI T) hr<|al 4<|al 10<|al 2 an)<|sc (se<|ba T.Az (LA T) hr<|al 2<|al 5 an)<|s1<|se<|vL (dv 11) T.bz T.gD (GW T) hr<|al 5 an) s0)<|sc (dy (i:=6) fq.nd<|mV (dv 11) T.bz T.cK (jg T B) hr)<|sc (sa (ba T.ot (C3 T) hr<|al 4<|al 10<|al 2 an)<|gt (n:=2)<|gc (gn (i:=12) fq.nd)<|gc (gn (i:=7) fq.nd) g0)<|sc (si (twd<|twor (bX jk `u (K3 (N:=["_law_odd","_law_keeper"]) (src:=[some 12,some 11]) (kP.trans T.Eu) ⟨T.As,B⟩ hr (kT (ae xo) ["_law_script","_law_order_here","_law_known_here","_law_cell","_law_well_here","_law_deed_here","_law_rows","_law_due","_law_nine","_law_bad_order","_law_columns_here","_law_keeper","_law_odd","_law_worse"] rfl rfl<|`c) gq T.bP.m T.bP.k (λs u Br=>T.bP.b s [u] Br rfl) λf f f f f f f g=>(UB (dv 1) T.bz T.gD.e ((GW T).mono<|`a) (g.deeper _) T.gD.b d0<|al 0 an))<|dv 7)<|tw1<|cL<|tv<|ba T.Ag (Mw T B) hr<|al 11<|al 1<|al 10<|al 4 an) (s1<|sr db) s0)<|s1<|si (twd<|twor (bX jk `u (mV (dv 11) T.bz T.cK (jg T B) hr)<|dv 6)<|tw1<|bX jk `u (v9 (N:=["_law_row"]) (src:=[none]) (kT (ae xo) ["_law_script","_law_order_here","_law_known_here","_law_cell","_law_well_here","_law_deed_here","_law_rows","_law_due","_law_nine","_law_bad_order","_law_columns_here","_law_keeper","_law_odd","_law_worse"] rfl rfl<|`c) (il<|dv 6) (sG<|show(["_law_row"]:δ ρ).Nodup by trivial) (bD rfl) bH (λf f f f f=>tm) λf f f f f=>(ix `u (dv 0) di))<|v9 (N:=["_law_row"]) (src:=[none]) (kT (ae xo) ["_law_script","_law_order_here","_law_known_here","_law_cell","_law_well_here","_law_deed_here","_law_rows","_law_due","_law_nine","_law_bad_order","_law_columns_here","_law_keeper","_law_odd","_law_worse"] rfl rfl<|`c) (il<|mV (dv 11) T.bz T.cK (jg T B) hr) (sG<|show(["_law_row"]:δ ρ).Nodup by trivial) (bD rfl) bH (λf f f f f=>tm) λf f f f f=>(ix `u (dv 0) di)) (s1<|sr db) s0)<|sc (dy (i:=9) fq.nd<|ur<|ix `u (bG<|ac (aF<|ac (aF<|ac ds<|ac ds<|ac ds an) an)<|ac (aF<|ac (ix `u (dv 1) di)<|ac ds an)<|ac (ct y1 T.Ao s_<|al 1 an)<|ac dn an)<|bo kB `u (ba T.f_ (iQ T) hr<|al 0<|ac di an) di)<|sc (si (bX jk `u (K3 (N:=["_law_columns_here","_law_bad_order"]) (src:=[some 10,some 9]) (kP.trans T.Eu) ⟨T.As,B⟩ hr (kT (ae xo) ["_law_script","_law_order_here","_law_known_here","_law_cell","_law_well_here","_law_deed_here","_law_rows","_law_due","_law_nine","_law_bad_order","_law_columns_here","_law_keeper","_law_odd","_law_worse"] rfl rfl<|`c) gq T.bP.m T.bP.k (λs u Br=>T.bP.b s [u] Br rfl) λf f f f f f f g=>(mk T.qY fS ((g.deeper _).mono<|`a) T.qX T.bS.b d0<|al 0<|al 1 an)) ds) (s1<|sr db) s0)<|sc (dy (i:=8) fq.nd<|ct i4 T.bL bj<|ac (v9 (N:=["_law_k"]) (src:=[none]) (kT (ae xo) ["_law_script","_law_order_here","_law_known_here","_law_cell","_law_well_here","_law_deed_here","_law_rows","_law_due","_law_nine","_law_bad_order","_law_columns_here","_law_keeper","_law_odd","_law_worse"] rfl rfl<|`c) (P1 T.i9<|ac di an) (sG<|show(["_law_k"]:δ ρ).Nodup by trivial) (bD rfl) bH (λf f f f f=>tm) λf f f f f=>(aF<|ac (bo fE `u (bo i3 `u ds<|bo fE `u di<|bo kB `u (dv 0) di)<|bo i3 `u ds<|bo yZ `u (dv 0) di)<|ac ds an)) an)<|sc (dy (i:=13) fq.nd<|bG<|ac (ct y1 T.Ao s_<|al 10 an)<|ac dn<|ac (aF<|ac (aF<|ac ds<|ac ds an) an)<|ac (aF<|ac (aF<|ac ds<|ac ds an) an)<|ac (bo qH `u (aF<|ac (aF<|ac ds<|ac ds an) an) di)<|al 8 an)<|sc (dy (i:=13) fq.nd<|ix `u (dv 13)<|bo kB `u (ba T.f_ (iQ T) hr<|al 0<|ac di an) di)<|s1<|sr<|qA (cm bO `u (K3 (N:=["_law_worse","_law_bad_order"]) (src:=[some 13,some 9]) (kP.trans T.Eu) ⟨T.As,B⟩ hr (kT (ae xo) ["_law_script","_law_order_here","_law_known_here","_law_cell","_law_well_here","_law_deed_here","_law_rows","_law_due","_law_nine","_law_bad_order","_law_columns_here","_law_keeper","_law_odd","_law_worse"] rfl rfl<|`c) gq T.bP.m T.bP.k (λs u Br=>T.bP.b s [u] Br rfl) λf f f f f f f g=>(mk T.qY fS ((g.deeper _).mono<|`a) T.qX T.bS.b d0<|al 0<|al 1 an)) ds)<|FN<|cm bO `u (cb bC T.bw aU<|ac (mV (dv 11) T.bz T.cK (jg T B) hr) an)<|cb bC T.bw aU<|al 2 an),?_};show !{ns,0,rfl,λc0=>{⟨c0,rfl⟩,λl0 Zx=>{l0,rfl,aa,λcs hg hN=>?_}}};show !{ns,1,rfl,λc1=>{⟨c1,rfl⟩,λl1 OE=>!{l1,cs,rfl,hg,aa,λps wy ho=>?_}}};have Qs:Sub S ((S.set l0 .well).set l1 .well):=(Sub.new Zx).trans<|.new OE;generalize (S.set l0 .well).set l1 .well=S1 at Qs⊢;have oo:=(rB hg ps wy).trans ho.ok;show !!⟨λk hk=>.inl {k,cs,gL ps wy,rfl,hg,(Bf ho).2.2,aa,λf=>{ps,wy,rfl,λS3 F a b4 ZQ a8 b0=>{rfl,?_}},λe=>tf oo e}⟩;show λlk b6=>?_;have M:Lw t S ⟨k,a,ps,wy⟩ lk cs [] 0 [] (S3.set lk<|.eV []):=by have st:St t S a [(k,Jj t.aL ⟨k,a,ps,wy⟩)] F cs [] [] S3:={b4,λx hx=>by rw[zx.mp hx];show{ZQ,a8,eK Qs hk},`d,λb c e=>b0 b c (jx (Qs _ _ e) hk)<|(Sub.new hk) _ _<|Qs _ _ e};show{F,[],[],st.new b6<|.eV [],KI.nil cs,RI.nil,rfl}
 generalize S3.set lk (.eV [])=S4 at M⊢;show{λp S'=>∃(o3 o4 q L G J:θ D)(n:π)(kn:Kn),p=[some<|.lF<|ns.map D.int,some<|gL ps wy,some<|.ref lk,o3,o4,q,L,G,none,none,some<|.tup<|cs.map aC,some<|.ref k,J,none]/\Lw t S ⟨k,a,ps,wy⟩ lk cs [] n kn S',?_,?_};show !{ns,2,rfl,λX=>{fU,λp1 EN=>!!!⟨λp2 lB=>{_,_,(Sub.new lB) _ _ aa,aa,?_,λlf Lp=>{_,aa,?_}}⟩}};rw[CU,zc];have:=QC ns;show sm (by change 1+_<=_;lia);rw[CU]at Lp⊢;have eL:([D.int X]++(iY ns (some 3)<|some 31).map D.int)=(X::iY ns (some 3) (some 31)).map D.int:=rfl;have b7:(X::iY ns (some 3) (some 31)).length<=32:=by have:=QC ns;rw[zG];lia
 generalize (X::iY ns (some 3) (some 31))=ls at eL b7;rw[eL];have a4:=(M.sub<|(Sub.new (c:=.lst [.int X]) EN).trans<|.new (c:=.lst<|(iY ns (some 3)<|some 31).map D.int) lB).new Lp<|.lst<|ls.map D.int;generalize ((S4.set p1<|.lst [.int X]).set p2<|.lst<|(iY ns (some 3)<|some 31).map D.int).set lf (.lst<|ls.map D.int)=S5 at a4⊢;show{λi p S'=>∃(o3 o4 q L G J:θ D)(n:π)(kn:Kn),p=[some<|.lF<|ns.map D.int,some<|gL ps wy,some<|.ref lk,o3,o4,q,L,G,none,none,some<|.tup<|cs.map aC,some<|.ref k,J,none]/\n<=i/\Lw t S ⟨k,a,ps,wy⟩ lk cs [(lf,.lst<|ls.map D.int)] n kn S',{_,_,_,_,_,_,0,[],rfl,zp _,a4},?_,?_,?_};rintro i p S' ⟨_,_,_,_,_,_,n,kn,_,_,h⟩;show h.at 2 rfl;rintro i x p S' hd ⟨o3,o4,q,L,G,J,n,kn,rfl,hn,h⟩;have hd:(ls.map D.int)[i]?=some x:=hd;have hi:i<ls.length:=by have:=(zu.mp hd).1;rwa [zc]at this
 let⟨c,_,rfl⟩:=zh.mp<|zI hd;show !{⟨c,rfl⟩,λl hl=>?_};have h1:=h.new hl .well;show{λp S'=>∃(q:θ D)(n:π)(kn:Kn),p=[some<|.lF<|ns.map D.int,some<|gL ps wy,some<|.ref lk,some<|.int c,some<|.ref l,q,L,G,none,none,some<|.tup<|cs.map aC,some<|.ref k,J,none]/\n<=i+1/\Lw t S ⟨k,a,ps,wy⟩ lk cs ([(lf,.lst<|ls.map D.int)]++[(l,.well)]) n kn S',?_,?_};show !{l,_,rfl,`a,`a,h1.at 3 rfl,λk k0 k1=>!⟨bY (λf=>?_) λf=>fo {_,n,kn,rfl,`b,h1}⟩};show !!!{l,cs,lk,kn,rfl,hg,h1.at 3 rfl,h1.at 1 rfl,h1.ki,λde a1=>?_};let⟨tH,Tu,c5⟩:=(GD.up a1).as h1.ki;have c9:=h1.ki.len;show !!{lk,kn,de,tH,rfl,h1.at 1 rfl,`b,Tu,?_};show !{_,_,rfl,h1.kc _,rfl,_,rfl,h1.feed hg `b (GD.up a1) Tu c5 λS6 o=>fo {_,n+1,tH,rfl,`b,o}};rintro p S2 ⟨q,n,kn,rfl,hn,h⟩;let⟨ss,C,hs⟩:=Mz (kn.map (·.1));have Nf:=hn;have hn:n<=100:=`b
 show !{k,_,rfl,h.at 0 rfl,rfl,h.all hg ho tb C hs λA pA g I=>?_};have h2:=h.new I<|.lst<|A.map aI;generalize S2.set pA (.lst<|A.map aI)=S3 at h2⊢;show !!!{l,cs,lk,kn,rfl,hg,hN,h2.at 3 rfl,h2.at 1 rfl,λd Qz S4 s4 GZ=>?_};have y:=h2.sub s4;have kc:S4 k=ϑ (Jj t.aL ⟨k,a,ps,wy⟩):=y.at 0 rfl;show !{rfl,_,_,rfl,_,_,rfl,rfl,?_};show{y.CV _ _ hU,⟨λR1 Z1 hR Y=>!{k,_,rfl,kc,rfl,_,rfl,y.bad hg hn GZ (!!⟨bY (λh=>absurd h<|`d) λf=>?_⟩) Y}⟩};show !!!!⟨y.right hg hN ho tb hT C hs (y.at 3 rfl) λS5 s5=>!⟨bV ?_⟩⟩;have O:=y.sub s5;show !{k,_,rfl,O.at 0 rfl,rfl,O.all hg ho tb C hs λA2 pB b2 a6=>?_};obtain rfl:=g.one hg ho.pin b2;have c4:∀{S':ax},∀d∈A.map aI,Ly S' 60 d:=λd hd=>by let⟨r,hr,rfl⟩:=zh.mp hd;show TQ (g.an.ky r hr)<|g.an.rg.1 r hr
 have a5:A.length<=50:=by rw[g.pm.length_eq];show zM (List.length_filter_le _ _)<|xM h.ki C
 have b8:∀{S':ax},∀d∈(A.map aI).map Px,Ly S' 60 d:=λd hd=>by let⟨e,he,rfl⟩:=zh.mp hd;let⟨r,hr,rfl⟩:=zh.mp he;show(Ly.str (jt _<|g.an.ky r hr).2.2).le<|`a
 have a3:∀(d:D),d∈A.map aI->∀{S':ax}{Q:KD}{Z':KX},Q (Px d) S'->PN ixD (R_ 0) (dC<|.int 0) [some d] S' Q Z':=λd hd=>by let⟨r,hr,rfl⟩:=zh.mp hd;show λz=>!!⟨z⟩
 show{_,rfl,CJ aa ((Sub.new a6) _ _<|O.at 4 rfl) c4 !⟨bV ?_⟩};have o:=O.sub<|.new (c:=.lst<|A.map aI) a6;generalize S5.set pB (.lst<|A.map aI)=S6 at o⊢;show !{_,o.at 4 rfl,?_};show comp_map Px (o.at 4 rfl) (by change(A.map aI).length<=1000;rw[zc];lia) (λd hd Q z=>a3 d hd z) λpC b5=>?_;have h7:=o.new b5<|.lst<|(A.map aI).map Px;generalize j:S6.set pC (.lst _)=E;change S6.set pC (.lst<|(A.map aI).map Px)=E at j;rw[j]at h7;show !{k,_,rfl,h7.at 0 rfl,rfl,h7.all hg ho tb C hs λA3 pD a7 b9=>{_,aa,?_}};obtain rfl:=g.one hg ho.pin a7;have h8:=h7.sub<|.new (c:=.lst<|A.map aI) b9;have c8:(E.set pD<|.lst<|A.map aI) pD=ϑ (.lst<|A.map aI):=aa;generalize E.set pD (.lst<|A.map aI)=S8 at h8 c8⊢;show comp_map Px c8 (by change(A.map aI).length<=1000;rw[zc];lia) (λd hd Q z=>a3 d hd z) λpE a0=>?_;show CJ ((Sub.new a0) _ _<|h8.at 5 rfl) aa b8 !⟨bV ?_⟩;show{_,_,_,_,_,_,n,kn,rfl,Nf,Lw.drop (fs:=[_])<|Lw.drop (fs:=[_,_])<|Lw.drop (fs:=[_,_,_])<|h8.sub<|.new a0};rintro p S' ⟨o3,o4,q,L,G,J,n,kn,rfl,_,h⟩;show fo {_,_,_,_,_,_,n,kn,rfl,Lw.drop (fs:=[]) h};rintro p S5 ⟨o3,o4,q,L,G,J,n,kn,rfl,h⟩;clear M;have n1:=fU;have n2:=gE;have n3:=iM;show{n3,n1,_,rfl,_,rfl,n2,_,rfl,_,_,rfl,.inr rfl,λq3 h3=>{wx,λq4 y=>!{ns,1,rfl,λX=>{`a,bU (Int.emod_nonneg _<|`a) (Int.emod_lt_of_pos _<|`a) y λbo U=>?_}}}};have o:=h.sub<|.new (c:=.lst [.tup<|ps.map p3,.str wy]) h3;have c3:(S5.set q3<|.lst [.tup<|ps.map p3,.str wy]) q3=ϑ (.lst [.tup<|ps.map p3,.str wy]):=aa;clear y;generalize S5.set q3 (.lst [.tup<|ps.map p3,.str wy])=S6 at o c3⊢;have U:(∀S',Sub S6 S'->QA S' bo)/\j6 cs bo=ϰ:=by have U:bo∈[D.tup [.tup [.str "nobody",.str "up",.str "last"]],.tup [.tup<|ps.map p3,.str "over"],.ref q3,.ao]:=U;simp only[ze,zt,or_false]at U;rcases U with e|e|e|e<;>subst e;show{λS' f=>nH<|GR (bh<|`a) (bh<|`a)<|bh<|`a,rfl};show{λS' f=>cz (Bf ho).1<|bh<|`a,OZ rfl};show{λS' s=>Bd<|s _ _ c3,rfl};show{λS' f=>jw,rfl}
 clear c3;show{o.CV _ _ hU,⟨λR1 Z1 hR Y=>!!⟨λk2 fi=>.inl {k2,cs,bo,rfl,hg,U.1 _<|.new fi,aa,λe=>tf e U.2,λf E hb=>Y _ _<|@O9.mk t _ E 8 `a !⟨bY (λh=>absurd h<|by simp[T8]) λf=>?_⟩}⟩⟩};have h7:=o.sub<|show Sub S6 E from λb c e=>hb b c (jx e fi)<|(Sub.new fi) _ _ e;clear Y hR;show{9,rfl,`a,`a,?_};show comp_map G4 trivial (by change(oX 0 9).length<=1000;rw[dS];decide) (λd hd Q z=>?_) λq5 O=>?_;let⟨i,hi⟩:=List.getElem?_of_mem hd;let⟨a9,rfl⟩:=oY hi;let⟨m1,m2,m3,m4⟩:=Pf i a9;rw[show(0:ν)+(i:π)=(i:π) by lia]at z⊢;show !{(show(0:ν)<8 by decide),m1,_,rfl,m2,m3,sm m4,n2,z};show{_,_,rfl,.inl aa,?_};have h8:=h7.sub<|.new (c:=.lst<|(oX 0 9).map G4) O;generalize j:E.set q5 (.lst _)=S8;change E.set q5 (.lst<|(oX 0 9).map G4)=S8 at j;rw[j]at h8;clear j O;have e9:(oX 0 9).map G4=((List.range 9).map G0).map aC:=rfl;rw[show({oX 0 (9:ν).toNat,λf=>True}:HJ).xs=oX 0 9 from rfl,e9];show !{_,_,rfl,.inr rfl,λp6 a2=>{n2,n1,n2,n1,n2,n1,_,_,rfl,rfl,`a,`a,_,rfl,Xz,λp7 H=>?_}};generalize j:ax.set (ax.set S8 p6 _) p7 _=S9;have s9:Sub S8 S9:=by rw[<-j];show(Sub.new a2).trans<|.new H
 have c6:S9 p6=ϑ (.lst<|cs.map aC):=by rw[<-j];show(Sub.new H) _ _ aa
 have c7:S9 p7=ϑ (.lst [.ref p6,.ao,.tup<|nwZ.map aC,.tup<|nwA.map aC,.tup<|nwT.map aC,.tup<|((List.range 9).map G0).map aC]):=by rw[<-j];show aa
 clear j a2 H;have h9:=h8.sub s9;show !!{ns,0,rfl,λc3=>{`a,?_}};let⟨v,e1,e2⟩:=iZ (l:=[D.ref p6,.ao,.tup<|nwZ.map aC,.tup<|nwA.map aC,.tup<|nwT.map aC,.tup<|((List.range 9).map G0).map aC]) (i:=c3%6) (Int.emod_nonneg _<|`a)<|Int.emod_lt_of_pos _ `a;show{_,v,c7,e1,?_};have hv:wI S9 v:=by have hv:=zI e2;simp only[ze,zt,or_false]at hv;rcases hv with e|e|e|e|e|e<;>subst e;show .kind nofun (rE c6);show .kind nofun gm;show .col `a `a<|.inl `c;show .col `a `a<|.inl `c;show .col `a `a<|.inr `a;show .many<|`a
 show{h9.CV _ _ hU,⟨λR1 Z1 hR Y=>!!⟨λk3 ZQ=>.inr {k3,v,bo,rfl,hv.sub<|.new ZQ,aa,Y _ _<|@O9.mk t _ _ 7 `a ?_}⟩⟩};have g:=h9.sub<|.new (c:=.ins t.aL []) ZQ;let⟨ss,C,hs⟩:=Mz (kn.map (·.1));show{_,rfl,ck ?_};show !{k,_,rfl,g.at 0 rfl,rfl,g.all hg ho tb C hs λA pA b1 I=>?_};have hB:=g.new I<|.lst<|A.map aI;have a5:A.length=kn.length:=by rw[b1.pm.length_eq,show(jf kn ss).filter (λr=>dq cs r 7 ev)=jf kn ss from List.filter_eq_self.mpr λr f=>rfl];unfold jf;rw[zc,C.length_eq,zc]
 show{_,rfl,.inl {_,aa,_,rfl,_,rfl,.inr {jV kn,hB.at 1 rfl,?_}}};rw[zc,a5,show(jV kn).length=kn.length from zc _];change Fo _ (R<|.bl<|ω<|((kn.length:π):ν)=((kn.length:π):ν));rw[zi rfl];show⟨S,hB.CV,b3⟩
def MB(t:gu)(K:Φ):Sp:=λvs H Q z=>qD K (MA t) vs H Q E0
theorem Ug(T:Txt w K mg t)(B:Bm mg base):cG P w K mg base YK 18 t.Qh t.Gk ["_law_script"] (MB t K):=cG.calm<|Pg T B
def MC{w:Ω}{K:Φ}{mg:ρ->θ ξ}{t:gu}(T:Txt w K mg t){H:Hp}{a:ε}{ns:δ ν}(hl:ns.length<=63)(g:B_ t.ts H)(n:kZ K H a<|ns.map V.int):MB t K [.ref a] H (λv u=>v=.bl true) λu u u=>False:=by
 have m:PK K H a (ns.map V.int):=by rcases n with (h|h)|h;rcases g.all a with q|⟨o,xs,q⟩|⟨_,q⟩;rw[q]at h;cases h;rw[q]at h;cases h;rw[q]at h;cases h;show .inl h;show .inr h
 have tok:∀q,FK H q #[]:=λq=>{trivial,λu u e=>by cases e};have np:=T.np;simp only[yk,ze,zt,or_false,not_or,not_false_eq_true,and_true]at np;let⟨⟨x,y,p⟩,⟨l,n5⟩,s,_⟩:=np;show{[.lF<|ns.map D.int],λb=>if b=t.bJ then some (.tab qK) else if b=t.bq then some (.tab qV) else if b=t.eN then some (.tab qR) else if b=t.uD then some (.tab qL) else none,λd u=>d=.bl true,λu u=>False,bE (Kf m<|FJ ns) cn,λb c e=>?_,{ns,rfl,hl,{qe rfl,(qb<|Ne.symm x).trans<|qe rfl},(qb<|Ne.symm y).trans<|(qb<|Ne.symm l).trans<|qe rfl,(qb<|Ne.symm p).trans<|(qb<|Ne.symm n5).trans<|(qb<|Ne.symm s).trans<|qe rfl,rfl},λd S v H' e r u u=>by subst e;show r.bl,λu u u z=>z.elim};by_cases h1:b=t.bJ;have e:=(qe h1).symm.trans e;cases e;rw[h1];show{#[],g.tab _ T.pj,tok _};have e:=(qb h1).symm.trans e;by_cases h2:b=t.bq;have e:=(qe h2).symm.trans e;cases e;rw[h2];show{#[],g.tab _ T.mY,tok _};have e:=(qb h2).symm.trans e;by_cases j:b=t.eN;have e:=(qe j).symm.trans e;cases e;rw[j];show{#[],g.tab _ T.Et,tok _};have e:=(qb j).symm.trans e;by_cases i:b=t.uD;have e:=(qe i).symm.trans e;cases e;rw[i];show{#[],g.tab _ T.S_,tok _};have e:=(qb i).symm.trans e;cases e
def Uh{P:Ψ}{w:Ω}{K:Φ}{mg:ρ->θ ξ}{fa:ε}{ts:δ ε}(l:mg "law"= some (.ref fa))(T:∃t:gu,t.ts=ts/\Txt w K mg t):∃(fd:FuncData) (sp:Sp),(∀b∈ts,∃c,codeHdIn K c b=ϱ)/\(∀(s:ζ) (u:ξ),BindsTo s fd {[u],[]} [("_law_script",u)])/\(∀base:Γ,Bm mg base->K.In base->base.Ns mainGlobals mg->cG P w K mg base YK 18 fa fd ["_law_script"] sp)/\∀(H:Hp) (a:ε) (ns:δ ν),ns.length<=63->B_ ts H->kZ K H a (ns.map V.int)->sp [.ref a] H (λv z=>v=.bl true) λz z z=>False:=by let⟨t,j,T⟩:=T;have g:=l.symm.trans T.law.m;cases g;subst j;show{_,_,λb n=>(T.ta b<|n).elim (λe=>{_,e ▸ T.fI}) λh=>h.elim (λe=>{_,e ▸ T.eT}) λh=>h.elim (λe=>{_,e ▸ T.oa}) λe=>{_,e ▸ T.As},T.bl,λbase B o p=>Ug T B,λH a ns hl d i=>MC T hl d i}
end My
end Tactic
open Tactic
local macro_rules|`(command|universe $xs*)=>do return Lean.mkNullNode (← (xs[0]!.getId.toString.foldl (fun (h,n,k,l) c=>let n:=n*62+(if c.isDigit then c.toNat-48 else if c.isUpper then c.toNat-55 else c.toNat-61);if k=9 then (h+n-10*62^9,0,0,l.push (h+n-10*62^9)) else (h,n,k+1,l)) (0,0,0,(#[]:Array Nat))).2.2.2.mapM fun v=>`(command|theorem $(Lean.mkIdent (.mkSimple s!"tw{v}")):ident : True:=trivial))
namespace PySem.W.Fast
universe BcpC5KnTPtAi9uQqTAkGBjQ0yFJ8pfA9WWcPeSmaBiNKvmbtu0ALGvqljgOqAit3FbHOfDA0GxmHFXeIAPwCkXw9jzA2eK5Ef0f4A8ZAGgIxQKBLKN9b7a5OABkW3QvofjAwC0k9DR8BDFQbzGbI7lAqSmHQeYdpA7dbfi9bfGAZrRUarI7IAlmLMi7ar5BIznIp6hbcAZI19fSFuLBaS9OI3sjHBMj5qA1uwRAZux5HoazSBIV64vnbW2APXgB79AhEALkHRs88PXA9u0kBiCf4CcQZX45LjWAQuqF4fly8BrbhREcokRBBsLLZdQmZC7ifx8WE8JCKmNQQHUU5ATPggapii2AKK4cxpK6EAT4lNRZT86DVRew7S9QUCNYrMkSaZ8FCRy9Ni7mqCdYkuwtL3NDJ7aFJimHvAdaaFWz8plBaevWpph2RB9tHfAU8yoBNuGtpRIeiAfAHLvLUrfAZuei8Q3XlAvI1NeCFQ2Awa79g2lMWAWZxcFD8J0Cy3KZKSdQzATLiadQoBlA7rP1IXMHCAmizQABtNSEKJ5VXYZ06Awgks19qVRBI4iScQX4QHv10gpJVwbAhUMVEhKzEA2qZZchqSdArukSXUaKgAsT8V83ZisCGVQcq4biAEnfRABxXNZDUwQLz3w5cAZyQo5ILdbBpgwduAIaPCUXNbTTFnwCAYt8f2dimA5BVDorOlCBmI4RjuwLTAPk8VfJIKlDouCFgWCazDpPdYi2cFlDSwDEOsBs0Ac9GNLjbZgA85GA6XtcoBb7OSZUPPYCXO9OIrLWKBI3JLyGc2jDOS2r452NPAFujjdQKjxA2mmxZRJlYAaEZBIORk4CbWCWagqZXAslAEcrODdAjab0hxU95AjtN9ueftQAFJwzbDB6EAAZV4Ci2bbEZ3GNR9z7NCDKT7td6bhCpE0LEjMwRBL7kbLOR3lBa95u9saiVEwEL0HByuRBAKxHraHS6AcEtG4JvLAAF7UpklMPeBdLGyjr6f6AUl7CEuBoEAkY7Iidss7A6Gm9JVQdZAjSuoE1w88GvDIlNKe6VAL9rzIzmFbAYikXWxzhyAXRyiKQHmrAbno7ciyQ6BRVRNFbrXHAAq5ewT79FB3uq8nnBkLBAmk9IH8ZiA0DWKKxUJ0C9vnr3QgmBBLXhfsNVqFBoNbsy4ctrGjdCG9SdUoHZekv8ijv4AFBgU0Eoh0A9byOkO5obA6JS27VO1kBGeQ99oy4RFFDjhnixAqB1Qz894hNsD3UKVN3hbMAIRMhINlTLBh3qGMPNjFBdTekaIhnABjVtXyuVfpAGlCx0uagnA3CAsp016DAfp46sUiRYBXb7K5p2MRBCo3SoSsm8CFQf45GpwCAMS68rh332BG77GVy16aBsxBwcy9HXBI6ARk8NIOAVKnaUzh9lA4Fti2AlErDQ9Kvd3WEPA2eaE0XfNvBAdPL5RpLWBF2SicgUJkBHUkR0TC1qHSMGcT2PTPABIbwoM1GWBw7fbmQOhtAnQs6IGhWMAX7frpUbYJA2CgwN1HyiAQkgfl27cWCPQG5x4FtbAWHdo0oxnhD0V2HwtNiCAvtJcvlPhSBAxoEnyzrPALjxjfSpDzEAf3g9pxKRAmKvjdn0r9BcFVKE3llIAUJzKZ13gPBtGyf43lIWA6b8fQjRAMCI5L4zLQDLA3PP0Xm5ByBEqD2fBxDXBA8I6vsK3TAlkALTkz3KEr0SksKywMBzOkjrwqG4BYnozLY4gvCnxPqGnvfnD51vE1YbBkHbI0kfM3PGAT6vlWn8HgCwVTzVoIWNA8W774Niw8Acz1x8g5eZDrPP5vMY0pAKwjePCfqPAIYCP3nhpfA2zPbBlsfKCmtaVr19JpD7rF11ZuFLBUpd93WJOoAYlSGc5GtaCv7ueRUgnzBT8svr4ApcEW65ofG6HCAD88wKcnMuCTl1RLOfbfDIaDLnvucRAewLyFYVAXCNwfaKw6ueD0x9XPIBJVDVD9wxGkjzA6rLLuB1zEE9yZsTlWNXB2wWXMT46NC6cTaTqooTDCZQlIZTF6CDguf7Nmh9AWjOvh8cw6EcJwfp5vK9BfQL2i2Yj3CDMQFp9Qj7DE6GHTYA5BAMK64ej2p1A3LULUmiAfAMIxRW9kSEBxK1K98LNwAOKozOScufEvPO5x1Ss4AZyEAFM1a1BfF0NxEFRnCWkxoVtEHmA8OrFW5GXLB98nA8YHAgCqU4FfJ9WwBx95EHPzhkC0da5Pg6cPAja1tRcEhuBDud2YCne1BKBMu0gbJNBCKBVqGRtxB1jXnS81INFgl1q42X3VBoMdncr4qAHsu2ymRFiWBGwSYyiUSxBDUdWhByPvAEL0HBK7q0BfaCDoGlHxA5xMFkNmL5AQ3dISZgqpCA11n9FeRRAIBH0SSq72A3BUKSGCD0DTbjefHiTcA79alAh9fxAL0MpgamSEFTSBox6vvuArFUTNz8tyAndlgLP6p0AGe8TBHqCGBl4vimbxKQEEvUQYBSpTBXbGJp9HH5G4gb1L02RoA0Rd4uAW5yBM4pJSDYJ3B4IHx5bgW2AoUyxQgBspAuuI4NpBfYCKaU3vM3EXBcYxun4LT9AP8It0Oy6tA1UV9jfPOuAhcHOues7AARoQvdfhJLBY8nVG2KYVBm78c3soS4DHvtXb24tDCLgIgYyGG7D4vKdSgPU2LM6sv8jmxTBUmvOal3M8ANrkWRTZe2AGw0i0dYv8BM2ng5OjmFAXTCkODaB8BfW7YVcAalFK9p3Bl16oAYyhmRfAWsABSYb9DkXbA6GDqCUW7DHanZfXUi9eC1z26CpQsEBJG6XtfDABDYiZgWMOBZAxBuioa28kCcVzUMNbbCCNoUaPF9uoC1AgICqo4JAVYdCnQDUMDiszXr4PPDAA9aObaNyGApPuEfTJx2B9WZMZcEE4APsCTReCitB6rg026MsjBY22cCWYgIBVE1fMQNbGB5tLUFzI7VA6YWUQ00qfB3uEMzvQsXA1YPsTNeMDAPL8Kx81weDIdd3AiybUB10Kp2bOPtCFyuZ6w6btArM5zfNFjoACVyZGzkmzABS3ItNRByADXt6zXpDRCDVC7IMvy0D9PqYvVNxTAje7CkEyUiBMjdCMiyYIB3JnGtA2K1B1ZQ8ZPpZFDnnSZq5u4RAZguQCDDQuAQpeeBgjctBSsRK52NgsF7giaN5dULAu7AGqKm2FCABzycNwlwA7SaAP4v3jALIfrDd2ojCMGdA9mvhTAH9fWmv3NpCEBflpiw1PBb3XkVjOPKC3KqF4tsvRAB3ERrftdjBpdusvSv3SAWsewAh9FEByfyq1sVFQA289tVLg12Bf2rCJaUEYA1vqGlJ2fEAzkStC7siNBaPPhKOVxWDqUpVkkh9DB5cyBMljNgBJU8cctpXsA0nQNsWGnWACr25rR6QyCaUmoprH6uAwVYx0fwM3CjzoQ6NrmyBP7wjmoOXeB4Zfc1yOcZBGKXE9j8oGAAUYIQj7y6BUatBx8WcVBXNvm5tpYJE9g8F8ymsUANyk07yeD0AqDANJmnLZBKyFZxuNB3BCI2tgemnnA80DFHZbo4A9wZ8f3CS4ANgDLByIILBJgvQvyyMmCcqgwRirjDBtvAaJ7mTMBRxccZ73HhAQ71D9qNfrDVGAnbca1rB44nRGsanEANTdE2sYdAA4yDJo66xDAJ7xbKOneDAldblKPf2QAnzrwZTOeEEwz2pa8jhMBU1DfYSIv5B5latZ6EblAhqOpjfByVBNmBZZrcinAVcernavnoA6RTIBMfm8BQmAKDly1QBHeyIHMwR5BAvH47YCLaC0UX49iZoCC2rgVuxZ5WART1caJjD0AvsbWdhcqfBRC93ocVLGEk28v4W9fzBu6EEYHg00ARJ8E9ZUUqA1P8HQG18WAlW4txoRitAXmrQTVGDLAM9d4aqgxlAp08kfFJ2OBUYeuEjsDBAscrSdFVyGBcl9zcPpyfC0zWdIWWRGCJ7tAQwEb1DD21TSoyf3AOymf799xPBvBXSoIps8A1bMxor4xoAKjyR5efYLAnIv2YLfYZC5Epf4K63tAAOMouZXPdAvOtlk5cihAEkvwCxFBODBPYhrlhzjB0fWhqFPXZAyG431TIY9FO6TYYqpbWASYZ0QWSEsAOzCsgQNrwASKntGTVnKD3cFMl1y5XB5E2vD3A4WAlUySm54MlCA2xWHKLRNAN1qgHjiqAAEFRCMpyTlA0LeO2z2rlAFHk9nBr6YCyJVXa3KUoAxTQSrgAyAA3u3XVy9S4AKmPcjVqhHBbSFsTiUOoC2XPUo5zdXC8LyqvbGd8BJQRrSxwylAoKzj5FZbrBovkEpsTGiBQvLU3zdvSAO2hIppAr8E172pYkr47AkKdyzs0weAg04W2Lx3YB9kRoFmXIEAunFHOZPWsBguSioSOD3A8e5AwGJYtAEV9Sf6j0gA4zVA6BrfzBShkISGTYBB7ZoP9JEcmAMiyKVXYu7BjLO3N3jrGAyomxqp9SQA8yD4uvhXWAXidrPqkOIAMwyCR7zqeAY3uH3QD6nA03XSVrQuOAnviJkaTFiFpReJ2Uu0xDIPuHVVvPFCaDQAtPNSQB1hXd5667qBPR4svn0j3B0iKnjRQRKAUMMyD9oQHD6gTBRB1xvBQJ3t0sNTKBDdsUAMGF6CzKQTzMOoWAlwWMYSLsMA8IK4iwC8zCrUHSjQnIkC0bkDeloqFA2p7aria0iC8JbuCP5ozAXb2ifnRGUACsq0hvHktA4N5w4qx9KA5iJfFUWgTARz7zMualdAsRAvls4wEB0mctMr7aRA0Y3dxEXwiB8fCIOgZZYC90FcPO8m3BOc0h1YdXABbymYth6zDC9OuzBe5LGAQwrdKbqt4DSaOALTmqSAqbOnMQJaJACh3kp6EklArGSVoDthbDfsXJyzOTuDIx6CzseCfAAMwfWjagKAmZGFnyZEoDDHD5jtvyvBQPObsErcME4kBWb6qxkDqz9h0GYzMBFOZsEXNYVDpSrNAN4DsESMuvGQAQgAyI6V2wsozBFlD5C9xMmCH4BqcUj68A2gnO2WQZMDPiLxipyk0Aw8ymTHwp0BMSBQvexzhAzWDGkBzKrAWxq6eCcQ9Cfzj7lm9AaAqKGWOT5KWAiXhR5IQyWAJYicLWiQrBXC9hpcB5rCT79HpnhgmBcvMZ3TkF1AoDI4PTP5cBd3qwKZ0BiAwlmZYrXrRCFD41QgYx1CMN02cSFwzBAda33DaAtAGcOt3Ovs8CNMxM1euUlBMePvJB6OKAhzP53D4feBCELBtq0dTBEHMC9SUeLD0eXM6e8uzAKlJTeW4UGAc3PCYIQa1AXWvTWwpokCrv0F3vGxRCgoSiCur7VACBH3uGQiGAYYSMUmAL0BwvrToAn9KD8KuTcL5I2AUnrVSyYliA9YVTzks21AU4XiCsveaBsVUZxIxmRBNlCVRsR6SA9uGP6qbO3FOscCml5odB1g2Fvcg4BAQnno4YUdrBQnoLQCVSDDxlUEkIqTcBcpRQLW59vAMMda6RKC1A2AWLpRiJQBBtDnxFmK9AFZVJNFWZDAwJn5SxJBwB8rwrsoWqPAsWalVeEqcAkShC9KMZRAwJtnX9lWcC6oD6QFkQvA1ACQ8tXDoA4FB17E2HQCgXI4gURgyA3gOV5toFiBsgb7kqPOuCn5u0sSIZkB47vmDTS94AwFTLnnppKA5JRaMbE9UBSFp6IprkyDpzj7CZ6jgA6Muyr5UuyAYyZXfIiiyAHZISTqaUDCVojZNS2tzAdZa2SBJvjCKiF9eWBSkBvbsfPUw3UAA4Cgunb2UCzZ0En1D2kB2GYrlI258A33VD4RP8ZDa6yfoR6KdAaz56P54dQAJDpxQnmPmAoGIgQMGLcAb6oUHA2OxAFTd3kGl0nCAF6BVrKQjF4BR95CpNWAUdVbpYncvApUXibpBQYAPUN1YhrqXAX6R5WCyuoAQsgtwIF5oAxWMBPrVkbAI0YZ3KmY8FrCbSHdgrpC3gFCKEzeMAFK3sIqilyB50prUkJG6AN1ieNOQW4Ak1KhbnfxCDVdYKUMWmWAL6uvInXJwAzlRRloGHuATyHcju6fDAhJnuz8dyuCaJDUEMGmiANxfDItkyBBwEJwyLfiyBg92NeNPROBn7AN6lqvVAcdajXNC7dAEtoUvaDmcBHE6xv3nuWBI6F3zECEVBBzvexySZWBQnj5NoHeOAdvCyUfFRQAKkcV37jKEAZlsA9NsWYA5KlWsFJRQAVtCBnD2DoAhIbiI8ERDAMt9DLuTq8ESa6Ca4uNSC7Kctd4kdoB5Rq0GQP7RB4B7yqrYgkBTQrjxTQDFA3LbNLYgFrB1uHeatgFAC9hWKj6tpPAL5qa2Myh9ADWMJojTx7A6oAHGP3AlAjKHRtaVFQA567O1PyKHBu9bNJPgIfBxu3KvIB1vEVtqFxjF2dBG7G6pVsqdA0a6ReipFQE16Xdt1pR5ARt1kgZuFAAyRYca8MS4FvpPi221efCvTYUDJuuGBJYhMhCgFQB8K5GVOERIAZEBSAlJdhB3Wy66aX16CsZ4hfUfQPHbPc5DJBOuB7HzOuPVGUBwqUqfP1qhAJ9587S1H6BlOSUWyad1AXcBt5TeOaA9zrfOJbF5AK4xXEjXlkECjjlV1fNwCLXKJraP68AYviLnGZxeIpYmMBZkZDCCLIwTzs7hAd9R06Zq97COo2bx0wocD8B0uzHIlcB3Zq17i2ChBnc2Gw9ob3CBIVaeMdkAAcROqWoLvZFewJ4mL0yYCpwtGPJv87A5ieDx96rrBAf2uOzChuBKizNTLmtYBtmPD1MMvsDaOhT7yqDnAdb0OnJGQmAANgagP2jkAaobJQlm0RB68nW640FnAkzjUJsjRHDrH78QgFRxAjTIU22NXPBAaknTxFBGBRKC0uNjNqAFltCPawKFAsJquHzsbWD1CcCMiKPQDYgFZBkDrOAkfxQgmKO5CGSceokMdRAXKpDpGC3QC1VSl7f1gvBu3kEfItiEAgEyWt3grFAJyR6JRZ10AS6VlC6gjjAF5oR7oKrgFEIfM62UxuARVoVFhkJBAZdcXFbcAUCiMaOYjmNBBP1qVMPf75CObGVvPzQpBWrAbZIQ2tBWDS4de0qzA1Vc51X80wBoOuW5v9DLGhFPLTQ9mjAVOw50MLoKBMEUal5sq6CoRncG7EuuD2Y4T0kF3kBcvFi8yByMBRowwRMTSqCRF2Qb85V9BetinVvOXmAl5RCrmFPcA2BS7ivkTLDS3THUF5ttA7EVTqKCh3ABeYy7Vv47AoGR3ymANTCb50rgVlKGBNWhAnR08QAWU4tNzgIuESUPEdmhVxFa13d4r28iA6wEvUlLYDAzpBtj5tP8B3txc6eJwFAWdo03A0IpBjzq3CCKW9AHT8SjUvxMFx3a7f49exB0NL1W7lnaAVDEzQxBKPBbhiuGw7X2BCpWzl1OWHBJiKxsykTKAE96gowts5AEIxIC0GktBcobXjGU1jAi3oTWgixUCD6530EHF5AEBlfliYOtC8MpaKOiFMBjEpbicBwxAeSoGfSXPyAPqs2yFrLHCXeTAFtFQEBYJBMJVNEYA5XQdMaCqCAGflHaKFPwB9mSmDwe0MCUgGbzMhhGANhtgzkfj2DNfBe0X6WDDniWwUNr5MBDTszQNXxbAd2jiEktp6BXslVpQyiLABVC4VvPydCwFq8OO7bJA4faO6ZtYoCw0TpfykWbDmEdKL9b3aDcbjQ6RXuGFL1GonvnxHDx4b4yzYEaBeEhbrNs5ZAGL2yuy74qCXtKDhF9NfCe3PsggECRAknqqgqilVAPrTA8RE10ADVUKX2TeAANPIGzlWIZAWwLRu8XJbAbmLkesOJYAUY9TGZAjtCim9Sh7upxAfvu3hhlNSAS9fycfmfWAihxcjG2s5B23UhOuPLsA6NK4gDHDCDuk9leDwWmAks9gCFXChAIk0tmeGdrB1kdcDuGGyARCS7tWA6WAnaPkrs1gGACkOSCvWMiA5JnXyWVPjBxMxebqZQYAAOiAhy5axAEITlREGFTAXMOvFX2S1A4KviHnHK6A6WytMGPKjAJ3kJsdC6CC8HZc2fXmIBeokm7XunjAAp50qQT1TA3r4CuUy5nAkvolTuMQVBEDuUmRuPzAdAhdvx5kzAQyxf968bbB52e24o7G2A3XLvdY0iOBEiEB5bBXqAPIXmo0SVbDrcIsETuCyBCt2J307itBfbN47rphOBZJkJkr6hUA4stWFXdj7BYanBJ99bOBUoGSfJnJbCp7Wd0S7uiAbTt5BIVceCXxycEJCGtEBeLfHi6S1B0DXrSy7ECAtGEl3ywplA4R6t0BwQnAsQaG3dXJwA72S81LqWPAdlvxYZmNlAR9JpgvmK1AhtyQaGxNQABXjO6WfSDALxxyI3zTqBaoGuzzK98AaK3zQgHWxAzqTuLKSy9CtqlTiVKFcA57uJTxD5lAF2ID0jyoTBUQAQQoWr5ADWryqSRsQJ9IP20vTqZAmI8zAgQcDABBPDCesGFA8wx7NIBuWAp23tGQHQ9Ae3KFVlR2ABtsrvLfornDBGgBnfmi9AZuCr5NYrZAtlEvhwrSrDSwkSYvRPqA0aBBiducwAOjF7kIOpWDQHd76gAxjBBXZPcYgEVG1cl0w1ijNAlsPdbkiPyAHq1OV7XAIA737vky7u0DaD3tIcfF0C4FpAL2YIoA46bH1MSq4B37YE9OnTzAkk6DBgs8bAy9RKYWN2zB2UIkOIU0mACCpipWsFAAw3MB9fi1dBgNUcR4fkwB8Pvj8J0apAswSDoP7hpBroCgML0RgA5u85DZE7VDbmh4veYmAAeJLY8MUOjAN8WZwiiRBC65gbPABOrAIOGc8Ki8PB4qumX2T5hBKbfR7CGtZB9ewNnGUmRBkO6fsGk3NAHEoB3vTShEoSIAZXyaYAde2JTawNaEuEgx6REHbB9p18JCuz7DpJiSbUOzUC0vXsF7qoOFXtSkEBV1kD2mm3VXBqxAPR00rzUpIADjDTyczJYAJeSAoH2veGy0bJtknSA
end PySem.W.Fast
open PySem PySem.W PyProof.Rows
set_option tactic.hygienic true
set_option maxRecDepth 100000 in
set_option maxHeartbeats 0 in
theorem PySem.Challenge.cw_pageturns_k47_keepers_refuse_holds : PySem.Challenge.rw_pageturns_k47_keepers_refuse.Holds := by
 w_on;o_law;k_head;(case hw=>w_witness2)
 k_fill
 refine L2.KY (l:=PySem.Challenge.rw_pageturns_k47_keepers_refuse) (n:=63) (k:=18) (x := "_law_script") (CX:=L2.YK) rfl (by decide) rfl ⟨rfl,by decide,by decide⟩ (fun w h Y=>PySem.W.km_in_of Y) (fun w h Y=>PySem.W.km_tabs_of Y) (fun w h Y=>L2.N9 Y (by trivial)) ?tF fun y y y y z=>z
 intro w mg fa h KX G RG
 refine My.Uh RG ?_
 refine' L2.gvc KX G "Shelf" ?a1 ?b1 ?c1 ?d1 ?e1 ?f1 ?g1 fun Ph aw Pj k_Shelf=>?z1
 (case a1|b1|c1|d1|e1|f1|g1=>k_is)
 refine' L2.gvc KX G "Keeper" ?a2 ?b2 ?c2 ?d2 ?e2 ?f2 ?g2 fun MD aL ME k_Keeper=>?z2
 (case a2|b2|c2|d2|e2|f2|g2=>k_is)
 refine' L2.afx KX G (l:=[22,23,24,25,26,27,28,29,30,31,34,35,36,37,38,39,40,46,47,48,49,50,51,52,53,54,55,56,62,63,64,65,66,67,68,71,72,73,75,79,80,85,86,87,88,89,90,91,92,96,100,101,102,103,104,105,106,107,108,109,110,111,112,113,114,115,116]) (top:=My.top) ?xF fun f0 g0 A0=>?zF
 case xF =>
  repeat' (refine' L2.af KX G _ (by decide) ?a ?b ?c ?d ?e ?_;(case a|b|c|d=>k_is);(case e=>first|exact L2.UM fun y=>rfl|exact L2.ln2 fun y y=>rfl|exact L2.SN fun y y y=>rfl|exact L2.Qf fun y y y y=>rfl|exact L2.Xi fun y y y y y=>rfl|exact L2.Xj fun y y y y y y=>rfl|exact L2.Zt rfl))
  exact L2.af0
 refine' L2.amx aw (l:=[0,1,2,3,4,5,6,7,8,13]) (q := "Shelf.") (cl:=My.b_) ?xMShelf fun Er adj Fh=>?zMShelf
 case xMShelf =>
  repeat' (refine' L2.am aw _ (by decide) ?a ?b ?c ?d ?f ?e ?_;(case a|b|c|d|f=>k_is);(case e=>first|exact L2.UM fun y=>rfl|exact L2.ln2 fun y y=>rfl|exact L2.SN fun y y y=>rfl|exact L2.Qf fun y y y y=>rfl|exact L2.Xi fun y y y y y=>rfl|exact L2.Xj fun y y y y y y=>rfl|exact L2.Zt rfl))
  exact L2.am0
 refine' L2.amx aL (l:=[0,1,2]) (q := "Keeper.") (cl:=My.dW) ?xMKeeper fun Af ZR Bl=>?zMKeeper
 case xMKeeper =>
  repeat' (refine' L2.am aL _ (by decide) ?a ?b ?c ?d ?f ?e ?_;(case a|b|c|d|f=>k_is);(case e=>first|exact L2.UM fun y=>rfl|exact L2.ln2 fun y y=>rfl|exact L2.SN fun y y y=>rfl|exact L2.Qf fun y y y y=>rfl|exact L2.Xi fun y y y y y=>rfl|exact L2.Xj fun y y y y y y=>rfl|exact L2.Zt rfl))
  exact L2.am0
 refine' L2.fnd KX G "plain" (My.top 70) ["shelf","order","sieve","moment"] ?a3 ?b3 ?c3 ?d3 ?e3 ?f3 ?g3 fun d0 F0 D0=>?z3
 (case a3|b3|c3|d3|e3=>k_is)
 (case f3=>intro s us t;revert us;exact L2.Qf fun y y y y=>.of_defaults rfl t rfl rfl rfl)
 (case g3=>intro s us t;revert us;exact L2.SO fun y y y=>.of_defaults rfl t rfl rfl rfl)
 refine' L2.Zp KX G "sorted_by_keys" (My.top 74) ["rows","way"] ?a4 ?b4 ?c4 ?d4 ?e4 fun d1 e1 B1 F1=>?z4
 (case a4|b4|c4|d4=>k_is)
 (case e4=>exact L2.ln2 fun y y=>rfl)
 refine' L2.Zp KX G "sorted_by_values" (My.top 76) ["columns","part","rows"] ?a5 ?b5 ?c5 ?d5 ?e5 fun d2 e2 B2 F2=>?z5
 (case a5|b5|c5|d5=>k_is)
 (case e5=>exact L2.SN fun y y y=>rfl)
 refine' L2.Xp KX G "page_on" (My.top 83) ["shelf","order","sieve","size","gap","moment"] #[.none,.none] ?a6 ?b6 ?c6 ?d6 ?e6 ?f6 ?g6 fun d3 F3 D3=>?z6
 (case a6|b6|c6|d6|e6=>k_is)
 (case f6=>intro s us t;revert us;exact L2.Xj fun y y y y y y=>.of_defaults rfl t rfl rfl rfl)
 (case g6=>intro s us t;revert us;exact L2.Xk fun y y y y y=>.of_defaults rfl t rfl rfl rfl)
 refine' L2.Xp KX G "page_back" (My.top 84) ["shelf","order","sieve","size","gap","moment"] #[.none,.none] ?a7 ?b7 ?c7 ?d7 ?e7 ?f7 ?g7 fun d4 F4 D4=>?z7
 (case a7|b7|c7|d7|e7=>k_is)
 (case f7=>intro s us t;revert us;exact L2.Xj fun y y y y y y=>.of_defaults rfl t rfl rfl rfl)
 (case g7=>intro s us t;revert us;exact L2.Xk fun y y y y y=>.of_defaults rfl t rfl rfl rfl)
 refine' L2.Zp KX G "_law_right" (My.top 117) ["_law_keeper","_law_order_here","_law_columns_here","_law_well_here"] ?a8 ?b8 ?c8 ?d8 ?e8 fun d5 e5 B5 F5=>?z8
 (case a8|b8|c8|d8=>k_is)
 (case e8=>exact L2.Qf fun y y y y=>rfl)
 refine' L2.Zp KX G "law" (My.top 118) ["_law_script"] ?a9 ?b9 ?c9 ?d9 ?e9 fun d6 e6 B6 F6=>?z9
 (case a9|b9|c9|d9=>k_is)
 (case e9=>exact L2.UM fun y=>rfl)
 refine' L2.Zr aw "worths_at" "Shelf.worths_at" ((L2.inClass My.b_ 9)) ["self","key","moment"] ?a10 ?b10 ?c10 ?d10 ?e10 ?f10 ?g10 ?h10 fun d7 F7 D7=>?z10
 (case a10|b10|c10|d10|e10|f10=>k_is)
 (case g10=>intro s us t;revert us;exact L2.SN fun y y y=>.of_defaults rfl t rfl rfl rfl)
 (case h10=>intro s us t;revert us;exact L2.ach fun y y=>.of_defaults rfl t rfl rfl rfl)
 refine' L2.Zr aw "all_at" "Shelf.all_at" ((L2.inClass My.b_ 10)) ["self","moment"] ?a11 ?b11 ?c11 ?d11 ?e11 ?f11 ?g11 ?h11 fun d8 F8 D8=>?z11
 (case a11|b11|c11|d11|e11|f11=>k_is)
 (case g11=>intro s us t;revert us;exact L2.ln2 fun y y=>.of_defaults rfl t rfl rfl rfl)
 (case h11=>intro s us t;revert us;exact L2.acg fun y=>.of_defaults rfl t rfl rfl rfl)
 refine' L2.Zr aL "on" "Keeper.on" ((L2.inClass My.dW 3)) ["self","sieve","size","gap"] ?a12 ?b12 ?c12 ?d12 ?e12 ?f12 ?g12 ?h12 fun d9 F9 D9=>?z12
 (case a12|b12|c12|d12|e12|f12=>k_is)
 (case g12=>intro s us t;revert us;exact L2.Qf fun y y y y=>.of_defaults rfl t rfl rfl rfl)
 (case h12=>intro s us t;revert us;exact L2.SO fun y y y=>.of_defaults rfl t rfl rfl rfl)
 refine' L2.Zr aL "back" "Keeper.back" ((L2.inClass My.dW 4)) ["self","sieve","size","gap"] ?a13 ?b13 ?c13 ?d13 ?e13 ?f13 ?g13 ?h13 fun d10 F10 D10=>?z13
 (case a13|b13|c13|d13|e13|f13=>k_is)
 (case g13=>intro s us t;revert us;exact L2.Qf fun y y y y=>.of_defaults rfl t rfl rfl rfl)
 (case h13=>intro s us t;revert us;exact L2.SO fun y y y=>.of_defaults rfl t rfl rfl rfl)
 refine' L2.Oi KX G "MOST_NAME_SIGNS" 8 ?a14 fun p_=>?z14
 (case a14=>k_is)
 refine' L2.Oi KX G "MOST_KEY_SIGNS" 12 ?a15 fun rJ=>?z15
 (case a15=>k_is)
 refine' L2.Oi KX G "MOST_WORD_SIGNS" 40 ?a16 fun qc=>?z16
 (case a16=>k_is)
 refine' L2.Oi KX G "MOST_COLUMNS" 8 ?a17 fun vE=>?z17
 (case a17=>k_is)
 refine' L2.Oi KX G "MOST_PARTS_orders" 8 ?a18 fun m9=>?z18
 (case a18=>k_is)
 refine' L2.Oi KX G "MOST_DEEP" 8 ?a19 fun C4=>?z19
 (case a19=>k_is)
 refine' L2.Oi KX G "MOST_PARTS_sieves" 200 ?a20 fun m_=>?z20
 (case a20=>k_is)
 refine' L2.Oi KX G "MOST_IN_A_TUPLE" 8 ?a21 fun qf=>?z21
 (case a21=>k_is)
 refine' L2.Oi KX G "MOST_ROWS" 1000 ?a22 fun C5=>?z22
 (case a22=>k_is)
 refine' L2.UL KX G "KINDS" ?a23 ?b23 fun Pk w_KINDS=>?z23
 (case a23|b23=>k_is)
 refine' L2.UL KX G "OTHER_WAY" ?a24 ?b24 fun C6 w_OTHER_WAY=>?z24
 (case a24|b24=>k_is)
 refine' L2.UL KX G "OTHER_END" ?a25 ?b25 fun C7 w_OTHER_END=>?z25
 (case a25|b25=>k_is)
 refine' L2.UL KX G "OTHER_SIDE" ?a26 ?b26 fun Bn w_OTHER_SIDE=>?z26
 (case a26|b26=>k_is)
 refine' L2.UL KX G "LENGTHS_sieves" ?a27 ?b27 fun rK w_LENGTHS_sieves=>?z27
 (case a27|b27=>k_is)
 refine' L2.UL KX G "LENGTHS_deeds" ?a28 ?b28 fun sQ w_LENGTHS_deeds=>?z28
 (case a28|b28=>k_is)
 refine' L2.Bs KX G "len" ?a29 fun Yn=>?z29
 (case a29=>k_is)
 refine' L2.Bs KX G "all" ?a30 fun Yo=>?z30
 (case a30=>k_is)
 refine' L2.Bs KX G "any" ?a31 fun Yp=>?z31
 (case a31=>k_is)
 refine' L2.Bs KX G "isinstance" ?a32 fun Bo=>?z32
 (case a32=>k_is)
 refine' L2.Bs KX G "range" ?a33 fun Pl=>?z33
 (case a33=>k_is)
 refine' L2.Bs KX G "int" ?a34 fun Yq=>?z34
 (case a34=>k_is)
 refine' L2.Bs KX G "str" ?a35 fun Yr=>?z35
 (case a35=>k_is)
 refine' L2.Bs KX G "bool" ?a36 fun Ui=>?z36
 (case a36=>k_is)
 refine' L2.Bs KX G "tuple" ?a37 fun Pm=>?z37
 (case a37=>k_is)
 refine' L2.Bs KX G "list" ?a38 fun Uj=>?z38
 (case a38=>k_is)
 refine' L2.Bs KX G "dict" ?a39 fun Uk=>?z39
 (case a39=>k_is)
 refine' L2.Bs KX G "set" ?a40 fun Ys=>?z40
 (case a40=>k_is)
 refine' L2.Bs KX G "zip" ?a41 fun Yt=>?z41
 (case a41=>k_is)
 refine' L2.Bs KX G "sorted" ?a42 fun MF=>?z42
 (case a42=>k_is)
 refine' L2.Bs KX G "min" ?a43 fun Yu=>?z43
 (case a43=>k_is)
 refine' L2.Bs KX G "max" ?a44 fun Yv=>?z44
 (case a44=>k_is)
 refine' L2.Bs KX G "reversed" ?a45 fun Fi=>?z45
 (case a45=>k_is)
 refine' L2.Bs KX G "ValueError" ?a46 fun Bp=>?z46
 (case a46=>k_is)
 refine' L2.K0 KX G "PageError" ?a47 ?b47 fun cF lT=>?z47
 (case a47=>k_is)
 (case b47=>k_exc)
 refine' L2.K0 KX G "BadColumns" ?a48 ?b48 fun aB cq=>?z48
 (case a48=>k_is)
 (case b48=>k_exc)
 refine' L2.K0 KX G "BadRow" ?a49 ?b49 fun br iC=>?z49
 (case a49=>k_is)
 (case b49=>k_exc)
 refine' L2.K0 KX G "BadOrder" ?a50 ?b50 fun aO dX=>?z50
 (case a50=>k_is)
 (case b50=>k_exc)
 refine' L2.K0 KX G "BadSieve" ?a51 ?b51 fun aP iD=>?z51
 (case a51=>k_is)
 (case b51=>k_exc)
 refine' L2.K0 KX G "BadPlace" ?a52 ?b52 fun aQ dY=>?z52
 (case a52=>k_is)
 (case b52=>k_exc)
 refine' L2.K0 KX G "BadSize" ?a53 ?b53 fun aY mG=>?z53
 (case a53=>k_is)
 (case b53=>k_exc)
 refine' L2.K0 KX G "HasKey" ?a54 ?b54 fun bu ph=>?z54
 (case a54=>k_is)
 (case b54=>k_exc)
 refine' L2.K0 KX G "NoKey" ?a55 ?b55 fun bQ tD=>?z55
 (case a55=>k_is)
 (case b55=>k_exc)
 refine' L2.K0 KX G "NoMoment" ?a56 ?b56 fun cT nX=>?z56
 (case a56=>k_is)
 (case b56=>k_exc)
 refine' L2.Zu KX G "NoMark" ?a57 fun eY=>?z57
 (case a57=>k_is)
 refine' L2.Zu KX G "OldMark" ?a58 fun dO=>?z58
 (case a58=>k_is)
 refine' L2.K0 KX G "BadDeed" ?a59 ?b59 fun aZ fZ=>?z59
 (case a59=>k_is)
 (case b59=>k_exc)
 refine' L2.Zu KX G "NoText" ?a60 fun eZ=>?z60
 (case a60=>k_is)
 refine' L2.Zu KX G "NoLine" ?a61 fun e_=>?z61
 (case a61=>k_is)
 refine' L2.Om KX aB ?a62 ?b62 ?c62 fun jl=>?z62
 (case a62|b62|c62=>k_is)
 refine' L2.Om KX br ?a63 ?b63 ?c63 fun qQ=>?z63
 (case a63|b63|c63=>k_is)
 refine' L2.Om KX aO ?a64 ?b64 ?c64 fun lV=>?z64
 (case a64|b64|c64=>k_is)
 refine' L2.Om KX aP ?a65 ?b65 ?c65 fun lW=>?z65
 (case a65|b65|c65=>k_is)
 refine' L2.Om KX aQ ?a66 ?b66 ?c66 fun lX=>?z66
 (case a66|b66|c66=>k_is)
 refine' L2.Om KX aY ?a67 ?b67 ?c67 fun nY=>?z67
 (case a67|b67|c67=>k_is)
 refine' L2.Om KX bu ?a68 ?b68 ?c68 fun qS=>?z68
 (case a68|b68|c68=>k_is)
 refine' L2.Om KX bQ ?a69 ?b69 ?c69 fun uI=>?z69
 (case a69|b69|c69=>k_is)
 refine' L2.Om KX aZ ?a70 ?b70 ?c70 fun nZ=>?z70
 (case a70|b70|c70=>k_is)
 refine' L2.Ol KX aB cF ?a71 fun dA=>?z71
 (case a71=>k_is)
 refine' L2.Ol KX br cF ?a72 fun fj=>?z72
 (case a72=>k_is)
 refine' L2.Ol KX aO cF ?a73 fun dZ=>?z73
 (case a73=>k_is)
 refine' L2.Ol KX aP cF ?a74 fun d_=>?z74
 (case a74=>k_is)
 refine' L2.Ol KX aQ cF ?a75 fun ee=>?z75
 (case a75=>k_is)
 refine' L2.Ol KX aY cF ?a76 fun eQ=>?z76
 (case a76=>k_is)
 refine' L2.Ol KX bu cF ?a77 fun fk=>?z77
 (case a77=>k_is)
 refine' L2.Ol KX bQ cF ?a78 fun fH=>?z78
 (case a78=>k_is)
 refine' L2.Ol KX aZ cF ?a79 fun eR=>?z79
 (case a79=>k_is)
 refine' L2.Oo KX aB e_ eY cT eZ dO ?a80 ?b80 ?c80 ?d80 ?e80 fun jm=>?z80
 (case a80|b80|c80|d80|e80=>kit_is)
 refine' L2.Oo KX br e_ eY cT eZ dO ?a81 ?b81 ?c81 ?d81 ?e81 fun qU=>?z81
 (case a81|b81|c81|d81|e81=>kit_is)
 refine' L2.Oo KX aO e_ eY cT eZ dO ?a82 ?b82 ?c82 ?d82 ?e82 fun lY=>?z82
 (case a82|b82|c82|d82|e82=>kit_is)
 refine' L2.Oo KX aP e_ eY cT eZ dO ?a83 ?b83 ?c83 ?d83 ?e83 fun lZ=>?z83
 (case a83|b83|c83|d83|e83=>kit_is)
 refine' L2.Oo KX aQ e_ eY cT eZ dO ?a84 ?b84 ?c84 ?d84 ?e84 fun l3=>?z84
 (case a84|b84|c84|d84|e84=>kit_is)
 refine' L2.Oo KX aY e_ eY cT eZ dO ?a85 ?b85 ?c85 ?d85 ?e85 fun n8=>?z85
 (case a85|b85|c85|d85|e85=>kit_is)
 refine' L2.Oo KX bu e_ eY cT eZ dO ?a86 ?b86 ?c86 ?d86 ?e86 fun qW=>?z86
 (case a86|b86|c86|d86|e86=>kit_is)
 refine' L2.Oo KX bQ e_ eY cT eZ dO ?a87 ?b87 ?c87 ?d87 ?e87 fun uJ=>?z87
 (case a87|b87|c87|d87|e87=>kit_is)
 refine' L2.Oo KX aZ e_ eY cT eZ dO ?a88 ?b88 ?c88 ?d88 ?e88 fun n_=>?z88
 (case a88|b88|c88|d88|e88=>kit_is)
 refine' L2.dr KX aB aB true ?a89 fun k_BadColumns_BadColumns=>?z89
 (case a89=>kit_is)
 refine' L2.dr KX aB br false ?a90 fun k_BadColumns_BadRow=>?z90
 (case a90=>kit_is)
 refine' L2.dr KX aB aO false ?a91 fun k_BadColumns_BadOrder=>?z91
 (case a91=>kit_is)
 refine' L2.dr KX aB aP false ?a92 fun k_BadColumns_BadSieve=>?z92
 (case a92=>kit_is)
 refine' L2.dr KX aB aQ false ?a93 fun k_BadColumns_BadPlace=>?z93
 (case a93=>kit_is)
 refine' L2.dr KX aB aY false ?a94 fun k_BadColumns_BadSize=>?z94
 (case a94=>kit_is)
 refine' L2.dr KX aB bu false ?a95 fun k_BadColumns_HasKey=>?z95
 (case a95=>kit_is)
 refine' L2.dr KX aB bQ false ?a96 fun k_BadColumns_NoKey=>?z96
 (case a96=>kit_is)
 refine' L2.dr KX aB aZ false ?a97 fun k_BadColumns_BadDeed=>?z97
 (case a97=>kit_is)
 refine' L2.Oj KX aB ?a98 fun k_BadColumns_ValueError=>?z98
 (case a98=>kit_is)
 refine' L2.dr KX br aB false ?a99 fun k_BadRow_BadColumns=>?z99
 (case a99=>kit_is)
 refine' L2.dr KX br br true ?a100 fun k_BadRow_BadRow=>?z100
 (case a100=>kit_is)
 refine' L2.dr KX br aO false ?a101 fun k_BadRow_BadOrder=>?z101
 (case a101=>kit_is)
 refine' L2.dr KX br aP false ?a102 fun k_BadRow_BadSieve=>?z102
 (case a102=>kit_is)
 refine' L2.dr KX br aQ false ?a103 fun k_BadRow_BadPlace=>?z103
 (case a103=>kit_is)
 refine' L2.dr KX br aY false ?a104 fun k_BadRow_BadSize=>?z104
 (case a104=>kit_is)
 refine' L2.dr KX br bu false ?a105 fun k_BadRow_HasKey=>?z105
 (case a105=>kit_is)
 refine' L2.dr KX br bQ false ?a106 fun k_BadRow_NoKey=>?z106
 (case a106=>kit_is)
 refine' L2.dr KX br aZ false ?a107 fun k_BadRow_BadDeed=>?z107
 (case a107=>kit_is)
 refine' L2.Oj KX br ?a108 fun k_BadRow_ValueError=>?z108
 (case a108=>kit_is)
 refine' L2.dr KX aO aB false ?a109 fun k_BadOrder_BadColumns=>?z109
 (case a109=>kit_is)
 refine' L2.dr KX aO br false ?a110 fun k_BadOrder_BadRow=>?z110
 (case a110=>kit_is)
 refine' L2.dr KX aO aO true ?a111 fun k_BadOrder_BadOrder=>?z111
 (case a111=>kit_is)
 refine' L2.dr KX aO aP false ?a112 fun k_BadOrder_BadSieve=>?z112
 (case a112=>kit_is)
 refine' L2.dr KX aO aQ false ?a113 fun k_BadOrder_BadPlace=>?z113
 (case a113=>kit_is)
 refine' L2.dr KX aO aY false ?a114 fun k_BadOrder_BadSize=>?z114
 (case a114=>kit_is)
 refine' L2.dr KX aO bu false ?a115 fun k_BadOrder_HasKey=>?z115
 (case a115=>kit_is)
 refine' L2.dr KX aO bQ false ?a116 fun k_BadOrder_NoKey=>?z116
 (case a116=>kit_is)
 refine' L2.dr KX aO aZ false ?a117 fun k_BadOrder_BadDeed=>?z117
 (case a117=>kit_is)
 refine' L2.Oj KX aO ?a118 fun k_BadOrder_ValueError=>?z118
 (case a118=>kit_is)
 refine' L2.dr KX aP aB false ?a119 fun k_BadSieve_BadColumns=>?z119
 (case a119=>kit_is)
 refine' L2.dr KX aP br false ?a120 fun k_BadSieve_BadRow=>?z120
 (case a120=>kit_is)
 refine' L2.dr KX aP aO false ?a121 fun k_BadSieve_BadOrder=>?z121
 (case a121=>kit_is)
 refine' L2.dr KX aP aP true ?a122 fun k_BadSieve_BadSieve=>?z122
 (case a122=>kit_is)
 refine' L2.dr KX aP aQ false ?a123 fun k_BadSieve_BadPlace=>?z123
 (case a123=>kit_is)
 refine' L2.dr KX aP aY false ?a124 fun k_BadSieve_BadSize=>?z124
 (case a124=>kit_is)
 refine' L2.dr KX aP bu false ?a125 fun k_BadSieve_HasKey=>?z125
 (case a125=>kit_is)
 refine' L2.dr KX aP bQ false ?a126 fun k_BadSieve_NoKey=>?z126
 (case a126=>kit_is)
 refine' L2.dr KX aP aZ false ?a127 fun k_BadSieve_BadDeed=>?z127
 (case a127=>kit_is)
 refine' L2.Oj KX aP ?a128 fun k_BadSieve_ValueError=>?z128
 (case a128=>kit_is)
 refine' L2.dr KX aQ aB false ?a129 fun k_BadPlace_BadColumns=>?z129
 (case a129=>kit_is)
 refine' L2.dr KX aQ br false ?a130 fun k_BadPlace_BadRow=>?z130
 (case a130=>kit_is)
 refine' L2.dr KX aQ aO false ?a131 fun k_BadPlace_BadOrder=>?z131
 (case a131=>kit_is)
 refine' L2.dr KX aQ aP false ?a132 fun k_BadPlace_BadSieve=>?z132
 (case a132=>kit_is)
 refine' L2.dr KX aQ aQ true ?a133 fun k_BadPlace_BadPlace=>?z133
 (case a133=>kit_is)
 refine' L2.dr KX aQ aY false ?a134 fun k_BadPlace_BadSize=>?z134
 (case a134=>kit_is)
 refine' L2.dr KX aQ bu false ?a135 fun k_BadPlace_HasKey=>?z135
 (case a135=>kit_is)
 refine' L2.dr KX aQ bQ false ?a136 fun k_BadPlace_NoKey=>?z136
 (case a136=>kit_is)
 refine' L2.dr KX aQ aZ false ?a137 fun k_BadPlace_BadDeed=>?z137
 (case a137=>kit_is)
 refine' L2.Oj KX aQ ?a138 fun k_BadPlace_ValueError=>?z138
 (case a138=>kit_is)
 refine' L2.dr KX aY aB false ?a139 fun k_BadSize_BadColumns=>?z139
 (case a139=>kit_is)
 refine' L2.dr KX aY br false ?a140 fun k_BadSize_BadRow=>?z140
 (case a140=>kit_is)
 refine' L2.dr KX aY aO false ?a141 fun k_BadSize_BadOrder=>?z141
 (case a141=>kit_is)
 refine' L2.dr KX aY aP false ?a142 fun k_BadSize_BadSieve=>?z142
 (case a142=>kit_is)
 refine' L2.dr KX aY aQ false ?a143 fun k_BadSize_BadPlace=>?z143
 (case a143=>kit_is)
 refine' L2.dr KX aY aY true ?a144 fun k_BadSize_BadSize=>?z144
 (case a144=>kit_is)
 refine' L2.dr KX aY bu false ?a145 fun k_BadSize_HasKey=>?z145
 (case a145=>kit_is)
 refine' L2.dr KX aY bQ false ?a146 fun k_BadSize_NoKey=>?z146
 (case a146=>kit_is)
 refine' L2.dr KX aY aZ false ?a147 fun k_BadSize_BadDeed=>?z147
 (case a147=>kit_is)
 refine' L2.Oj KX aY ?a148 fun k_BadSize_ValueError=>?z148
 (case a148=>kit_is)
 refine' L2.dr KX bu aB false ?a149 fun k_HasKey_BadColumns=>?z149
 (case a149=>kit_is)
 refine' L2.dr KX bu br false ?a150 fun k_HasKey_BadRow=>?z150
 (case a150=>kit_is)
 refine' L2.dr KX bu aO false ?a151 fun k_HasKey_BadOrder=>?z151
 (case a151=>kit_is)
 refine' L2.dr KX bu aP false ?a152 fun k_HasKey_BadSieve=>?z152
 (case a152=>kit_is)
 refine' L2.dr KX bu aQ false ?a153 fun k_HasKey_BadPlace=>?z153
 (case a153=>kit_is)
 refine' L2.dr KX bu aY false ?a154 fun k_HasKey_BadSize=>?z154
 (case a154=>kit_is)
 refine' L2.dr KX bu bu true ?a155 fun k_HasKey_HasKey=>?z155
 (case a155=>kit_is)
 refine' L2.dr KX bu bQ false ?a156 fun k_HasKey_NoKey=>?z156
 (case a156=>kit_is)
 refine' L2.dr KX bu aZ false ?a157 fun k_HasKey_BadDeed=>?z157
 (case a157=>kit_is)
 refine' L2.Oj KX bu ?a158 fun k_HasKey_ValueError=>?z158
 (case a158=>kit_is)
 refine' L2.dr KX bQ aB false ?a159 fun k_NoKey_BadColumns=>?z159
 (case a159=>kit_is)
 refine' L2.dr KX bQ br false ?a160 fun k_NoKey_BadRow=>?z160
 (case a160=>kit_is)
 refine' L2.dr KX bQ aO false ?a161 fun k_NoKey_BadOrder=>?z161
 (case a161=>kit_is)
 refine' L2.dr KX bQ aP false ?a162 fun k_NoKey_BadSieve=>?z162
 (case a162=>kit_is)
 refine' L2.dr KX bQ aQ false ?a163 fun k_NoKey_BadPlace=>?z163
 (case a163=>kit_is)
 refine' L2.dr KX bQ aY false ?a164 fun k_NoKey_BadSize=>?z164
 (case a164=>kit_is)
 refine' L2.dr KX bQ bu false ?a165 fun k_NoKey_HasKey=>?z165
 (case a165=>kit_is)
 refine' L2.dr KX bQ bQ true ?a166 fun k_NoKey_NoKey=>?z166
 (case a166=>kit_is)
 refine' L2.dr KX bQ aZ false ?a167 fun k_NoKey_BadDeed=>?z167
 (case a167=>kit_is)
 refine' L2.Oj KX bQ ?a168 fun k_NoKey_ValueError=>?z168
 (case a168=>kit_is)
 refine' L2.dr KX aZ aB false ?a169 fun k_BadDeed_BadColumns=>?z169
 (case a169=>kit_is)
 refine' L2.dr KX aZ br false ?a170 fun k_BadDeed_BadRow=>?z170
 (case a170=>kit_is)
 refine' L2.dr KX aZ aO false ?a171 fun k_BadDeed_BadOrder=>?z171
 (case a171=>kit_is)
 refine' L2.dr KX aZ aP false ?a172 fun k_BadDeed_BadSieve=>?z172
 (case a172=>kit_is)
 refine' L2.dr KX aZ aQ false ?a173 fun k_BadDeed_BadPlace=>?z173
 (case a173=>kit_is)
 refine' L2.dr KX aZ aY false ?a174 fun k_BadDeed_BadSize=>?z174
 (case a174=>kit_is)
 refine' L2.dr KX aZ bu false ?a175 fun k_BadDeed_HasKey=>?z175
 (case a175=>kit_is)
 refine' L2.dr KX aZ bQ false ?a176 fun k_BadDeed_NoKey=>?z176
 (case a176=>kit_is)
 refine' L2.dr KX aZ aZ true ?a177 fun k_BadDeed_BadDeed=>?z177
 (case a177=>kit_is)
 refine' L2.Oj KX aZ ?a178 fun k_BadDeed_ValueError=>?z178
 (case a178=>kit_is)
 refine' L2.Xh aw "columns" ?a179 fun sR=>?z179
 (case a179=>k_is)
 refine' L2.Xh aw "deeds" ?a180 fun wK=>?z180
 (case a180=>k_is)
 refine' L2.Xh aw "runs" ?a181 fun Bq=>?z181
 (case a181=>k_is)
 refine' L2.Xh aL "shelf" ?a182 fun vF=>?z182
 (case a182=>k_is)
 refine' L2.Xh aL "order" ?a183 fun vG=>?z183
 (case a183=>k_is)
 refine' L2.Zs KX e1 ?a184 ?b184 ?c184 fun rL=>?z184
 (case a184=>k_is)
 (case b184=>rfl)
 (case c184=>first|rfl|decide|simp [codeHdIn])
 refine' L2.Zs KX e2 ?a185 ?b185 ?c185 fun oE=>?z185
 (case a185=>k_is)
 (case b185=>rfl)
 (case c185=>first|rfl|decide|simp [codeHdIn])
 refine' L2.Zs KX e5 ?a186 ?b186 ?c186 fun IS=>?z186
 (case a186=>k_is)
 (case b186=>rfl)
 (case c186=>first|rfl|decide|simp [codeHdIn])
 refine' L2.Zs KX e6 ?a187 ?b187 ?c187 fun Yw=>?z187
 (case a187=>k_is)
 (case b187=>rfl)
 (case c187=>first|rfl|decide|simp [codeHdIn])
 exact⟨⟨_,_,_,_,_,_,_,_,_,_,_,_,_,_,_,_,_,_,_,_,_,_,_,_,_,_,_,_,_,_,_,_,_,_,_,_,_,_,_,_,_,_,_,_,_,_,_,_,_,_,_,_,_,_,_,_,_,_,_,_,_,_,_,_,_,_,_,_,_⟩,rfl,⟨A0,Fh,Bl,F0,D0,F1,F2,F3,D3,F4,D4,F5,F6,F7,D7,F8,D8,F9,D9,F10,D10,p_,rJ,qc,vE,m9,C4,m_,qf,C5,Pk,fun H=>L2.PL (xs:=[.str "number",.str "word"]) ⟨_,_,_,w_KINDS,rfl,rfl,(by rw[zZ];show 2≤16777216;decide),.cons ⟨_,rfl⟩ (.cons ⟨_,rfl⟩ (.nil))⟩ (L2.yX ["number","word"]),C6,⟨by first|rfl|decide,_,_,_,w_OTHER_WAY,⟨rfl,rfl,rfl⟩,rfl,.cons ⟨rfl,⟨_,rfl⟩,⟨_,rfl⟩⟩ (.cons ⟨rfl,⟨_,rfl⟩,⟨_,rfl⟩⟩ (.nil)),by trivial⟩,C7,⟨by first|rfl|decide,_,_,_,w_OTHER_END,⟨rfl,rfl,rfl⟩,rfl,.cons ⟨rfl,⟨_,rfl⟩,⟨_,rfl⟩⟩ (.cons ⟨rfl,⟨_,rfl⟩,⟨_,rfl⟩⟩ (.nil)),by trivial⟩,Bn,⟨by first|rfl|decide,_,_,_,w_OTHER_SIDE,⟨rfl,rfl,rfl⟩,rfl,.cons ⟨rfl,⟨_,rfl⟩,⟨_,rfl⟩⟩ (.cons ⟨rfl,⟨_,rfl⟩,⟨_,rfl⟩⟩ (.nil)),by trivial⟩,rK,⟨by first|rfl|decide,_,_,_,w_LENGTHS_sieves,⟨rfl,rfl,rfl⟩,rfl,.cons ⟨rfl,⟨_,rfl⟩,⟨_,rfl⟩⟩ (.cons ⟨rfl,⟨_,rfl⟩,⟨_,rfl⟩⟩ (.cons ⟨rfl,⟨_,rfl⟩,⟨_,rfl⟩⟩ (.cons ⟨rfl,⟨_,rfl⟩,⟨_,rfl⟩⟩ (.cons ⟨rfl,⟨_,rfl⟩,⟨_,rfl⟩⟩ (.cons ⟨rfl,⟨_,rfl⟩,⟨_,rfl⟩⟩ (.cons ⟨rfl,⟨_,rfl⟩,⟨_,rfl⟩⟩ (.cons ⟨rfl,⟨_,rfl⟩,⟨_,rfl⟩⟩ (.cons ⟨rfl,⟨_,rfl⟩,⟨_,rfl⟩⟩ (.nil))))))))),by trivial⟩,sQ,⟨by first|rfl|decide,_,_,_,w_LENGTHS_deeds,⟨rfl,rfl,rfl⟩,rfl,.cons ⟨rfl,⟨_,rfl⟩,⟨_,rfl⟩⟩ (.cons ⟨rfl,⟨_,rfl⟩,⟨_,rfl⟩⟩ (.cons ⟨rfl,⟨_,rfl⟩,⟨_,rfl⟩⟩ (.nil))),by trivial⟩,Yn,Yo,Yp,Bo,Pl,Yq,Yr,Ui,Pm,Uj,Uk,Ys,Yt,MF,Yu,Yv,Fi,Bp,cF,lT,aB,cq,br,iC,aO,dX,aP,iD,aQ,dY,aY,mG,bu,ph,bQ,tD,cT,nX,eY,dO,aZ,fZ,eZ,e_,jl,qQ,lV,lW,lX,nY,qS,uI,nZ,dA,fj,dZ,d_,ee,eQ,fk,fH,eR,jm,qU,lY,lZ,l3,n8,qW,uJ,n_,k_BadColumns_BadColumns,k_BadColumns_BadRow,k_BadColumns_BadOrder,k_BadColumns_BadSieve,k_BadColumns_BadPlace,k_BadColumns_BadSize,k_BadColumns_HasKey,k_BadColumns_NoKey,k_BadColumns_BadDeed,k_BadColumns_ValueError,k_BadRow_BadColumns,k_BadRow_BadRow,k_BadRow_BadOrder,k_BadRow_BadSieve,k_BadRow_BadPlace,k_BadRow_BadSize,k_BadRow_HasKey,k_BadRow_NoKey,k_BadRow_BadDeed,k_BadRow_ValueError,k_BadOrder_BadColumns,k_BadOrder_BadRow,k_BadOrder_BadOrder,k_BadOrder_BadSieve,k_BadOrder_BadPlace,k_BadOrder_BadSize,k_BadOrder_HasKey,k_BadOrder_NoKey,k_BadOrder_BadDeed,k_BadOrder_ValueError,k_BadSieve_BadColumns,k_BadSieve_BadRow,k_BadSieve_BadOrder,k_BadSieve_BadSieve,k_BadSieve_BadPlace,k_BadSieve_BadSize,k_BadSieve_HasKey,k_BadSieve_NoKey,k_BadSieve_BadDeed,k_BadSieve_ValueError,k_BadPlace_BadColumns,k_BadPlace_BadRow,k_BadPlace_BadOrder,k_BadPlace_BadSieve,k_BadPlace_BadPlace,k_BadPlace_BadSize,k_BadPlace_HasKey,k_BadPlace_NoKey,k_BadPlace_BadDeed,k_BadPlace_ValueError,k_BadSize_BadColumns,k_BadSize_BadRow,k_BadSize_BadOrder,k_BadSize_BadSieve,k_BadSize_BadPlace,k_BadSize_BadSize,k_BadSize_HasKey,k_BadSize_NoKey,k_BadSize_BadDeed,k_BadSize_ValueError,k_HasKey_BadColumns,k_HasKey_BadRow,k_HasKey_BadOrder,k_HasKey_BadSieve,k_HasKey_BadPlace,k_HasKey_BadSize,k_HasKey_HasKey,k_HasKey_NoKey,k_HasKey_BadDeed,k_HasKey_ValueError,k_NoKey_BadColumns,k_NoKey_BadRow,k_NoKey_BadOrder,k_NoKey_BadSieve,k_NoKey_BadPlace,k_NoKey_BadSize,k_NoKey_HasKey,k_NoKey_NoKey,k_NoKey_BadDeed,k_NoKey_ValueError,k_BadDeed_BadColumns,k_BadDeed_BadRow,k_BadDeed_BadOrder,k_BadDeed_BadSieve,k_BadDeed_BadPlace,k_BadDeed_BadSize,k_BadDeed_HasKey,k_BadDeed_NoKey,k_BadDeed_BadDeed,k_BadDeed_ValueError,Ph,aw,⟨Pj,(Fh 0 (by decide)).e.at_,(Fh 0 (by decide)).e.fn,k_Shelf⟩,sR,wK,Bq,MD,aL,⟨ME,(Bl 0 (by decide)).e.at_,(Bl 0 (by decide)).e.fn,k_Keeper⟩,vF,vG,e1,rL,by simp,e2,oE,by simp,e5,IS,by simp,e6,Yw,by simp,by simp,by simp,fun s v=>B6 s [v] rfl⟩⟩
